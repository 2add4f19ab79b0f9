import PyProof.Rows.All
import Wide.All
import OpenK.AllK
import Wide.FinOn
import Lean
import PyProof.EqAt
import PyProof.EqKinds
import PyProof.TupleCall
import PyProof.NeKinds
import PyProof.OldK
import KE.KLam
import KE.KSortKey
import PySem.Challenge.RW_twoforone_k85_refused_at_the_doors_of_we
set_option Elab.async false
set_option linter.all false
set_option maxRecDepth 100000
set_option maxHeartbeats 4000000
namespace L2
open PySem PySem.Spec PyProof.Rows
noncomputable abbrev Key:=Sum Int Str
noncomputable def zdn:Key→Value→Bool
  | .inl k,v=>Value.isInt k v
  | .inr x,v=>Value.isStrOf x v
noncomputable def keyH (w:World):Key→Int
  | .inl k=>hashInt k
  | .inr x=>hashStr w x
theorem yc:∀ {k:Key} {v:Value},zdn k v=true→(∃ i t,k=Sum.inl i∧v=Value.int i t)∨(∃ x t,k=Sum.inr x∧v=Value.str x t)
  | .inl i,v,h=>by
    obtain ⟨t,e⟩:=Value.isInt_shape (k:=i) (v:=v) h
    exact .inl ⟨i,t,rfl,e⟩
  | .inr x,v,h=>by
    obtain ⟨t,e⟩:=Value.isStrOf_shape (x:=x) (v:=v) h
    exact .inr ⟨x,t,rfl,e⟩
theorem zeY (i:Int)(t:Tok):zdn (.inl i) (.int i t)=true:=by simp [zdn,Value.isInt]
theorem zdR (x:Str)(t:Tok):zdn (.inr x) (.str x t)=true:=by simp [zdn,Value.isStrOf]
theorem zlK (a b:Int):decide ((Sum.inl a:Key)=Sum.inl b)=(a == b):=by
  by_cases e:a=b
  · subst e;simp
  · have h:¬ (Sum.inl a:Key)=Sum.inl b:=fun q=>e (Sum.inl.inj q)
    rw [decide_eq_false h]
    exact (beq_eq_false_iff_ne.mpr e).symm
theorem zkm (a b:Str):decide ((Sum.inr a:Key)=Sum.inr b)=decide (a=b):=by
  by_cases e:a=b
  · subst e;simp
  · have h:¬ (Sum.inr a:Key)=Sum.inr b:=fun q=>e (Sum.inr.inj q)
    rw [decide_eq_false h,decide_eq_false e]
theorem zlI (a:Int)(b:Str):decide ((Sum.inl a:Key)=Sum.inr b)=false:=decide_eq_false (fun q=>nomatch q)
theorem zln (a:Str)(b:Int):decide ((Sum.inr a:Key)=Sum.inl b)=false:=decide_eq_false (fun q=>nomatch q)
noncomputable def yw (prog:Program)(w:World):PySem.KeyKind prog w Key where
  is:=zdn
  hash:=keyH w
  inj:=fun v a b ha hb=>by
    rcases yc ha with ⟨i,t,rfl,rfl⟩ | ⟨x,t,rfl,rfl⟩
    · rcases yc hb with ⟨j,u,rfl,e⟩ | ⟨y,u,rfl,e⟩
      · injection e with e1 _;rw [e1]
      · exact nomatch e
    · rcases yc hb with ⟨j,u,rfl,e⟩ | ⟨y,u,rfl,e⟩
      · exact nomatch e
      · injection e with e1 _;rw [e1]
  byValue:=fun k v h=>by
    rcases yc h with ⟨i,t,rfl,rfl⟩ | ⟨x,t,rfl,rfl⟩ <;> rfl
  pyHash:=fun hv h=>by
    rcases yc hv with ⟨i,t,rfl,rfl⟩ | ⟨x,t,rfl,rfl⟩
    · exact wpAny_pyHash_int h
    · exact wpAny_pyHash_str h
  eqBool:=fun hu hv h=>by
    rcases yc hu with ⟨i,t,rfl,rfl⟩ | ⟨x,t,rfl,rfl⟩
    · rcases yc hv with ⟨j,u,rfl,rfl⟩ | ⟨y,u,rfl,rfl⟩
      · rw [zlK] at h;exact wpAny_eqBool_int h
      · rw [zlI] at h;exact SeqAt.EqAt.int_str i t y u _ _ _ _ h
    · rcases yc hv with ⟨j,u,rfl,rfl⟩ | ⟨y,u,rfl,rfl⟩
      · rw [zln] at h;exact SeqAt.EqAt.str_int x t j u _ _ _ _ h
      · rw [zkm] at h;exact wpAny_eqBool_str h
  «strs»:=fun k x t v h=>by
    rcases yc h with ⟨i,u,rfl,e⟩ | ⟨y,u,rfl,e⟩
    · exact nomatch e
    · injection e with e1 _
      subst e1
      cases v <;> rfl
theorem zb4 (a:Program)(w:World)(i:Int)(t:Tok):(yw a w).is (.inl i) (.int i t)=true:=zeY i t
theorem zbo (a:Program)(w:World)(x:Str)(t:Tok):(yw a w).is (.inr x) (.str x t)=true:=zdR x t
inductive V where
  | non | bl (b:Bool) | int (i:Int) | str (x:Str) | byt (b:Array UInt8) | flt (b:UInt64) | ref (a:Addr) | ty (n:String)
  deriving DecidableEq
noncomputable def yk:V→Value→Prop
  | .non,u=>u=Value.none
  | .bl b,u=>u=Value.bool b
  | .int i,u=>∃ t,u=Value.int i t
  | .str x,u=>∃ t,u=Value.str x t
  | .byt b,u=>∃ t,u=Value.bytes b t
  | .flt b,u=>∃ t,u=Value.float b t
  | .ref a,u=>u=Value.ref a
  | .ty n,u=>u=Value.type n
noncomputable abbrev ye:List V→List Value→Prop:=Paired yk
theorem ye.length {a:List V}{b:List Value}(r:ye a b):a.length=b.length:=Paired.length r
theorem ye.get:∀ {a:List V} {b:List Value} {i:Nat} {x:V},ye a b→a[i]?=some x→∃ u,b[i]?=some u∧yk x u
  | _,_,_,_,.nil,e=>by simp at e
  | _,_,0,_,.cons r _,e=>by simp at e;subst e;exact ⟨_,rfl,r⟩
  | _,_,i+1,x,.cons _ t,e=>by
    obtain ⟨u,c,d⟩:=ye.get (i:=i) (x:=x) t (by simpa using e)
    exact ⟨u,by simpa using c,d⟩
theorem ye.set {x:V}{u:Value}(r:yk x u):∀ {a:List V} {b:List Value} (i:Nat),ye a b→ye (a.set i x) (b.set i u)
  | _,_,_,.nil=>.nil
  | _,_,0,.cons _ t=>.cons r t
  | _,_,i+1,.cons q t=>.cons q (ye.set r i t)
theorem ye.append:∀ {a c:List V} {b d:List Value},ye a b→ye c d→ye (a++c) (b++d):=by
  intro a c b d h s
  induction h with
  | nil=>exact s
  | cons r t e=>exact .cons r e
theorem ye.take:∀ {a:List V} {b:List Value} (n:Nat),ye a b→ye (a.take n) (b.take n)
  | _,_,0,_=>.nil
  | _,_,_+1,.nil=>.nil
  | _,_,n+1,.cons r t=>.cons r (ye.take n t)
theorem ye.drop:∀ {a:List V} {b:List Value} (n:Nat),ye a b→ye (a.drop n) (b.drop n)
  | _,_,0,r=>r
  | _,_,_+1,.nil=>.nil
  | _,_,n+1,.cons _ t=>ye.drop n t
noncomputable def zc8:Option V→Option Value→Prop
  | some v,some u=>yk v u
  | none,none=>True
  | _,_=>False
noncomputable def KV {κ:Type}:List (κ × V)→List (κ × Value)→Prop:=Paired fun (p:κ × V) (q:κ × Value)=>p.1=q.1∧yk p.2 q.2
noncomputable def kV:Key→V
  | .inl i=>.int i
  | .inr x=>.str x
inductive HO where
    | lst (xs:List V)
    | tup (xs:List V)
    | dK (kvs:List (Key × V)) | dT (kvs:List (List Key × V))
    | set (S:Int→Bool) (n:Nat)
    | ins (C dx:Addr) (fs:List (Str × V))
    | own (x:Addr)
    | xd (fs:List (Str × V))
    | met (f x:Addr)
    | rng (lo hi:Int)
    | frz (o:Obj) (u:HO)
    | tbl (ps:Array Value)
    | ext (φ:Heap→Prop)
noncomputable abbrev Hp:=Addr→Option HO
noncomputable def upd (H:Hp)(a:Addr)(o:HO):Hp:=fun b=>if b=a then some o else H b
theorem zo {H:Hp}{a:Addr}{o:HO}:upd H a o a=some o:=by unfold upd;rw [if_pos rfl]
theorem zm {H:Hp}{a b:Addr}{o:HO}(h:b≠a):upd H a o b=H b:=by unfold upd;rw [if_neg h]
theorem zbh {H:Hp}{a:Addr}{o u:HO}:upd (upd H a o) a u=upd H a u:=by
  funext b;unfold upd;split <;> rfl
theorem zjD {H:Hp}{a b:Addr}{o u:HO}(h:H a=some o)(c:H b=some u)(d:o≠u):a≠b:=by
  intro e;subst e;rw [h] at c;exact d (Option.some.inj c)
theorem zi {H:Hp}{a b:Addr}{o:HO}(h:H a=some o)(c:H b=none):a≠b:=by
  intro e;subst e;rw [h] at c;cases c
section
variable (P:Program)(w:World)
noncomputable def yb (H:Hp)(h:Heap)(a:Addr):HO→Prop
  | .lst e=>e.length≤sizeLine∧∃ (d:List Value) (n:Nat),ye e d∧h.get? a=some { cls:=.type "list",data:=.seq d.toArray n }
  | .tup e=>e.length≤sizeLine∧∃ d:List Value,ye e d∧IsTup h a d.toArray
  | .dK b=>b.length≤sizeLine∧(a == sysModules)=false∧∃ j,KV b j∧h.DictOf (yw P w) a j
  | .dT b=>b.length≤sizeLine∧(a == sysModules)=false∧∃ e:List (List Key × Addr × Value),
      Paired (fun (p:List Key × V) (q:List Key × Addr × Value)=>p.1=q.1∧H q.2.1=some (.tup (p.1.map kV))∧yk p.2 q.2.2) b e ∧
      ∃ o s D,h.get? a=some o∧o.ExactDict∧o.data=.dict s D∧s.toList=e.map (entryOfKey (tupleKind (yw P w)))∧(e.map (·.1)).Nodup
  | .set S n=>h.SetOf (intKind P w) a S n
  | .ins C k i=>H k=some (.own a)∧i.length≤1000∧k≠a∧h.get? a=some (PySem.W.instObj C k) ∧
      ∃ g,h.Ns1 k g∧(∀ f,zc8 (i.lookup f) (g f))∧PySem.Within g (i.map (·.1))
  | .own _=>∃ o,h.get? a=some o
  | .xd i=>∃ g,h.Ns1 a g∧∀ f,zc8 (i.lookup f) (g f)
  | .rng B E=>∃ t u v,h.get? a=some { cls:=.type "range",data:=.fields #[.int B t,.int E u,.int 1 v] }
  | .frz o u=>h.get? a=some o∧yb H h a u
  | .tbl G=>∃ m:Array Value,h.get? a=some { cls:=.none,data:=.fields m }∧TriplesOk m.toList∧∀ l c,codeAmong l m.toList=some c→∃ r A j q t F,c=.ref r∧H r=some (.frz A (.own a))∧A.data=.fields j∧j[1]?=some (.str q t)∧G[0]?=some (.str q F)
  | .met f x=>h.get? a=some (PySem.W.methodObj (.ref f) (.ref x))
  | .ext φ=>φ h∧(∃ o,h.get? a=some o)∧∀ y z:Heap,φ y→(∀ o,y.get? a=some o→z.get? a=some o)→φ z
noncomputable def HOk (H:Hp)(h:Heap):Prop:=∀ a o,H a=some o→yb P w H h a o
end
section
variable {P:Program}{w:World}{H H':Hp}{h h':Heap}{a:Addr}{o:HO}
theorem yb.lt (x:yb P w H h a o):a < h.objs.size:=by
  cases o with
  | lst d=>obtain ⟨_,_,_,_,e⟩:=x;exact Heap.lt_size e
  | tup d=>obtain ⟨_,_,_,p⟩:=x;exact p.lt
  | dK b=>obtain ⟨_,_,_,_,o,_,_,e,_⟩:=x;exact Heap.lt_size e
  | dT b=>obtain ⟨_,_,_,_,o,_,_,e,_⟩:=x;exact Heap.lt_size e
  | set S n=>obtain ⟨o,_,_,_,e,_⟩:=x;exact Heap.lt_size e
  | ins C i c=>obtain ⟨_,_,_,e,_⟩:=x;exact Heap.lt_size e
  | own y=>obtain ⟨_,e⟩:=x;exact Heap.lt_size e
  | xd c=>obtain ⟨_,⟨_,_,_,e,_⟩,_⟩:=x;exact Heap.lt_size e
  | rng g j=>obtain ⟨_,_,_,e⟩:=x;exact Heap.lt_size e
  | frz l u=>obtain ⟨e,_⟩:=x;exact Heap.lt_size e
  | tbl k=>obtain ⟨_,e,_⟩:=x;exact Heap.lt_size e
  | met f y=>exact Heap.lt_size (show h.get? a=some _ from x)
  | ext φ=>obtain ⟨_,⟨_,e⟩,_⟩:=x;exact Heap.lt_size e
theorem Paired.mapP {α β:Type}{F G:α→β→Prop}:∀ {d:List α} {c:List β},Paired F d c→(∀ a b,F a b→G a b)→Paired G d c:=by
  intro i g h f
  induction h with
  | nil=>exact .nil
  | cons r t e=>exact .cons (f _ _ r) e
theorem yb.stay (x:yb P w H h a o)(k:∀ b u,(b=a∨H b=some (.own a))→h.get? b=some u→h'.get? b=some u)
    (Z:∀ b,H b=some (.own a)→H' b=some (.own a)) (Q:∀ b m,H b=some (.tup m)→H' b=some (.tup m)) (R:∀ b o u,H b=some (.frz o u)→H' b=some (.frz o u):=by (intro b g u q;first | exact q | (rw [zm (zi q (by assumption))];exact q) | (rw [zm (fun z=>by subst z;have F:=‹Mut _›;rw [q] at F;exact F)];exact q))):yb P w H' h' a o:=by
  induction o with
  | lst m=>obtain ⟨z,l,n,r,e⟩:=x;exact ⟨z,l,n,r,k _ _ (.inl rfl) e⟩
  | tup m=>obtain ⟨z,l,r,g,e,c⟩:=x;exact ⟨z,l,r,g,k _ _ (.inl rfl) e,c⟩
  | dK B=>obtain ⟨z,y,A,r,g,j,i,e,c⟩:=x;exact ⟨z,y,A,r,g,j,i,k _ _ (.inl rfl) e,c⟩
  | dT B =>
    obtain ⟨z,y,m,r,g,j,i,e,c⟩:=x
    exact ⟨z,y,m,Paired.mapP r fun p q z=>⟨z.1,Q _ _ z.2.1,z.2.2⟩,g,j,i,k _ _ (.inl rfl) e,c⟩
  | set S n=>obtain ⟨g,j,i,t,e,c⟩:=x;exact ⟨g,j,i,t,k _ _ (.inl rfl) e,c⟩
  | ins C dx M =>
    obtain ⟨d,z,V,e,E,⟨s,j,i,K,c⟩,r⟩:=x
    exact ⟨Z _ d,z,V,k _ _ (.inl rfl) e,E,⟨s,j,i,k _ _ (.inr d) K,c⟩,r⟩
  | own y=>obtain ⟨g,e⟩:=x;exact ⟨g,k _ _ (.inl rfl) e⟩
  | xd M=>obtain ⟨E,⟨s,j,i,e,c⟩,r⟩:=x;exact ⟨E,⟨s,j,i,k _ _ (.inl rfl) e,c⟩,r⟩
  | rng lo hi=>obtain ⟨t,u,v,e⟩:=x;exact ⟨t,u,v,k _ _ (.inl rfl) e⟩
  | frz g u J=>obtain ⟨e,q⟩:=x;exact ⟨k _ _ (.inl rfl) e,J q⟩
  | tbl ps =>
    obtain ⟨X,e,W,q⟩:=x
    refine ⟨X,k a _ (.inl rfl) e,W,fun D c N=>?_⟩
    obtain ⟨I,O,A,Y,t,T,U,L,r⟩:=q D c N
    exact ⟨I,O,A,Y,t,T,U,R _ _ _ L,r⟩
  | met f y =>
    have e:h.get? a=some (PySem.W.methodObj (.ref f) (.ref y)):=x
    show h'.get? a=some (PySem.W.methodObj (.ref f) (.ref y))
    exact k a _ (.inl rfl) e
  | ext φ=>obtain ⟨p,⟨o,e⟩,G⟩:=x;exact ⟨G _ _ p fun o q=>k _ _ (.inl rfl) q,⟨o,k _ _ (.inl rfl) e⟩,G⟩
theorem HOk.lt (x:HOk P w H h)(e:H a=some o):a < h.objs.size:=(x a o e).lt
theorem HOk.fresh (x:HOk P w H h)(e:h.objs.size≤a):H a=none:=by
  cases q:H a with
  | none=>rfl
  | some u=>exact absurd (Nat.lt_of_lt_of_le (x.lt q) e) (Nat.lt_irrefl _)
theorem HOk.kept (x:HOk P w H h)(k:∀ b u,h.get? b=some u→h'.get? b=some u):HOk P w H h':=fun a o e =>
  (x a o e).stay (fun b u _ q=>k b u q) (fun _ q=>q) fun _ _ q=>q
theorem HOk.laid (x:HOk P w H h)(k:∀ b u,h.get? b=some u→h'.get? b=some u)(i:h.objs.size≤a)(d:yb P w (upd H a o) h' a o):HOk P w (upd H a o) h':=fun b u e=>by
  have g:=x.fresh i
  by_cases f:b=a
  · subst f;rw [zo] at e;cases e;exact d
  · rw [zm f] at e
    exact (x b u e).stay (fun c v _ q=>k c v q) (fun c q=>by rw [zm (zi q g)];exact q) fun c j q=>by rw [zm (zi q g)];exact q
end
noncomputable def Rd (H:Hp)(a:Addr)(u:HO):Prop:=H a=some u∨∃ o,H a=some (.frz o u)
theorem Rd.ok {P:Program}{w:World}{H:Hp}{h:Heap}{a:Addr}{u:HO}(r:Rd H a u)(x:HOk P w H h):yb P w H h a u:=by
  rcases r with r | ⟨o,r⟩
  · exact x a u r
  · obtain ⟨_,q⟩:=x a _ r
    exact q
noncomputable def Mut:Option HO→Prop
  | some (.lst _)=>True
  | some (.dK _)=>True
  | some (.dT _)=>True
  | some (.set _ _)=>True
  | some (.ins _ _ _)=>True
  | some (.ext _)=>True
  | _=>False
section
variable {P:Program}{w:World}{H:Hp}{h h':Heap}{x e:Addr}{o':HO}
theorem HOk.write (ok:HOk P w H h)(l:Mut (H x))(o:e=x∨H e=some (.own x))(k:∀ b u,b≠e→h.get? b=some u→h'.get? b=some u)(n:∃ u,h'.get? e=some u)
    (m:yb P w (upd H x o') h' x o'):HOk P w (upd H x o') h':=fun b u q=>by
  have d:∀ c y,H c=some (.own y)→c≠x:=fun c y r z=>by subst z;rw [r] at l;exact l
  have f:∀ c j,H c=some (.tup j)→c≠x:=fun c j r z=>by subst z;rw [r] at l;exact l
  by_cases g:b=x
  · subst g;rw [zo] at q;cases q;exact m
  · rw [zm g] at q
    by_cases a:b=e
    · have p:H b=some (.own x):=by
        rcases o with z | z
        · exact absurd (a.trans z) g
        · rw [a];exact z
      rw [q] at p;cases p
      obtain ⟨v,s⟩:=n
      exact ⟨v,by rw [a];exact s⟩
    · refine (ok b u q).stay (fun c v i r=>k c v ?_ r) (fun c r=>by rw [zm (d c b r)];exact r) fun c j r=>by rw [zm (f c j r)];exact r
      rcases i with rfl | i
      · exact a
      · rintro rfl
        rcases o with z | z
        · exact d c b i z
        · rw [i] at z;cases z;exact g rfl
end
set_option genInjectivity false in
set_option genSizeOf false in
set_option genCtorIdx false in
structure Un (fs ex:List Addr) (H H':Hp) (h h':Heap):Prop where
  keep:∀ b o,h.get? b=some o→H b=none→b∉fs→b∉ex→h'.get? b=some o
  slot:∀ b o,h.get? b=some o→H b=none→b∈fs→b∉ex→∃ sl,h'.get? b=some { o with slots:=sl }
  free:∀ b o,h.get? b=some o→H b=none→b∉ex→H' b=none
  there:∀ b o,h.get? b=some o→b∉ex→∃ o',h'.get? b=some o'
  tups:∀ b xs,H b=some (.tup xs)→H' b=some (.tup xs)
  frzs:∀ b o u,H b=some (.frz o u)→H' b=some (.frz o u)
  tbls:∀ b ps,H b=some (.tbl ps)→H' b=some (.tbl ps)
section
variable {fs fs' ex ex':List Addr}{H H1 H2:Hp}{h h1 h2 h':Heap}{a x e:Addr}{o:HO}
theorem Un.any (u:Un fs ex H H1 h h1){b:Addr}{a:Obj}(q:h.get? b=some a)(n:H b=none)(d:b∉ex):∃ e,h1.get? b=some { a with slots:=e }:=by
  by_cases c:b∈fs
  · exact u.slot b a q n c d
  · exact ⟨a.slots,u.keep b a q n c d⟩
theorem Un.kept (k:∀ b u,h.get? b=some u→h'.get? b=some u):Un fs ex H H h h' :=
  ⟨fun b a q _ _ _=>k b a q,fun b a q _ _ _=>⟨a.slots,k b a q⟩,fun _ _ _ n _=>n,fun b a q _=>⟨a,k b a q⟩,fun _ _ q=>q,fun _ _ _ q=>q,fun _ _ q=>q⟩
theorem Un.refl:Un fs ex H H h h:=Un.kept fun _ _ q=>q
theorem Un.laid (k:∀ b u,h.get? b=some u→h'.get? b=some u)(hp:h.objs.size≤a)(hn:H a=none):Un fs ex H (upd H a o) h h' where
  keep:=fun b u q _ _ _=>k b u q
  slot:=fun b u q _ _ _=>⟨u.slots,k b u q⟩
  free:=fun b u q n _=>by rw [zm (Nat.ne_of_lt (Nat.lt_of_lt_of_le (Heap.lt_size q) hp))];exact n
  there:=fun b u q _=>⟨u,k b u q⟩
  tups:=fun b xs q=>by rw [zm (zi q hn)];exact q
  frzs:=fun b u xs q=>by rw [zm (zi q hn)];exact q
  tbls:=fun b ps q=>by rw [zm (zi q hn)];exact q
theorem Un.write (c:Mut (H x))(m:e=x∨H e=some (.own x))(k:∀ b u,b≠e→h.get? b=some u→h'.get? b=some u)(d:∃ u,h'.get? e=some u):Un fs ex H (upd H x o) h h':=by
  have g:∀ b,H b=none→b≠x:=fun b n z=>by subst z;rw [n] at c;exact c
  have i:∀ b,H b=none→b≠e:=fun b n z=>by
    subst z
    rcases m with r | r
    · exact g b n r
    · rw [n] at r;cases r
  have f:∀ b u,H b=some u→¬ Mut (some u)→b≠x:=fun b u q l z=>by subst z;rw [q] at c;exact l c
  refine ⟨fun b u q n _ _=>k b u (i b n) q,fun b u q n _ _=>⟨u.slots,k b u (i b n) q⟩,fun b u q n _=>by rw [zm (g b n)];exact n,fun b u q _=>?_,
    fun b j q=>by rw [zm (f b _ q fun z=>z)];exact q,fun b u j q=>by rw [zm (f b _ q fun z=>z)];exact q,fun b p q=>by rw [zm (f b _ q fun z=>z)];exact q⟩
  by_cases a:b=e
  · subst a;exact d
  · exact ⟨u,k b u a q⟩
end
noncomputable def trk (h:Heap)(H:Hp):List Addr:=(List.range h.objs.size).filter fun a=>(H a).isSome
noncomputable def zdr (h:Heap)(H:Hp):Heap:=PySem.W.hideAll h (trk h H)
theorem zaW (h:Heap)(H:Hp):(zdr h H).objs.size=h.objs.size:=PySem.W.hideAll_size _ _
theorem zgN {h:Heap}{H:Hp}{b:Addr}{o:Obj}(e:h.get? b=some o)(n:H b=none):(zdr h H).get? b=some o :=
  PySem.W.hideAll_get _ e fun a=>by
    have q:(H b).isSome=true:=(List.mem_filter.mp a).2
    rw [n] at q;simp at q
theorem ziN {h:Heap}{H:Hp}{b:Addr}{o:Obj}(e:(zdr h H).get? b=some o):h.get? b=some o∧H b=none:=by
  have a:h.get? b=some o:=PySem.W.of_hideAll (trk h H) e
  refine ⟨a,?_⟩
  cases q:H b with
  | none=>rfl
  | some x =>
    have c:b∈trk h H:=List.mem_filter.mpr ⟨List.mem_range.mpr (Heap.lt_size a),by simp [q]⟩
    have z:(zdr h H).get? b=none:=PySem.W.hideAll_none (trk h H) c
    rw [z] at e;cases e
noncomputable def zie (g h:Heap)(L:Addr):List (Addr × Obj):=(List.range h.objs.size).filterMap fun a=>if a=L∨(g.get? a).isSome=true then none else (h.get? a).map fun o=>(a,o)
noncomputable def rest (g h:Heap)(L d:Addr):List (Addr × Obj):=(zie g h L).filter fun p=>decide (p.1≠d)
structure Mod (K:PySem.W.Frag) (mg:Str→Option Value) (base:Heap):Prop where
  kin:K.In base
  glob:base.Ns mainGlobals mg
  blt:∃ mb,base.Ns builtinsNs mb∧∀ x:Str,x≠"__name__"→mb x=bootBuiltins x
  nolimit:base.NoLimit
noncomputable def vv (q:Str):Obj:={ cls:=.str q 0,data:=.freed }
noncomputable def Bs (a h:Heap)(H:Hp):Prop:=(∀ b o,a.get? b=some o→h.get? b=some o∧H b=none)∧∀ P q,a.objs[P]?=some (vv q)→H P=some (.tbl #[.str q 0])
structure Cx where
  prog:Program
  w:World
  K:PySem.W.Frag
  mg:Str→Option Value
  base:Heap
  A:Around
  N:List Str
  s₀:Shared
  H₀:Hp
  env:Env
  outer:List Env
  stack:List Env
  ex:List Addr
  fn:Str→Bool
  calm:Bool
  pn:List (Addr × Obj)
  xe:Value→Shared→Prop
noncomputable def frs (l:List Env):List Addr:=l.filterMap (·.frame)
noncomputable abbrev Cx.fs (X:Cx):List Addr:=frs X.outer
noncomputable def Vis (sc:Scope)(x:Str):Prop:=sc.names.lookup x=some .local∨sc.names.lookup x=some .cell∨sc.names.lookup x=some .free
noncomputable def Loc (sc:Scope)(x:Str):Prop:=sc.names.lookup x=some .local∨sc.names.lookup x=some .cell
noncomputable def Look (env:Env)(h:Heap)(m:Str→Option Value)(x:Str)(u:Value):Prop :=
  (env.kindOf x=some .local∧m x=some u)∨((env.kindOf x=some .cell∨env.kindOf x=some .free)∧∃ c,env.cells.lookup x=some c∧h.IsCell c (some u))
set_option genInjectivity false in
set_option genSizeOf false in
set_option genCtorIdx false in
structure Cx.Ok (X:Cx):Prop where
  mod:Mod X.K X.mg X.base
  kind:X.env.scope.kind=.function
  glob:X.env.globals=mainGlobals
  blt:X.env.builtins=builtinsNs
  above:X.s₀.heap.objs.size≤X.env.locals
  inj:∀ x y c,X.env.cells.lookup x=some c→X.env.cells.lookup y=some c→x=y
  has:∀ x,(X.env.kindOf x=some .cell∨X.env.kindOf x=some .free)→∃ c,X.env.cells.lookup x=some c
  cab:∀ x c,X.fn x=true→X.env.cells.lookup x=some c→X.s₀.heap.objs.size≤c
  hd:X.calm=true→X.A.handled=none
  frames:X.A.frames=some X.stack
  stk:X.stack=X.outer∨(X.stack=X.env::X.outer∧X.env.frame=some X.env.locals)
  exf:∀ b∈X.ex,b≠X.env.locals∧∀ x c,X.env.cells.lookup x=some c→c≠b
  bs:Bs X.base X.s₀.heap X.H₀
  bsz:X.base.objs.size≤X.s₀.heap.objs.size
  noex:∀ b o,X.base.get? b=some o→b∉X.ex
  exfs:∀ b∈X.ex,b∉X.fs
  funs:X.s₀.heap.FunFrames X.base X.outer
  frf:∀ b∈X.fs,X.H₀ b=none
set_option genInjectivity false in
set_option genSizeOf false in
set_option genCtorIdx false in
structure Inv (X:Cx) (pins:List (Addr × Obj)) (σ:List (Option V)) (H:Hp) (s:Shared):Prop where
  ok:X.Ok
  os:s.os=X.s₀.os
  bare:AllBare s.gens
  base:Un X.fs X.ex X.H₀ H X.s₀.heap s.heap
  loc:∃ m,s.heap.Ns X.env.locals m∧∀ (i:Nat) (x:Str) (v:V),X.N[i]?=some x→σ[i]?=some (some v)→Vis X.env.scope x→∃ u,yk v u∧Look X.env s.heap m x u
  cell:∀ x c,X.env.cells.lookup x=some c→∃ v,s.heap.IsCell c v
  free:H X.env.locals=none
  freeC:∀ x c,X.env.cells.lookup x=some c→H c=none
  pin:∀ p∈X.pn++pins,s.heap.get? p.1=some p.2∧H p.1=none∧p.1≠X.env.locals∧p.1∉X.fs∧∀ v,p.2.data≠.cell v
  hok:HOk X.prog X.w H s.heap
  len:σ.length=X.N.length
section
variable {X:Cx}{pins:List (Addr × Obj)}{σ:List (Option V)}{H H':Hp}{s:Shared}{h':Heap}
theorem Cx.Ok.nofr (ok:X.Ok){b:Addr}{o:Obj}(e:X.base.get? b=some o):b∉X.fs:=fun a=>by
  have:=(ok.funs.mem a).1
  rw [e] at this;cases this
theorem Inv.bs (I:Inv X pins σ H s):Bs X.base s.heap H:=⟨fun b o e =>
  ⟨I.base.keep b o (I.ok.bs.1 b o e).1 (I.ok.bs.1 b o e).2 (I.ok.nofr e) (I.ok.noex b o e),I.base.free b o (I.ok.bs.1 b o e).1 (I.ok.bs.1 b o e).2 (I.ok.noex b o e)⟩,fun P q e=>I.base.tbls _ _ (I.ok.bs.2 P q e)⟩
theorem Inv.bk (I:Inv X pins σ H s):∀ b o,X.base.get? b=some o→s.heap.get? b=some o:=fun b o e=>(I.bs.1 b o e).1
theorem Inv.mod (I:Inv X pins σ H s):Mod X.K X.mg X.base:=I.ok.mod
theorem Inv.kIn (I:Inv X pins σ H s):X.K.In s.heap:=I.ok.mod.kin.keeps I.bk
theorem Inv.nolimit (I:Inv X pins σ H s):s.heap.NoLimit:=I.ok.mod.nolimit.keeps I.bk
theorem Inv.fr (I:Inv X pins σ H s):∃ m,Fr X.base X.env.locals s.heap m :=
  let ⟨m,hn,_⟩:=I.loc
  ⟨m,hn,I.bk,Nat.le_trans I.ok.bsz I.ok.above⟩
theorem Inv.lt (I:Inv X pins σ H s):X.env.locals < s.heap.objs.size:=let ⟨_,hn,_⟩:=I.loc;hn.lt
theorem Inv.sz (I:Inv X pins σ H s):X.s₀.heap.objs.size≤s.heap.objs.size:=Nat.le_trans I.ok.above (Nat.le_of_lt I.lt)
theorem Inv.nofs (I:Inv X pins σ H s){a:Addr}(h:s.heap.objs.size≤a):a∉X.fs:=fun b=>by
  obtain ⟨_,o,c,_⟩:=I.ok.funs.mem b
  exact absurd (Nat.lt_of_lt_of_le (Heap.lt_size c) (Nat.le_trans I.sz h)) (Nat.lt_irrefl _)
theorem Inv.cne (I:Inv X pins σ H s):∀ x c,X.env.cells.lookup x=some c→c≠X.env.locals:=fun x c e z=>by
  obtain ⟨v,o,d,f⟩:=I.cell x c e
  obtain ⟨m,⟨h,i,g,b,a,_⟩,_⟩:=I.loc
  rw [z,b] at d;cases d;rw [a] at f;cases f
theorem Inv.funs (I:Inv X pins σ H s):s.heap.FunFrames X.base X.outer:=by
  have f:∀ (l:List Env),(∀ b∈frs l,b∈X.fs)→X.s₀.heap.FunFrames X.base l→s.heap.FunFrames X.base l:=by
    intro l
    induction l with
    | nil=>intro _ _;trivial
    | cons env r h =>
      intro g i
      obtain ⟨j,⟨L,o,d,p,k,m⟩,n⟩:=i
      have c:L∈X.fs:=g L (by unfold frs;rw [List.filterMap_cons,d];exact List.mem_cons_self)
      obtain ⟨q,e⟩:=I.base.slot L o k (I.ok.frf L c) c fun z=>I.ok.exfs L z c
      exact ⟨j,⟨L,_,d,p,e,m⟩,h (fun b a=>g b (by unfold frs;rw [List.filterMap_cons,d];exact List.mem_cons_of_mem _ a)) n⟩
  exact f X.outer (fun _ a=>a) I.ok.funs
theorem Inv.stack (I:Inv X pins σ H s):s.heap.FunFrames X.base X.stack:=by
  rcases I.ok.stk with e | ⟨e,a⟩
  · rw [e];exact I.funs
  · rw [e]
    obtain ⟨m,b,_⟩:=I.loc
    refine .cons (by rw [I.ok.kind];decide) a b ?_ I.funs
    exact Heap.get?_none_of_le (Nat.le_trans I.ok.bsz I.ok.above)
theorem Inv.stkSub (I:Inv X pins σ H s):∀ b∈frs X.stack,b∈X.env.locals::X.fs:=fun b a=>by
  rcases I.ok.stk with e | ⟨e,c⟩
  · rw [e] at a;exact List.mem_cons_of_mem _ a
  · rw [e] at a
    unfold frs at a
    rw [List.filterMap_cons,c] at a
    exact a
theorem Inv.stkFree (I:Inv X pins σ H s):∀ b∈frs X.stack,H b=none:=fun b a=>by
  rcases List.mem_cons.mp (I.stkSub b a) with e | a
  · rw [e];exact I.free
  · obtain ⟨_,o,c,_⟩:=I.ok.funs.mem a
    exact I.base.free b o c (I.ok.frf b a) fun z=>I.ok.exfs b z a
theorem Inv.step {g':Array GenState}{t':Nat}{d':Drawn}{ch:List Addr}(I:Inv X pins σ H s)
    (j:∀ b∈ch,(b∈X.ex∨X.s₀.heap.objs.size≤b)∧b≠X.env.locals∧(∀ x c,X.env.cells.lookup x=some c→c≠b)∧∀ p∈X.pn++pins,p.1≠b)
    (g:∀ b o,b≠X.env.locals→b∉X.fs→b∉ch→s.heap.get? b=some o→H b=none→h'.get? b=some o)
    (y:∀ b o,b≠X.env.locals→b∈X.fs→b∉ch→s.heap.get? b=some o→H b=none→∃ P,h'.get? b=some { o with slots:=P }) (f:∀ b o,b∉ch→s.heap.get? b=some o→H b=none→H' b=none)
    (C:∀ b o,b∉ch→s.heap.get? b=some o→∃ J,h'.get? b=some J)
    (L:∀ b A,H b=some (.tup A)→H' b=some (.tup A)) (F:∀ b o u,H b=some (.frz o u)→H' b=some (.frz o u)) (G:∀ b M,H b=some (.tbl M)→H' b=some (.tbl M))
    (ns:∀ m,s.heap.Ns X.env.locals m→h'.Ns X.env.locals m) (Q:HOk X.prog X.w H' h') (Y:AllBare g') :
    Inv X pins σ H' { s with heap:=h',gens:=g',drawn:=d',toks:=t' }:=by
  have K:∀ b o,X.s₀.heap.get? b=some o→b≠X.env.locals:=fun b o e=>Nat.ne_of_lt (Nat.lt_of_lt_of_le (Heap.lt_size e) I.ok.above)
  have w:∀ b o,X.s₀.heap.get? b=some o→b∉X.ex→b∉ch:=fun b o e a D=>by
    rcases (j b D).1 with z | z
    · exact a z
    · exact absurd (Nat.lt_of_lt_of_le (Heap.lt_size e) z) (Nat.lt_irrefl _)
  have t:∀ x c,X.env.cells.lookup x=some c→∀ v,s.heap.IsCell c v→h'.IsCell c v:=fun x c e v ⟨o,E,O⟩=>by
    have h:c∉ch:=fun z=>(j c z).2.2.1 x c e rfl
    by_cases U:c∈X.fs
    · obtain ⟨P,q⟩:=y c o (I.cne x c e) U h E (I.freeC x c e)
      exact ⟨_,q,O⟩
    · exact ⟨o,g c o (I.cne x c e) U h E (I.freeC x c e),O⟩
  refine ⟨I.ok,I.os,Y,⟨fun b o e n D a=>?_,fun b o e n D a=>?_,fun b o e n a=>?_,fun b o e a=>?_,fun b A e=>L b A (I.base.tups b A e),fun b o A e=>F b o A (I.base.frzs b o A e),fun b M e=>?_⟩,?_,fun x c e=>?_,?_,fun x c e=>?_,fun p V=>?_,Q,I.len⟩
  · exact g b o (K b o e) D (w b o e a) (I.base.keep b o e n D a) (I.base.free b o e n a)
  · obtain ⟨P,B⟩:=I.base.slot b o e n D a
    obtain ⟨R,N⟩:=y b _ (K b o e) D (w b o e a) B (I.base.free b o e n a)
    exact ⟨R,N⟩
  · obtain ⟨J,B⟩:=I.base.there b o e a
    exact f b J (w b o e a) B (I.base.free b o e n a)
  · obtain ⟨J,B⟩:=I.base.there b o e a
    exact C b J (w b o e a) B
  · exact G b _ (I.base.tbls b M e)
  · obtain ⟨m,hn,W⟩:=I.loc
    refine ⟨m,ns m hn,fun i x v B N Z=>?_⟩
    obtain ⟨u,r,l⟩:=W i x v B N Z
    refine ⟨u,r,?_⟩
    rcases l with l | ⟨k,c,e,z⟩
    · exact .inl l
    · exact .inr ⟨k,c,e,t x c e _ z⟩
  · obtain ⟨v,z⟩:=I.cell x c e
    exact ⟨v,t x c e v z⟩
  · obtain ⟨m,⟨o,_,_,E,_⟩,_⟩:=I.loc
    exact f _ o (fun z=>(j _ z).2.1 rfl) E I.free
  · obtain ⟨v,o,E,O⟩:=I.cell x c e
    exact f c o (fun z=>(j c z).2.2.1 x c e rfl) E (I.freeC x c e)
  · obtain ⟨e,n,T,S,d⟩:=I.pin p V
    have h:p.1∉ch:=fun z=>(j p.1 z).2.2.2 p V rfl
    exact ⟨g p.1 p.2 T S h e n,f p.1 p.2 h e n,T,S,d⟩
theorem Inv.un {t':Nat}(I:Inv X pins σ H s)(u:Un X.fs [] H H' s.heap h')(c:HOk X.prog X.w H' h'):Inv X pins σ H' { s with heap:=h',toks:=t' }:=by
  obtain ⟨m,⟨o,p,l,h,r⟩,_⟩:=id I.loc
  obtain ⟨q,k⟩:=u.any h I.free (by simp)
  exact I.step (g':=s.gens) (d':=s.drawn) (ch:=[]) (fun _ z=>nomatch z) (fun b o _ d _ e n=>u.keep b o e n d (by simp)) (fun b o _ d _ e n=>u.slot b o e n d (by simp)) (fun b o _ e n=>u.free b o e n (by simp)) (fun b o _ e=>u.there b o e (by simp)) u.tups u.frzs u.tbls (fun v j=>by
    obtain ⟨t,f,g,a,i⟩:=j
    rw [h] at a;cases a
    exact ⟨_,f,g,k,i⟩) c I.bare
theorem Inv.call {g':Array GenState}{t':Nat}{d':Drawn}{ch:List Addr}(I:Inv X pins σ H s)(u:Un (frs X.stack) ch H H' s.heap h')(g:HOk X.prog X.w H' h')(v:AllBare g')
    (d:∀ b∈ch,(b∈X.ex∨X.s₀.heap.objs.size≤b)∧b≠X.env.locals∧(∀ x c,X.env.cells.lookup x=some c→c≠b)∧∀ p∈X.pn++pins,p.1≠b) :
    Inv X pins σ H' { s with heap:=h',gens:=g',drawn:=d',toks:=t' }:=by
  obtain ⟨m,⟨o,y,w,k,r⟩,_⟩:=id I.loc
  obtain ⟨B,h⟩:=u.any k I.free fun z=>(d _ z).2.1 rfl
  exact I.step (ch:=ch) d (fun b o h q a e n=>u.keep b o e n (fun z=>(List.mem_cons.mp (I.stkSub b z)).elim h q) a) (fun b o _ _ a e n=>u.any e n a) (fun b o a e n=>u.free b o e n a) (fun b o a e=>u.there b o e a) u.tups u.frzs u.tbls (fun A l=>by
    obtain ⟨C,i,j,f,t⟩:=l
    rw [k] at f;cases f
    exact ⟨_,i,j,h,t⟩) g v
theorem Inv.turned {t':Nat}{a:Addr}(I:Inv X pins σ H s)(k:∀ b o,b≠a→s.heap.get? b=some o→h'.get? b=some o)(A:H a=none)(g:a≠X.env.locals)
    (t:a∈X.ex∨X.s₀.heap.objs.size≤a) (w:∀ x c,X.env.cells.lookup x=some c→c≠a) (y:∀ p∈X.pn++pins,p.1≠a):Inv X pins σ H { s with heap:=h',toks:=t' }:=by
  have f:∀ b u,H b=some u→b≠a:=fun b u e z=>by rw [z,A] at e;cases e
  refine I.step (g':=s.gens) (d':=s.drawn) (ch:=[a]) (fun b j=>?_) (fun b o _ _ d e _=>k b o (fun z=>d (by simp [z])) e) (fun b o _ _ d e _=>⟨o.slots,k b o (fun z=>d (by simp [z])) e⟩) (fun _ _ _ _ n=>n)
    (fun b o d e=>⟨o,k b o (fun z=>d (by simp [z])) e⟩) (fun _ _ e=>e) (fun _ _ _ e=>e) (fun _ _ e=>e) (fun m i=>?_) (fun b u e=>?_) I.bare
  · have e:b=a:=by simpa using j
    subst e
    exact ⟨t,g,w,y⟩
  · obtain ⟨o,l,h,B,r⟩:=i
    exact ⟨o,l,h,k _ o (Ne.symm g) B,r⟩
  · refine (I.hok b u e).stay (fun c v d q=>k c v ?_ q) (fun _ q=>q) fun _ _ q=>q
    rcases d with z | z
    · rw [z];exact f b u e
    · exact f c _ z
theorem Inv.tok (I:Inv X pins σ H s)(t:Nat):Inv X pins σ H { s with toks:=t }:=I.un (h':=s.heap) (t':=t) Un.refl I.hok
theorem Inv.kept {t':Nat}(I:Inv X pins σ H s)(k:∀ b u,s.heap.get? b=some u→h'.get? b=some u):Inv X pins σ H { s with heap:=h',toks:=t' }:=I.un (Un.kept k) (I.hok.kept k)
theorem Inv.laid {a:Addr}{o:HO}{t':Nat}(I:Inv X pins σ H s)(k:∀ b u,s.heap.get? b=some u→h'.get? b=some u)(c:s.heap.objs.size≤a)(d:yb X.prog X.w (upd H a o) h' a o) :
    Inv X pins σ (upd H a o) { s with heap:=h',toks:=t' }:=I.un (Un.laid k c (I.hok.fresh c)) (I.hok.laid k c d)
theorem Inv.write {x e:Addr}{o:HO}{t':Nat}(I:Inv X pins σ H s)(f:Mut (H x))(d:e=x∨H e=some (.own x))(k:∀ b u,b≠e→s.heap.get? b=some u→h'.get? b=some u)(a:∃ u,h'.get? e=some u)
    (c:yb X.prog X.w (upd H x o) h' x o):Inv X pins σ (upd H x o) { s with heap:=h',toks:=t' }:=I.un (Un.write f d k a) (I.hok.write f d k a c)
theorem Inv.weak {a:List (Option V)}(I:Inv X pins σ H s)(c:a.length=σ.length)(w:∀ (i:Nat) v,a[i]?=some (some v)→σ[i]?=some (some v)):Inv X pins a H s :=
  ⟨I.ok,I.os,I.bare,I.base,let ⟨m,hn,hl'⟩:=I.loc;⟨m,hn,fun i x v e d b=>hl' i x v e (w i v d) b⟩,I.cell,I.free,I.freeC,I.pin,I.hok,c.trans I.len⟩
theorem Inv.pins_of {a:List (Addr × Obj)}(I:Inv X pins σ H s)(h:∀ p∈a,s.heap.get? p.1=some p.2∧H p.1=none∧p.1≠X.env.locals∧p.1∉X.fs∧∀ v,p.2.data≠.cell v):Inv X a σ H s :=
  ⟨I.ok,I.os,I.bare,I.base,I.loc,I.cell,I.free,I.freeC,fun p b=>(List.mem_append.mp b).elim (fun z=>I.pin p (List.mem_append_left _ z)) (h p),I.hok,I.len⟩
theorem VX {N:List Str}(d:N.Nodup){i j:Nat}{x:Str}(a:N[i]?=some x)(b:N[j]?=some x):i=j:=by
  obtain ⟨f,e⟩:=List.getElem?_eq_some_iff.mp a
  obtain ⟨g,c⟩:=List.getElem?_eq_some_iff.mp b
  exact (List.getElem_inj d).mp (e.trans c.symm)
theorem zfs {M:Model}{A:Around}{E:Value→Shared→Prop}{i:Nat}{x:Str}{v:V}{u:Value}{Q:Unit→Shared→Prop}(I:Inv X pins σ H s)(hN:X.N.Nodup)(N:X.N[i]?=some x)(w:Loc X.env.scope x)(r:yk v u)
    (h:∀ s',Inv X pins (σ.set i (some v)) H s'→(∃ a,Heap.SameBut a s.heap s'.heap∧(a=X.env.locals∨X.env.cells.lookup x=some a))→Q () s') (hf:X.fn x=true∨X.env.scope.names.lookup x=some .local:=by first | exact .inl rfl | exact .inr rfl | assumption):wpAny M A (storeName X.env x u) Q E s:=by
  obtain ⟨m,hn,hl⟩:=id I.loc
  have R:(X.env.scope.kind == .class||(X.env.scope.kind == .module&&X.env.locals != X.env.globals))=false:=by rw [I.ok.kind];rfl
  have O:i < σ.length:=by rw [I.len];exact (List.getElem?_eq_some_iff.mp N).1
  have G:=I.cne
  have g:∀ {a:Addr} {h':Heap},(∃ o,s.heap.get? a=some o∧H a=none)→Heap.SameBut a s.heap h'→HOk X.prog X.w H h':=fun {a h'} ha f b ob e=>by
    obtain ⟨_,_,B⟩:=ha
    refine (I.hok b ob e).stay (fun c W t q=>(f.2 c ?_).trans q) (fun _ q=>q) fun _ _ q=>q
    rintro rfl
    rcases t with rfl | t
    · rw [B] at e;cases e
    · rw [B] at t;cases t
  rcases w with D | D
  · refine wpAny_storeName_local D hn (fun h' a1 f=>?_) R
    obtain ⟨oL,_,_,a0,_⟩:=id hn
    refine h _ ⟨I.ok,I.os,I.bare,⟨fun b o e n F w=>?_,fun b o e n F w=>?_,I.base.free,fun b o e w=>?_,I.base.tups,I.base.frzs,I.base.tbls⟩,⟨_,a1,fun j y v' l C Z=>?_⟩,fun y c e=>?_,I.free,I.freeC,fun p hp=>?_,g ⟨oL,a0,I.free⟩ f,by simpa using I.len⟩ ⟨_,f,.inl rfl⟩
    · exact (f.2 b (Nat.ne_of_lt (Nat.lt_of_lt_of_le (Heap.lt_size e) I.ok.above))).trans (I.base.keep b o e n F w)
    · obtain ⟨sl,l⟩:=I.base.slot b o e n F w
      exact ⟨sl,(f.2 b (Nat.ne_of_lt (Nat.lt_of_lt_of_le (Heap.lt_size e) I.ok.above))).trans l⟩
    · obtain ⟨o',l⟩:=I.base.there b o e w
      exact ⟨o',(f.2 b (Nat.ne_of_lt (Nat.lt_of_lt_of_le (Heap.lt_size e) I.ok.above))).trans l⟩
    · by_cases J:j=i
      · subst J
        rw [N] at l;cases l
        rw [List.getElem?_set_self O] at C
        cases C
        exact ⟨u,r,.inl ⟨D,by simp⟩⟩
      · rw [List.getElem?_set_ne (Ne.symm J)] at C
        obtain ⟨u',r',q⟩:=hl j y v' l C Z
        refine ⟨u',r',?_⟩
        rcases q with ⟨k,e⟩ | ⟨k,c,e,z⟩
        · refine .inl ⟨k,?_⟩
          have:y≠x:=fun e=>J (VX hN l (e ▸ N))
          simp [this,e]
        · exact .inr ⟨k,c,e,z.sameBut f (G y c e)⟩
    · obtain ⟨W,z⟩:=I.cell y c e
      exact ⟨W,z.sameBut f (G y c e)⟩
    · obtain ⟨e,n,U,nf,d⟩:=I.pin p hp
      exact ⟨(f.2 p.1 U).trans e,n,U,nf,d⟩
  · have K:X.fn x=true:=by
      rcases hf with z | z
      · exact z
      · rw [z] at D;cases D
    obtain ⟨c,t⟩:=I.ok.has x (.inl D)
    obtain ⟨W,z⟩:=I.cell x c t
    refine wpAny_storeName_cell I.ok.kind D t z (fun h' P f=>?_)
    obtain ⟨oc,L,T⟩:=id z
    refine h { s with heap:=h' } ⟨I.ok,I.os,I.bare,⟨fun b o e n F w=>?_,fun b o e n F w=>?_,I.base.free,fun b o e w=>?_,I.base.tups,I.base.frzs,I.base.tbls⟩,⟨m,hn.sameBut f (Ne.symm (G x c t)),fun j y v' l C Z=>?_⟩,fun y Y e=>?_,I.free,I.freeC,fun p hp=>?_,g ⟨oc,L,I.freeC x c t⟩ f,by simpa using I.len⟩ ⟨c,f,.inr t⟩
    · exact (f.2 b (Nat.ne_of_lt (Nat.lt_of_lt_of_le (Heap.lt_size e) (I.ok.cab x c K t)))).trans (I.base.keep b o e n F w)
    · obtain ⟨sl,l⟩:=I.base.slot b o e n F w
      exact ⟨sl,(f.2 b (Nat.ne_of_lt (Nat.lt_of_lt_of_le (Heap.lt_size e) (I.ok.cab x c K t)))).trans l⟩
    · obtain ⟨o',l⟩:=I.base.there b o e w
      exact ⟨o',(f.2 b (Nat.ne_of_lt (Nat.lt_of_lt_of_le (Heap.lt_size e) (I.ok.cab x c K t)))).trans l⟩
    · by_cases J:j=i
      · subst J
        rw [N] at l;cases l
        rw [List.getElem?_set_self O] at C
        cases C
        exact ⟨u,r,.inr ⟨.inl D,c,t,P⟩⟩
      · rw [List.getElem?_set_ne (Ne.symm J)] at C
        obtain ⟨u',r',q⟩:=hl j y v' l C Z
        refine ⟨u',r',?_⟩
        rcases q with q | ⟨k,Y,e,z'⟩
        · exact .inl q
        · refine .inr ⟨k,Y,e,z'.sameBut f ?_⟩
          rintro rfl
          exact J (VX hN l (I.ok.inj _ _ _ e t ▸ N))
    · by_cases S:Y=c
      · subst S;exact ⟨_,P⟩
      · obtain ⟨w2,z2⟩:=I.cell y Y e
        exact ⟨w2,z2.sameBut f S⟩
    · obtain ⟨e,n,U,nf,d⟩:=I.pin p hp
      refine ⟨(f.2 p.1 ?_).trans e,n,U,nf,d⟩
      intro q
      rw [q,L] at e
      have q':oc=p.2:=Option.some.inj e
      exact d W (by rw [←q'];exact T)
theorem Vt {M:Model}{A:Around}{E:Value→Shared→Prop}{i:Nat}{x:Str}{v:V}{u:Value}{Q:Unit→Shared→Prop}(I:Inv X pins σ H s)(c:X.N.Nodup)(d:X.N[i]?=some x)(b:Loc X.env.scope x)(r:yk v u)
    (h:∀ a,Inv X pins (σ.set i (some v)) H a→Q () a) (e:X.fn x=true∨X.env.scope.names.lookup x=some .local:=by first | exact .inl rfl | exact .inr rfl | assumption):wpAny M A (storeName X.env x u) Q E s :=
  zfs I c d b r (fun a I' _=>h a I') e
theorem Inv.call' {s':Shared}{ch:List Addr}(I:Inv X pins σ H s)(i:s'.os=s.os)(u:Un (frs X.stack) ch H H' s.heap s'.heap)(a:HOk X.prog X.w H' s'.heap)(k:AllBare s'.gens)
    (d:∀ b∈ch,(b∈X.ex∨X.s₀.heap.objs.size≤b)∧b≠X.env.locals∧(∀ x c,X.env.cells.lookup x=some c→c≠b)∧∀ p∈X.pn++pins,p.1≠b):Inv X pins σ H' s':=by
  obtain ⟨h',g,f,h,j⟩:=s'
  have e:j=s.os:=i
  subst e
  exact I.call (g':=g) (t':=h) (d':=f) u a k d
end
noncomputable abbrev XK:=Value→Option Addr→Hp→Prop
noncomputable abbrev St:=List (Option V)
noncomputable abbrev VK:=V→Hp→Prop
noncomputable abbrev TE:=St→Hp→VK→Prop
noncomputable abbrev TT:=St→Hp→(Bool→Hp→Prop)→Prop
noncomputable abbrev TA:=St→Hp→(List V→Hp→Prop)→Prop
structure zaB where
  nx:St→Hp→Prop
  rt:VK
  bk:St→Hp→Prop:=fun _ _=>False
  ct:St→Hp→Prop:=fun _ _=>False
noncomputable abbrev TS:=zaB→St→Hp→Prop
noncomputable def EP (X:Cx)(a:List (Addr × Obj))(σ:St)(Q:VK)(u:Value)(b:Shared):Prop:=∃ v H',Inv X a σ H' b∧yk v u∧Q v H'
noncomputable def TP (X:Cx)(a:List (Addr × Obj))(σ:St)(Q:Bool→Hp→Prop)(b:Bool)(c:Shared):Prop:=∃ H',Inv X a σ H' c∧Q b H'
noncomputable def AP (X:Cx)(a:List (Addr × Obj))(σ:St)(Q:List V→Hp→Prop)(d:List Value)(c:Shared):Prop:=∃ b H',Inv X a σ H' c∧ye b d∧Q b H'
noncomputable def SP (X:Cx)(a:List (Addr × Obj))(D:zaB)(f:Flow)(c:Shared):Prop :=
  match f with
  | .next=>∃ b H',Inv X a b H' c∧D.nx b H'
  | .brk=>∃ b H',Inv X a b H' c∧D.bk b H'
  | .cont=>∃ b H',Inv X a b H' c∧D.ct b H'
  | .ret u=>∃ v b H',Inv X a b H' c∧yk v u∧D.rt v H'
noncomputable def PE (X:Cx)(e:Expr)(t:TE):Prop :=
  ∀ (a:List (Addr × Obj)) (s:Shared) (σ:St) (H:Hp) (Q:VK),Inv X a σ H s→t σ H Q→wpAny (model X.prog X.w) X.A (eval e X.env) (EP X a σ Q) X.xe s
noncomputable def PT (X:Cx)(e:Expr)(t:TT):Prop :=
  ∀ (a:List (Addr × Obj)) (s:Shared) (σ:St) (H:Hp) (Q:Bool→Hp→Prop),Inv X a σ H s→t σ H Q→wpAny (model X.prog X.w) X.A (isTrue e X.env (eval e X.env)) (TP X a σ Q) X.xe s
noncomputable def PW (X:Cx)(e:Expr)(t:TT):Prop :=
  ∀ (b:Sem Value) (a:List (Addr × Obj)) (s:Shared) (σ:St) (H:Hp) (Q:Bool→Hp→Prop),Inv X a σ H s→t σ H Q→wpAny (model X.prog X.w) X.A (isTrue e X.env b) (TP X a σ Q) X.xe s
theorem PW.pt {X:Cx}{e:Expr}{t:TT}(h:PW X e t):PT X e t:=h _
noncomputable def PA (X:Cx)(c:List Expr)(t:TA):Prop :=
  ∀ (b:Pos) (a:List (Addr × Obj)) (s:Shared) (σ:St) (H:Hp) (Q:List V→Hp→Prop),Inv X a σ H s→t σ H Q→wpAny (model X.prog X.w) X.A (spliced (backTo b (starEach c X.env))) (AP X a σ Q) X.xe s
noncomputable def PS (X:Cx)(b:Stmt)(t:TS):Prop :=
  ∀ (a:List (Addr × Obj)) (s:Shared) (σ:St) (H:Hp) (D:zaB),Inv X a σ H s→t D σ H→wpAny (model X.prog X.w) X.A (exec b X.env) (SP X a D) X.xe s
noncomputable def PSs (X:Cx)(b:List Stmt)(t:TS):Prop :=
  ∀ (a:List (Addr × Obj)) (s:Shared) (σ:St) (H:Hp) (D:zaB),Inv X a σ H s→t D σ H→wpAny (model X.prog X.w) X.A (execs b X.env) (SP X a D) X.xe s
theorem thn {α:Type}{t:Sem α}{Q Q':α→Shared→Prop}{M:Model}{A:Around}{E:Value→Shared→Prop}{s:Shared}(h:wpAny M A t Q E s)(b:∀ a s,Q a s→Q' a s):wpAny M A t Q' E s:=wpAny_mono h b fun _ _ x=>x
section
variable {X:Cx}
theorem bin {a b:Expr}{ta e:TE}(n:PE X a ta)(k:PE X b e){c:List (Addr × Obj)}{s:Shared}{σ:St}{H:Hp}{R:V→V→Hp→Prop}(I:Inv X c σ H s)(h:ta σ H fun x H1=>e σ H1 fun y H2=>R x y H2)
    {α:Type} {Q:α→Shared→Prop} {f:Value→Value→Sem α}
    (l:∀ v u d x y H2,Inv X c σ H2 d→yk x v→yk y u→R x y H2→wpAny (model X.prog X.w) X.A (f v u) Q X.xe d) :
    wpAny (model X.prog X.w) X.A (eval a X.env) (fun v j=>wpAny (model X.prog X.w) X.A (eval b X.env) (fun u o=>wpAny (model X.prog X.w) X.A (f v u) Q X.xe o) X.xe j) X.xe s:=by
  refine thn (n c s σ H _ I h) fun v g hh9=>?_
  obtain ⟨x,H1,I1,i,m⟩:=hh9
  refine thn (k c g σ H1 _ I1 m) fun u d hh9=>?_
  obtain ⟨y,H2,I2,q,p⟩:=hh9
  exact l v u d x y H2 I2 i q p
noncomputable def zaD (i:Nat):TE:=fun σ H Q=>∃ v,σ[i]?=some (some v)∧Q v H
noncomputable def tC (v:V):TE:=fun _ H Q=>Q v H
theorem zkY {i:Nat} {x:Str} {f:Pos} (q:X.N[i]?=some x) (p:Vis X.env.scope x) (g:(x == ("__debug__":Str))=false:=by decide) (j:(x == ("__classdict__":Str))=false:=by decide):PE X (.Name x f) (zaD i):=by
  intro d s σ H Q I h
  obtain ⟨v,e,h⟩:=h
  obtain ⟨m,t,n⟩:=I.loc
  obtain ⟨u,r,l⟩:=n i x v q e p
  have fin:EP X d σ Q u s:=⟨v,H,I,r,h⟩
  rcases l with ⟨b,o⟩ | ⟨b,c,k,a⟩
  · exact wpAny_Name (wpAny_loadName_local I.ok.kind b t o fin) g
  · rcases b with b | b
    · exact wpAny_Name (wpAny_loadName_cell I.ok.kind b k a fin) g
    · exact wpAny_Name (wpAny_loadName_free I.ok.kind b k a fin j) g
theorem zu {i j pos}:PE X (.Constant (.int i) j pos) (tC (.int i)):=fun _ _ _ H _ I h=>wpAny_Constant_int ⟨.int i,H,I.tok _,⟨_,rfl⟩,h⟩
theorem zjm {b j pos}:PE X (.Constant (.bool b) j pos) (tC (.bl b)):=fun _ _ _ H _ I h=>Constant_bool ⟨.bl b,H,I,rfl,h⟩
theorem Yv {j pos}:PE X (.Constant .none j pos) (tC .non):=fun _ _ _ H _ I h=>Constant_none ⟨.non,H,I,rfl,h⟩
theorem zjT {x j pos}:PE X (.Constant (.str x) j pos) (tC (.str x)):=fun _ _ _ H _ I h=>Calls.Constant_str ⟨.str x,H,I.tok _,⟨_,rfl⟩,h⟩
noncomputable def Gl (X:Cx)(x:Str):Prop:=X.env.kindOf x=some .globalImplicit
theorem ZI {E:Value→Shared→Prop}{a:List (Addr × Obj)}{s:Shared}{σ:St}{H:Hp}{x:Str}{u:Value}{b:Pos}{Q:Value→Shared→Prop}(I:Inv X a σ H s)(e:Gl X x)(d:X.mg x=some u)(h:Q u s)
    (c:(x == ("__debug__":Str))=false:=by decide):wpAny (model X.prog X.w) X.A (eval (.Name x b) X.env) Q E s :=
  Calls.Name_function_global I.ok.kind e (Calls.loadGlobal_global (by rw [I.ok.glob];exact I.mod.glob.keeps I.bk) d h) c
theorem vp {E:Value→Shared→Prop}{a:List (Addr × Obj)}{s:Shared}{σ:St}{H:Hp}{x:Str}{u:Value}{b:Pos}{Q:Value→Shared→Prop}(I:Inv X a σ H s)(i:Gl X x)(c:X.mg x=none)(d:bootBuiltins x=some u)(h:Q u s)
    (j:x≠"__name__":=by decide) (g:(x == ("__debug__":Str))=false:=by decide):wpAny (model X.prog X.w) X.A (eval (.Name x b) X.env) Q E s:=by
  obtain ⟨k,e,f⟩:=I.mod.blt
  exact Calls.Name_function_global I.ok.kind i (Calls.loadGlobal_builtin (by rw [I.ok.glob];exact I.mod.glob.keeps I.bk) c (by rw [I.ok.blt];exact e.keeps I.bk) ((f x j).trans d) h) g
theorem yo {x:Str} {v:V} {u:Value} {a:Pos} (d:Gl X x) (c:X.mg x=some u) (r:yk v u) (b:(x == ("__debug__":Str))=false:=by decide):PE X (.Name x a) (tC v) :=
  fun _ _ _ H _ I h=>ZI I d c ⟨v,H,I,r,h⟩ b
theorem Wx {x:Str} {v:V} {u:Value} {a:Pos} (d:Gl X x) (c:X.mg x=none) (e:bootBuiltins x=some u) (r:yk v u) (f:x≠"__name__":=by decide) (b:(x == ("__debug__":Str))=false:=by decide):PE X (.Name x a) (tC v) :=
  fun _ _ _ H _ I h=>vp I d c e ⟨v,H,I,r,h⟩ f b
variable {a b:Expr}{ta tb:TE}{pos:Pos}
noncomputable def PC (X:Cx)(e:CmpOp)(a b:Expr)(t:TE):Prop :=
  ∀ (c:List (Addr × Obj)) (s:Shared) (σ:St) (H:Hp) (Q:VK),Inv X c σ H s→t σ H Q →
    wpAny (model X.prog X.w) X.A (eval a X.env) (fun v f=>wpAny (model X.prog X.w) X.A (eval b X.env) (fun u d=>wpAny (model X.prog X.w) X.A (compareOp e v u) (EP X c σ Q) X.xe d) X.xe f) X.xe s
theorem zgq (b:Expr){a:CmpOp}(h:a≠.In)(c:a≠.NotIn):behindInMarks a b=false:=by
  have e:(a == CmpOp.In)=false:=by cases a <;> first | rfl | exact absurd rfl h
  have d:(a == CmpOp.NotIn)=false:=by cases a <;> first | rfl | exact absurd rfl c
  cases b <;> simp [behindInMarks,e,d]
noncomputable def tB (t:TE):TT:=fun σ H Q=>t σ H fun x H1=>∃ c,x=.bl c∧Q c H1
theorem pt_cmp {f:CmpOp}{t:TE}(h:PC X f a b t)(g:behindInMarks f b=false:=by first | exact zgq _ (by decide) (by decide) | rfl):PT X (.Compare a [f] [b] pos) (tB t):=by
  intro e s σ H Q I hw
  refine wpAny_isTrue_Compare1 (thn (h e s σ H _ I hw) fun v l g=>thn g fun u m k=>thn k fun c n hh9=>?_) g
  obtain ⟨x,H1,I1,i,j⟩:=hh9
  obtain ⟨d,rfl,q⟩:=j
  cases i
  exact wpAny_truthy_bool ⟨H1,I1,q⟩
theorem zhF {e:Expr}{t:TE}(h:PE X e t)(f:∀ a,isTrue e X.env a=(do let v←a;standAt e.pos;holding [v] (truthy v)):=by intro _;rfl):PT X e (tB t):=by
  intro b s σ H Q I hw
  refine isTrue_plain (thn (h b s σ H _ I hw) fun v i hh9=>?_) (f _)
  obtain ⟨x,H1,I1,c,g⟩:=hh9
  obtain ⟨d,rfl,q⟩:=g
  cases c
  exact wpAny_truthy_bool ⟨H1,I1,q⟩
variable {tA tB':TT}{rest:List Expr}
noncomputable def tAnd (t u:TT):TT:=fun σ H Q=>t σ H fun c H1=>if c=true then u σ H1 Q else Q false H1
noncomputable def tOr (t u:TT):TT:=fun σ H Q=>t σ H fun c H1=>if c=true then Q true H1 else u σ H1 Q
noncomputable def tNot (t:TT):TT:=fun σ H Q=>t σ H fun c H1=>Q (!c) H1
theorem zjf (d:PT X a tA):PW X (.BoolOp .And [a] pos) tA:=by
  intro g b s σ H Q I h
  refine isTrue_and (thn (d b s σ H Q I h) fun c f e=>?_)
  cases c with
  | true=>exact isTrue_and_nil e
  | false=>exact e
theorem zhB (d:PT X a tA):PW X (.BoolOp .Or [a] pos) tA:=by
  intro g b s σ H Q I h
  refine isTrue_or (thn (d b s σ H Q I h) fun c f e=>?_)
  cases c with
  | false=>exact isTrue_or_nil e
  | true=>exact e
theorem zll (g:PT X a tA)(i:PW X (.BoolOp .And (b::rest) pos) tB'):PW X (.BoolOp .And (a::b::rest) pos) (tAnd tA tB'):=by
  intro j d s σ H Q I h
  refine isTrue_and (thn (g d s σ H _ I h) fun c f hh9=>?_)
  obtain ⟨H1,I1,e⟩:=hh9
  cases c with
  | true=>exact i j d f σ H1 Q I1 e
  | false=>exact ⟨H1,I1,e⟩
theorem zke (g:PT X a tA)(i:PW X (.BoolOp .Or (b::rest) pos) tB'):PW X (.BoolOp .Or (a::b::rest) pos) (tOr tA tB'):=by
  intro j d s σ H Q I h
  refine isTrue_or (thn (g d s σ H _ I h) fun c f hh9=>?_)
  obtain ⟨H1,I1,e⟩:=hh9
  cases c with
  | true=>exact ⟨H1,I1,e⟩
  | false=>exact i j d f σ H1 Q I1 e
theorem zhJ (d:PT X a tA):PT X (.UnaryOp .Not a pos) (tNot tA):=by
  intro b s σ H Q I h
  exact isTrue_not (d b s σ H (fun c H1=>Q (!c) H1) I h)
noncomputable def zl9 (ta tb:TE):TE:=fun σ H Q=>ta σ H fun x H1=>∃ c,x=.bl c∧if c=true then tb σ H1 Q else Q (.bl false) H1
noncomputable def zmJ (ta:TE):TE:=fun σ H Q=>ta σ H fun x H1=>∃ c,x=.bl c∧Q (.bl (!c)) H1
theorem zkS {op}{t:TE}(h:PE X a t):PE X (.BoolOp op [a] pos) t:=fun b s σ H Q I hw=>BoolOp_one (h b s σ H Q I hw)
theorem zlV (j:PE X a ta)(i:PE X (.BoolOp .And (b::rest) pos) tb):PE X (.BoolOp .And (a::b::rest) pos) (zl9 ta tb):=by
  intro d s σ H Q I h
  refine BoolOp_and (thn (j d s σ H _ I h) fun v f hh9=>?_)
  obtain ⟨x,H1,I1,g,e⟩:=hh9
  obtain ⟨c,rfl,e⟩:=e
  cases g
  refine wpAny_truthy_bool ?_
  cases c with
  | true=>exact i d f σ H1 Q I1 e
  | false=>exact ⟨.bl false,H1,I1,rfl,e⟩
theorem zlQ (f:PE X a ta):PE X (.UnaryOp .Not a pos) (zmJ ta):=by
  intro b s σ H Q I h
  refine UnaryOp_ (thn (f b s σ H _ I h) fun v g hh9=>?_)
  obtain ⟨x,H1,I1,e,d⟩:=hh9
  obtain ⟨c,rfl,d⟩:=d
  cases e
  exact not_of (wpAny_truthy_bool ⟨.bl (!c),H1,I1,rfl,d⟩)
noncomputable def tIf (t:TT)(ta tb:TE):TE:=fun σ H Q=>t σ H fun c H1=>if c=true then ta σ H1 Q else tb σ H1 Q
theorem zgM {c:Expr}(i:PT X c tA)(j:PE X a ta)(k:PE X b tb):PE X (.IfExp c a b pos) (tIf tA ta tb):=by
  intro e s σ H Q I h
  refine wpAny_IfExp (thn (i e s σ H _ I h) fun d f hh9=>?_)
  obtain ⟨H1,I1,g⟩:=hh9
  cases d with
  | true=>exact j e f σ H1 Q I1 g
  | false=>exact k e f σ H1 Q I1 g
end
noncomputable def SqL (K:PySem.W.Frag)(H:Hp)(a:Addr)(c:List V):Prop :=
  Rd H a (.lst c) ∨
    ∃ (o:Obj) (b:Array Value) (n:Nat),K.lookup a=some o∧o.cls=.type "list"∧o.dict=none∧o.data=.seq b n∧b.size≤sizeLine∧ye c b.toList
noncomputable def SqT (K:PySem.W.Frag)(H:Hp)(a:Addr)(c:List V):Prop :=
  Rd H a (.tup c) ∨
    ∃ (o:Obj) (b:Array Value) (n:Nat),K.lookup a=some o∧o.cls=.type "tuple"∧o.data=.seq b n∧b.size≤sizeLine∧ye c b.toList
noncomputable def absV:Value→Option V
  | .none=>some .non
  | .bool b=>some (.bl b)
  | .int i _=>some (.int i)
  | .str x _=>some (.str x)
  | .bytes b _=>some (.byt b)
  | .float b _=>some (.flt b)
  | .ref a=>some (.ref a)
  | .type n=>some (.ty n)
  | _=>none
theorem yk.abs {x:V}{u:Value}(r:yk x u):absV u=some x:=by
  cases x with
  | non=>cases r;rfl
  | bl _=>cases r;rfl
  | int _=>obtain ⟨t,rfl⟩:=r;rfl
  | str _=>obtain ⟨t,rfl⟩:=r;rfl
  | byt _=>obtain ⟨t,rfl⟩:=r;rfl
  | flt _=>obtain ⟨t,rfl⟩:=r;rfl
  | ref _=>cases r;rfl
  | ty _=>cases r;rfl
theorem yk.inj {x y:V}{u:Value}(r:yk x u)(q:yk y u):x=y:=Option.some.inj (r.abs.symm.trans q.abs)
theorem ye.inj:∀ {c a:List V} {d:List Value},ye c d→ye a d→c=a:=by
  intro c a d h
  induction h generalizing a with
  | nil=>intro b;cases b;rfl
  | cons r t e=>intro b;cases b with | cons f g=>rw [r.inj f,e g]
section
variable {X:Cx}{pins:List (Addr × Obj)}{σ:St}{H:Hp}{s:Shared}{a:Addr}{xs ys:List V}
theorem SqL.of {K:PySem.W.Frag}(h:H a=some (.lst xs)):SqL K H a xs:=.inl (.inl h)
theorem SqT.of {K:PySem.W.Frag}(h:H a=some (.tup xs)):SqT K H a xs:=.inl (.inl h)
theorem Inv.list (I:Inv X pins σ H s)(h:SqL X.K H a xs):∃ b:List Value,ye xs b∧PlainL s.heap a b.toArray∧xs.length≤sizeLine:=by
  rcases h with h | ⟨o,b,n,d,c,f,g,i,r⟩
  · obtain ⟨z,b,n,r,e⟩:=h.ok I.hok
    exact ⟨b,r,⟨_,n,e,rfl,rfl,rfl⟩,z⟩
  · refine ⟨b.toList,r,⟨o,n,I.kIn a o d,c,f,by simpa using g⟩,?_⟩
    have e:=r.length
    simp only [Array.length_toList] at e
    omega
theorem Inv.tuple (I:Inv X pins σ H s)(h:SqT X.K H a xs):∃ b:List Value,ye xs b∧IsTup s.heap a b.toArray∧xs.length≤sizeLine:=by
  rcases h with h | ⟨o,b,n,d,c,f,g,r⟩
  · obtain ⟨z,b,r,p⟩:=h.ok I.hok
    exact ⟨b,r,p,z⟩
  · refine ⟨b.toList,r,⟨o,I.kIn a o d,c,n,by simpa using f⟩,?_⟩
    have e:=r.length
    simp only [Array.length_toList] at e
    omega
theorem Inv.list_inj (I:Inv X pins σ H s)(h:SqL X.K H a xs)(j:SqL X.K H a ys):xs=ys:=by
  obtain ⟨c,r,⟨o,n,e,_,_,d⟩,_⟩:=I.list h
  obtain ⟨b,i,⟨l,k,f,_,_,g⟩,_⟩:=I.list j
  rw [e] at f;cases f
  rw [d] at g
  injection g with d1 _
  have:c=b:=by simpa using congrArg Array.toList d1
  subst this
  exact r.inj i
theorem Inv.tuple_inj (I:Inv X pins σ H s)(h:SqT X.K H a xs)(j:SqT X.K H a ys):xs=ys:=by
  obtain ⟨c,r,⟨o,e,_,n,d⟩,_⟩:=I.tuple h
  obtain ⟨b,i,⟨l,f,_,k,g⟩,_⟩:=I.tuple j
  rw [e] at f;cases f
  rw [d] at g
  injection g with d1 _
  have:c=b:=by simpa using congrArg Array.toList d1
  subst this
  exact r.inj i
end
noncomputable abbrev Cx.wish (X:Cx)(E:Value→Shared→Prop):Cx:={ X with xe:=E }
noncomputable abbrev Cx.nox (X:Cx):Cx:=X.wish fun _ _=>False
theorem Cx.Ok.wish {X:Cx}(ok:X.Ok)(E:Value→Shared→Prop):(X.wish E).Ok :=
  ⟨ok.mod,ok.kind,ok.glob,ok.blt,ok.above,ok.inj,ok.has,ok.cab,ok.hd,ok.frames,ok.stk,ok.exf,ok.bs,ok.bsz,ok.noex,ok.exfs,ok.funs,ok.frf⟩
theorem Cx.Ok.unwish {X:Cx}{E:Value→Shared→Prop}(ok:(X.wish E).Ok):X.Ok :=
  ⟨ok.mod,ok.kind,ok.glob,ok.blt,ok.above,ok.inj,ok.has,ok.cab,ok.hd,ok.frames,ok.stk,ok.exf,ok.bs,ok.bsz,ok.noex,ok.exfs,ok.funs,ok.frf⟩
section
variable {X:Cx}{pins:List (Addr × Obj)}{σ:St}{H:Hp}{s:Shared}{E:Value→Shared→Prop}
theorem Inv.wish (I:Inv X pins σ H s)(E:Value→Shared→Prop):Inv (X.wish E) pins σ H s:=⟨I.ok.wish E,I.os,I.bare,I.base,I.loc,I.cell,I.free,I.freeC,I.pin,I.hok,I.len⟩
theorem Inv.unwish (I:Inv (X.wish E) pins σ H s):Inv X pins σ H s:=⟨I.ok.unwish,I.os,I.bare,I.base,I.loc,I.cell,I.free,I.freeC,I.pin,I.hok,I.len⟩
theorem SP.unwish {D:zaB}{f:Flow}{b:Shared}(h:SP (X.wish E) pins D f b):SP X pins D f b:=by
  cases f with
  | next=>obtain ⟨a,H',I,q⟩:=h;exact ⟨a,H',I.unwish,q⟩
  | brk=>obtain ⟨a,H',I,q⟩:=h;exact ⟨a,H',I.unwish,q⟩
  | cont=>obtain ⟨a,H',I,q⟩:=h;exact ⟨a,H',I.unwish,q⟩
  | ret u=>obtain ⟨v,a,H',I,r,q⟩:=h;exact ⟨v,a,H',I.unwish,r,q⟩
theorem PSs.nox {a:List Stmt}{t:TS}(h:PSs X.nox a t):PSs X a t:=fun pins s σ H D I hw =>
  wpAny_mono (h pins s σ H D (I.wish _) hw) (fun _ _ q=>q.unwish) fun _ _ z=>False.elim z
end
section
variable {X:Cx}{st:Stmt}{rest:List Stmt}{t u:TS}{e:Expr}{te:TE}{pos:Pos}
noncomputable def zi9:TS:=fun D σ H=>D.nx σ H
noncomputable def zmZ (t u:TS):TS:=fun D σ H=>t { D with nx:=u D } σ H
theorem zbf:PSs X [] zi9:=fun _ _ σ H _ I h=>wpAny_execs_nil ⟨σ,H,I,h⟩
theorem xI (b:PS X st t)(c:PSs X rest u):PSs X (st::rest) (zmZ t u):=by
  intro a s σ H D I h
  refine wpAny_execs_cons (thn (b a s σ H { D with nx:=u D } I h) fun f d q=>?_)
  cases f with
  | next =>
    obtain ⟨e,H',I',q⟩:=q
    exact c a d e H' D I' q
  | ret v=>exact q
  | brk=>exact q
  | cont=>exact q
theorem YQ (b:PS X st t):PSs X [st] t:=by
  intro a s σ H D I h
  refine wpAny_execs_cons (thn (b a s σ H D I h) fun f c q=>?_)
  cases f with
  | next=>exact wpAny_execs_nil q
  | ret v=>exact q
  | brk=>exact q
  | cont=>exact q
theorem Inv.quiet {a:List (Addr × Obj)}{σ:St}{H:Hp}{s:Shared}(I:Inv X a σ H s):interactive X.env=false:=by simp [interactive,I.ok.kind]
noncomputable def zmY (te:TE):TS:=fun D σ H=>te σ H fun _ H1=>D.nx σ H1
theorem Vy (c:PE X e te)(d:swapsWith e none pos.line X.env=pure false:=by rfl):PS X (.Expr e pos) (zmY te):=by
  intro a s σ H D I h
  exact wpAny_Expr_any (thn (c a s σ H _ I h) fun v f ⟨x,H1,I1,g,b⟩=>⟨σ,H1,I1,b⟩) I.quiet d
noncomputable def zmd (te:TE):TS:=fun D σ H=>te σ H D.rt
theorem Vf (d:PE X e te):PS X (.Return (some e) pos) (zmd te):=by
  intro a s σ H D I h
  exact wpAny_Return_some (thn (d a s σ H _ I h) fun v f ⟨x,H1,I1,b,c⟩=>⟨x,σ,H1,I1,b,c⟩)
noncomputable def zmp (c:TT)(t u:TS):TS:=fun D σ H=>c σ H fun b H1=>if b=true then t D σ H1 else u D σ H1
theorem zgK {c:Expr}{a b:List Stmt}{tc:TT}(j:PT X c tc)(k:PSs X a t)(i:PSs X b u):PS X (.If c a b pos) (zmp tc t u):=by
  intro e s σ H D I h
  refine wpAny_If (thn (j e s σ H _ I h) fun d f hh9=>?_)
  obtain ⟨H1,I1,g⟩:=hh9
  cases d with
  | true=>exact k e f σ H1 D I1 g
  | false=>exact i e f σ H1 D I1 g
noncomputable def zkp:TS:=fun _ _ _=>False
theorem zha:PS X st zkp:=fun _ _ _ _ _ _ h=>h.elim
end
noncomputable abbrev TG:=V→St→Hp→(St→Hp→Prop)→Prop
noncomputable abbrev TGs:=List V→St→Hp→(St→Hp→Prop)→Prop
noncomputable def PG (X:Cx)(a:Expr)(t:TG):Prop :=
  ∀ (b:List (Addr × Obj)) (s:Shared) (σ:St) (H:Hp) (v:V) (u:Value) (Q:St→Hp→Prop),Inv X b σ H s→yk v u→t v σ H Q →
    wpAny (model X.prog X.w) X.A (assign a X.env u) (fun _ d=>∃ c H',Inv X b c H' d∧Q c H') X.xe s
noncomputable def PGs (X:Cx)(f:List Expr)(t:TGs):Prop :=
  ∀ (a:List (Addr × Obj)) (s:Shared) (σ:St) (H:Hp) (d:List V) (b:List Value) (Q:St→Hp→Prop),Inv X a σ H s→ye d b→t d σ H Q →
    wpAny (model X.prog X.w) X.A (assignInOrder ((assignEach f X.env).map (·.2)) b) (fun _ e=>∃ c H',Inv X a c H' e∧Q c H') X.xe s
noncomputable abbrev zmv:=V→V→V→Hp→(Hp→Prop)→Prop
noncomputable def PSet (X:Cx)(t:zmv):Prop :=
  ∀ (a:List (Addr × Obj)) (s:Shared) (σ:St) (H:Hp) (o i v:V) (c b u:Value) (Q:Hp→Prop),Inv X a σ H s→yk o c→yk i b→yk v u→t o i v H Q →
    wpAny (model X.prog X.w) X.A (setItem c b u) (fun _ d=>∃ H',Inv X a σ H' d∧Q H') X.xe s
section
variable {X:Cx}{pos:Pos}
noncomputable def Yb (i:Nat):TG:=fun v σ H Q=>Q (σ.set i (some v)) H
theorem z3 {i:Nat}{x:Str}(e:X.N.Nodup)(b:X.N[i]?=some x)(c:Loc X.env.scope x)(d:X.fn x=true∨X.env.scope.names.lookup x=some .local:=by first | exact .inl rfl | exact .inr rfl | assumption):PG X (.Name x pos) (Yb i):=by
  intro a s σ H v u Q I r h
  exact wpAny_assign_Name (Vt I e b c r (fun f I'=>⟨_,H,I',h⟩) d)
noncomputable def zlY:TGs:=fun a σ H Q=>a=[]∧Q σ H
noncomputable def zbY (t:TG)(u:TGs):TGs:=fun b σ H Q=>∃ v r,b=v::r∧t v σ H fun a H'=>u r a H' Q
theorem zb0:PGs X [] zlY:=by
  intro a s σ H c b Q I r h
  obtain ⟨e,h⟩:=h
  subst e
  cases r
  exact assignInOrder_nil ⟨σ,H,I,h⟩
theorem Y6 {e:Expr}{b:List Expr}{t:TG}{u:TGs}(j:PG X e t)(k:PGs X b u)
    (g:(assignEach (e::b) X.env).map (·.2)=assign e X.env::(assignEach b X.env).map (·.2):=by rfl):PGs X (e::b) (zbY t u):=by
  intro a s σ H o n Q I r h
  obtain ⟨v,m,i,h⟩:=h
  subst i
  cases r with
  | cons r d =>
    rw [g]
    refine assignInOrder_cons (thn (j a s σ H _ _ _ I r h) fun _ c hh9=>?_)
    obtain ⟨l,H1,I1,f⟩:=hh9
    exact k a c l H1 _ _ Q I1 d f
noncomputable def zl7 (K:PySem.W.Frag)(n:Nat)(t:TGs):TG:=fun v σ H Q=>∃ a b,v=.ref a∧SqT K H a b∧b.length=n∧t b σ H Q
theorem zfx {d:List Expr}{k:Nat}{t:TGs}{n:Nat}(m:X.calm=true)(h:PGs X d t)
    (x:(assignEach d X.env).length=n:=by rfl) (f:(assignEach d X.env).findIdx? (·.1)=none:=by rfl):PG X (.Tuple d k pos) (zl7 X.K n t):=by
  intro c s σ H v u Q I r hw
  obtain ⟨a,q,l,hq,i,hw⟩:=hw
  subst l
  cases r
  obtain ⟨p,g,y,z⟩:=I.tuple hq
  refine assign_Tuple_tuple (I.ok.hd m) y (by simp [x,← i,g.length]) f fun w j=>?_
  have I1:Inv X c σ H { s with heap:=w }:=I.kept (t':=s.toks) fun b o e=>j b o (Nat.ne_of_lt (Heap.lt_size e)) e
  exact h c _ σ H q _ Q I1 (by simpa using g) hw
noncomputable def gSub (b a:TE)(t:zmv):TG:=fun v σ H Q=>b σ H fun o H1=>a σ H1 fun i H2=>t o i v H2 fun H3=>Q σ H3
theorem zks {o i:Expr}{e d:TE}{t:zmv}(n:PE X o e)(j:PE X i d)(m:PSet X t)
    (p:∀ v,assign (.Subscript o i pos) X.env v=(do
      let b←holding [v] (eval o X.env)
      let c←holding [v,b] (eval i X.env)
      standAt pos
      holding [v,b,c] (setItem b c v)
      release [v,b,c] []):=by intro _;rfl):PG X (.Subscript o i pos) (gSub e d t):=by
  intro a s σ H v u Q I r h
  rw [p]
  refine wpAny_bind (wpAny_holding (thn (n a s σ H _ I h) fun b f hh9=>?_))
  obtain ⟨x,H1,I1,k,l⟩:=hh9
  refine wpAny_bind (wpAny_holding (thn (j a f σ H1 _ I1 l) fun c g hh9=>?_))
  obtain ⟨y,H2,I2,w,q⟩:=hh9
  refine wpAny_bind (wpAny_standAt (wpAny_bind (wpAny_holding (thn (m a g σ H2 x y v b c u _ I2 k w r q) fun _ A hh9=>?_))))
  obtain ⟨H3,I3,z⟩:=hh9
  exact wpAny_release ⟨σ,H3,I3,z⟩
noncomputable def zjM (a:TE)(g:TG):TS:=fun D σ H=>a σ H fun x H1=>g x σ H1 D.nx
theorem zlG {b e:Expr}{c:TE}{g:TG}(i:PE X e c)(m:PG X b g)(k:swapsWithSole [b] e pos.line X.env=pure false:=by rfl)(hw:swappedStores [b] e X.env=pure none:=by rfl)
    (l:(assignEach [b] X.env).map (·.2)=[assign b X.env]:=by rfl):PS X (.Assign [b] e pos) (zjM c g):=by
  intro a s σ H D I h
  refine wpAny_Assign_stores (thn (i a s σ H _ I h) fun v d hh9=>?_) k hw
  obtain ⟨x,H1,I1,f,j⟩:=hh9
  rw [l]
  exact thn (m a d σ H1 x v _ I1 f j) fun _ n q=>q
theorem Yk {i:Nat}{x:Str}{e:Expr}{c:TE}{a:Pos}(n:X.N.Nodup)(j:X.N[i]?=some x)(f:Loc X.env.scope x)(g:PE X e c)(k:swapsWith e (some (.Name x a)) pos.line X.env=pure false:=by rfl)(l:X.fn x=true∨X.env.scope.names.lookup x=some .local:=by first | exact .inl rfl | exact .inr rfl | assumption) :
    PS X (.Assign [.Name x a] e pos) (zjM c (Yb i)):=by
  intro b s σ H D I h
  refine wpAny_Assign_Name (thn (g b s σ H _ I h) fun v o hh9=>?_) k
  obtain ⟨y,H1,I1,d,m⟩:=hh9
  exact Vt I1 n j f d (fun p I2=>⟨_,H1,I2,m⟩) l
noncomputable def zkO (c:TT)(e:TS):TS:=fun D σ H=>∃ W:Nat→St→Hp→Prop,(∃ m,W m σ H)∧∀ m σ H,W m σ H →
  c σ H fun b H1=>if b=true then ∃ N:St→Hp→Prop,(∀ a H',N a H'→∃ d,d < m∧W d a H')∧e { D with nx:=N,ct:=N,bk:=D.nx } σ H1 else D.nx σ H1
theorem zfQ {c:Expr}{body:List Stmt}{tc:TT}{o:TS}(q:PassesOwn (model X.prog X.w) X.A X.env X.xe)(x:PT X c tc)(w:PSs X body o):PS X (.While c body [] pos) (zkO tc o):=by
  intro a s σ H D I h
  obtain ⟨W,⟨B,y⟩,turn⟩:=h
  refine wpAny_While (codeAny_whileLoop (fun n z=>∃ r H',Inv X a r H' z∧W n r H') ?_ B ⟨σ,H,I,y⟩)
  rintro n t ⟨e,H1,I1,A⟩
  refine wpAny_passesOwn q (thn (x a t e H1 _ I1 (turn n e H1 A)) fun b u hh9=>?_)
  obtain ⟨H2,I2,g⟩:=hh9
  cases b with
  | true =>
    obtain ⟨N,p,g⟩:=g
    rw [if_pos rfl]
    refine wpAny_passesOwn q (thn (w a u e H2 _ I2 g) fun f C i=>?_)
    cases f with
    | next =>
      obtain ⟨d,H3,I3,k⟩:=i
      obtain ⟨m,j,l⟩:=p d H3 k
      exact ⟨m,j,d,H3,I3,l⟩
    | cont =>
      obtain ⟨d,H3,I3,k⟩:=i
      obtain ⟨m,j,l⟩:=p d H3 k
      exact ⟨m,j,d,H3,I3,l⟩
    | brk=>exact i
    | ret v=>exact i
  | false =>
    rw [if_neg Bool.false_ne_true]
    exact wpAny_execs_nil ⟨e,H2,I2,g⟩
end
structure It where
  go:Nat→Hp→Prop
  yld:Nat→Hp→V→Hp→Prop
  stop:Nat→Hp→Prop
noncomputable def WG (X:Cx)(a:List (Addr × Obj))(H:Hp)(b:Addr):Prop :=
  H b=none∧b≠X.env.locals∧b∉X.fs∧(b∈X.ex∨X.s₀.heap.objs.size≤b)∧(∀ x c,X.env.cells.lookup x=some c→c≠b)∧∀ p∈X.pn++a,p.1≠b
theorem Inv.fpOk {X:Cx}{pins:List (Addr × Obj)}{σ:St}{H H':Hp}{s:Shared}{b:Addr}(I:Inv X pins σ H s)(a:s.heap.objs.size≤b)(f:H' b=none):WG X pins H' b:=by
  refine ⟨f,Nat.ne_of_gt (Nat.lt_of_lt_of_le I.lt a),I.nofs a,.inr (Nat.le_trans I.sz a),fun x c e z=>?_,fun p d z=>?_⟩
  · obtain ⟨v,q⟩:=I.cell x c e
    exact absurd (Nat.lt_of_lt_of_le q.lt (by rw [z];exact a)) (Nat.lt_irrefl _)
  · exact absurd (Nat.lt_of_lt_of_le (Heap.lt_size (I.pin p d).1) (by rw [z];exact a)) (Nat.lt_irrefl _)
set_option genInjectivity false in
set_option genSizeOf false in
set_option genCtorIdx false in
structure zhj (P:Program) (w:World) (K:PySem.W.Frag) (tg:Expr) (J:It) (fp:List Addr) (it:Addr) (tn:Nat→Heap→Prop):Prop where
  mem:it∈fp
  obj:∀ i h,tn i h→∀ b∈fp,∃ o,h.get? b=some o∧∀ v,o.data≠.cell v
  keep:∀ i h h',tn i h→(∀ b∈fp,∀ o,h.get? b=some o→h'.get? b=some o)→tn i h'
  item:∀ (X:Cx),X.prog=P→X.w=w→X.K=K→X.calm=true→∀ (i:Nat) (pins:List (Addr × Obj)) (s:Shared) (σ:St) (H:Hp) (E:Value→Shared→Prop),Inv X pins σ H s→(∀ b∈fp,WG X pins H b)→tn i s.heap→J.go i H →
    wpAny (model P w) X.A (pyNext (.ref it)) (fun r s1=>∃ u,r=some u ∧
      wpAny (model P w) X.A (letOwnedTupleGo tg (.ref it) u) (fun _ s2=>∃ x H',Inv X pins σ H' s2∧yk x u∧J.yld i H x H'∧tn (i+1) s2.heap∧∀ b∈fp,H' b=none) E s1) E s
  done:∀ (X:Cx),X.prog=P→X.w=w→X.K=K→X.calm=true→∀ (i:Nat) (pins:List (Addr × Obj)) (s:Shared) (σ:St) (H:Hp) (E:Value→Shared→Prop),Inv X pins σ H s→(∀ b∈fp,WG X pins H b)→tn i s.heap→J.stop i H →
    wpAny (model P w) X.A (pyNext (.ref it)) (fun r s1=>r=none∧Inv X pins σ H s1) E s
  self:∀ (A:Around) (i:Nat) (s:Shared) (Q:Value→Shared→Prop) (E:Value→Shared→Prop),tn i s.heap→Q (.ref it) s→wpAny (model P w) A (pyIter (.ref it)) Q E s
noncomputable abbrev TI:=St→Hp→(It→Hp→Prop)→Prop
noncomputable def PIE (X:Cx)(a:List (Addr × Obj))(σ:St)(h:Expr)(R:It→Hp→Prop)(c:Value)(g:Shared):Prop :=
  ∃ (e:Addr) (d:List Addr) (f:Nat→Heap→Prop) (J:It) (H':Hp),c=.ref e∧Inv X a σ H' g∧zhj X.prog X.w X.K h J d e f∧f 0 g.heap∧(∀ b∈d,WG X a H' b)∧R J H'
noncomputable def PI (X:Cx)(d b:Expr)(e:TI):Prop :=
  ∀ (a:List (Addr × Obj)) (s:Shared) (σ:St) (H:Hp) (R:It→Hp→Prop),Inv X a σ H s→e σ H R →
    wpAny (model X.prog X.w) X.A (eval b X.env) (fun v c=>wpAny (model X.prog X.w) X.A (pyIter v) (PIE X a σ d R) X.xe c) X.xe s
theorem zer {M:Model}{A:Around}{E:Value→Shared→Prop}{s:Shared}{tg:Expr}{it:Addr}{u:Value}{o:Obj}{n:String}{vs:Array Value}{Q:Unit→Shared→Prop}(ho:s.heap.get? it=some o)(hc:o.cls=.type n)(hd:o.data=.fields vs)
    (hn:["enumerate","zip","dict_itemiterator","dict_reverseitemiterator","odict_iterator","itertools.zip_longest","itertools.pairwise"].contains n=false) (hQ:Q () s):wpAny M A (letOwnedTupleGo tg (.ref it) u) Q E s:=by
  unfold letOwnedTupleGo
  cases tg <;> first
    | exact wpAny_pure hQ
    | (cases u <;> first
        | exact wpAny_pure hQ
        | (refine wpAny_bind (wpAny_load ho ?_)
           rw [hc,hd]
           show wpAny M A (if (["enumerate","zip","dict_itemiterator","dict_reverseitemiterator","odict_iterator","itertools.zip_longest","itertools.pairwise"].contains n&&vs[0]? == some (rawInt _))=true then _ else _) Q E s
           rw [if_neg (by intro h;rw [hn,Bool.false_and] at h;cases h)]
           exact wpAny_pure hQ))
noncomputable def Itl (K:PySem.W.Frag)(a:Addr):It :=
  ⟨fun i H=>∃ b x,SqL K H a b∧b[i]?=some x,fun i H x H'=>H'=H∧∀ b,SqL K H a b→b[i]?=some x,fun i H=>∃ b,SqL K H a b∧b.length≤i⟩
noncomputable def Itt (K:PySem.W.Frag)(a:Addr):It :=
  ⟨fun i H=>∃ b x,SqT K H a b∧b[i]?=some x,fun i H x H'=>H'=H∧∀ b,SqT K H a b→b[i]?=some x,fun i H=>∃ b,SqT K H a b∧b.length≤i⟩
noncomputable def Itr (a:Int)(n:Nat):It:=⟨fun i _=>i < n,fun i H x H'=>H'=H∧x=.int (a+i),fun i _=>n≤i⟩
theorem zd7 {P:Program}{w:World}{K:PySem.W.Frag}{tg:Expr}(a it:Addr):zhj P w K tg (Itl K a) [it] it (fun i h=>h.IsListIter it a i) where
  mem:=by simp
  obj:=fun i h st b hb=>by
    have e:b=it:=by simpa using hb
    subst e
    obtain ⟨o,e,c,d⟩:=st
    exact ⟨o,e,fun v z=>by rw [d] at z;cases z⟩
  keep:=fun i h h' st k=>st.at fun o e=>k it (by simp) o e
  item:=by
    intro X hP hw hK hc i pins s σ H E I hf st hg
    subst hP hw hK
    obtain ⟨xs,x,hq,hx⟩:=hg
    obtain ⟨its,rv,p,hz⟩:=I.list hq
    obtain ⟨u,hu,ru⟩:=rv.get hx
    obtain ⟨f0,f1,f2,f3,f4,f5⟩:=hf it (by simp)
    refine wpAny_pyNext_list_item st p.isList (x:=u) (by simpa using hu) fun h' st' sb=>?_
    have I1:Inv X pins σ H { s with heap:=h' }:=I.turned (t':=s.toks) (fun b o hb e=>(sb.2 b hb).trans e) f0 f1 f3 f4 f5
    obtain ⟨o,e,c,d⟩:=id st'
    exact ⟨u,rfl,zer (s:={ s with heap:=h' }) e c d (by decide) ⟨x,H,I1,ru,⟨rfl,fun ys hy=>by rw [I.list_inj hy hq];exact hx⟩,st',fun b hb=>(hf b hb).1⟩⟩
  done:=by
    intro X hP hw hK hc i pins s σ H E I hf st hg
    subst hP hw hK
    obtain ⟨xs,hq,hx⟩:=hg
    obtain ⟨its,rv,p,hz⟩:=I.list hq
    obtain ⟨f0,f1,f2,f3,f4,f5⟩:=hf it (by simp)
    have hl:=rv.length
    exact wpAny_pyNext_list_end (I.ok.hd hc) st p.isList (by simp;omega) fun h' eb=>⟨rfl,I.turned (t':=s.toks) (fun b o hb e=>eb b o hb e) f0 f1 f3 f4 f5⟩
  self:=fun _ _ _ _ _ st h=>wpAny_pyIter_listiter st h
theorem zda {P:Program}{w:World}{K:PySem.W.Frag}{tg:Expr}(a it:Addr):zhj P w K tg (Itt K a) [it] it (fun i h=>h.IsTupleIter it a i) where
  mem:=by simp
  obj:=fun i h st b hb=>by
    have e:b=it:=by simpa using hb
    subst e
    obtain ⟨o,e,c,d⟩:=st
    exact ⟨o,e,fun v z=>by rw [d] at z;cases z⟩
  keep:=fun i h h' st k=>st.at fun o e=>k it (by simp) o e
  item:=by
    intro X hP hw hK hc i pins s σ H E I hf st hg
    subst hP hw hK
    obtain ⟨xs,x,hq,hx⟩:=hg
    obtain ⟨its,rv,p,hz⟩:=I.tuple hq
    obtain ⟨u,hu,ru⟩:=rv.get hx
    obtain ⟨f0,f1,f2,f3,f4,f5⟩:=hf it (by simp)
    refine wpAny_pyNext_tuple_item st (show s.heap.IsTuple a its.toArray from p) (x:=u) (by simpa using hu) fun h' st' sb=>?_
    have I1:Inv X pins σ H { s with heap:=h' }:=I.turned (t':=s.toks) (fun b o hb e=>(sb.2 b hb).trans e) f0 f1 f3 f4 f5
    obtain ⟨o,e,c,d⟩:=id st'
    exact ⟨u,rfl,zer (s:={ s with heap:=h' }) e c d (by decide) ⟨x,H,I1,ru,⟨rfl,fun ys hy=>by rw [I.tuple_inj hy hq];exact hx⟩,st',fun b hb=>(hf b hb).1⟩⟩
  done:=by
    intro X hP hw hK hc i pins s σ H E I hf st hg
    subst hP hw hK
    obtain ⟨xs,hq,hx⟩:=hg
    obtain ⟨its,rv,p,hz⟩:=I.tuple hq
    obtain ⟨f0,f1,f2,f3,f4,f5⟩:=hf it (by simp)
    have hl:=rv.length
    exact wpAny_pyNext_tuple_end (I.ok.hd hc) st (show s.heap.IsTuple a its.toArray from p) (by simp;omega) fun h' eb=>⟨rfl,I.turned (t':=s.toks) (fun b o hb e=>eb b o hb e) f0 f1 f3 f4 f5⟩
  self:=fun _ _ _ _ _ st h=>wpAny_pyIter_tupleiter st h
theorem zcZ {P:Program}{w:World}{K:PySem.W.Frag}{tg:Expr}(it:Addr)(lo:Int)(n:Nat):zhj P w K tg (Itr lo n) [it] it (fun i h=>IsRangeIter h it (lo+(i:Nat)*1) ((n:Int) - (i:Nat)) 1) where
  mem:=by simp
  obj:=fun i h st b hb=>by
    have e:b=it:=by simpa using hb
    subst e
    exact ⟨_,st,fun v z=>by
      have z':Data.fields _=Data.cell v:=z
      cases z'⟩
  keep:=fun i h h' st k=>k it (by simp) _ st
  item:=by
    intro X hP hw hK hc i pins s σ H E I hf st hg
    subst hP hw hK
    obtain ⟨f0,f1,f2,f3,f4,f5⟩:=hf it (by simp)
    have W:=Walks.range (prog:=X.prog) (w:=X.w) (I.ok.hd hc) it lo 1 n
    refine W.item i s _ _ hg st fun v h' tk hv st' kk=>?_
    obtain ⟨t,rfl⟩:=hv
    have I1:Inv X pins σ H { s with heap:=h',toks:=tk }:=I.turned (fun b o hb e=>kk b o (by simpa using hb) e) f0 f1 f3 f4 f5
    refine ⟨_,rfl,zer (s:={ s with heap:=h',toks:=tk }) (n:="range_iterator") st' rfl rfl (by decide) ⟨.int (lo+i),H,I1,⟨t,?_⟩,⟨rfl,rfl⟩,st',fun b hb=>(hf b hb).1⟩⟩
    rw [Int.mul_one]
  done:=by
    intro X hP hw hK hc i pins s σ H E I hf st hg
    subst hP hw hK
    obtain ⟨f0,f1,f2,f3,f4,f5⟩:=hf it (by simp)
    exact wpAny_pyNext_range_end (I.ok.hd hc) st (by have:n≤i:=hg;omega) fun h' eb=>⟨rfl,I.turned (t':=s.toks) (fun b o hb e=>eb b o hb e) f0 f1 f3 f4 f5⟩
  self:=fun _ _ _ _ _ st h=>wpAny_pyIter_rangeiter st h
section
variable {X:Cx}{tg:Expr}
theorem zgv {d:List (Addr × Obj)}{σ:St}{H:Hp}{s:Shared}{R:It→Hp→Prop}{E:Value→Shared→Prop}{a c:Int}{t u v:Tok}{tk:Nat}(I:Inv X d σ H s)(i:-(2 ^ 62)≤a)(j:a < 2 ^ 62)(k:-(2 ^ 62)≤c)(l:c < 2 ^ 62)
    (q:R (Itr a (c - a).toNat) H):wpAny (model X.prog X.w) X.A (pyIter (.ref s.heap.objs.size)) (PIE X d σ tg R) E { s with heap:=s.heap.push { cls:=.type "range",data:=.fields #[.int a t,.int c u,.int 1 v] },toks:=tk }:=by
  refine wpAny_pyIter_range (IsRange.new ..) (small_one i j k l) ?_
  have I1:Inv X d σ H { s with heap:=s.heap.push { cls:=.type "range",data:=.fields #[.int a t,.int c u,.int 1 v] },toks:=tk }:=I.kept fun b o e=>Heap.get?_push_of_some _ e
  refine ⟨(s.heap.push { cls:=.type "range",data:=.fields #[.int a t,.int c u,.int 1 v] }).objs.size,[(s.heap.push { cls:=.type "range",data:=.fields #[.int a t,.int c u,.int 1 v] }).objs.size],_,_,H,rfl,
    I1.kept (t':=tk) fun b o e=>Heap.get?_push_of_some _ e,zcZ _ a (c - a).toNat,?_,fun b g=>?_,q⟩
  · have h:a+((0:Nat):Int)*1=a:=by simp
    have f:(((c - a).toNat:Nat):Int) - ((0:Nat):Int)=Builtin.Range.rangeSize a c 1:=by rw [rangeSize_one];split <;> omega
    show IsRangeIter _ _ (a+((0:Nat):Int)*1) ((((c - a).toNat:Nat):Int) - ((0:Nat):Int)) 1
    rw [h,f]
    exact Heap.get?_push_size _ rfl
  · have e:b=(s.heap.push { cls:=.type "range",data:=.fields #[.int a t,.int c u,.int 1 v] }).objs.size:=by simpa using g
    subst e
    exact I1.fpOk (Nat.le_refl _) (I1.hok.fresh (Nat.le_refl _))
noncomputable def zma (ta:TA):TI:=fun σ H R=>ta σ H fun a H1=>∃ j:Int,a=[.int j]∧-(2 ^ 62)≤j∧j < 2 ^ 62∧R (Itr 0 j.toNat) H1
theorem zaq {a:Expr} {ta:TA} {p b:Pos} (n:Gl X "range") (g:X.mg "range"=none) (l:PA X [a] ta) (k:starEach [a] X.env=[(false,eval a X.env)]:=by rfl):PI X tg (.Call (.Name "range" p) [a] [] b) (zma ta):=by
  intro c s σ H R I h
  refine Call_ (vp I n g boot_range (PyProof.Rows.callWith_type1 (thn (l b c s σ H _ I h) fun u o hh9=>?_) k rfl))
  obtain ⟨v,H1,I1,f,d⟩:=hh9
  obtain ⟨j,e,d,m,q⟩:=d
  subst e
  cases f with
  | cons r i =>
    cases i
    obtain ⟨t,rfl⟩:=r
    exact call_range_1 (zgv I1 (by omega) (by omega) d m (by simpa using q))
noncomputable def tFor (e:TI)(g:TG)(c:TS):TS:=fun D σ H=>e σ H fun J H1=>∃ W:Nat→Nat→St→Hp→Prop,(∃ m,W 0 m σ H1)∧∀ i m σ H,W i m σ H →
  (J.stop i H∧D.nx σ H)∨(J.go i H∧∃ N:St→Hp→Prop,(∀ a H',N a H'→∃ b,b < m∧W (i+1) b a H')∧∀ x H',J.yld i H x H'→g x σ H' fun d H2=>c { D with nx:=N,ct:=N,bk:=D.nx } d H2)
noncomputable def wv (a:List Addr)(h:Heap):List (Addr × Obj):=a.filterMap fun b=>(h.get? b).map fun o=>(b,o)
theorem yh {a:List Addr}{h:Heap}{b:Addr}{o:Obj}(c:b∈a)(e:h.get? b=some o):(b,o)∈wv a h:=List.mem_filterMap.mpr ⟨b,c,by rw [e];rfl⟩
theorem zeA {a:List Addr}{h:Heap}{p:Addr × Obj}(c:p∈wv a h):p.1∈a∧h.get? p.1=some p.2:=by
  obtain ⟨b,f,e⟩:=List.mem_filterMap.mp c
  cases q:h.get? b with
  | none=>rw [q] at e;cases e
  | some o =>
    rw [q] at e
    have d:(b,o)=p:=Option.some.inj e
    subst d
    exact ⟨f,q⟩
theorem Inv.pinned {a:List (Addr × Obj)}{σ:St}{H:Hp}{s:Shared}{fp:List Addr}(I:Inv X a σ H s)(h:∀ b∈fp,WG X a H b)(i:∀ b∈fp,∃ o,s.heap.get? b=some o∧∀ v,o.data≠.cell v):Inv X (a++wv fp s.heap) σ H s :=
  I.pins_of fun p g=>(List.mem_append.mp g).elim (fun z=>I.pin p (List.mem_append_right _ z)) fun z=>by
    obtain ⟨c,e⟩:=zeA z
    obtain ⟨j,f1,f2,_⟩:=h p.1 c
    obtain ⟨o,f,d⟩:=i p.1 c
    rw [e] at f;cases f
    exact ⟨e,j,f1,f2,d⟩
theorem Inv.unpinned {a c:List (Addr × Obj)}{σ:St}{H:Hp}{s:Shared}(I:Inv X (a++c) σ H s):Inv X a σ H s:=I.pins_of fun p b=>I.pin p (List.mem_append_right _ (List.mem_append_left _ b))
theorem zh6 {c:Expr}{body:List Stmt}{P:TI}{g:TG}{S:TS}{G:Pos}(B:PassesOwn (model X.prog X.w) X.A X.env X.xe)(U:X.calm=true)(Z:PI X tg c P)(hg:PG X tg g)(l:PSs X body S)
    (hs:∀ x,foldedSetIterable c X.env x=pure x:=by intro _;rfl):PS X (.For tg c body [] G) (tFor P g S):=by
  intro a s σ H D I h
  refine wpAny_For (thn (Z a s σ H _ I h) fun v s1 h1=>thn h1 fun a0 s2 h2=>?_) hs
  obtain ⟨it,w,O,J,H2,e,I2,T,K,f2,W,⟨m0,w0⟩,turn⟩:=h2
  subst e
  -- what stays true of the iterator's objects through the loop
  have k:∀ {H':Hp},(∀ b∈w,H' b=none)→∀ b∈w,WG X a H' b:=fun hn b l=>⟨hn b l,(f2 b l).2⟩
  refine codeAny_forLoop_any (fun n R=>∃ i C H',Inv X a C H' R∧O i R.heap∧(∀ b∈w,H' b=none)∧W i n C H') ?_ m0 ⟨0,σ,H2,I2,K,fun b l=>(f2 b l).1,w0⟩
  rintro n V ⟨i,t,H3,I3,E,A,w3⟩
  rcases turn i n t H3 w3 with ⟨z,qn⟩ | ⟨go,N,hN,step⟩
  · refine wpAny_passesOwn B (thn (T.done X rfl rfl rfl U i a V t H3 X.xe I3 (k A) E z) fun r s4 hh9=>?_)
    obtain ⟨F,I4⟩:=hh9
    subst F
    exact wpAny_execs_nil ⟨t,H3,I4,qn⟩
  · refine wpAny_passesOwn B (thn (T.item X rfl rfl rfl U i a V t H3 X.xe I3 (k A) E go) fun r s4 hh9=>?_)
    obtain ⟨u,F,h4⟩:=hh9
    subst F
    refine wpAny_passesOwn B (thn h4 fun _ Q hh9=>?_)
    obtain ⟨x,H5,I5,r5,y5,q,M⟩:=hh9
    have I5':=I5.pinned (k M) (T.obj _ _ q)
    refine wpAny_passesOwn B (thn (hg _ Q t H5 x u _ I5' r5 (step x H5 y5)) fun _ s6 hh9=>?_)
    obtain ⟨σ6,H6,I6,q6⟩:=hh9
    refine wpAny_passesOwn B (thn (l _ s6 σ6 H6 _ I6 q6) fun f L p=>?_)
    have again:∀ {j:St} {H7:Hp},Inv X (a++wv w Q.heap) j H7 L→N j H7→∃ m,m < n∧∃ i C H',Inv X a C H' L∧O i L.heap∧(∀ b∈w,H' b=none)∧W i m C H':=fun {j H7} I7 y=>by
      obtain ⟨m',Y,w7⟩:=hN j H7 y
      refine ⟨m',Y,i+1,j,H7,I7.unpinned,T.keep _ _ _ q fun b l o e=>(I7.pin (b,o) (List.mem_append_right _ (List.mem_append_right _ (yh l e)))).1,fun b l=>?_,w7⟩
      obtain ⟨o,e,d⟩:=T.obj _ _ q b l
      exact (I7.pin (b,o) (List.mem_append_right _ (List.mem_append_right _ (yh l e)))).2.1
    cases f with
    | next=>obtain ⟨j,H7,I7,y⟩:=p;exact again I7 y
    | cont=>obtain ⟨j,H7,I7,y⟩:=p;exact again I7 y
    | brk=>obtain ⟨j,H7,I7,p⟩:=p;exact ⟨j,H7,I7.unpinned,p⟩
    | ret v=>obtain ⟨x7,j,H7,I7,r7,p⟩:=p;exact ⟨x7,j,H7,I7.unpinned,r7,p⟩
end
noncomputable abbrev R2:=V→V→Hp→VK→Prop
noncomputable def OpR (X:Cx)(f:Value→Value→Sem Value)(r:R2):Prop :=
  ∀ (a:List (Addr × Obj)) (s:Shared) (σ:St) (H:Hp) (x y:V) (v u:Value) (Q:VK),Inv X a σ H s→yk x v→yk y u→r x y H Q →
    wpAny (model X.prog X.w) X.A (f v u) (EP X a σ Q) X.xe s
noncomputable def UnR (X:Cx)(f:Value→Sem Value)(r:V→Hp→VK→Prop):Prop :=
  ∀ (a:List (Addr × Obj)) (s:Shared) (σ:St) (H:Hp) (x:V) (v:Value) (Q:VK),Inv X a σ H s→yk x v→r x H Q →
    wpAny (model X.prog X.w) X.A (f v) (EP X a σ Q) X.xe s
noncomputable def vO (X:Cx)(f:Value)(r:List V→Hp→VK→Prop):Prop :=
  ∀ (a:List (Addr × Obj)) (s:Shared) (σ:St) (H:Hp) (b:List V) (c:List Value) (Q:VK),Inv X a σ H s→ye b c→r b H Q →
    wpAny (model X.prog X.w) X.A (call f c) (EP X a σ Q) X.xe s
noncomputable def tOp (r:R2)(ta a:TE):TE:=fun σ H Q=>ta σ H fun x H1=>a σ H1 fun y H2=>r x y H2 Q
noncomputable def tUn (r:V→Hp→VK→Prop)(ta:TE):TE:=fun σ H Q=>ta σ H fun x H1=>r x H1 Q
noncomputable def rI (C:Int→Int→Prop)(g:Int→Int→V):R2:=fun x y H Q=>∃ i j,x=.int i∧y=.int j∧C i j∧Q (g i j) H
noncomputable def rI0 (g:Int→Int→V):R2:=fun x y H Q=>∃ i j,x=.int i∧y=.int j∧Q (g i j) H
noncomputable def rU (g:Int→V):V→Hp→VK→Prop:=fun x H Q=>∃ i,x=.int i∧Q (g i) H
section
variable {X:Cx}{a b c:Expr}{ta tb tc:TE}{pos:Pos}
theorem zmu (n:PE X a ta)(g:PE X b tb){c:List (Addr × Obj)}{s:Shared}{σ:St}{H:Hp}{R:V→V→Hp→Prop}(I:Inv X c σ H s)
    (h:ta σ H fun x H1=>tb σ H1 fun y H2=>R x y H2) {Q:Value→Shared→Prop} {f:Value→Value→Sem Value}
    (i:∀ v u d x y H2,Inv X c σ H2 d→yk x v→yk y u→R x y H2→wpAny (model X.prog X.w) X.A (f v u) Q X.xe d) :
    wpAny (model X.prog X.w) X.A (eval a X.env) (fun v k=>wpAny (model X.prog X.w) X.A (eval b X.env) (fun u m=>wpAny (model X.prog X.w) X.A (f v u) Q X.xe m) X.xe k) X.xe s:=by
  refine thn (n c s σ H _ I h) fun v e hh9=>?_
  obtain ⟨x,H1,I1,j,l⟩:=hh9
  refine thn (g c e σ H1 _ I1 l) fun u d hh9=>?_
  obtain ⟨y,H2,I2,p,o⟩:=hh9
  exact i v u d x y H2 I2 j p o
theorem zdp {d:Operator}{r:R2}(j:OpR X (binaryOp d) r)(k:PE X a ta)(g:PE X b tb):PE X (.BinOp a d b pos) (tOp r ta tb):=by
  intro c s σ H Q I h
  exact wpAny_BinOp (zmu k g I h fun v u f x y H2 I2 i e q=>j c f σ H2 x y v u Q I2 i e q)
theorem zlJ {c:UnaryOp}{r:V→Hp→VK→Prop}(e:UnR X (unaryOp c) r)(f:PE X a ta):PE X (.UnaryOp c a pos) (tUn r ta):=by
  intro b s σ H Q I h
  exact UnaryOp_ (thn (f b s σ H _ I h) fun v d ⟨x,H1,I1,g,i⟩=>e b d σ H1 x v Q I1 g i)
theorem opI {f:Value→Value→Sem Value}{C:Int→Int→Prop}{g:Int→Int→Int}
    (rule:∀ (i j:Int) (t u:Tok) (s:Shared) (Q:Value→Shared→Prop) (E:Value→Shared→Prop),C i j→Q (.int (g i j) s.toks) { s with toks:=s.toks+1 }→wpAny (model X.prog X.w) X.A (f (.int i t) (.int j u)) Q E s) :
    OpR X f (rI C fun i j=>.int (g i j)):=by
  intro a s σ H x y v u Q I c b h
  obtain ⟨i,j,rfl,rfl,d,q⟩:=h
  obtain ⟨t,rfl⟩:=c
  obtain ⟨e,rfl⟩:=b
  exact rule i j t e s _ _ d ⟨.int (g i j),H,I.tok _,⟨_,rfl⟩,q⟩
theorem opI0 {f:Value→Value→Sem Value}{g:Int→Int→Int}
    (rule:∀ (i j:Int) (t u:Tok) (s:Shared) (Q:Value→Shared→Prop) (E:Value→Shared→Prop),Q (.int (g i j) s.toks) { s with toks:=s.toks+1 }→wpAny (model X.prog X.w) X.A (f (.int i t) (.int j u)) Q E s) :
    OpR X f (rI0 fun i j=>.int (g i j)):=by
  intro a s σ H x y v u Q I c b h
  obtain ⟨i,j,rfl,rfl,q⟩:=h
  obtain ⟨t,rfl⟩:=c
  obtain ⟨d,rfl⟩:=b
  exact rule i j t d s _ _ ⟨.int (g i j),H,I.tok _,⟨_,rfl⟩,q⟩
theorem zl2 {f:Value→Value→Sem Value}{g:Int→Int→Bool}
    (rule:∀ (i j:Int) (t u:Tok) (s:Shared) (Q:Value→Shared→Prop) (E:Value→Shared→Prop),Q (.bool (g i j)) s→wpAny (model X.prog X.w) X.A (f (.int i t) (.int j u)) Q E s) :
    OpR X f (rI0 fun i j=>.bl (g i j)):=by
  intro a s σ H x y v u Q I c b h
  obtain ⟨i,j,rfl,rfl,q⟩:=h
  obtain ⟨t,rfl⟩:=c
  obtain ⟨d,rfl⟩:=b
  exact rule i j t d s _ _ ⟨.bl (g i j),H,I,rfl,q⟩
noncomputable def CPow (i j:Int):Prop:=0≤j∧j≤1000000∧i.natAbs < 2 ^ 64
noncomputable def zms (i j:Int):Prop:=(-(2 ^ 64) < i∧i < 2 ^ 64)∨(-(2 ^ 64) < j∧j < 2 ^ 64)
theorem zms.ok {i j:Int}(h:zms i j):IntMulOk i j:=by
  rcases h with ⟨a,b⟩ | ⟨a,b⟩
  · exact .of_left (intBits_le_64 a b)
  · exact .of_right (intBits_le_64 a b)
theorem zkh:OpR X (binaryOp .Add) (rI0 fun i j=>.int (i+j)):=opI0 fun _ _ _ _ _ _ _ q=>add_int q
theorem zkw:OpR X (binaryOp .Sub) (rI0 fun i j=>.int (i - j)):=opI0 fun _ _ _ _ _ _ _ q=>sub_int q
theorem zku:OpR X (binaryOp .Mult) (rI zms fun i j=>.int (i*j)):=opI fun _ _ _ _ _ _ _ a q=>mul_int q a.ok
theorem zlc:OpR X (binaryOp .Mod) (rI (fun _ j=>0 < j) fun i j=>.int (i % j)):=opI fun i j _ _ _ _ _ a q=>by
  have b:(0:Int) < j:=a
  exact mod_int' (by omega) (by rw [Int.fmod_eq_emod_of_nonneg i (by omega)];exact q)
theorem zlm:OpR X (binaryOp .Pow) (rI CPow fun i j=>.int (i ^ j.toNat)):=opI fun _ _ _ _ _ _ _ a q=>pow_int_small a.1 a.2.1 a.2.2 q
theorem unI {f:Value→Sem Value}{g:Int→Int}
    (rule:∀ (i:Int) (t:Tok) (s:Shared) (Q:Value→Shared→Prop) (E:Value→Shared→Prop),Q (.int (g i) s.toks) { s with toks:=s.toks+1 }→wpAny (model X.prog X.w) X.A (f (.int i t)) Q E s) :
    UnR X f (rU fun i=>.int (g i)):=by
  intro a s σ H x v Q I b h
  obtain ⟨i,rfl,q⟩:=h
  obtain ⟨t,rfl⟩:=b
  exact rule i t s _ _ ⟨.int (g i),H,I.tok _,⟨_,rfl⟩,q⟩
theorem zhQ:UnR X (unaryOp .USub) (rU fun i=>.int (-i)):=unI fun _ _ _ _ _ q=>neg_int q
end
noncomputable def scal:V→V→Bool
  | .non,.non=>true | .non,.int _=>true | .int _,.non=>true | .non,.bl _=>true | .bl _,.non=>true | .non,.str _=>true | .str _,.non=>true
  | .int _,.int _=>true | .bl _,.bl _=>true | .str _,.str _=>true | .byt _,.byt _=>true
  | .int _,.str _=>true | .str _,.int _=>true | .bl _,.str _=>true | .str _,.bl _=>true
  | _,_=>false
noncomputable def rEq:R2:=fun x y H Q=>scal x y=true∧Q (.bl (decide (x=y))) H
noncomputable def rNe:R2:=fun x y H Q=>scal x y=true∧Q (.bl (!decide (x=y))) H
theorem VM {i j:Int}:decide (V.int i=V.int j)=(i == j):=by
  rw [Bool.eq_iff_iff]
  simp
theorem zh1 {i j:Bool}:decide (V.bl i=V.bl j)=(i == j):=by
  rw [Bool.eq_iff_iff]
  simp
theorem zed {i j:Str}:decide (V.str i=V.str j)=(i == j):=by
  rw [Bool.eq_iff_iff]
  simp
theorem zd5 {i j:Array UInt8}:decide (V.byt i=V.byt j)=(i.toList == j.toList):=by
  rw [Bool.eq_iff_iff]
  cases i
  cases j
  simp
section
variable {X:Cx}{a b c:Expr}{ta tb tc:TE}{pos:Pos}
theorem zW {a:List (Addr × Obj)}{σ:St}{H:Hp}{s:Shared}{Q:VK}{k b:Bool}(I:Inv X a σ H s)(q:Q (.bl k) H)(e:k=b):EP X a σ Q (.bool b) s:=by
  subst e
  exact ⟨.bl k,H,I,rfl,q⟩
theorem zkD:OpR X (compareOp .Eq) rEq:=by
  intro e s σ H x y v u Q I d a h
  obtain ⟨c,q⟩:=h
  cases x with
  | non =>
    cases d
    cases y with
    | non=>cases a;exact PySem.EqNone.eq_none_none (zW I q (by simp))
    | bl j=>cases a;exact PySem.EqNone.eq_none_bool (zW I q (by simp))
    | int j=>obtain ⟨b,rfl⟩:=a;exact PySem.EqNone.eq_none_int (zW I q (by simp))
    | str j=>obtain ⟨b,rfl⟩:=a;exact PySem.EqNone.eq_none_str (zW I q (by simp))
    | _=>exact absurd (show false=true from c) Bool.false_ne_true
  | bl i =>
    cases d
    cases y with
    | non=>cases a;exact PySem.EqNone.eq_bool_none (zW I q (by simp))
    | bl j=>cases a;exact eq_bool (zW I q zh1)
    | str j=>obtain ⟨b,rfl⟩:=a;exact PySem.EqMixed.eq_bool_str (zW I q (by simp))
    | _=>exact absurd (show false=true from c) Bool.false_ne_true
  | int i =>
    obtain ⟨t,rfl⟩:=d
    cases y with
    | non=>cases a;exact PySem.EqNone.eq_int_none (zW I q (by simp))
    | int j=>obtain ⟨b,rfl⟩:=a;exact eq_int (zW I q VM)
    | str j=>obtain ⟨b,rfl⟩:=a;exact PySem.EqMixed.eq_int_str (zW I q (by simp))
    | _=>exact absurd (show false=true from c) Bool.false_ne_true
  | str i =>
    obtain ⟨t,rfl⟩:=d
    cases y with
    | non=>cases a;exact PySem.EqNone.eq_str_none (zW I q (by simp))
    | bl j=>cases a;exact PySem.EqMixed.eq_str_bool (zW I q (by simp))
    | int j=>obtain ⟨b,rfl⟩:=a;exact PySem.EqMixed.eq_str_int (zW I q (by simp))
    | str j=>obtain ⟨b,rfl⟩:=a;exact eq_str (zW I q zed)
    | _=>exact absurd (show false=true from c) Bool.false_ne_true
  | byt i =>
    obtain ⟨t,rfl⟩:=d
    cases y with
    | byt j=>obtain ⟨b,rfl⟩:=a;exact PySem.W.eq_bytes (zW I q zd5)
    | _=>exact absurd (show false=true from c) Bool.false_ne_true
  | _=>cases y <;> exact absurd (show false=true from c) Bool.false_ne_true
theorem zf2:OpR X (compareOp .NotEq) rNe:=by
  intro e s σ H x y v u Q I d a h
  obtain ⟨c,q⟩:=h
  cases x with
  | non =>
    cases d
    cases y with
    | non=>cases a;exact PySem.EqNone.ne_none_none (zW I q (by simp))
    | bl j=>cases a;exact PySem.EqNone.ne_none_bool (zW I q (by simp))
    | int j=>obtain ⟨b,rfl⟩:=a;exact PySem.EqNone.ne_none_int (zW I q (by simp))
    | str j=>obtain ⟨b,rfl⟩:=a;exact PySem.EqNone.ne_none_str (zW I q (by simp))
    | _=>exact absurd (show false=true from c) Bool.false_ne_true
  | bl i =>
    cases d
    cases y with
    | non=>cases a;exact PySem.EqNone.ne_bool_none (zW I q (by simp))
    | bl j=>cases a;exact ne_bool (zW I q (congrArg not zh1))
    | str j=>obtain ⟨b,rfl⟩:=a;exact PySem.EqMixed.ne_bool_str (zW I q (by simp))
    | _=>exact absurd (show false=true from c) Bool.false_ne_true
  | int i =>
    obtain ⟨t,rfl⟩:=d
    cases y with
    | non=>cases a;exact PySem.EqNone.ne_int_none (zW I q (by simp))
    | int j=>obtain ⟨b,rfl⟩:=a;exact ne_int (zW I q (congrArg not VM))
    | str j=>obtain ⟨b,rfl⟩:=a;exact PySem.EqMixed.ne_int_str (zW I q (by simp))
    | _=>exact absurd (show false=true from c) Bool.false_ne_true
  | str i =>
    obtain ⟨t,rfl⟩:=d
    cases y with
    | non=>cases a;exact PySem.EqNone.ne_str_none (zW I q (by simp))
    | bl j=>cases a;exact PySem.EqMixed.ne_str_bool (zW I q (by simp))
    | int j=>obtain ⟨b,rfl⟩:=a;exact PySem.EqMixed.ne_str_int (zW I q (by simp))
    | str j=>obtain ⟨b,rfl⟩:=a;exact ne_str (zW I q (congrArg not zed))
    | _=>exact absurd (show false=true from c) Bool.false_ne_true
  | byt i =>
    obtain ⟨t,rfl⟩:=d
    cases y with
    | byt j=>obtain ⟨b,rfl⟩:=a;exact PySem.W.ne_bytes (zW I q (congrArg not zd5))
    | _=>exact absurd (show false=true from c) Bool.false_ne_true
  | _=>cases y <;> exact absurd (show false=true from c) Bool.false_ne_true
theorem Y7:OpR X (compareOp .Lt) (rI0 fun i j=>.bl (decide (i < j))):=zl2 fun _ _ _ _ _ _ _ q=>lt_int q
theorem zdV:OpR X (compareOp .LtE) (rI0 fun i j=>.bl (decide (i≤j))):=zl2 fun _ _ _ _ _ _ _ q=>le_int q
theorem zeD:OpR X (compareOp .Gt) (rI0 fun i j=>.bl (decide (j < i))):=zl2 fun _ _ _ _ _ _ _ q=>gt_int q
theorem zlU:OpR X (compareOp .GtE) (rI0 fun i j=>.bl (decide (j≤i))):=zl2 fun _ _ _ _ _ _ _ q=>ge_int q
theorem zkC:OpR X (compareOp .Is) (fun x y H Q=>y=.non∧Q (.bl (decide (x=.non))) H):=by
  intro b s σ H x y v u Q I a c h
  obtain ⟨rfl,q⟩:=h
  cases c
  refine is_none_gen (zW I q ?_)
  cases x <;> first
    | (cases a;rfl)
    | (obtain ⟨t,rfl⟩:=a;rfl)
theorem ziE:OpR X (compareOp .IsNot) (fun x y H Q=>y=.non∧Q (.bl (!decide (x=.non))) H):=by
  intro b s σ H x y v u Q I a c h
  obtain ⟨rfl,q⟩:=h
  cases c
  refine isnot_none_gen (zW I q ?_)
  cases x <;> first
    | (cases a;rfl)
    | (obtain ⟨t,rfl⟩:=a;rfl)
theorem OpR.or {f:Value→Value→Sem Value}{r b:R2}(h:OpR X f r)(e:OpR X f b):OpR X f (fun x y H Q=>r x y H Q∨b x y H Q):=by
  intro a s σ H x y v u Q I d c q
  rcases q with q | q
  · exact h a s σ H x y v u Q I d c q
  · exact e a s σ H x y v u Q I d c q
theorem zS (b:Expr){a:CmpOp}(h:a≠.In:=by decide)(c:a≠.NotIn:=by decide):behindInMarks a b=false:=by
  have e:(a == CmpOp.In)=false:=by cases a <;> first | rfl | exact absurd rfl h
  have d:(a == CmpOp.NotIn)=false:=by cases a <;> first | rfl | exact absurd rfl c
  cases b <;> simp [behindInMarks,e,d]
theorem zfh {d:CmpOp}{r:R2}(k:OpR X (compareOp d) r)(l:PE X a ta)(i:PE X b tb)(f:behindInMarks d b=false):PE X (.Compare a [d] [b] pos) (tOp r ta tb):=by
  intro c s σ H Q I h
  exact wpAny_Compare1 (zmu l i I h fun v u g x y H2 I2 j e q=>k c g σ H2 x y v u Q I2 j e q) f
noncomputable def zgH (t:TE):TT:=fun σ H Q=>t σ H fun x H'=>∃ k,x=.bl k∧Q k H'
theorem zbw {f:CmpOp}{r:R2}(o:OpR X (compareOp f) r)(p:PE X a ta)(m:PE X b tb)(j:behindInMarks f b=false):PT X (.Compare a [f] [b] pos) (zgH (tOp r ta tb)):=by
  intro d s σ H Q I h
  refine wpAny_isTrue_Compare1 (thn (p d s σ H _ I h) fun v g ⟨x,H1,I1,i,n⟩=>thn (m d g σ H1 _ I1 n) fun u l ⟨y,H2,I2,t,q⟩ =>
    thn (o d l σ H2 x y v u _ I2 i t q) fun c B ⟨z,H3,I3,A,k,e,w⟩=>?_) j
  subst e
  cases A
  exact wpAny_truthy_bool ⟨H3,I3,w⟩
noncomputable def zdI (r a:R2)(ta tb tc:TE):TE:=fun σ H Q=>ta σ H fun x H1=>tb σ H1 fun y H2=>r x y H2 fun z H3=>∃ k,z=.bl k ∧
  (if k=true then tc σ H3 fun b H4=>a y b H4 Q else Q (.bl false) H3)
theorem zg1 {i g:CmpOp}{r l:R2}(L:OpR X (compareOp i) r)(j:OpR X (compareOp g) l)(M:PE X a ta)(t:PE X b tb)(A:PE X c tc)
    (p:lastMarks [i,g] [b,c]=false:=by with_unfolding_all rfl):PE X (.Compare a [i,g] [b,c] pos) (zdI r l ta tb tc):=by
  intro f s σ H Q I h
  refine Compare_chain (thn (M f s σ H _ I h) fun v o ⟨x,H1,I1,G,J⟩=>chain_link (thn (t f o σ H1 _ I1 J) fun u q ⟨y,H2,I2,m,N⟩ =>
    thn (L f q σ H2 x y v u _ I2 G m N) fun d B ⟨z,H3,I3,C,k,e,n⟩=>?_)) p
  subst e
  cases C
  refine wpAny_truthy_bool ?_
  cases k with
  | false=>exact ite_ff ⟨.bl false,H3,I3,rfl,n⟩
  | true=>exact ite_tt (chain_last (thn (A f B σ H3 _ I3 n) fun F D ⟨w,H4,I4,E,K⟩=>j f D σ H4 y w u F Q I4 m E K))
theorem zdq {b:List V}{a:List Value}(r:ye b a):(!a.toArray.isEmpty)=!b.isEmpty:=by
  cases r <;> simp
theorem Vb:(sizeLine:Nat) < 2 ^ 63:=by rw [sizeLine_eq];decide
theorem zdf:OpR X (binaryOp .Add) (fun x y H Q=>∃ i j,x=.str i∧y=.str j∧i.length+j.length≤sizeLine∧Q (.str (i++j)) H):=by
  intro a s σ H x y v u Q I c b h
  obtain ⟨i,j,rfl,rfl,d,q⟩:=h
  obtain ⟨t,rfl⟩:=c
  obtain ⟨e,rfl⟩:=b
  exact add_str (fun e tk=>⟨.str (i++j),H,I.tok _,⟨_,rfl⟩,q⟩) d
theorem Wh {x:V}{a:List Value}(r:ye [x] a):∃ u,a=[u]∧yk x u:=by
  cases r with
  | cons b c=>cases c;exact ⟨_,rfl,b⟩
theorem zg5 {x y:V}{a:List Value}(r:ye [x,y] a):∃ u b,a=[u,b]∧yk x u∧yk y b:=by
  cases r with
  | cons e d =>
    cases d with
    | cons f c=>cases c;exact ⟨_,_,rfl,e,f⟩
theorem zdQ (d:X.calm=true):vO X (.builtin "max") (fun b H Q=>∃ i j,b=[.int i,.int j]∧Q (.int (if j > i then j else i)) H):=by
  intro c s σ H b l Q I r h
  obtain ⟨i,j,rfl,q⟩:=h
  obtain ⟨u,e,rfl,⟨t,rfl⟩,⟨f,rfl⟩⟩:=zg5 r
  refine max_two_ints (I.ok.hd d) fun g tk k=>⟨_,H,I.kept k,?_,q⟩
  by_cases a:j > i
  · rw [if_pos a,if_pos a];exact ⟨_,rfl⟩
  · rw [if_neg a,if_neg a];exact ⟨_,rfl⟩
theorem zd9 (d:X.calm=true):vO X (.builtin "min") (fun b H Q=>∃ i j,b=[.int i,.int j]∧Q (.int (if j < i then j else i)) H):=by
  intro c s σ H b l Q I r h
  obtain ⟨i,j,rfl,q⟩:=h
  obtain ⟨u,e,rfl,⟨t,rfl⟩,⟨f,rfl⟩⟩:=zg5 r
  refine min_two_ints (I.ok.hd d) fun g tk k=>⟨_,H,I.kept k,?_,q⟩
  by_cases a:j < i
  · rw [if_pos a,if_pos a];exact ⟨_,rfl⟩
  · rw [if_neg a,if_neg a];exact ⟨_,rfl⟩
end
set_option genInjectivity false in
set_option genSizeOf false in
set_option genCtorIdx false in
structure zmn (h:Heap) (x dx C:Addr) (mA:Str→Option Value):Prop where
  obj:h.get? x=some (PySem.W.instObj C dx)
  ns:h.Ns1 dx mA
  ne:dx≠x
theorem zaZ {h:Heap}{d:Addr}{i:Str→Option Value}(n:h.Ns1 d i):∃ f,h.get? d=some f∧∀ b,PySem.W.lookIn b f=some (i b):=by
  obtain ⟨o,g,s,p,r,j,_,l⟩:=n
  refine ⟨o,p,fun b=>?_⟩
  have e:=l b
  unfold nsFind findBy at e
  rw [←Array.find?_toList] at e
  unfold PySem.W.lookIn
  rw [r]
  dsimp only
  split
  · rename_i y q
    rw [q] at e
    exact congrArg some e
  · rename_i q
    rw [q] at e
    have a:g.toList.any (·.refKey)=false:=by
      rw [List.any_eq_false]
      intro y m
      obtain ⟨z,t,c⟩:=j y (Array.mem_toList_iff.mp m)
      simp [DictEntry.refKey,c]
    have k:¬ g.toList.any (·.refKey)=true:=by rw [a];exact Bool.false_ne_true
    rw [if_neg k]
    exact congrArg some e
theorem zmn.look {h:Heap}{x c C:Addr}{d:Str→Option Value}(I:zmn h x c C d):∃ b,PySem.W.InstAt h x (PySem.W.instObj C c) C (some b)∧∀ a,PySem.W.lookIn a b=some (d a) :=
  let ⟨b,ho,hl⟩:=zaZ I.ns
  ⟨b,⟨I.obj,rfl,rfl,ho⟩,hl⟩
theorem zc8.some_of {v:V}{o:Option Value}(r:zc8 (some v) o):∃ u,o=some u∧yk v u:=by
  cases o with
  | none=>exact (show False from r).elim
  | some u=>exact ⟨u,rfl,r⟩
theorem zd1 {v:V}{u:Value}(r:yk v u):PySem.W.handedIn u=true:=by
  cases v with
  | non=>cases (show u=Value.none from r);rfl
  | bl b=>cases (show u=Value.bool b from r);rfl
  | int i=>obtain ⟨t,e⟩:=(show ∃ t,u=Value.int i t from r);cases e;rfl
  | str x=>obtain ⟨t,e⟩:=(show ∃ t,u=Value.str x t from r);cases e;rfl
  | byt b=>obtain ⟨t,e⟩:=(show ∃ t,u=Value.bytes b t from r);cases e;rfl
  | flt b=>obtain ⟨t,e⟩:=(show ∃ t,u=Value.float b t from r);cases e;rfl
  | ref a=>cases (show u=Value.ref a from r);rfl
  | ty n=>cases (show u=Value.type n from r);rfl
section
variable {P:Program}{w:World}{H H':Hp}{h h':Heap}{a C dx:Addr}{fs fs':List (Str × V)}
theorem zis (c:HOk P w H h)(e:H a=some (.ins C dx fs)):∃ b,zmn h a dx C b∧(∀ f,zc8 (fs.lookup f) (b f))∧PySem.Within b (fs.map (·.1))∧fs.length≤1000∧H dx=some (.own a):=by
  obtain ⟨d,z,i,g,b,n,r,q⟩:=(show yb P w H h a (.ins C dx fs) from c a _ e)
  exact ⟨b,⟨g,n,i⟩,r,q,z,d⟩
end
set_option genInjectivity false in
set_option genSizeOf false in
set_option genCtorIdx false in
structure Cls (K:PySem.W.Frag) (C:Addr):Prop where
  pg:PySem.W.plainGet K C Str.empty=true
  hd:PySem.W.hasDictIn K C=true
  po:PySem.W.plainOver K C=true
  sa:PySem.W.findIn K (.ref C) "__setattr__"=some (some (.builtin "object.__setattr__"))
theorem Cls.get {K:PySem.W.Frag}{C:Addr}(c:Cls K C)(f:Str):PySem.W.plainGet K C f=true:=c.pg
noncomputable def WZ (K:PySem.W.Frag)(C:Addr)(f:Str):Prop:=PySem.W.findIn K (.ref C) f=some none
section
variable {X:Cx}{pins:List (Addr × Obj)}{σ:St}{H:Hp}{s:Shared}{a C dx:Addr}{fs:List (Str × V)}{f:Str}{v:V}{A:Around}{E:Value→Shared→Prop}
theorem ziZ {a:Program}{w:World}{env:Env}{e:Expr}{f:Str}{b:Pos}{s:Shared}{Q:Value→Shared→Prop}(d:attributeBase e f env (eval e env)=eval e env)
    (h:wpAny (model a w) A (eval e env) (fun o c=>wpAny (model a w) A (getAttr o f true) Q E c) E s):wpAny (model a w) A (eval (.Attribute e f b) env) Q E s :=
  Attribute_any_ h (by rw [arm_eval_Attribute,d])
end
section
variable {X:Cx}{pins:List (Addr × Obj)}{σ:St}{H:Hp}{s:Shared}{A:Around}{E:Value→Shared→Prop}{Q:Value→Shared→Prop}{c:Value}{b:Bool}
inductive zcp (K:PySem.W.Frag) (H:Hp):V→Value→Prop where
  | non:zcp K H .non (.type "NoneType")
  | bl (x:Bool):zcp K H (.bl x) (.type "bool")
  | int (i:Int):zcp K H (.int i) (.type "int")
  | str (x:Str):zcp K H (.str x) (.type "str")
  | flt (x:UInt64):zcp K H (.flt x) (.type "float")
  | lst {a:Addr} {xs:List V} (e:H a=some (.lst xs)):zcp K H (.ref a) (.type "list")
  | frz {a:Addr} {o:Obj} {xs:List V} (e:H a=some (.frz o (.lst xs))):zcp K H (.ref a) (.type "list")
  | tup {a:Addr} {xs:List V} (e:H a=some (.tup xs)):zcp K H (.ref a) (.type "tuple")
  | dK {a:Addr} {kvs:List (Key × V)} (e:H a=some (.dK kvs)):zcp K H (.ref a) (.type "dict")
  | dT {a:Addr} {kvs:List (List Key × V)} (e:H a=some (.dT kvs)):zcp K H (.ref a) (.type "dict")
  | ins {a C dx:Addr} {fs:List (Str × V)} (e:H a=some (.ins C dx fs)) (cl:Cls K C) (ha:PySem.W.findIn K (.ref C) "__class__"=some (some (.builtin "object.__class__")))
      (hn:PySem.W.specialIn K (.builtin "object.__class__") "__get__"=some (some (.builtin "getset_descriptor.__get__"))) (htk:PySem.W.takesIn K (.builtin "object.__class__")=some true)
      (hm:PySem.W.mroIn K C (.type "object")=some true):zcp K H (.ref a) (.ref C)
theorem zdF {x:V}{u t:Value}(I:Inv X pins σ H s)(d:yk x u)(ty:zcp X.K H x t)(e:PySem.W.kitOne X.K t c=some b)(h:∀ tk,Q (.bool b) { s with toks:=tk }) :
    wpAny (model X.prog X.w) A (call (.builtin "isinstance") [u,c]) Q E s:=by
  cases ty with
  | non=>cases (show u=Value.none from d);exact PySem.W.kia_one PySem.W.kitx_none I.kIn True.intro e (fun z=>nomatch z) h
  | bl y=>cases (show u=Value.bool y from d);exact PySem.W.kia_one PySem.W.kitx_bool I.kIn True.intro e (fun z=>nomatch z) h
  | int i=>obtain ⟨t,q⟩:=(show ∃ t,u=Value.int i t from d);cases q;exact PySem.W.kia_one PySem.W.kitx_int I.kIn True.intro e (fun z=>nomatch z) h
  | str y=>obtain ⟨t,q⟩:=(show ∃ t,u=Value.str y t from d);cases q;exact PySem.W.kia_one PySem.W.kitx_str I.kIn True.intro e (fun z=>nomatch z) h
  | flt y=>obtain ⟨t,q⟩:=(show ∃ t,u=Value.float y t from d);cases q;exact PySem.W.kia_one PySem.W.kitx_float I.kIn True.intro e (fun z=>nomatch z) h
  | @lst a k f =>
    cases (show u=Value.ref a from d)
    obtain ⟨_,_,n,_,g⟩:=(show yb X.prog X.w H s.heap a (.lst k) from I.hok a _ f)
    exact PySem.W.kia_one PySem.W.kitx_list I.kIn ⟨_,g,rfl⟩ e (fun z=>nomatch z) h
  | @frz a D k f =>
    cases (show u=Value.ref a from d)
    obtain ⟨_,_,_,n,_,g⟩:=(show yb X.prog X.w H s.heap a (.frz D (.lst k)) from I.hok a _ f)
    exact PySem.W.kia_one PySem.W.kitx_list I.kIn ⟨_,g,rfl⟩ e (fun z=>nomatch z) h
  | @tup a k f =>
    cases (show u=Value.ref a from d)
    obtain ⟨_,_,_,p⟩:=(show yb X.prog X.w H s.heap a (.tup k) from I.hok a _ f)
    obtain ⟨o,g,l,_⟩:=p
    exact PySem.W.kia_one PySem.W.kitx_tuple I.kIn ⟨o,g,l⟩ e (fun z=>nomatch z) h
  | @dK a j f =>
    cases (show u=Value.ref a from d)
    obtain ⟨_,_,N,_,p⟩:=(show yb X.prog X.w H s.heap a (.dK j) from I.hok a _ f)
    obtain ⟨o,B,v,g,l,_⟩:=p
    exact PySem.W.kia_one PySem.W.kitx_dict I.kIn ⟨o,g,l.1⟩ e (fun z=>nomatch z) h
  | @dT a j f =>
    cases (show u=Value.ref a from d)
    obtain ⟨_,_,k,_,o,B,v,g,l,_⟩:=(show yb X.prog X.w H s.heap a (.dT j) from I.hok a _ f)
    exact PySem.W.kia_one PySem.W.kitx_dict I.kIn ⟨o,g,l.1⟩ e (fun z=>nomatch z) h
  | @ins a C L K f r G F m w =>
    cases (show u=Value.ref a from d)
    obtain ⟨P,O,_⟩:=zis I.hok f
    obtain ⟨M,J,_⟩:=O.look
    exact PySem.W.kia_one (PySem.W.kitx_own (r.get _) r.hd G F m w) I.kIn J e (fun z=>nomatch z) h
end
set_option genInjectivity false in
set_option genSizeOf false in
set_option genCtorIdx false in
structure yL (k:Nat) (A:Around):Prop where
  hd:A.handled=none
  dp:A.depth+3*k+5 < recursionLimit
  un:A.units+16*k+200 < cLine
theorem yL.mono {j k:Nat}{A:Around}(r:yL k A)(h:j≤k):yL j A:=⟨r.hd,by have:=r.dp;omega,by have:=r.un;omega⟩
theorem yL.deeper {k:Nat}{A:Around}(r:yL (k+1) A)(env:Env):yL k (A.deeper env) :=
  ⟨r.hd,by have:=r.dp;show A.depth+1+3*k+5 < _;omega,by have:=r.un;show A.units+3+16*k+200 < _;omega⟩
theorem yL.in1 {k:Nat}{A:Around}(r:yL (k+1) A):yL k A.in1 :=
  ⟨r.hd,by have:=r.dp;show A.depth+3*k+5 < _;omega,by have:=r.un;show A.units+1+16*k+200 < _;omega⟩
theorem zc9 {A:Around} {C:Addr} {b:List Value} {a:List (Str × Value)}:(A.under (.builtin "type.__call__" ⟨.ref C::b,a⟩)).depth=A.depth+1:=by
  first | rfl | simp [Around.under,Code.weight,Code.isCreation,Code.isGuard,Code.isCaller,Code.frames,Code.isFrame,guardIds]
theorem zc1 {A:Around} {C:Addr} {b:List Value} {a:List (Str × Value)}:(A.under (.builtin "type.__call__" ⟨.ref C::b,a⟩)).units=A.units+1:=by
  first | rfl | simp [Around.under,Code.cUnits,Code.frames,Code.isFrame]
theorem yL.make {k:Nat} {A:Around} (r:yL (k+1) A) (C:Addr) (b:List Value) (a:List (Str × Value)):yL k (A.under (.builtin "type.__call__" ⟨.ref C::b,a⟩)) :=
  ⟨r.hd,by have:=r.dp;rw [zc9];omega,by have:=r.un;rw [zc1];omega⟩
theorem yL.depth {k:Nat}{A:Around}(r:yL k A):A.depth < recursionLimit:=by have:=r.dp;omega
theorem yL.units {k:Nat}{A:Around}(r:yL k A):A.units+64 < cLine:=by have:=r.un;omega
theorem yL.units0 {k:Nat}{A:Around}(r:yL k A):A.units < cLine:=by have:=r.un;omega
noncomputable def zhd:TA:=fun _ H Q=>Q [] H
noncomputable def Xh (ta:TE)(a:TA):TA:=fun σ H Q=>ta σ H fun x H1=>a σ H1 fun b H2=>Q (x::b) H2
section
variable {X:Cx}{e:Expr}{es:List Expr}{te:TE}{t:TA}{pos:Pos}
theorem z5:PA X [] zhd:=fun _ _ _ _ H Q I h=>Calls.spliced_nil ⟨[],H,I,.nil,h⟩
theorem zr (g:PE X e te)(l:PA X es t)(f:starEach (e::es) X.env=(false,eval e X.env)::starEach es X.env:=by rfl):PA X (e::es) (Xh te t):=by
  intro pos a s σ H Q I h
  rw [f]
  show wpAny _ _ (spliced ((false,eval e X.env)::backTo pos (starEach es X.env))) _ _ s
  refine Calls.spliced_cons (thn (g a s σ H _ I h) fun u b hh9=>?_)
  obtain ⟨x,H1,I1,c,d⟩:=hh9
  exact thn (l pos a b σ H1 _ I1 d) fun n m ⟨k,H2,I2,j,i⟩=>⟨x::k,H2,I2,.cons c j,i⟩
noncomputable def tTup (t:TA):TE:=fun σ H Q=>t σ H fun a H1=>a.length≤sizeLine∧∀ p,H1 p=none→Q (.ref p) (upd H1 p (.tup a))
noncomputable def zj8 (t:TA):TE:=fun σ H Q=>t σ H fun a H1=>a.length≤sizeLine∧∀ p,H1 p=none→Q (.ref p) (upd H1 p (.lst a))
theorem zkM {x1}(h:PA X es t):PE X (.Tuple es x1 pos) (tTup t):=by
  intro a s σ H Q I hq
  refine wpAny_Tuple_spliced (thn (h pos a s σ H _ I hq) fun g c ⟨f,H1,I1,r,z,q⟩=>⟨by rw [←r.length];exact z,?_⟩)
  have d:H1 c.heap.objs.size=none:=I1.hok.fresh (Nat.le_refl _)
  refine ⟨.ref c.heap.objs.size,upd H1 c.heap.objs.size (.tup f),I1.laid (t':=c.toks) (fun b u e=>Heap.get?_push_of_some _ e) (Nat.le_refl _) ?_,rfl,q _ d⟩
  exact ⟨z,g,r,⟨_,Heap.get?_push_size _ rfl,rfl,_,rfl⟩⟩
theorem Za (h:PA X es t):PE X (.List es pos) (zj8 t):=by
  intro a s σ H Q I hq
  refine wpAny_List_spliced (thn (h pos a s σ H _ I hq) fun g c ⟨f,H1,I1,r,z,q⟩=>⟨by rw [←r.length];exact z,?_⟩)
  have d:H1 c.heap.objs.size=none:=I1.hok.fresh (Nat.le_refl _)
  refine ⟨.ref c.heap.objs.size,upd H1 c.heap.objs.size (.lst f),I1.laid (t':=c.toks) (fun b u e=>Heap.get?_push_of_some _ e) (Nat.le_refl _) ?_,rfl,q _ d⟩
  exact ⟨z,g,0,r,Heap.get?_push_size _ rfl⟩
end
noncomputable abbrev Sp:=List V→Hp→VK→XK→Prop
noncomputable abbrev CXT:=List Env→Hp→Shared→XK→Value→Shared→Prop
structure zh8 (P:Program) (w:World) (K:PySem.W.Frag) (mg:Str→Option Value) (base:Heap) (A:Around) (outer:List Env) (s:Shared) (H:Hp):Prop where
  frames:A.frames=some outer
  mod:Mod K mg base
  bs:Bs base s.heap H
  bsz:base.objs.size≤s.heap.objs.size
  funs:s.heap.FunFrames base outer
  frf:∀ b∈frs outer,H b=none
  hok:HOk P w H s.heap
  bare:AllBare s.gens
noncomputable def CE (outer:List Env)(P:Program)(w:World)(H:Hp)(s:Shared)(Q:VK)(u:Value)(a:Shared):Prop :=
  ∃ v H',a.os=s.os∧AllBare a.gens∧Un (frs outer) [] H H' s.heap a.heap∧HOk P w H' a.heap∧yk v u∧Q v H'
noncomputable def CR (CX:CXT)(outer:List Env)(P:Program)(w:World)(H:Hp)(s:Shared)(Q:VK)(E:XK)(r:Result)(a:Shared):Prop :=
  match r with
  | .ok (.ret u)=>CE outer P w H s Q u a
  | .ok _=>False
  | .error e=>CX outer H s E e a
set_option genInjectivity false in
set_option genSizeOf false in
set_option genCtorIdx false in
structure zJ (P:Program) (w:World) (K:PySem.W.Frag) (mg:Str→Option Value) (base:Heap) (CX:CXT) (k:Nat) (f:Addr) (fd:FuncData) (ps:List Str) (sp:Sp):Prop where
  len:∀ vs H Q E,sp vs H Q E→vs.length=ps.length
  run:∀ (A:Around) (outer:List Env) (s:Shared) (H:Hp) (args:Args) (us:List Value) (vs:List V) (Q:VK) (E:XK),yL k A→zh8 P w K mg base A outer s H→BindsTo s fd args (ps.zip us)→ye vs us→sp vs H Q E →
    codeAny (model P w) A (.call (.ref f) args) (CR CX outer P w H s Q E) s
theorem zJ.mono {P:Program}{w:World}{K:PySem.W.Frag}{c:Str→Option Value}{a:Heap}{CX:CXT}{j k:Nat}{f:Addr}{b:FuncData}{ps:List Str}{d:Sp}(F:zJ P w K c a CX j f b ps d)(h:j≤k) :
    zJ P w K c a CX k f b ps d:=⟨F.len,fun A outer s H args e g Q E i=>F.run A outer s H args e g Q E (i.mono h)⟩
theorem zJ.imp {P:Program}{w:World}{K:PySem.W.Frag}{e:Str→Option Value}{a:Heap}{CX:CXT}{k:Nat}{f:Addr}{d:FuncData}{g:List Str}{i c:Sp}(F:zJ P w K e a CX k f d g i)
    (h:∀ b H Q E,c b H Q E→i b H Q E):zJ P w K e a CX k f d g c :=
  ⟨fun b H Q E q=>F.len b H Q E (h _ _ _ _ q),fun A outer s H args m b Q E n o l j p=>F.run A outer s H args m b Q E n o l j (h _ _ _ _ p)⟩
theorem zh8.make {P:Program}{w:World}{K:PySem.W.Frag}{b:Str→Option Value}{a:Heap}{A:Around}{outer:List Env}{s:Shared}{H:Hp}(e:zh8 P w K b a A outer s H)(C:Addr)(d:List Value)(c:List (Str × Value)) :
    zh8 P w K b a (A.under (.builtin "type.__call__" ⟨.ref C::d,c⟩)) outer s H:=⟨by first | exact e.frames | (simpa [Around.under,Code.envs,Code.isFrame,pushEnvs] using e.frames),e.mod,e.bs,e.bsz,e.funs,e.frf,e.hok,e.bare⟩
section
variable {X:Cx}{pins:List (Addr × Obj)}{σ:St}{H:Hp}{s s':Shared}
theorem Inv.env0 (I:Inv X pins σ H s):zh8 X.prog X.w X.K X.mg X.base X.A X.stack s H :=
  ⟨I.ok.frames,I.ok.mod,I.bs,Nat.le_trans I.ok.bsz I.sz,I.stack,I.stkFree,I.hok,I.bare⟩
theorem Inv.after {Q:VK}{u:Value}(I:Inv X pins σ H s)(h:CE X.stack X.prog X.w H s Q u s'):EP X pins σ Q u s':=by
  obtain ⟨v,H',os,a,i,c,r,q⟩:=h
  obtain ⟨f,g,d,t,e⟩:=s'
  obtain rfl:e=s.os:=os
  exact ⟨v,H',I.call (h':=f) (g':=g) (d':=d) (t':=t) (ch:=[]) i c a (fun b z=>absurd z (by simp)),r,q⟩
end
noncomputable def zjo (b:Sp)(a:List V)(E:XK)(t:TA):TE:=fun σ H Q=>t σ H fun c H1=>b (c++a) H1 Q E
noncomputable def vH (K:PySem.W.Frag)(d:FuncData)(c:List Str)(b:List Value):Prop :=
  ∀ (s:Shared) (a:List Value),K.In s.heap→(a++b).length=c.length→BindsTo s d ⟨a,[]⟩ (c.zip (a++b))
theorem vH.all {K:PySem.W.Frag}{d:FuncData}{b:List Str}(h:∀ a:List Value,a.length=b.length→bindArgs d ⟨a,[]⟩=pure (b.zip a)):vH K d b []:=fun s a _ c=>by
  rw [List.append_nil] at c ⊢
  exact .of_eq (h a c)
noncomputable def Yw (CX:CXT)(X:Cx)(E:XK):Prop:=∀ (a:List (Addr × Obj)) (σ:St) (H:Hp) (s:Shared) (e:Value) (b:Shared),Inv X a σ H s→CX X.stack H s E e b→X.xe e b
section
variable {X:Cx}{CX:CXT}{k:Nat}{f C:Addr}{fd:FuncData}{ps:List Str}{sp:Sp}{dvs:List V}{ds:List Value}{E:XK}{x m:Str}{p pos apos:Pos}{e o:Expr}{es:List Expr}{ta:TE}{t:TA}
theorem zhP {a:List (Addr × Obj)}{σ:St}{H:Hp}{s:Shared}{Q:VK}{b:List Value}{c:List V}(F:zJ X.prog X.w X.K X.mg X.base CX k f fd ps sp)(n:yL k X.A)(j:vH X.K fd ps ds)(m:ye dvs ds)(l:Yw CX X E)
    (I:Inv X a σ H s) (r:ye c b) (h:sp (c++dvs) H Q E):wpAny (model X.prog X.w) X.A (call (.ref f) b) (EP X a σ Q) X.xe s:=by
  have d:ye (c++dvs) (b++ds):=r.append m
  have g:(b++ds).length=ps.length:=by rw [←d.length];exact F.len _ _ _ _ h
  refine wpAny_call (codeAny_mono (F.run X.A X.stack s H ⟨b,[]⟩ (b++ds) (c++dvs) Q E n I.env0 (j s b I.kIn g) d h) fun r i hq=>?_)
  cases r with
  | error e=>exact l a σ H s e i I hq
  | ok o =>
    cases o with
    | ret u=>exact I.after hq
    | next=>exact False.elim hq
    | brk=>exact False.elim hq
    | cont=>exact False.elim hq
theorem ze2 (F:zJ X.prog X.w X.K X.mg X.base CX k f fd ps sp)(o:yL k X.A)(u:Gl X x)(g:X.mg x=some (.ref f))(d:PySem.W.keepIn X.K (.ref f)=true)(i:vH X.K fd ps ds)(n:ye dvs ds)(j:Yw CX X E)
    (m:PA X (e::es) t) (b:(x == ("__debug__":Str))=false:=by decide) (l:starEach (e::es) X.env=(false,eval e X.env)::starEach es X.env:=by rfl) (c:(backTo pos (starEach es X.env)).any (·.1)=false:=by rfl) :
    PE X (.Call (.Name x p) (e::es) [] pos) (zjo sp dvs E t):=by
  intro a s σ H Q I h
  refine wpAny_Call_Name_kw (ZI I u g ?_ b)
  refine PySem.W.callWith_K (h₀:=X.base) I.ok.mod.kin d (thn (m pos a s σ H _ I h) fun w v ⟨y,H1,I1,r,q⟩=>⟨I1.kIn,?_⟩) l c
  exact zhP F o i n j I1 r q
end
structure xr (N P:List Str) (sc:Scope):Prop where
  kind:sc.kind=.function
  co:sc.isCoroutine=false
  gen:sc.isGenerator=false
  nd:N.Nodup
  pre:N.take P.length=P
  par:∀ x∈P,sc.names.lookup x=some .local∨sc.names.lookup x=some .cell
  nofree:∀ y∈sc.names,y.2≠.free
theorem zan {b:Str→Option NameKind}{x:Str}:∀ {a:List (Str × Value)} {m:Str→Option Value},(∀ v,(x,v)∉a)→bindL b a m x=m x
  | [],_,_=>rfl
  | (n,v)::r,m,h=>by
    unfold bindL
    rw [zan fun w hw=>h w (List.mem_cons_of_mem _ hw)]
    split
    · have:x≠n:=by rintro rfl;exact h v List.mem_cons_self
      simp [this]
    · rfl
theorem zaP {b:Str→Option NameKind}{x:Str}:∀ {a:List (Str × Value)} {m:Str→Option Value},(∀ v,(x,v)∉a)→bindC b a m x=m x
  | [],_,_=>rfl
  | (n,v)::r,m,h=>by
    unfold bindC
    rw [zaP fun w hw=>h w (List.mem_cons_of_mem _ hw)]
    split
    · rfl
    · have:x≠n:=by rintro rfl;exact h v List.mem_cons_self
      simp [this]
theorem zaf {a:Str→Option NameKind}{x:Str}{v:Value}:∀ {P:List Str} {b:List Value} {i:Nat} {m:Str→Option Value},P.Nodup→P[i]?=some x→b[i]?=some v→a x=some .local →
    bindL a (P.zip b) m x=some v
  | [],_,_,_,_,h,_,_=>by simp at h
  | _::_,[],_,_,_,_,h,_=>by simp at h
  | p::P,w::b,0,m,nd,h1,h2,hk=>by
    simp at h1 h2;subst h1;subst h2
    show bindL a ((p,w)::P.zip b) m p=_
    unfold bindL
    rw [zan fun v c=>(List.nodup_cons.mp nd).1 (List.of_mem_zip c).1,if_pos hk]
    simp
  | p::P,w::b,i+1,m,nd,h1,h2,hk=>by
    show bindL a ((p,w)::P.zip b) m x=_
    unfold bindL
    exact zaf (i:=i) (List.nodup_cons.mp nd).2 (by simpa using h1) (by simpa using h2) hk
theorem za9 {a:Str→Option NameKind}{x:Str}{v:Value}:∀ {P:List Str} {b:List Value} {i:Nat} {m:Str→Option Value},P.Nodup→P[i]?=some x→b[i]?=some v→a x≠some .local →
    bindC a (P.zip b) m x=some v
  | [],_,_,_,_,h,_,_=>by simp at h
  | _::_,[],_,_,_,_,h,_=>by simp at h
  | p::P,w::b,0,m,nd,h1,h2,hk=>by
    simp at h1 h2;subst h1;subst h2
    show bindC a ((p,w)::P.zip b) m p=_
    unfold bindC
    rw [zaP fun v c=>(List.nodup_cons.mp nd).1 (List.of_mem_zip c).1,if_neg hk]
    simp
  | p::P,w::b,i+1,m,nd,h1,h2,hk=>by
    show bindC a ((p,w)::P.zip b) m x=_
    unfold bindC
    exact za9 (i:=i) (List.nodup_cons.mp nd).2 (by simpa using h1) (by simpa using h2) hk
noncomputable def start (N:List Str)(a:List V):St:=a.map some++List.replicate (N.length - a.length) none
noncomputable def wS (CX:CXT)(P:Program)(w:World)(K:PySem.W.Frag)(mg:Str→Option Value)(base:Heap)(N:List Str)(qual:Str)(scope:Scope)(f:Addr)(cd:Value)(A:Around)(outer:List Env)(s:Shared)(H:Hp)(E:XK):Cx where
  prog:=P
  w:=w
  K:=K
  mg:=mg
  base:=base
  A:=A.deeper (envOfC qual scope s.heap.objs.size f cd)
  N:=N
  s₀:=s
  H₀:=H
  env:=envOfC qual scope s.heap.objs.size f cd
  outer:=outer
  stack:=envOfC qual scope s.heap.objs.size f cd::outer
  ex:=[]
  calm:=true
  fn:=fun _=>true
  pn:=[]
  xe:=fun e s'=>wpAny (model P w) (A.deeper (envOfC qual scope s.heap.objs.size f cd)) (leaving (envOfC qual scope s.heap.objs.size f cd) e) (fun _ s''=>CX outer H s E e s'') (fun e' s''=>CX outer H s E e' s'') s'
theorem zcK {sc:Scope}{n:Nat}{x:Str}(h:sc.names.lookup x=some .cell):∃ c,(cellsFrom n sc.names []).lookup x=some c:=by
  have q:=PySem.W.cellsFrom_some sc.names n [] (.inl h)
  exact Option.isSome_iff_exists.mp q
theorem za3 {CX:CXT}{P:Program}{w:World}{K:PySem.W.Frag}{M:Str→Option Value}{l:Heap}{N C:List Str}{g:Str}{d:Scope}{f:Addr}{J:Value}{A:Around}{outer:List Env}{s Q:Shared}{H:Hp}{E:XK}{L:List Value}{o:List V}
    (S:xr N C d) (T:A.handled=none) (m:zh8 P w K M l A outer s H) (Y:o.length=C.length) (r:ye o L)
    (x:InCallC s s.heap.objs.size (bindL (envOfC g d s.heap.objs.size f J).kindOf (C.zip L) fun _=>none) (cellsFrom (s.heap.objs.size+1) d.names []) (bindC (envOfC g d s.heap.objs.size f J).kindOf (C.zip L) fun _=>none) Q) :
    Inv (wS CX P w K M l N g d f J A outer s H E) [] (start N o) H Q:=by
  have U:C.length≤N.length:=by have:=congrArg List.length S.pre;rw [List.length_take] at this;omega
  obtain ⟨I,tk,rfl,R⟩:=x.done
  have B:∀ b:Addr,b∉(wS CX P w K M l N g d f J A outer s H E).ex:=fun b z=>absurd (show b∈([]:List Addr) from z) (by simp)
  refine ⟨⟨m.mod,S.kind,rfl,rfl,Nat.le_refl _,fun y z c I j=>?_,fun y t=>?_,fun y c _ h=>?_,fun _=>T,Around.frames_deeper m.frames,.inr ⟨rfl,rfl⟩,fun b z=>absurd z (B b),m.bs,m.bsz,fun b _ _=>B b,fun b z=>absurd z (B b),m.funs,m.frf⟩,
    rfl,m.bare,Un.kept R,⟨_,x.toInCall.ns,fun i y v I j Z=>?_⟩,fun y c h=>⟨_,x.cell y c h⟩,m.hok.fresh (Nat.le_refl _),fun y c h=>?_,fun p F=>absurd (show p∈([]:List (Addr × Obj)) from F) (by simp),m.hok.kept R,?_⟩
  · exact name_of_addr x.apart (PySem.mem_of_lookup I) (PySem.mem_of_lookup j)
  · have t:d.names.lookup y=some .cell∨d.names.lookup y=some .free:=t
    rcases t with t | t
    · exact zcK t
    · exact absurd rfl (S.nofree _ (PySem.mem_of_lookup t))
  · exact Nat.le_of_lt (x.above y c (PySem.mem_of_lookup h))
  · have G:i < o.length:=by
      unfold start at j
      by_cases G:i < o.length
      · exact G
      · rw [List.getElem?_append_right (by simpa using G)] at j
        rw [List.getElem?_replicate] at j
        split at j <;> cases j
    have X:o[i]?=some v:=by
      unfold start at j
      rw [List.getElem?_append_left (by simpa using G),List.getElem?_map] at j
      cases e:o[i]? with
      | none=>rw [e] at j;cases j
      | some a=>rw [e] at j;cases j;rfl
    obtain ⟨u,O,W⟩:=r.get X
    have F:C[i]?=some y:=by
      rw [←S.pre,List.getElem?_take_of_lt (by omega)];exact I
    have D:C.Nodup:=by rw [←S.pre];exact S.nd.sublist (List.take_sublist _ _)
    refine ⟨u,W,?_⟩
    rcases S.par y (List.mem_of_getElem? F) with k | k
    · exact .inl ⟨k,zaf D F O k⟩
    · obtain ⟨c,e⟩:=zcK (n:=s.heap.objs.size+1) k
      refine .inr ⟨.inl k,c,e,?_⟩
      have q:=x.cell y c e
      rw [za9 D F O (by show d.names.lookup y≠_;rw [k];decide)] at q
      exact q
  · exact m.hok.fresh (Nat.le_of_lt (x.above y c (PySem.mem_of_lookup h)))
  · unfold start
    show _=N.length
    rw [List.length_append,List.length_map,List.length_replicate]
    omega
theorem zil {CX:CXT}{P:Program}{w:World}{K:PySem.W.Frag}{F:Str→Option Value}{h:Heap}{k:Nat}{f:Addr}{j c:Str}{g:Arguments}{body:List Stmt}{a:Scope}{dV kV z Y d ct oc:Value}{Z od:Option Addr}
    {R:Array (Option Value)} {N G:List Str} {U:Sp} (lk:K.lookup f=some ⟨oc,od,.func (PySem.W.fnOf j c g body a dV kV z Y Z d ct),R⟩) (W:PySem.W.codeIn K d c=true) (S:xr N G a)
    (C:∀ i H Q E,U i H Q E→i.length=G.length)
    (l:∀ (A:Around) (outer:List Env) (s:Shared) (H:Hp) (i:List V) (Q:VK) (E:XK),yL k (A.deeper (envOfC c a s.heap.objs.size f d))→U i H Q E →
      ∃ t,PSs (wS CX P w K F h N c a f d A outer s H E) body t∧t { nx:=fun _ H'=>Q .non H',rt:=Q } (start N i) H) :
    zJ P w K F h CX (k+1) f (PySem.W.fnOf j c g body a dV kV z Y Z d ct) G U:=by
  refine ⟨C,fun A outer s H args us i Q E O B hb r D=>?_⟩
  have hl:=C _ _ _ _ D
  have KX:K.In s.heap:=B.mod.kin.keeps fun b o e=>(B.bs.1 b o e).1
  have lim:s.heap.NoLimit:=B.mod.nolimit.keeps fun b o e=>(B.bs.1 b o e).1
  have m:∀ y∈G.zip us,a.names.lookup y.1=some .local∨(a.names.lookup y.1=some .cell∧((cellsFrom (s.heap.objs.size+1) a.names []).lookup y.1).isSome=true):=fun ⟨n,v⟩ hy=>by
    rcases S.par n (List.of_mem_zip hy).1 with q | q
    · exact .inl q
    · exact .inr ⟨q,PySem.W.cellsFrom_some _ _ _ (.inl q)⟩
  refine codeAny_call_function O.depth (KX _ _ lk) rfl S.co S.gen rfl (PySem.W.codeRec_of KX W) (hb _ _ _ _ ?_)
  refine wpAny_newFunctionEnv_cells S.kind m fun env he X x=>?_
  subst he
  refine ⟨lim.keeps x.toInCall.keep,codeAny_func ?_⟩
  obtain ⟨t,ht,hq⟩:=l A outer s H i Q E (O.deeper _) D
  have I:Inv (wS CX P w K F h N c a f d A outer s H E) [] (start N i) H X:=za3 S O.hd B hl r x
  refine wpAny_mono (ht [] X (start N i) H _ I hq) (fun fl T p=>?_) fun e T p=>p
  have fin:∀ {L:St} {H':Hp} {v:V} {u:Value},Inv (wS CX P w K F h N c a f d A outer s H E) [] L H' T→yk v u→Q v H'→CE outer P w H s Q u T :=
    fun {L H' v u} J M q=>⟨v,H',J.os,J.bare,J.base,J.hok,M,q⟩
  cases fl with
  | ret u =>
    obtain ⟨v,L,H',J,M,q⟩:=p
    exact fin J M q
  | next =>
    obtain ⟨L,H',J,q⟩:=p
    exact fin (v:=V.non) (u:=Value.none) J rfl q
  | brk =>
    obtain ⟨_,_,_,q⟩:=p
    exact False.elim q
  | cont =>
    obtain ⟨_,_,_,q⟩:=p
    exact False.elim q
section
variable {X:Cx}{x:Str}{p pos:Pos}{e:Expr}{es:List Expr}{t:TA}{id T:String}{r:List V→Hp→VK→Prop}
noncomputable def tCB (r:List V→Hp→VK→Prop)(t:TA):TE:=fun σ H Q=>t σ H fun a H1=>r a H1 Q
theorem z9 (l:vO X (.builtin id) r) (q:Gl X x) (g:X.mg x=none) (i:bootBuiltins x=some (.builtin id)) (m:PA X (e::es) t) (u:x≠"__name__":=by decide) (b:(x == ("__debug__":Str))=false:=by decide)
    (k:starEach (e::es) X.env=(false,eval e X.env)::starEach es X.env:=by rfl) (c:(backTo pos (starEach es X.env)).any (·.1)=false:=by rfl):PE X (.Call (.Name x p) (e::es) [] pos) (tCB r t):=by
  intro a s σ H Q I h
  refine wpAny_Call_Name_kw (vp I q g i ?_ u b)
  exact PyProof.Rows.callWith_builtin1 (thn (m pos a s σ H _ I h) fun n d ⟨o,H1,I1,f,j⟩=>l a d σ H1 o n Q I1 f j) k c
theorem zaF (l:vO X (.type T) r) (q:Gl X x) (g:X.mg x=none) (i:bootBuiltins x=some (.type T)) (m:PA X (e::es) t) (u:x≠"__name__":=by decide) (b:(x == ("__debug__":Str))=false:=by decide)
    (k:starEach (e::es) X.env=(false,eval e X.env)::starEach es X.env:=by rfl) (c:(backTo pos (starEach es X.env)).any (·.1)=false:=by rfl):PE X (.Call (.Name x p) (e::es) [] pos) (tCB r t):=by
  intro a s σ H Q I h
  refine wpAny_Call_Name_kw (vp I q g i ?_ u b)
  exact PyProof.Rows.callWith_type1 (thn (m pos a s σ H _ I h) fun n d ⟨o,H1,I1,f,j⟩=>l a d σ H1 o n Q I1 f j) k c
end
end L2
namespace HT
open PySem PyProof.Rows
noncomputable def lexLt:List Int→List Int→Bool
  | [],[]=>false
  | [],_::_=>true
  | _::_,[]=>false
  | x::xs,y::ys=>if x=y then lexLt xs ys else decide (x < y)
theorem lexLt_cons (x y:Int)(b a:List Int):lexLt (x::b) (y::a)=if x=y then lexLt b a else decide (x < y):=rfl
theorem V2:lexLt [] []=false:=rfl
theorem WN (y:Int)(a:List Int):lexLt [] (y::a)=true:=rfl
theorem WP (x:Int)(a:List Int):lexLt (x::a) []=false:=rfl
theorem zcG (A:Around)(s:Shared)(a:Int)(t:Tok)(c:Int)(u:Tok):∃ e,SeqAt.EqAt A s (.int a t) (.int c u) e∧(e=true↔a=c) :=
  ⟨(a == c),SeqAt.EqAt.int_int a t c u,by simp⟩
theorem zf4 (A:Around)(s:Shared)(a:Int)(t:Tok)(c:Int)(u:Tok)(b:Program)(w:World)(E:Value→Shared→Prop)(Q:Value→Shared→Prop)(h:Q (.bool (decide (a < c))) s) :
    wpAny (model b w) A (richCompare .Lt (.int a t) (.int c u)) Q E s :=
  (PyProof.Rows.lt_int h:wpAny (model b w) A (compareOp .Lt (.int a t) (.int c u)) Q E s)
section
open PySem.SeqAt
open PySem.AutoSeq1 (wpAny_loadPart')
open PySem.MeetsSeq PySem.MeetsSeq2 PySem.MeetsSeq3
theorem zae (l b:Addr)(i f:Array Value)(n T:Nat)(W dd2:Option Addr)(V K:Array (Option Value))(G F:List Int)(O:IntsAre i.toList G)(P:IntsAre f.toList F) :
    Meets (Builtin.«tuple.__lt__» ⟨[.ref l,.ref b],[]⟩)
      (fun _ R s=>s.heap.get? l=some { cls:=.type "tuple",dict:=W,data:=.seq i n,slots:=V }∧s.heap.get? b=some { cls:=.type "tuple",dict:=dd2,data:=.seq f T,slots:=K } ∧
        R (.ok (.ret (.bool (lexLt G F)))) s) :=
  .of_wp fun r w A R s h=>by
    obtain ⟨I,g,d,tk,os⟩:=s;obtain ⟨S,Q,h⟩:=h
    have f2:=AutoSeq1.sub_tuple_tuple
    have X:i.size=G.length:=by rw [←O.length];simp
    have Y:f.size=F.length:=by rw [←P.length];simp
    wp_walk using wpAny_loadPart' S,wpAny_loadPart' Q,wpAny_forIn_list _ (fun rest b L=>b.1=none∧L=⟨I,g,d,tk,os⟩∧∃ (H J:List Value) (k m:List Int),rest=H.zip J ∧
      IntsAre H k∧IntsAre J m∧k.length+f.size=m.length+i.size∧R (.ok (.ret (.bool (lexLt k m)))) ⟨I,g,d,tk,os⟩) _
    case turn =>
      rintro ⟨y,x⟩ rest b L ⟨C,rfl,H,J,k,m,p,B,o,j,v⟩
      cases B with
      | nil=>rw [List.zip_nil_left] at p;cases p
      | cons a t E =>
        cases o with
        | nil=>rw [List.zip_nil_right] at p;cases p
        | cons c u D =>
          rw [List.zip_cons_cons] at p
          injection p with hyx hrest
          injection hyx with hy hx
          subst hy hx
          rw [lexLt_cons] at v
          simp only [List.length_cons] at j
          obtain ⟨e,U,z⟩:=zcG A.in1 ⟨I,g,d,tk,os⟩ a t c u
          refine wpAny_bind (U r w _ _ ?_)
          cases e with
          | true =>
            rw [if_pos (z.mp rfl)] at v
            wp_walk
            exact ⟨rfl,rfl,_,_,_,_,hrest,E,D,by omega,v⟩
          | false =>
            rw [if_neg (fun q=>absurd (z.mpr q) Bool.false_ne_true)] at v
            have M:=zf4 A.in1 ⟨I,g,d,tk,os⟩ a t c u r w
            wp_walk using M
            exact ⟨_,rfl,by simpa using v⟩
    case fin =>
      rintro ⟨b1,b2⟩ L ⟨C,rfl,H,J,k,m,p,B,o,j,v⟩
      simp only at C
      subst C
      have N:lexLt k m=decide (i.size < f.size):=by
        cases B with
        | nil =>
          cases o with
          | nil =>
            simp only [List.length_nil] at j
            rw [V2]
            exact (decide_eq_false (by omega)).symm
          | cons c u hw =>
            simp only [List.length_nil,List.length_cons] at j
            rw [WN]
            exact (decide_eq_true (by omega)).symm
        | cons a t N =>
          cases o with
          | nil =>
            simp only [List.length_nil,List.length_cons] at j
            rw [WP]
            exact (decide_eq_false (by omega)).symm
          | cons c u hw =>
            rw [List.zip_cons_cons] at p
            cases p
      rw [N] at v
      wp_walk
      exact ⟨_,rfl,by simpa [Builtin.Tuple.tupleCompareSizes] using v⟩
    case h =>
      exact ⟨rfl,rfl,i.toList,f.toList,G,F,rfl,O,P,by omega,h⟩
end
section
variable {prog:Program}{w:World}{A:Around}{E:Value→Shared→Prop}{s:Shared}
theorem lt_tupInts {l b:Addr}{items items2:Array Value}{e d:List Int}{Q:Value→Shared→Prop}(p:IsTup s.heap l items)(r:IsTup s.heap b items2)(t:IntsAre items.toList e)(y:IntsAre items2.toList d)
    (u:A.units < cLine) (h:Q (.bool (lexLt e d)) s):wpAny (model prog w) A (compareOp .Lt (.ref l) (.ref b)) Q E s:=by
  obtain ⟨⟨cls,z,data,v⟩,m,k,n,o⟩:=id p
  obtain ⟨⟨j,dd2,g,i⟩,a,f,q,c⟩:=id r
  simp only at k o f c
  subst k o f c
  exact richCompare_meets_room (op:=.Lt) ⟨_,m,rfl⟩ ⟨_,a,rfl⟩ PySem.F.slot_tuple_lt PySem.F.entry_tuple_lt (PySem.F.args_tuple_lt_2 _ _) (zae l b items items2 n q z dd2 v i e d t y)
    ⟨m,a,show Value.bool (lexLt e d)≠Value.notImplemented∧Q (.bool (lexLt e d)) s from ⟨(fun x=>nomatch x),h⟩⟩ u
theorem cat_tup {t b:Addr}{d a:List Value}{Q:Value→Shared→Prop}(z:IsTup s.heap t d.toArray)(v:IsTup s.heap b a.toArray)(m:d≠[])
    (x:a=[]→Q (.ref t) s) (y:a≠[]→Q (.ref s.heap.objs.size) { s with heap:=s.heap.push { cls:=.type "tuple",data:=.seq (d++a).toArray } })
    (k:d.length+a.length≤sizeLine):wpAny (model prog w) A (binaryOp .Add (.ref t) (.ref b)) Q E s:=by
  obtain ⟨⟨cls,u,data,q⟩,i,p,n,r⟩:=id z
  obtain ⟨⟨o,dd2,j,g⟩,c,h,l,f⟩:=id v
  simp only at p r h f
  subst p r h f
  have e:d.toArray++a.toArray=(d++a).toArray:=by simp
  by_cases hw:a=[]
  · exact concat_meets ⟨_,i,rfl⟩ ⟨_,c,rfl⟩ noFill_tuple_add seq_tuple_add PySem.F.slot_tuple_add PySem.F.entry_tuple_add (PySem.F.args_tuple_add_2 _ _)
      (tuple_addW1 t b d.toArray a.toArray n l u dd2 q g (by simpa using m) (by simp [hw])) ⟨i,c,x hw⟩
  · refine concat_meets ⟨_,i,rfl⟩ ⟨_,c,rfl⟩ noFill_tuple_add seq_tuple_add PySem.F.slot_tuple_add PySem.F.entry_tuple_add (PySem.F.args_tuple_add_2 _ _)
      (tuple_addW2 t b d.toArray a.toArray n l u dd2 q g (by simpa using m) (by simpa using hw) (by rw [List.size_toArray,List.size_toArray];exact k)) ⟨i,c,?_⟩
    rw [e]
    exact y hw
noncomputable def sIx (n d:Nat):Option Int→Nat
  | none=>d
  | some v=>if v < 0 then (v+(n:Int)).toNat else min v.toNat n
theorem zkt (n d:Nat)(b:d≤n)(o:Option Int):sIx n d o≤n:=by
  cases o with
  | none=>exact b
  | some v =>
    show (if v < 0 then (v+(n:Int)).toNat else min v.toNat n)≤n
    by_cases a:v < 0
    · rw [if_pos a];omega
    · rw [if_neg a];exact Nat.min_le_right _ _
theorem zdM (v:Int)(n d:Nat):(if v < 0 then max (v+(n:Int)) 0 else min v (n:Int))=((sIx n d (some v):Nat):Int):=by
  show (if v < 0 then max (v+(n:Int)) 0 else min v (n:Int))=(((if v < 0 then (v+(n:Int)).toNat else min v.toNat n):Nat):Int)
  by_cases a:v < 0
  · simp only [if_pos a];omega
  · simp only [if_neg a];omega
theorem zcR (a b:Option Int)(n:Nat):Builtin.Slice.sliceAdjust a b 1 (n:Int)=(((sIx n 0 a:Nat):Int),((sIx n n b:Nat):Int)):=by
  have c:¬ ((1:Int) < 0):=by omega
  unfold Builtin.Slice.sliceAdjust
  simp only [c,if_false]
  refine Prod.ext ?_ ?_
  · cases a with
    | none=>rfl
    | some v=>exact zdM v n 0
  · cases b with
    | none=>rfl
    | some v=>exact zdM v n n
theorem zc5 (i j:Nat):Builtin.Slice.slicePlaces (i:Int) (j:Int) 1=j - i:=by
  unfold Builtin.Slice.slicePlaces
  have a:(1:Int) > 0:=by omega
  simp only [a,if_true,Int.ediv_one]
  split <;> omega
theorem Vl {v:Value}{o:Option Int}{Q:Option Int→Shared→Prop}(p:IsPart v o)(h:Q o s):wpAny (model prog w) A (Builtin.Slice.slicePartIndex v) Q E s:=by
  cases p with
  | none=>exact slicePart_none h
  | int i t=>exact slicePart_int h
theorem wV {g:Addr}{f e:Value}{a d:Option Int}{n:Nat}{Q:Int × Int × Nat→Shared→Prop}(l:s.heap.IsSliceOf g f e .none)(i:IsPart f a)(j:IsPart e d)
    (h:Q (((sIx n 0 a:Nat):Int),1,sIx n n d - sIx n 0 a) s):wpAny (model prog w) A (Builtin.Slice.sliceApplied (.ref g) (pure (n:Int))) Q E s:=by
  obtain ⟨os,b,k,c⟩:=id l
  unfold Builtin.Slice.sliceApplied Builtin.Slice.sliceFields
  refine wpAny_bind (wpAny_bind (wpAny_field b c (x:=f) rfl (wpAny_bind (wpAny_field b c (x:=e) rfl (wpAny_bind (wpAny_field b c (x:=.none) rfl (wpAny_pure ?_)))))))
  refine wpAny_bind (slicePart_none ?_)
  show wpAny _ _ (if ((1:Int) == 0)=true then _ else _) _ _ s
  rw [if_neg (by decide)]
  refine wpAny_bind (Vl i (wpAny_bind (Vl j (wpAny_bind (wpAny_pure ?_)))))
  show wpAny _ _ (match Builtin.Slice.sliceAdjust a d 1 (n:Int) with | (a,d)=>pure (a,(1:Int),Builtin.Slice.slicePlaces a d 1)) _ _ s
  rw [zcR a d n]
  show wpAny _ _ (pure (((sIx n 0 a:Nat):Int),(1:Int),Builtin.Slice.slicePlaces ((sIx n 0 a:Nat):Int) ((sIx n n d:Nat):Int) 1)) _ _ s
  rw [zc5]
  exact wpAny_pure h
theorem zgw (a:Array Value)(i k:Nat):((List.range k).filterMap fun (m:Nat)=>a[((i:Int)+(m:Int)*1).toNat]?).toArray=((a.toList.drop i).take k).toArray:=by
  have e:(fun (m:Nat)=>a[((i:Int)+(m:Int)*1).toNat]?)=fun m=>a[i+m]?:=by
    funext m
    have:((i:Int)+(m:Int)*1).toNat=i+m:=by omega
    rw [this]
  rw [e]
  have:=pick_run a i k
  rw [List.filterMap_map] at this
  have b:((fun x=>a[x]?) ∘ fun x=>i+x)=fun m=>a[i+m]?:=rfl
  rw [b] at this
  rw [this]
theorem getItem_tuple_cut {t k:Addr}{a:Array Value}{o n:Value}{c d:Option Int}{Q:Value→Shared→Prop}(e:IsTup s.heap t a)(l:s.heap.IsSliceOf k o n .none)(p:IsPart o c)(r:IsPart n d)
    (hw:¬ (sIx a.size 0 c=0∧sIx a.size a.size d=a.size))
    (h:Q (.ref s.heap.objs.size) { s with heap:=s.heap.push { cls:=.type "tuple",data:=.seq ((a.toList.drop (sIx a.size 0 c)).take (sIx a.size a.size d - sIx a.size 0 c)).toArray } })
    (v:a.size≤sizeLine):wpAny (model prog w) A (getItem (.ref t) (.ref k)) Q E s:=by
  have b:sizeOk (.seq ((a.toList.drop (sIx a.size 0 c)).take (sIx a.size a.size d - sIx a.size 0 c)).toArray):=by
    show ((a.toList.drop (sIx a.size 0 c)).take (sIx a.size a.size d - sIx a.size 0 c)).toArray.size≤sizeLine
    rw [List.size_toArray,List.length_take,List.length_drop,Array.length_toList]
    omega
  have z:sIx a.size a.size d≤a.size:=zkt _ _ (Nat.le_refl _) d
  obtain ⟨os,f,g,u⟩:=id l
  have j:s.TypeIs (.ref k) "slice":=⟨os,f,g⟩
  unfold getItem
  try with_reducible refine wpAny_holding ?_
  first | refine wpAny_bind (wpAny_pure ?_) | skip
  refine wpAny_bind (wpAny_sequenceKey e.typeIs (by decide) ?_)
  refine wpAny_bind (wpAny_callSpecial?_slot (name:=Str.ofString "__getitem__") e.typeIs PyProof.Rows.slot_tuple_getitem
    (wpAny_call_entry PyProof.Rows.slot_tuple_getitem e.typeIs entry_tuple_getitem ?_ (args_tuple_getitem _ _)))
  show wpAny _ _ (Builtin.Tuple.tupleItemsOf (.ref t)>>=_) _ _ s
  refine wpAny_bind (tupleItemsOf_ e ?_)
  refine wpAny_bind (wpAny_typeOf j ?_)
  rw [if_pos (by decide)]
  refine wpAny_bind (wV l p r ?_)
  have i:¬ ((((sIx a.size 0 c:Nat):Int) == 0&&(1:Int) == 1&&(sIx a.size a.size d - sIx a.size 0 c) == a.size)=true):=by
    intro q
    rw [Bool.and_eq_true,Bool.and_eq_true] at q
    have x:((sIx a.size 0 c:Nat):Int)=0:=eq_of_beq q.1.1
    have y:sIx a.size a.size d - sIx a.size 0 c=a.size:=eq_of_beq q.2
    exact hw ⟨by omega,by omega⟩
  show wpAny _ _ (if (((sIx a.size 0 c:Nat):Int) == 0&&(1:Int) == 1&&(sIx a.size a.size d - sIx a.size 0 c) == a.size)=true then _ else _) _ _ s
  rw [if_neg i,zgw]
  first
    | exact wpAny_bind (m:=Builtin.Tuple.tupleExact _) (wpAny_newObj_type (wpAny_pure ⟨_,rfl,wpAny_pure h⟩) b)
    | exact wpAny_bind (m:=Builtin.Tuple.tupleExact _) (wpAny_newObj_type (wpAny_bind (wpAny_pure (wpAny_pure ⟨_,rfl,wpAny_pure h⟩))) b)
    | exact wpAny_bind (wpAny_bind (m:=Builtin.Tuple.tupleExact _) (wpAny_newObj_type (wpAny_pure (wpAny_pure ⟨_,rfl,wpAny_pure h⟩)) b))
    | exact wpAny_bind (wpAny_bind (m:=Builtin.Tuple.tupleExact _) (wpAny_newObj_type (wpAny_pure ⟨_,rfl,wpAny_pure h⟩) b))
end
end HT
namespace L2
open PySem PySem.Spec PyProof.Rows
noncomputable abbrev TO:=St→Hp→(Option Int→Hp→Prop)→Prop
noncomputable def PO (X:Cx)(e:Option Expr)(t:TO):Prop :=
  ∀ (a:List (Addr × Obj)) (s:Shared) (σ:St) (H:Hp) (Q:Option Int→Hp→Prop),Inv X a σ H s→t σ H Q →
    wpAny (model X.prog X.w) X.A (evalPart e X.env) (fun u b=>∃ o H',Inv X a σ H' b∧IsPart u o∧Q o H') X.xe s
noncomputable def zja:TO:=fun _ H Q=>Q none H
noncomputable def zmt (t:TE):TO:=fun σ H Q=>t σ H fun x H1=>∃ i,x=.int i∧Q (some i) H1
theorem W5 {b:List Int}:∀ {a:List Value},ye (b.map V.int) a→IntsAre a b:=by
  induction b with
  | nil=>intro a r;rw [List.map_nil] at r;cases r;exact .nil
  | cons n b c =>
    intro a r
    rw [List.map_cons] at r
    cases r with
    | cons f d =>
      obtain ⟨t,e⟩:=f
      subst e
      exact .cons n t (c d)
section
variable {X:Cx}{e:Expr}{te:TE}{lo hi:Option Expr}{tl th:TO}{pos p2:Pos}
theorem ziF:PO X none zja:=by
  intro a s σ H Q I h
  rw [evalPart_none]
  exact wpAny_pure ⟨none,H,I,.none,h⟩
theorem zi2 (h:PE X e te):PO X (some e) (zmt te):=by
  intro a s σ H Q I hw
  rw [evalPart_some]
  refine thn (h a s σ H _ I hw) fun u d hh9=>?_
  obtain ⟨x,H1,I1,b,c⟩:=hh9
  obtain ⟨i,rfl,q⟩:=c
  obtain ⟨t,rfl⟩:=b
  exact ⟨some i,H1,I1,.int i t,q⟩
noncomputable def SlR (X:Cx)(r:V→Option Int→Option Int→Hp→VK→Prop):Prop :=
  ∀ (a:List (Addr × Obj)) (s:Shared) (σ:St) (H:Hp) (x:V) (v d b:Value) (lo hi:Option Int) (c:Addr) (Q:VK),Inv X a σ H s→yk x v→s.heap.IsSliceOf c d b .none→IsPart d lo→IsPart b hi→r x lo hi H Q →
    ∃ T id,typeLookup (.type T) "__getitem__"=pure (some (.builtin id))∧s.TypeIs v T∧wpAny (model X.prog X.w) X.A (getItem v (.ref c)) (EP X a σ Q) X.xe s
theorem SlR.or {r b:V→Option Int→Option Int→Hp→VK→Prop}(h:SlR X r)(k:SlR X b):SlR X (fun x lo hi H Q=>r x lo hi H Q∨b x lo hi H Q):=by
  intro a s σ H x v j f lo hi g Q I e d c i q
  rcases q with q | q
  · exact h a s σ H x v j f lo hi g Q I e d c i q
  · exact k a s σ H x v j f lo hi g Q I e d c i q
noncomputable def tSl (r:V→Option Int→Option Int→Hp→VK→Prop)(te:TE)(tl th:TO):TE:=fun σ H Q=>te σ H fun x H1=>tl σ H1 fun l H2=>th σ H2 fun u H3=>r x l u H3 Q
theorem zg3 {r:V→Option Int→Option Int→Hp→VK→Prop}(m:SlR X r)(p:PE X e te)(n:PO X lo tl)(w:PO X hi th):PE X (.Subscript e (.Slice lo hi none p2) pos) (tSl r te tl th):=by
  intro a s σ H Q I h
  refine Subscript_ (thn (p a s σ H _ I h) fun v g hh9=>?_)
  obtain ⟨x,H1,I1,o,t⟩:=hh9
  refine wpAny_Slice (thn (n a g σ H1 _ I1 t) fun d k ⟨l,H2,I2,j,y⟩=>thn (w a k σ H2 _ I2 y) fun f c hh9=>?_)
  obtain ⟨u,H3,I3,z,A⟩:=hh9
  rw [evalPart_none]
  refine wpAny_pure ?_
  have I4:Inv X a σ H3 { c with heap:=c.heap.push { cls:=.type "slice",data:=.fields #[d,f,.none] } }:=I3.kept (t':=c.toks) fun b D q=>Heap.get?_push_of_some _ q
  obtain ⟨T,id,i,C,B⟩:=m a { c with heap:=c.heap.push { cls:=.type "slice",data:=.fields #[d,f,.none] } } σ H3 x v d f l u c.heap.objs.size Q I4 o (Heap.IsSliceOf.new ..) j z A
  show wpAny (model X.prog X.w) X.A (subscriptTail e (.Slice lo hi none p2) v (.ref c.heap.objs.size)) (EP X a σ Q) X.xe { c with heap:=c.heap.push { cls:=.type "slice",data:=.fields #[d,f,.none] } }
  exact tail_any (ops:=[.ref c.heap.objs.size,v]) C i B (by with_unfolding_all rfl)
noncomputable def zbT (a:List V)(lo hi:Option Int):List V:=(a.drop (HT.sIx a.length 0 lo)).take (HT.sIx a.length a.length hi - HT.sIx a.length 0 lo)
theorem Wa (a:List V)(lo hi:Option Int):(zbT a lo hi).length≤a.length:=by
  unfold zbT
  rw [List.length_take,List.length_drop]
  omega
noncomputable def rSlT (K:PySem.W.Frag):V→Option Int→Option Int→Hp→VK→Prop:=fun x lo hi H Q=>∃ a b,x=.ref a∧SqT K H a b ∧
  ¬ (HT.sIx b.length 0 lo=0∧HT.sIx b.length b.length hi=b.length)∧∀ p,H p=none→Q (.ref p) (upd H p (.tup (zbT b lo hi)))
theorem zlx:SlR X (rSlT X.K):=by
  intro f s σ H x v w t lo hi u Q I m l j n h
  obtain ⟨a,d,rfl,k,hw,q⟩:=h
  cases m
  obtain ⟨e,r,g,i⟩:=I.tuple k
  have c:e.toArray.size=d.length:=by rw [List.size_toArray];exact r.length.symm
  refine ⟨"tuple",_,PyProof.Rows.slot_tuple_getitem.lookup,g.typeIs,?_⟩
  refine HT.getItem_tuple_cut g l j n (by rw [c];exact hw) ?_ (by rw [c];exact i)
  rw [c]
  refine ⟨.ref s.heap.objs.size,_,I.laid (t':=s.toks) (o:=.tup (zbT d lo hi)) (fun b p q=>Heap.get?_push_of_some _ q) (Nat.le_refl _) ?_,rfl,q _ (I.hok.fresh (Nat.le_refl _))⟩
  exact ⟨Nat.le_trans (Wa d lo hi) i,_,(r.drop (HT.sIx d.length 0 lo)).take (HT.sIx d.length d.length hi - HT.sIx d.length 0 lo),IsTup.new _ _⟩
noncomputable def zme (K:PySem.W.Frag):R2:=fun x y H Q=>∃ a b d c,x=.ref a∧y=.ref b∧SqT K H a d∧SqT K H b c∧d≠[]∧d.length+c.length≤sizeLine ∧
  (c=[]→Q (.ref a) H)∧(c≠[]→∀ p,H p=none→Q (.ref p) (upd H p (.tup (d++c))))
theorem ye.nil_iff {a:List V}{b:List Value}(r:ye a b):b=[]↔a=[]:=by
  cases r with
  | nil=>simp
  | cons _ _=>simp
theorem ziX:OpR X (binaryOp .Add) (zme X.K):=by
  intro f s σ H x y v u Q I l i h
  obtain ⟨a,b,A,B,rfl,rfl,r,k,m,g,j,t⟩:=h
  cases l
  cases i
  obtain ⟨p,d,n,_⟩:=I.tuple r
  obtain ⟨e,c,p2,_⟩:=I.tuple k
  refine HT.cat_tup n p2 (fun z=>m (d.nil_iff.mp z)) (fun z=>⟨.ref a,H,I,rfl,j (c.nil_iff.mp z)⟩) (fun z=>?_) (by rw [←d.length,← c.length];exact g)
  refine ⟨.ref s.heap.objs.size,_,I.laid (t':=s.toks) (o:=.tup (A++B)) (fun b C q=>Heap.get?_push_of_some _ q) (Nat.le_refl _) ?_,rfl,t (fun w=>z (c.nil_iff.mpr w)) _ (I.hok.fresh (Nat.le_refl _))⟩
  exact ⟨by rw [List.length_append];exact g,_,d.append c,IsTup.new _ _⟩
end
noncomputable def ixN (n:Nat)(i:Int):Option Nat:=if 0≤i then (if i < n then some i.toNat else none) else if -(n:Int)≤i then some (i+n).toNat else none
noncomputable def atI {α:Type}(a:List α)(i:Int):Option α:=(ixN a.length i).bind fun j=>a[j]?
theorem zd8 {n:Nat}{i:Int}{j:Nat}(h:ixN n i=some j):seqIndex? i n=some j∧j < n∧-(n:Int)≤i∧i < n:=by
  unfold ixN at h
  by_cases b:0≤i
  · rw [if_pos b] at h
    by_cases a:i < n
    · rw [if_pos a] at h
      have e:i.toNat=j:=Option.some.inj h
      exact ⟨by rw [seqIndex_of b a,e],by omega,by omega,a⟩
    · rw [if_neg a] at h;cases h
  · rw [if_neg b] at h
    by_cases a:-(n:Int)≤i
    · rw [if_pos a] at h
      have e:(i+n).toNat=j:=Option.some.inj h
      exact ⟨by rw [seqIndex_neg (by omega) a,e],by omega,a,by omega⟩
    · rw [if_neg a] at h;cases h
theorem zb5 {α:Type}{a:List α}{i:Int}{v:α}(h:atI a i=some v):∃ j,seqIndex? i a.length=some j∧a[j]?=some v∧j < a.length∧-(a.length:Int)≤i∧i < a.length:=by
  unfold atI at h
  cases e:ixN a.length i with
  | none=>rw [e] at h;cases h
  | some j =>
    rw [e] at h
    obtain ⟨b,c,d,f⟩:=zd8 e
    exact ⟨j,b,h,c,d,f⟩
theorem zi7 {α:Type}{a:List α}{j:Nat}{v:α}(h:a[j]?=some v):atI a (j:Int)=some v:=by
  have b:j < a.length:=(List.getElem?_eq_some_iff.mp h).1
  have e:ixN a.length (j:Int)=some j:=by
    unfold ixN
    rw [if_pos (by omega),if_pos (by omega)];simp
  unfold atI;rw [e];exact h
noncomputable def VF (b:Expr):Prop:=∀ o i,subscripted b false o i=operate [o,i] (getItem o i)
noncomputable def IxR (X:Cx)(r:R2):Prop :=
  ∀ (c a:Expr) (b:List (Addr × Obj)) (s:Shared) (σ:St) (H:Hp) (x y:V) (v u:Value) (Q:VK),Inv X b σ H s→yk x v→yk y u→r x y H Q →
    subscripted a false v u=operate [v,u] (getItem v u)→wpAny (model X.prog X.w) X.A (subscriptTail c a v u) (EP X b σ Q) X.xe s
noncomputable def MtR (X:Cx)(id:String)(r:V→List V→Hp→VK→Prop):Prop :=
  ∀ (a:List (Addr × Obj)) (s:Shared) (σ:St) (H:Hp) (x:V) (b:List V) (v:Value) (c:List Value) (Q:VK),Inv X a σ H s→yk x v→ye b c→r x b H Q →
    wpAny (model X.prog X.w) X.A (call (.builtin id) (v::c)) (EP X a σ Q) X.xe s
section
variable {X:Cx}{a b:Expr}{ta tb:TE}{pos:Pos}
theorem IxR.or {r d:R2}(h:IxR X r)(i:IxR X d):IxR X (fun x y H Q=>r x y H Q∨d x y H Q):=by
  intro b a c s σ H x y v u Q I g e q f
  rcases q with q | q
  · exact h b a c s σ H x y v u Q I g e q f
  · exact i b a c s σ H x y v u Q I g e q f
theorem ziq {r:R2}(k:IxR X r)(j:PE X a ta)(f:PE X b tb)(g:VF b):PE X (.Subscript a b pos) (tOp r ta tb):=by
  intro c s σ H Q I h
  exact Subscript_ (zmu j f I h fun v u e x y H2 I2 i d q=>k a b c e σ H2 x y v u Q I2 i d q (g _ _))
noncomputable def rIxL (K:PySem.W.Frag):R2:=fun x y H Q=>∃ p a i v,x=.ref p∧y=.int i∧SqL K H p a∧atI a i=some v∧Q v H
noncomputable def rIxT (K:PySem.W.Frag):R2:=fun x y H Q=>∃ p a i v,x=.ref p∧y=.int i∧SqT K H p a∧atI a i=some v∧Q v H
noncomputable def rIxS:R2:=fun x y H Q=>∃ z i c,x=.str z∧y=.int i∧z.length≤sizeLine∧atI z.cps.toList i=some c∧Q (.str ⟨#[c]⟩) H
theorem ziU:IxR X (rIxL X.K):=by
  intro g d a s σ H x y v u Q I B o h n
  obtain ⟨p,K,i,z,rfl,rfl,hq,G,q⟩:=h
  cases B
  obtain ⟨t,rfl⟩:=o
  obtain ⟨k,r,c,L⟩:=I.list hq
  obtain ⟨j,b,C,J,D,A⟩:=zb5 G
  obtain ⟨w,l,f⟩:=r.get C
  have E:=r.length
  have M:=Vb
  have fin:EP X a σ Q w s:=⟨z,H,I,f,q⟩
  by_cases m:0≤i
  · have e:i.toNat=j:=by
      rw [seqIndex_of m A] at b
      exact Option.some.inj b
    exact item_listR c.isList m (by omega) (by rw [e];simpa using l) fin n
  · have e:(i+(k.toArray.size:Int)).toNat=j:=by
      rw [seqIndex_neg (by omega) D] at b
      rw [List.size_toArray,← E]
      exact Option.some.inj b
    exact subscriptTail_builtinR (x:=w) c.isList.typeIs slot_list_getitem.lookup
      (wpAny_getItem_list_neg (Q:=fun r F=>r=w∧EP X a σ Q r F) c.isList (by omega) (by rw [List.size_toArray] <;> omega) (by omega) (by rw [e];simpa using l) ⟨rfl,fin⟩) n
theorem zk3:IxR X (rIxT X.K):=by
  intro d b a s σ H x y v u Q I g f h B
  obtain ⟨p,F,i,z,rfl,rfl,hq,A,q⟩:=h
  cases g
  obtain ⟨t,rfl⟩:=f
  obtain ⟨C,r,e,G⟩:=I.tuple hq
  obtain ⟨j,k,l,E,J,D⟩:=zb5 A
  obtain ⟨w,m,c⟩:=r.get l
  have n:=r.length
  have K:=Vb
  have fin:EP X a σ Q w s:=⟨z,H,I,c,q⟩
  exact subscriptTail_builtinR (x:=w) e.typeIs slot_tuple_getitem.lookup
    (getItem_tuple (j:=j) (Q:=fun r o=>r=w∧EP X a σ Q r o) e (by omega) (by omega) (by rw [List.size_toArray,← n];exact k) (by simpa using m) ⟨rfl,fin⟩) B
theorem zkq:IxR X rIxS:=by
  intro b a e s σ H x y v u Q I n k h m
  obtain ⟨z,i,c,rfl,rfl,D,l,q⟩:=h
  obtain ⟨t,rfl⟩:=n
  obtain ⟨B,rfl⟩:=k
  obtain ⟨j,d,o,C,w,r⟩:=zb5 l
  have f:z.cps.toList.length=z.length:=by simp [Str.length]
  rw [f] at d w r
  have A:=Vb
  exact tail_any (typeIs_str s z t) slot_str_getitem.lookup (getItem_str (c:=c) (by
    have p:decide (i < -(2 ^ 63:Int))=false:=decide_eq_false (by omega)
    have g:decide (i ≥ 2 ^ 63)=false:=decide_eq_false (by omega)
    rw [p,g,Bool.or_false]) (by rw [d];simpa using o) ⟨.str ⟨#[c]⟩,H,I.tok _,⟨_,rfl⟩,q⟩) m
noncomputable def rIx (K:PySem.W.Frag):R2:=fun x y H Q=>rIxL K x y H Q∨rIxT K x y H Q∨rIxS x y H Q
theorem zeM:IxR X (rIx X.K):=ziU.or (zk3.or zkq)
theorem zc6 (a:List Value) (n j:Nat) (u:Value):Obj.mapSeq (·.setIfInBounds j u) { cls:=.type "list",data:=.seq a.toArray n }={ cls:=.type "list",data:=.seq (a.set j u).toArray n }:=by
  simp [Obj.mapSeq]
theorem Inv.lst {b:List (Addr × Obj)}{σ:St}{H:Hp}{s:Shared}{p:Addr}{c:List V}(I:Inv X b σ H s)(h:H p=some (.lst c)) :
    ∃ (a:List Value) (n:Nat),ye c a∧s.heap.get? p=some { cls:=.type "list",data:=.seq a.toArray n }∧c.length≤sizeLine:=by
  obtain ⟨z,a,n,r,e⟩:=I.hok p _ h
  exact ⟨a,n,r,e,z⟩
theorem Inv.lstUpd {c:List (Addr × Obj)}{σ:St}{H:Hp}{s:Shared}{p:Addr}{m i:List V}{d a:List Value}{n g:Nat}{f:Obj→Obj}(I:Inv X c σ H s)(h:H p=some (.lst m))
    (l:s.heap.get? p=some { cls:=.type "list",data:=.seq d.toArray n }) (j:f { cls:=.type "list",data:=.seq d.toArray n }={ cls:=.type "list",data:=.seq a.toArray g }) (r:ye i a) (o:i.length≤sizeLine) (t:Nat) :
    Inv X c σ (upd H p (.lst i)) { s with heap:=s.heap.update p f,toks:=t }:=by
  have e:(s.heap.update p f).get? p=some { cls:=.type "list",data:=.seq a.toArray g }:=by
    rw [Heap.get?_update_self f l (by rw [j] <;> rfl),j]
  refine I.write (x:=p) (e:=p) (by rw [h];trivial) (.inl rfl) (fun b u k q=>(Heap.get?_update_other _ _ (Ne.symm k)).trans q) ⟨_,e⟩ ?_
  exact ⟨o,a,g,r,e⟩
noncomputable def zmr:V→V→V→Hp→(Hp→Prop)→Prop:=fun o i v H Q=>∃ p a k j,o=.ref p∧i=.int k∧H p=some (.lst a)∧ixN a.length k=some j∧Q (upd H p (.lst (a.set j v)))
theorem zgR:PSet X zmr:=by
  intro a s σ H o i v F E u Q I y C x h
  obtain ⟨p,z,k,j,rfl,rfl,w,A,q⟩:=h
  cases y
  obtain ⟨t,rfl⟩:=C
  obtain ⟨b,n,r,f,B⟩:=I.lst w
  obtain ⟨c,D,l,m⟩:=zd8 A
  have e:=r.length
  have G:=Vb
  have I':Inv X a σ (upd H p (.lst (z.set j v))) { s with heap:=s.heap.update p (Obj.mapSeq (·.setIfInBounds j u)) } :=
    I.lstUpd w f (zc6 b n j u) (r.set x j) (by rw [List.length_set];exact B) s.toks
  by_cases g:0≤k
  · have d:k.toNat=j:=by
      rw [seqIndex_of g m] at c
      exact Option.some.inj c
    exact PySem.W.ki_setAt f g (by omega) (by rw [List.size_toArray,← e];exact m) (by rw [d];exact ⟨_,I',q⟩)
  · have d:(k+(b.toArray.size:Int)).toNat=j:=by
      rw [seqIndex_neg (by omega) l] at c
      rw [List.size_toArray,← e]
      exact Option.some.inj c
    exact PySem.W.ki_setBack f (by omega) (by rw [List.size_toArray,← e];exact l) (by omega) (by rw [d];exact ⟨_,I',q⟩)
theorem zba (a b:Option Int)(n:Nat):(sliceBounds a b none n).1=((HT.sIx n 0 a:Nat):Int)∧(sliceBounds a b none n).2.1=((HT.sIx n n b:Nat):Int)∧(sliceBounds a b none n).2.2=1:=by
  refine ⟨?_,?_,rfl⟩
  · cases a with
    | none=>simp [sliceBounds,HT.sIx]
    | some i =>
      simp only [sliceBounds,HT.sIx,Option.getD_none,show (1:Int) > 0 by decide,if_true]
      by_cases h:i < 0
      · simp only [h,if_true] <;> omega
      · simp only [h,if_false] <;> omega
  · cases b with
    | none=>simp [sliceBounds,HT.sIx]
    | some i =>
      simp only [sliceBounds,HT.sIx,Option.getD_none,show (1:Int) > 0 by decide,if_true]
      by_cases h:i < 0
      · simp only [h,if_true] <;> omega
      · simp only [h,if_false] <;> omega
theorem VV (a:List Value)(b c:Option Int):slicePick a.toArray b c none=((a.drop (HT.sIx a.length 0 b)).take (HT.sIx a.length a.length c - HT.sIx a.length 0 b)).toArray:=by
  obtain ⟨d,e,f⟩:=zba b c a.toArray.size
  unfold slicePick
  rw [d,e,f]
  simp only [sliceRange_one,pick_run,List.size_toArray] <;> rfl
noncomputable def rSlL (K:PySem.W.Frag):V→Option Int→Option Int→Hp→VK→Prop:=fun x c d H Q=>∃ a b,x=.ref a∧SqL K H a b∧∀ p,H p=none→Q (.ref p) (upd H p (.lst (zbT b c d)))
theorem zjn:SlR X (rSlL X.K):=by
  intro g s σ H x v z w e f y Q I m l j p h
  obtain ⟨a,c,rfl,k,q⟩:=h
  cases m
  obtain ⟨n,r,i,t⟩:=I.list k
  have d:=r.length
  refine ⟨"list",_,slot_list_getitem.lookup,i.isList.typeIs,?_⟩
  refine wpAny_getItem_list_slice i.isList l j p .none (by simp) ?_ (by rw [List.size_toArray] <;> omega)
  rw [VV,← d]
  refine ⟨.ref s.heap.objs.size,_,I.laid (t':=s.toks) (o:=.lst (zbT c e f)) (fun b u q=>Heap.get?_push_of_some _ q) (Nat.le_refl _) ?_,rfl,q _ (I.hok.fresh (Nat.le_refl _))⟩
  exact ⟨Nat.le_trans (Wa c e f) t,_,0,(r.drop (HT.sIx c.length 0 e)).take (HT.sIx c.length c.length f - HT.sIx c.length 0 e),Heap.get?_push_size _ rfl⟩
noncomputable def zjp:V→Bool
  | .non=>true
  | .bl _=>true
  | .int _=>true
  | .str _=>true
  | _=>false
noncomputable def eqV:V→V→Bool
  | .non,.non=>true
  | .bl a,.bl b=>a == b
  | .bl a,.int b=>(if a then 1 else 0) == b
  | .int a,.bl b=>a == (if b then 1 else 0)
  | .int a,.int b=>a == b
  | .str a,.str b=>a == b
  | _,_=>false
theorem zhR {A:Around}{s:Shared}{y x:V}{u v:Value}(e:yk y u)(c:yk x v)(g:zjp y=true)(f:zjp x=true):SeqAt.EqAt A s u v (eqV y x):=by
  cases y with
  | non =>
    cases e
    cases x with
    | non=>cases c;exact SeqAt.EqAt.same _
    | bl b=>cases c;exact SeqAt.EqAt.none_bool b
    | int b=>obtain ⟨t,rfl⟩:=c;exact SeqAt.EqAt.none_int b t
    | str b=>obtain ⟨t,rfl⟩:=c;exact SeqAt.EqAt.none_str b t
    | _=>exact absurd (show false=true from f) Bool.false_ne_true
  | bl a =>
    cases e
    cases x with
    | non=>cases c;exact SeqAt.EqAt.bool_none a
    | bl b=>cases c;exact SeqAt.EqAt.bool_bool a b
    | int b=>obtain ⟨t,rfl⟩:=c;exact SeqAt.EqAt.bool_int a b t
    | str b=>obtain ⟨t,rfl⟩:=c;exact SeqAt.EqAt.bool_str a b t
    | _=>exact absurd (show false=true from f) Bool.false_ne_true
  | int a =>
    obtain ⟨d,rfl⟩:=e
    cases x with
    | non=>cases c;exact SeqAt.EqAt.int_none a d
    | bl b=>cases c;exact SeqAt.EqAt.int_bool a d b
    | int b=>obtain ⟨t,rfl⟩:=c;exact SeqAt.EqAt.int_int a d b t
    | str b=>obtain ⟨t,rfl⟩:=c;exact SeqAt.EqAt.int_str a d b t
    | _=>exact absurd (show false=true from f) Bool.false_ne_true
  | str a =>
    obtain ⟨d,rfl⟩:=e
    cases x with
    | non=>cases c;exact SeqAt.EqAt.str_none a d
    | bl b=>cases c;exact SeqAt.EqAt.str_bool a d b
    | int b=>obtain ⟨t,rfl⟩:=c;exact SeqAt.EqAt.str_int a d b t
    | str b=>obtain ⟨t,rfl⟩:=c;exact SeqAt.EqAt.str_str a d b t
    | _=>exact absurd (show false=true from f) Bool.false_ne_true
  | _=>exact absurd (show false=true from g) Bool.false_ne_true
theorem vW:vO X (.builtin "len") (fun f H Q=>∃ p b,f=[.ref p]∧(SqL X.K H p b∨SqT X.K H p b)∧Q (.int b.length) H):=by
  intro g s σ H f k Q I r h
  obtain ⟨p,b,rfl,hq,q⟩:=h
  obtain ⟨u,rfl,i⟩:=Wh r
  cases i
  have l:=Vb
  rcases hq with hq | hq
  · obtain ⟨e,c,d,j⟩:=I.list hq
    have a:=c.length
    exact Calls.call_len_list d.isList (by simp only [List.size_toArray] <;> omega) ⟨.int b.length,H,I.tok _,⟨s.toks+1,by rw [List.size_toArray,a]⟩,q⟩
  · obtain ⟨e,c,d,j⟩:=I.tuple hq
    have a:=c.length
    exact len_tuple d (by simp only [List.size_toArray] <;> omega) ⟨.int b.length,H,I.tok _,⟨s.toks+1,by rw [List.size_toArray,a]⟩,q⟩
theorem zaI:vO X (.type "list") (fun y H Q=>∃ p g,y=[.ref p]∧(SqL X.K H p g∨SqT X.K H p g)∧∀ l,H l=none→Q (.ref l) (upd H l (.lst g))):=by
  intro k s σ H y B Q I r h
  obtain ⟨p,g,rfl,hq,q⟩:=h
  obtain ⟨u,rfl,A⟩:=Wh r
  cases A
  have fin:∀ (a:List Value),ye g a→g.length≤sizeLine→∀ (c:Heap) (f:Nat),(∀ b z,s.heap.get? b=some z→c.get? b=some z) →
      c.get? s.heap.objs.size=some { cls:=.type "list",dict:=none,data:=.seq a.toArray f,slots:=#[] }→EP X k σ Q (.ref s.heap.objs.size) { s with heap:=c }:=fun a d m c f j e =>
    ⟨.ref s.heap.objs.size,_,I.laid (t':=s.toks) j (Nat.le_refl _) (show yb X.prog X.w _ c _ (.lst g) from ⟨m,a,f,d,e⟩),rfl,q _ (I.hok.fresh (Nat.le_refl _))⟩
  rcases hq with hq | hq
  · obtain ⟨a,d,t,m⟩:=I.list hq
    have i:=d.length
    obtain ⟨o,x,v,n,w⟩:=t.isList
    exact call_list_seq p (.inl rfl) x v w (fun c f j e=>fin a d m c f j e) (by simp only [List.size_toArray] <;> omega)
  · obtain ⟨a,d,t,m⟩:=I.tuple hq
    have i:=d.length
    obtain ⟨o,x,v,n,w⟩:=t
    exact call_list_seq p (.inr rfl) x v w (fun c f j e=>fin a d m c f j e) (by simp only [List.size_toArray] <;> omega)
theorem V9:vO X (.type "tuple") (fun k H Q=>∃ p d,k=[.ref p]∧((SqL X.K H p d∧∀ l,H l=none→Q (.ref l) (upd H l (.tup d)))∨(SqT X.K H p d∧Q (.ref p) H))):=by
  intro a s σ H k v Q I r h
  obtain ⟨p,d,rfl,h⟩:=h
  obtain ⟨u,rfl,t⟩:=Wh r
  cases t
  rcases h with ⟨hq,q⟩ | ⟨hq,q⟩
  · obtain ⟨c,g,i,m⟩:=I.list hq
    have j:=g.length
    refine call_tuple_list i.isList (fun f n=>?_) (by simp only [List.size_toArray] <;> omega)
    have I1:Inv X a σ H { s with heap:=f }:=I.kept (t':=s.toks) n
    have I2:Inv X a σ (upd H f.objs.size (.tup d)) { s with heap:=f.push { cls:=.type "tuple",data:=.seq c.toArray } } :=
      I1.laid (t':=s.toks) (fun b o e=>Heap.get?_push_of_some _ e) (Nat.le_refl _) (show yb X.prog X.w _ _ _ (.tup d) from ⟨m,c,g,IsTup.new _ _⟩)
    exact ⟨.ref f.objs.size,_,I2,rfl,q _ (I1.hok.fresh (Nat.le_refl _))⟩
  · obtain ⟨c,g,i,m⟩:=I.tuple hq
    exact call_tuple_same i ⟨.ref p,H,I,rfl,q⟩
noncomputable def tyV (K:PySem.W.Frag)(T:String)(x:V)(H:Hp):Prop:=match x with
  | .str _=>T="str"
  | .int _=>T="int"
  | .ref p=>(T="list"∧∃ b,SqL K H p b)∨(T="tuple"∧∃ o,K.lookup p=some o∧o.cls=.type "tuple"∧o.dict=none) ∨
      (T="dict"∧((∃ a,H p=some (.dK a))∨∃ a,H p=some (.dT a)))∨(T="set"∧∃ S n,H p=some (.set S n))
  | _=>False
theorem zkF {d:List (Addr × Obj)}{σ:St}{H:Hp}{s:Shared}{T:String}{x:V}{v:Value}(I:Inv X d σ H s)(r:yk x v)(ty:tyV X.K T x H) :
    s.TypeIs v T∧∀ a,v=.ref a→∃ k,s.heap.get? a=some k∧k.dict=none:=by
  cases x with
  | str z =>
    obtain ⟨t,rfl⟩:=r
    cases (show T="str" from ty)
    exact ⟨typeIs_str s z t,fun _ e=>nomatch e⟩
  | int i =>
    obtain ⟨t,rfl⟩:=r
    cases (show T="int" from ty)
    exact ⟨typeIs_int s i t,fun _ e=>nomatch e⟩
  | ref p =>
    cases r
    rcases ty with ⟨rfl,q,hq⟩ | ⟨rfl,o,b,l,g⟩ | ⟨rfl,b⟩ | ⟨rfl,S,n,b⟩
    · obtain ⟨m,_,j,_⟩:=I.list hq
      refine ⟨j.isList.typeIs,fun a e=>?_⟩
      cases e
      obtain ⟨o,n,e,c,g,_⟩:=j
      exact ⟨o,e,g⟩
    · refine ⟨⟨o,I.kIn p o b,l⟩,fun a e=>?_⟩
      cases e
      exact ⟨o,I.kIn _ o b,g⟩
    · have z:∃ o,s.heap.get? p=some o∧o.ExactDict:=by
        rcases b with ⟨h,b⟩ | ⟨h,b⟩
        · obtain ⟨_,_,_,_,o,_,_,e,ex,_⟩:=I.hok p _ b
          exact ⟨o,e,ex⟩
        · obtain ⟨_,_,_,_,o,_,_,e,ex,_⟩:=I.hok p _ b
          exact ⟨o,e,ex⟩
      obtain ⟨o,e,ex⟩:=z
      refine ⟨⟨o,e,ex.1⟩,fun a f=>?_⟩
      cases f
      exact ⟨o,e,ex.2.1⟩
    · obtain ⟨o,_,_,_,e,ex,_⟩:=I.hok p _ b
      refine ⟨⟨o,e,ex.1⟩,fun a f=>?_⟩
      cases f
      exact ⟨o,e,ex.2.1⟩
  | _=>exact False.elim ty
noncomputable def tBM (K:PySem.W.Frag)(T:String)(r:V→List V→Hp→VK→Prop)(a:TE)(t:TA):TE:=fun σ H Q=>a σ H fun x H1=>tyV K T x H1∧t σ H1 fun b H2=>r x b H2 Q
variable {o e:Expr}{es:List Expr}{to:TE}{t:TA}{name:Str}{apos cpos:Pos}{T id:String}{r:V→List V→Hp→VK→Prop}
theorem zaj (E:PlainAttrs T) (f:Slot T name id) (i:typeOf (.builtin id)=pure (.type "method_descriptor")) (m:MtR X id r) (y:PE X o to) (z:PA X (e::es) t)
    (d:attributeBase o name X.env (eval o X.env)=eval o X.env:=by rfl)
    (g:((backTo cpos (starEach (e::es) X.env)).all (fun x=>!x.1)&&(backToKw cpos (keywordEach [] X.env)).all (fun x=>x.1.isSome)
      && decide ((e::es).length+([]:List Keyword).length+(if ([]:List Keyword).isEmpty then 0 else 1) < 30))=true:=by rfl)
    (c:(apos.endLine == cpos.line)=true:=by rfl) (q:starEach (e::es) X.env=(false,eval e X.env)::starEach es X.env:=by rfl) (b:(backTo cpos (starEach es X.env)).any (·.1)=false:=by rfl) :
    PE X (.Call (.Attribute o name apos) (e::es) [] cpos) (tBM X.K T r to t):=by
  intro a s σ H Q I h
  refine wpAny_Call_method_late d g c rfl (thn (y a s σ H _ I h) fun v l hh9=>?_)
  obtain ⟨x,H1,I1,j,ty,p⟩:=hh9
  obtain ⟨u,w⟩:=zkF I1 j ty
  refine ⟨T,id,E,f,i,u,w,?_⟩
  have k:=z cpos a l σ H1 _ I1 p
  rw [q] at k ⊢
  refine Calls.callWith_builtin (by show (false||(backTo cpos (starEach es X.env)).any (·.1))=false;rw [b] <;> rfl) (Calls.evalArgs_plain ?_)
  exact thn k fun C n ⟨D,H2,I2,B,A⟩=>m a n σ H2 x D v C Q I2 j B A
/- xs.append(e),list.index on a module's tuple .. are MtR facts of 06m -/
end
noncomputable def MtM (X:Cx)(id:String)(r:V→List V→Hp→VK→Prop):Prop :=
  ∀ (a:List (Addr × Obj)) (s:Shared) (σ:St) (H:Hp) (x:V) (b:List V) (v:Value) (c:List Value) (Q:VK),Inv X a σ H s→yk x v→ye b c→r x b H Q →
    wpAny (model X.prog X.w) X.A (call (.builtin id) (v::c)) (EP X a σ Q) X.xe s
theorem ye.one:∀ {x:V} {a:List Value},ye [x] a→∃ u,a=[u]∧yk x u:=by
  intro x a h
  cases h with | cons r t=>cases t;exact ⟨_,rfl,r⟩
theorem ye.rep {a:List V}{b:List Value}(h:ye a b):∀ k:Nat,ye (List.replicate k a).flatten (List.replicate k b).flatten
  | 0=>.nil
  | k+1=>by
    rw [List.replicate_succ,List.replicate_succ,List.flatten_cons,List.flatten_cons]
    exact ye.append h (ye.rep h k)
theorem X5 (a:List Value):∀ (k:Nat) (b:List Value),
    List.foldl (fun d f=>d++f) b.toArray (List.replicate k a.toArray)=(b++(List.replicate k a).flatten).toArray
  | 0,b=>by simp
  | k+1,b=>by
    have e:b.toArray++a.toArray=(b++a).toArray:=by simp
    have c:(b++a)++(List.replicate k a).flatten=b++(List.replicate (k+1) a).flatten:=by
      rw [List.replicate_succ,List.flatten_cons,List.append_assoc]
    rw [←c,← X5 a k (b++a),← e,List.replicate_succ,List.foldl_cons]
section
variable {X:Cx}{pins:List (Addr × Obj)}{σ:St}{H:Hp}{s:Shared}{l b:Addr}{xs ys zs:List V}
theorem Inv.lset {a its':List Value}{n:Nat}{f:Array Value→Array Value}{j:Nat}(I:Inv X pins σ H s)(c:H l=some (.lst xs))
    (e:s.heap.get? l=some { cls:=.type "list",data:=.seq a.toArray n }) (i:f a.toArray=its'.toArray) (g:ye ys its') (d:ys.length≤sizeLine) :
    Inv X pins σ (upd H l (.lst ys)) { s with heap:=s.heap.update l (Obj.mapSeq f),toks:=j }:=by
  have q:=PySem.IsL.update e f
  rw [i] at q
  refine I.write (x:=l) (e:=l) (by rw [c];exact trivial) (.inl rfl) (fun k u h b=>(Heap.get?_update_other s.heap (Obj.mapSeq f) (Ne.symm h)).trans b) ⟨_,q⟩ ?_
  exact ⟨d,its',_,g,q⟩
theorem Inv.lnew {a:List Value}{t':Nat}(I:Inv X pins σ H s)(c:ye ys a)(b:ys.length≤sizeLine) :
    Inv X pins σ (upd H s.heap.objs.size (.lst ys)) { s with heap:=s.heap.push { cls:=.type "list",data:=.seq a.toArray },toks:=t' } :=
  I.laid (fun _ _ q=>Heap.get?_push_of_some _ q) (Nat.le_refl _) ⟨b,a,0,c,Heap.get?_push_size _ rfl⟩
theorem Inv.fresh (I:Inv X pins σ H s):H s.heap.objs.size=none:=I.hok.fresh (Nat.le_refl _)
theorem Inv.lstM (I:Inv X pins σ H s) (b:H l=some (.lst xs)):xs.length≤sizeLine∧∃ (a:List Value) (n:Nat),ye xs a∧xs.length=a.length∧s.heap.get? l=some { cls:=.type "list",data:=.seq a.toArray n }:=by
  obtain ⟨z,a,n,r,e⟩:=I.hok l _ b
  exact ⟨z,a,n,r,r.length,e⟩
theorem zcx {n:Nat}(h:n≤sizeLine):Builtin.List.listTooLong n=false:=by
  unfold Builtin.List.listTooLong
  exact decide_eq_false (by omega)
end
section
variable {X:Cx}
noncomputable def zeh:V→List V→Hp→VK→Prop:=fun x b H Q=>∃ l a y,x=.ref l∧b=[y]∧H l=some (.lst a)∧a.length < sizeLine∧Q .non (upd H l (.lst (a++[y])))
theorem WC:MtM X "list.append" zeh:=by
  intro c s σ H x o v j Q I f d h
  obtain ⟨l,k,y,rfl,rfl,b,m,q⟩:=h
  cases f
  obtain ⟨u,rfl,g⟩:=d.one
  obtain ⟨z,a,n,r,i,e⟩:=I.lstM b
  refine call_meets F.slot_list_append ⟨_,e,rfl⟩ F.entry_list_append (F.args_list_append_2 _ _) (PySem.list_append l a.toArray n u (by rw [List.size_toArray];omega)) ⟨e,?_⟩
  refine ⟨.non,_,I.lset (its':=a++[u]) b e (by simp) (r.append (.cons g .nil)) ?_,rfl,q⟩
  rw [List.length_append,List.length_singleton]
  omega
noncomputable def zeb:V→List V→Hp→VK→Prop:=fun x c H Q=>∃ l b a zs,x=.ref l∧c=[.ref b]∧H l=some (.lst a)∧H b=some (.lst zs)∧a.length+zs.length≤sizeLine∧Q .non (upd H l (.lst (a++zs)))
theorem X4:MtM X "list.extend" zeb:=by
  intro g s σ H x E v B Q I m k h
  obtain ⟨l,b,C,zs,rfl,rfl,i,t,D,q⟩:=h
  cases m
  obtain ⟨u,rfl,w⟩:=k.one
  cases w
  obtain ⟨z,c,n,r,G,e⟩:=I.lstM i
  obtain ⟨A,a,o,y,p,j⟩:=I.lstM t
  have f:c.toArray.size+a.toArray.size≤sizeLine:=by rw [List.size_toArray,List.size_toArray];omega
  have d:¬ (!c.toArray.isEmpty&&Builtin.List.listTooLong (c.toArray.size+a.toArray.size))=true:=by
    rw [zcx f,Bool.and_false]
    exact Bool.false_ne_true
  refine call_meets F.slot_list_extend ⟨_,e,rfl⟩ F.entry_list_extend (F.args_list_extend_2 _ _)
    (AutoSeq1.list_extend_list_list_0 l c.toArray n b a.toArray o d (by rw [List.size_toArray];omega) (by omega)) ⟨e,j,?_⟩
  refine ⟨.non,_,I.lset (its':=c++a) i e (by simp) (r.append y) ?_,rfl,q⟩
  rw [List.length_append]
  omega
noncomputable def zmF:R2:=fun x y H Q=>∃ l b a zs,x=.ref l∧y=.ref b∧H l=some (.lst a)∧H b=some (.lst zs)∧a.length+zs.length≤sizeLine∧∀ p,H p=none→Q (.ref p) (upd H p (.lst (a++zs)))
theorem zcy:OpR X (binaryOp .Add) zmF:=by
  intro d s σ H x y v u Q I k g h
  obtain ⟨l,b,A,zs,rfl,rfl,m,i,B,q⟩:=h
  cases k
  cases g
  obtain ⟨z,c,n,r,t,e⟩:=I.lstM m
  obtain ⟨C,a,w,o,j,f⟩:=I.lstM i
  refine PySem.P.add_list e f ?_ (by rw [List.size_toArray,List.size_toArray];omega)
  have p:c.toArray++a.toArray=(c++a).toArray:=by simp
  rw [p]
  exact ⟨.ref _,_,I.lnew (t':=s.toks) (r.append o) (by rw [List.length_append];omega),rfl,q _ I.fresh⟩
noncomputable def rRep:R2:=fun x y H Q=>∃ l k a,x=.ref l∧y=.int k∧H l=some (.lst a)∧-(2 ^ 63)≤k∧k < 2 ^ 63∧a.length*k.toNat≤sizeLine ∧
  ∀ p,H p=none→Q (.ref p) (upd H p (.lst (List.replicate k.toNat a).flatten))
theorem zbP {α:Type}(a:List α)(k:Nat):(List.replicate k a).flatten.length=k*a.length:=by
  induction k with
  | zero=>simp
  | succ k b=>rw [List.replicate_succ,List.flatten_cons,List.length_append,b,Nat.succ_mul,Nat.add_comm]
theorem zhO:OpR X (binaryOp .Mult) rRep:=by
  intro p s σ H x y v u Q I B A h
  obtain ⟨l,k,L,rfl,rfl,K,C,D,w,q⟩:=h
  cases B
  obtain ⟨t,rfl⟩:=A
  obtain ⟨z,b,n,r,G,e⟩:=I.lstM K
  have d:b.toArray.size*k.toNat≤sizeLine:=by rw [List.size_toArray,← G];exact w
  have i:¬ b.toArray.size*k.toNat > (2 ^ 63 - 1) / 8:=by
    have:(sizeLine:Nat)≤(2 ^ 63 - 1) / 8:=by decide
    omega
  have g:¬ (!Builtin.List.listFitsIndex k)=true:=by
    rw [fitsIndex_both C D]
    exact Bool.false_ne_true
  have c:¬ Builtin.List.listTooLong (b.toArray.size*k.toNat)=true:=by
    rw [zcx d]
    exact Bool.false_ne_true
  have f:List.foldl (fun o j=>o++j) #[] (List.replicate (if b.toArray.isEmpty=true then 0 else k.toNat) b.toArray)=(List.replicate k.toNat b).flatten.toArray:=by
    have E:∀ m:Nat,List.foldl (fun o j=>o++j) #[] (List.replicate m b.toArray)=(List.replicate m b).flatten.toArray:=fun m=>by
      have:=X5 b m []
      rw [List.nil_append] at this
      exact this
    rw [E]
    cases b with
    | nil=>simp
    | cons a M=>rw [if_neg (by simp)]
  refine wpAny_binaryOp_repeat_ref (T:="list") (U:="int") (by decide) ⟨_,e,rfl⟩ (fun J=>typeIs_int J k t) noFill_list_mul F.fills_int_mul F.slot_int_rmul repeat_list F.slot_int_index.lookup
    (call_meets F.slot_int_rmul (typeIs_int s k t) F.entry_int_rmul (F.args_int_rmul_2 _ _) (int___rmul___int_list k t l b.toArray n)
      ⟨e,rfl,⟨_,e,rfl⟩,call_meets F.slot_list_mul ⟨_,e,rfl⟩ F.entry_list_mul (F.args_list_mul_2 _ _) (AutoListH.list___mul___list_int_3 l b.toArray n k t g i c) ⟨e,?_⟩⟩)
  rw [f]
  exact ⟨.ref _,_,I.lnew (t':=s.toks) (r.rep k.toNat) (by rw [zbP,Nat.mul_comm];exact w),rfl,q _ I.fresh⟩
end
end L2
namespace Att
open PySem PySem.W PySem.Calls PyProof.Rows
theorem X6 {P:Params}{h:Heap}:∀ (c:List Int) (d:List Value),WellAll P h d (c.map WData.int)→IntsAre d c:=by
  intro c
  induction c with
  | nil =>
    intro d w
    rw [List.map_nil] at w
    cases w
    exact .nil
  | cons n c e =>
    intro d w
    rw [List.map_cons] at w
    cases w with
    | cons a b =>
      cases a
      exact .cons _ _ (e _ b)
theorem zfr {l:OpenLaw}{n:Nat}(z:l.most=some n){P:Params}{h:Heap}{args:List WData}{c:List Value}
    (e:l.row.toRowW.claim.pre args=true) (k:WellAll P h c args) :
    ∃ a p b,c=[Value.ref a]∧args=[WData.list (b.map WData.int)]∧h.get? a=some { cls:=.type "list",data:=.seq p.toArray }∧IntsAre p b∧b.length≤n:=by
  have m:WShape.hasAll [] args [.list .int]=true:=(pre_splitW e).1
  have o:l.pre.holds [] { args:=args }=true:=(pre_splitW e).2
  obtain ⟨d,r,rfl,s,t⟩:=hasAllW_cons m
  obtain rfl:=hasAllW_nil t
  obtain ⟨A,rfl,v⟩:=hasW_list s
  obtain ⟨b,rfl⟩:=items_int v
  have f:b.length≤n:=by
    unfold OpenLaw.pre at o
    have i:(WTm.not (.lt (.lit (.int (n:Int))) (.len (.arg 0)))).holds [] { args:=[.list (b.map .int)] }=true:=by
      have i:=(holds_andW o).1
      rw [z] at i
      exact i
    have j:=condW_of i (w_not (w_lt w_lit (w_len_list (w_arg rfl))))
    rw [List.length_map] at j
    refine Nat.le_of_not_lt fun q=>?_
    have x:(n:Int) < ((b.length:Nat):Int):=by omega
    first
      | (rw [decide_eq_true x] at j;exact absurd j (by decide))
      | (simp at j;omega)
  cases k with
  | cons u y =>
    cases y
    cases u with
    | list w g=>exact ⟨_,_,b,rfl,rfl,w,X6 b _ g,f⟩
theorem zev (l:OpenLaw)(args:List WData):l.row.toRowW.claim.post args (.bool true) args=true :=
  postW_of (r:=l.row.toRowW) (X:=(true == true))
    (show WShape.has [] (.bool true) .bool=true by first | rfl | decide | simp [WShape.has,WShape.arms,WShape.armsAll])
    (show (WTm.eq .res (.lit (.bool true))).value [] { args:=args,res:=some (.bool true),after:=args }=some (.bool (true == true)) from w_eq_bool (w_res rfl) w_lit) rfl
theorem attach_call {l:OpenLaw}{n:Nat}{q:Program}{b:List Str}{XP:(Str→Option Value)→Heap→Prop}{YP:World→Heap→Prop}{d:DefRec}
    (K:l.most=some n) (A:d.params.defaults=[])
    (call:∀ (w:World) (s₀ c:Shared) (t x:Str→Option Value) (j:Addr) (o:Obj) (y s g:Value) (a:Addr) (h:List Value) (p:List Int),
      Ground q b [] XP w s₀ t x c.heap→YP w c.heap →
      c.heap.get? j=some o→o.data=.func (docDef d.name d.params d.body d.scope y s g)→c.heap.CodeRec s d.name→t d.name=some (.ref j) →
      c.heap.get? a=some { cls:=.type "list",data:=.seq h.toArray }→IntsAre h p→p.length≤n→c.gens=#[] →
      codeAny (model l.prog w) callerA (.call (.ref j) ⟨[.ref a],[]⟩) (fun r u=>r=.ok (.ret (.bool true))∧OldK c.heap u.heap∧u.os=c.os∧AllBare u.gens) c) :
    WalkO q b XP YP l.row.toRowW d [] (fun f h=>PySem.call f h):=by
  intro w s₀ c t x G Y j o y s g O kV P J B D z Q args E R m C M v N
  obtain rfl:O=.none:=Dflts.none D A
  obtain rfl:kV=.none:=Dflts.noKw D
  obtain ⟨a,h,p,rfl,rfl,k,e,i⟩:=zfr K m v
  refine enter_call (codeAny_mono (call w s₀ c t x j o y s g a h p G Y P (fd_plain J) B z k e i Q) fun r u hq=>?_)
  obtain ⟨rfl,H,I,L⟩:=hq
  exact ⟨.inl ⟨.bool true,.bool true,[],rfl,fun _=>rfl,.bool true,zev l _,fun _=>⟨List.Pairwise.nil,fun _ F=>(nomatch F)⟩⟩,H,I,L⟩
section
variable {prog:Program}{w:World}{A:Around}{E:Value→Shared→Prop}{s:Shared}{K:Frag}
noncomputable def ledger (h:Heap)(L d:Addr):List (Addr × Obj):=(List.range h.objs.size).filterMap fun a=>if a=L∨a=d then none else (h.get? a).map fun o=>(a,o)
end
end Att
namespace L2
open PySem PySem.Spec PyProof.Rows
theorem zee:∀ {b:List Value} {a:List Int},IntsAre b a→ye (a.map V.int) b:=by
  intro b a h
  induction h with
  | nil=>exact .nil
  | cons n t h c=>exact .cons ⟨t,rfl⟩ c
noncomputable def wH (s:Stmt):Arguments:=match s with
  | .FunctionDef _ a _ _ _ _ _ _ _ _=>a
  | _=>{ posonlyargs:=[],args:=[],vararg:=none,kwonlyargs:=[],kw_defaults:=[],kwarg:=none,defaults:=[] }
noncomputable def yC (s:Stmt):List Stmt:=match s with
  | .FunctionDef _ _ b _ _ _ _ _ _ _=>b
  | _=>[]
noncomputable def zw (s:Stmt):Scope:=match s with
  | .FunctionDef _ _ _ _ _ _ sc _ _ _=>sc
  | _=>{ kind:=.function,names:=[],isGenerator:=false,isCoroutine:=false }
noncomputable abbrev CX0:CXT:=fun _ _ _ _ _ _=>False
noncomputable abbrev E0:XK:=fun _ _ _=>False
theorem zkB {X:Cx}:Yw CX0 X E0:=fun _ _ _ _ _ _ _ h=>h.elim
set_option genInjectivity false in
set_option genSizeOf false in
set_option genCtorIdx false in
structure Fun (K:PySem.W.Frag) (x qual:Str) (st:Stmt) (f:Addr) (fd:FuncData):Prop where
  ex:∃ (oc:Value) (od:Option Addr) (kV doc pm:Value) (an:Option Addr) (cdv ct:Value) (osl:Array (Option Value)),
    fd=PySem.W.fnOf x qual (wH st) (yC st) (zw st) .none kV doc pm an cdv ct∧K.lookup f=some ⟨oc,od,.func fd,osl⟩∧PySem.W.codeIn K cdv qual=true
  kp:PySem.W.keepIn K (.ref f)=true
section
variable {P:Program}{w:World}{K:PySem.W.Frag}{mg:Str→Option Value}{base:Heap}
theorem Fun.ok {x a:Str}{e:Stmt}{f:Addr}{n:FuncData}{N i:List Str}{k:Nat}{l:Sp}(F:Fun K x a e f n)(S:xr N i (zw e))(g:∀ c H Q E,l c H Q E→c.length=i.length)
    (d:∀ (b:Value) (A:Around) (outer:List Env) (s:Shared) (H:Hp) (c:List V) (Q:VK) (E:XK),yL k (A.deeper (envOfC a (zw e) s.heap.objs.size f b))→l c H Q E →
      ∃ t,PSs (wS CX0 P w K mg base N a (zw e) f b A outer s H E).nox (yC e) t∧t { nx:=fun _ H'=>Q .non H',rt:=Q } (start N c) H):zJ P w K mg base CX0 (k+1) f n i l:=by
  obtain ⟨y,v,kV,u,z,B,b,ct,r,rfl,o,m⟩:=F.ex
  refine zil o m S g fun A outer s H c Q E p j=>?_
  obtain ⟨t,h,q⟩:=d b A outer s H c Q E p j
  exact ⟨t,h.nox,q⟩
theorem Fun.binds {x a:Str}{d:Stmt}{f:Addr}{j:FuncData}{ps:List Str}(F:Fun K x a d f j)
    (h:∀ (kV b g:Value) (e:Option Addr) (c ct:Value) (i:List Value),i.length=ps.length→bindArgs (PySem.W.fnOf x a (wH d) (yC d) (zw d) .none kV b g e c ct) ⟨i,[]⟩=pure (ps.zip i)):vH K j ps []:=by
  obtain ⟨n,m,kV,b,g,e,c,ct,l,rfl,o,k⟩:=F.ex
  exact .all (h kV b g e c ct)
theorem zdB {x a:Str}{st:Stmt}{f:Addr}{j:Value}{i g:Option Addr}{e:Array (Option Value)}{kV d h b ct:Value}(l:K.lookup f=some ⟨j,i,.func (PySem.W.fnOf x a (wH st) (yC st) (zw st) .none kV d h g b ct),e⟩)
    (c:PySem.W.codeIn K b a=true) (k:PySem.W.keepIn K (.ref f)=true):Fun K x a st f (PySem.W.fnOf x a (wH st) (yC st) (zw st) .none kV d h g b ct):=⟨⟨j,i,kV,d,h,g,b,ct,e,rfl,l,c⟩,k⟩
end
theorem zdG {A:Around}{k:Nat}(a:yL k A):A.units+1 < cLine:=Nat.lt_of_le_of_lt (Nat.add_le_add_left (by decide:1≤64) _) a.units
theorem XT {n:Nat}(h:n≤1000):n < sizeLine:=Nat.lt_of_le_of_lt h (by decide)
section
variable {X:Cx}
theorem pv (i:Nat) {x:Str} {b:Pos} (c:X.N[i]?=some x:=by rfl) (d:Vis X.env.scope x:=by first | exact Or.inl rfl | exact Or.inr (Or.inl rfl) | exact Or.inr (Or.inr rfl)) (e:(x == ("__debug__":Str))=false:=by decide)
    (a:(x == ("__classdict__":Str))=false:=by decide):PE X (.Name x b) (zaD i):=zkY c d e a
end
noncomputable def zX (H H':Hp):Prop:=∀ b o,H b=some o→H' b=some o
theorem zX.refl (H:Hp):zX H H:=fun _ _ h=>h
theorem zX.trans {H H1 H2:Hp}(a:zX H H1)(b:zX H1 H2):zX H H2:=fun c o h=>b c o (a c o h)
theorem zX.free {H H':Hp}(e:zX H H'){l:Addr}(h:H' l=Option.none):H l=Option.none:=by
  cases q:H l with
  | none=>rfl
  | some o =>
    rw [e l o q] at h
    cases h
theorem zX.seq {K:PySem.W.Frag}{H H':Hp}{a:Addr}{b:List V}(e:zX H H')(h:SqL K H a b):SqL K H' a b:=by
  rcases h with (h | ⟨o,h⟩) | h
  · exact .inl (.inl (e _ _ h))
  · exact .inl (.inr ⟨o,e _ _ h⟩)
  · exact .inr h
section
variable {κ:Type}[DecidableEq κ]
noncomputable def zcP (a:List (κ × V))(k:κ):Option V:=(a.find? fun b=>decide (b.1=k)).map (·.2)
noncomputable def zbc (a:List (κ × V))(k:κ)(v:V):List (κ × V) :=
  if (a.any fun b=>decide (b.1=k))=true then a.map (fun b=>if b.1=k then (b.1,v) else b) else a++[(k,v)]
theorem Xx {p:κ × V}{r:List (κ × V)}{k:κ}(e:p.1=k):zcP (p::r) k=some p.2:=by simp [zcP,List.find?_cons,e]
theorem Xw {p:κ × V}{r:List (κ × V)}{k:κ}(e:¬ p.1=k):zcP (p::r) k=zcP r k:=by simp [zcP,List.find?_cons,e]
theorem V3 (k:κ):∀ a:List (κ × V),(a.any fun b=>decide (b.1=k))=(zcP a k).isSome
  | []=>rfl
  | p::r=>by
    rw [List.any_cons]
    by_cases e:p.1=k
    · simp only [Xx e,decide_eq_true e,Bool.true_or,Option.isSome_some]
    · rw [Xw e,decide_eq_false e,Bool.false_or];exact V3 k r
theorem Wg (a:List (κ × V))(k:κ)(v:V):(zbc a k v).length≤a.length+1:=by
  unfold zbc
  split
  · rw [List.length_map];omega
  · rw [List.length_append,List.length_cons,List.length_nil];omega
theorem zc8.isSome_eq {o:Option V}{u:Option Value}(r:zc8 o u):o.isSome=u.isSome:=by
  cases o with
  | none=>cases u with
    | none=>rfl
    | some _=>exact (show False from r).elim
  | some _=>cases u with
    | none=>exact (show False from r).elim
    | some _=>rfl
theorem KV.val {a:List (κ × V)}{g:List (κ × Value)}(r:KV a g)(k:κ):zc8 (zcP a k) (valueAt g k):=by
  unfold KV at r
  induction r with
  | nil=>exact True.intro
  | @cons p q l c h t i =>
    obtain ⟨f,j⟩:=h
    by_cases e:p.1=k
    · have d:q.1=k:=f.symm.trans e
      have b:valueAt (q::c) k=some q.2:=by simp [valueAt,List.find?_cons,d]
      rw [Xx e,b];exact j
    · have d:¬ q.1=k:=fun z=>e (f.trans z)
      have b:valueAt (q::c) k=valueAt c k:=by simp [valueAt,List.find?_cons,d]
      rw [Xw e,b];exact i
theorem KV.any {a:List (κ × V)}{c:List (κ × Value)}(r:KV a c)(k:κ):(a.any fun b=>decide (b.1=k))=c.any fun b=>decide (b.1=k):=by
  unfold KV at r
  induction r with
  | nil=>rfl
  | cons h t d=>rw [List.any_cons,List.any_cons,d,h.1]
theorem KV.repl {b:List (κ × V)}{d:List (κ × Value)}(r:KV b d)(k:κ){y:V}{u:Value}(g:yk y u) :
    KV (b.map fun a=>if a.1=k then (a.1,y) else a) (d.map fun a=>if a.1=k then (a.1,u) else a):=by
  unfold KV at r ⊢
  induction r with
  | nil=>exact .nil
  | @cons p q l j h t f =>
    rw [List.map_cons,List.map_cons]
    refine .cons ?_ f
    obtain ⟨c,i⟩:=h
    by_cases e:p.1=k
    · rw [if_pos e,if_pos (c.symm.trans e)];exact ⟨c,g⟩
    · rw [if_neg e,if_neg (fun z=>e (c.trans z))];exact ⟨c,i⟩
theorem KV.put {a:List (κ × V)}{b:List (κ × Value)}(r:KV a b)(k:κ){y:V}{u:Value}(c:yk y u):KV (zbc a k y) (stored b k u):=by
  unfold zbc stored
  rw [r.any k]
  by_cases e:(b.any fun d=>decide (d.1=k))=true
  · rw [if_pos e,if_pos e];exact r.repl k c
  · rw [if_neg e,if_neg e];exact Paired.snoc r ⟨rfl,c⟩
theorem KV.keys {a:List (κ × V)}{b:List (κ × Value)}(r:KV a b):a.map (·.1)=b.map (·.1):=by
  unfold KV at r
  induction r with
  | nil=>rfl
  | cons h t c=>rw [List.map_cons,List.map_cons,c,h.1]
theorem KV.length {a:List (κ × V)}{b:List (κ × Value)}(r:KV a b):a.length=b.length:=Paired.length r
end
theorem zfa {P:Program}{w:World}{k:Key}{u:Value}(r:yk (kV k) u):(yw P w).is k u=true:=by
  cases k with
  | inl i=>obtain ⟨t,e⟩:=(show ∃ t,u=Value.int i t from r);subst e;exact zb4 P w i t
  | inr x=>obtain ⟨t,e⟩:=(show ∃ t,u=Value.str x t from r);subst e;exact zbo P w x t
theorem zaG {P:Program}{w:World}:∀ {a:List Key} {b:List Value},ye (a.map kV) b→ItemsAre (yw P w) a b
  | [],_,r=>by rw [List.map_nil] at r;cases r;exact .nil
  | k::a,_,r=>by
    rw [List.map_cons] at r
    cases r with
    | cons h t=>exact .cons (zfa h) (zaG t)
noncomputable abbrev KT (H:Hp):List (List Key × V)→List (List Key × Addr × Value)→Prop:=Paired fun p q=>p.1=q.1∧H q.2.1=some (.tup (p.1.map kV))∧yk p.2 q.2.2
theorem KT.val {H:Hp}{a:List (List Key × V)}{g:List (List Key × Addr × Value)}(r:KT H a g)(k:List Key):zc8 (zcP a k) ((atKey g k).map (·.2)):=by
  induction r with
  | nil=>exact True.intro
  | @cons p q l c h t i =>
    obtain ⟨f,_,j⟩:=h
    by_cases e:p.1=k
    · have d:q.1=k:=f.symm.trans e
      have b:atKey (q::c) k=some q.2:=by simp [atKey,List.find?_cons,d]
      rw [Xx e,b];exact j
    · have d:¬ q.1=k:=fun z=>e (f.trans z)
      have b:atKey (q::c) k=atKey c k:=by simp [atKey,List.find?_cons,d]
      rw [Xw e,b];exact i
theorem KT.repl {H:Hp}{a:List (List Key × V)}{f:List (List Key × Addr × Value)}(r:KT H a f)(k:List Key){y:V}{u:Value}(i:yk y u) :
    KT H (a.map fun c=>if c.1=k then (c.1,y) else c) (f.map (putAt k u)):=by
  induction r with
  | nil=>exact .nil
  | @cons p q m l h t g =>
    rw [List.map_cons,List.map_cons]
    refine .cons ?_ g
    obtain ⟨b,d,j⟩:=h
    unfold putAt
    by_cases e:p.1=k
    · rw [if_pos e,if_pos (b.symm.trans e)];exact ⟨b,d,i⟩
    · rw [if_neg e,if_neg (fun z=>e (b.trans z))];exact ⟨b,d,j⟩
theorem KT.put {H:Hp}{a:List (List Key × V)}{c:List (List Key × Addr × Value)}(r:KT H a c)(k:List Key){b:Addr}{y:V}{u:Value}(g:H b=some (.tup (k.map kV)))(d:yk y u) :
    KT H (zbc a k y) (storedH c k b u):=by
  have e:(a.any fun f=>decide (f.1=k))=(atKey c k).isSome:=by
    rw [V3,(r.val k).isSome_eq,Option.isSome_map]
  unfold zbc storedH
  rw [e]
  by_cases q:(atKey c k).isSome=true
  · rw [if_pos q,if_pos q];exact r.repl k d
  · rw [if_neg q,if_neg q];exact Paired.snoc r ⟨rfl,g,d⟩
theorem KT.keeps {H H':Hp}{a:List (List Key × V)}{c:List (List Key × Addr × Value)}(r:KT H a c)(e:∀ b d,H b=some (.tup d)→H' b=some (.tup d)):KT H' a c :=
  Paired.mapP r fun _ _ z=>⟨z.1,e _ _ z.2.1,z.2.2⟩
section
variable {P:Program}{w:World}{H:Hp}{h:Heap}{a:Addr}
theorem zkT {u:HO}(ok:HOk P w H h)(e:Rd H a u):yb P w H h a u:=e.ok ok
theorem zew {b:List (Key × V)}(ok:HOk P w H h)(e:Rd H a (.dK b)):b.length≤sizeLine∧(a == sysModules)=false∧∃ c,KV b c∧h.DictOf (yw P w) a c :=
  show yb P w H h a (.dK b) from zkT ok e
theorem zmx {b:List (Key × V)}(ok:HOk P w H h)(e:H a=some (.dK b)):b.length≤sizeLine∧(a == sysModules)=false∧∃ c,KV b c∧h.DictOf (yw P w) a c:=zew ok (.inl e)
theorem W6 {c:List Key}(ok:HOk P w H h)(e:H a=some (.tup (c.map kV))):(tupleKind (yw P w)).is h c a:=by
  obtain ⟨_,b,r,o,d,f,n,g⟩:=(show yb P w H h a (.tup (c.map kV)) from ok a _ e)
  exact ⟨o,b.toArray,n,d,f,g,by simpa using zaG r⟩
theorem zdK {b:List (List Key × V)}(ok:HOk P w H h)(e:Rd H a (.dT b)):b.length≤sizeLine∧(a == sysModules)=false ∧
    ∃ d,KT H b d∧h.DictOfH (tupleKind (yw P w)) a d:=by
  obtain ⟨z,y,d,r,o,k,i,n,s,u,v,j⟩:=(show yb P w H h a (.dT b) from zkT ok e)
  refine ⟨z,y,d,r,o,k,i,n,s,u,v,fun x c=>?_,j⟩
  have f:∀ {l:List (List Key × V)} {m:List (List Key × Addr × Value)},KT H l m→∀ x∈m,(tupleKind (yw P w)).is h x.1 x.2.1:=by
    intro l m q
    induction q with
    | nil=>intro x c;exact nomatch c
    | @cons p q B A hq t g =>
      intro x c
      rcases List.mem_cons.mp c with e | c
      · subst e
        exact W6 ok (by rw [←hq.1];exact hq.2.1)
      · exact g x c
  exact f r x c
theorem zlg {b:List (List Key × V)}(ok:HOk P w H h)(e:H a=some (.dT b)):b.length≤sizeLine∧(a == sysModules)=false ∧
    ∃ c,KT H b c∧h.DictOfH (tupleKind (yw P w)) a c:=zdK ok (.inl e)
end
noncomputable def zig (H:Hp)(a:Addr)(y:V)(r:Option V):Prop :=
  (∃ c k,Rd H a (.dK c)∧y=kV k∧r=zcP c k)∨∃ c k b,Rd H a (.dT c)∧y=.ref b∧H b=some (.tup (k.map kV))∧r=zcP c k
noncomputable def zgt (H:Hp)(a:Addr)(y v:V)(H':Hp):Prop :=
  (∃ c k,H a=some (.dK c)∧y=kV k∧c.length < sizeLine∧H'=upd H a (.dK (zbc c k v))) ∨
  ∃ c k b,H a=some (.dT c)∧y=.ref b∧H b=some (.tup (k.map kV))∧c.length < sizeLine∧H'=upd H a (.dT (zbc c k v))
theorem zgt.k {H:Hp}{a:Addr}{b:List (Key × V)}{k:Key}{v:V}(e:H a=some (.dK b))(c:b.length < sizeLine):zgt H a (kV k) v (upd H a (.dK (zbc b k v))):=.inl ⟨b,k,e,rfl,c,rfl⟩
theorem zgt.t {H:Hp}{a b:Addr}{c:List (List Key × V)}{k:List Key}{v:V}(e:H a=some (.dT c))(f:H b=some (.tup (k.map kV)))(d:c.length < sizeLine) :
    zgt H a (.ref b) v (upd H a (.dT (zbc c k v))):=.inr ⟨c,k,b,e,rfl,f,d,rfl⟩
section
variable {X:Cx}{pins:List (Addr × Obj)}{σ:St}{H:Hp}{s:Shared}{a:Addr}{y v:V}{u r:Value}{o:Option V}{A:Around}{E:Value→Shared→Prop}
theorem Inv.big (I:Inv X pins σ H s):sysModules < s.heap.objs.size:=by
  have h:mainGlobals < s.heap.objs.size:=(I.mod.glob.keeps I.bk).lt
  exact Nat.lt_trans (by decide) h
theorem zdY {Q:Value→Shared→Prop}(w:A.units+1 < cLine)(I:Inv X pins σ H s)(g:zig H a y (some v))(r:yk y u)(h:∀ f q,Inv X pins σ H q→yk v f→Q f q) :
    wpAny (model X.prog X.w) A (getItem (.ref a) u) Q E s:=by
  rcases g with ⟨m,k,e,i,l⟩ | ⟨m,k,b,e,i,x,l⟩
  · subst i
    obtain ⟨z,C,D,c,n⟩:=zew I.hok e
    obtain ⟨f,hw,d⟩:=zc8.some_of (v:=v) (o:=valueAt D k) (by rw [l];exact c.val k)
    exact wpAny_getItem_of (zfa r) n.mapOf hw (h f _ (I.tok _) d)
  · subst i
    cases (show u=Value.ref b from r)
    obtain ⟨z,C,B,c,n⟩:=zdK I.hok e
    obtain ⟨f,hw,d⟩:=zc8.some_of (v:=v) (o:=(atKey B k).map (·.2)) (by rw [l];exact c.val k)
    obtain ⟨p,t,j⟩:=Option.map_eq_some_iff.mp hw
    refine wpAny_getItem_heap (tupleKind_room_in1 w) (W6 I.hok x) n t ?_
    rw [j]
    exact h f _ (I.tok _) d
theorem d_in {Q:Value→Shared→Prop}(p:A.units+1 < cLine)(I:Inv X pins σ H s)(g:zig H a y o)(n:yk y u)(h:∀ m,Inv X pins σ H m→Q (.bool o.isSome) m) :
    wpAny (model X.prog X.w) A (compareOp .In u (.ref a)) Q E s:=by
  rcases g with ⟨i,k,e,d,l⟩ | ⟨i,k,b,e,d,r,l⟩
  · subst d
    obtain ⟨z,f,v,c,j⟩:=zew I.hok e
    refine wpAny_in_of (zfa n) f j.mapOf ?_
    rw [←(c.val k).isSome_eq,← l]
    exact h _ (I.tok _)
  · subst d
    cases (show u=Value.ref b from n)
    obtain ⟨z,f,t,c,j⟩:=zdK I.hok e
    refine wpAny_in_heap (tupleKind_room_in1 p) (W6 I.hok r) f j ?_
    have q:=(c.val k).isSome_eq
    rw [Option.isSome_map] at q
    rw [←q,← l]
    exact h _ (I.tok _)
theorem ziT {Q:Value→Shared→Prop}(p:A.units+1 < cLine)(I:Inv X pins σ H s)(g:zig H a y o)(n:yk y u)(h:∀ m,Inv X pins σ H m→Q (.bool (!o.isSome)) m) :
    wpAny (model X.prog X.w) A (compareOp .NotIn u (.ref a)) Q E s:=by
  rcases g with ⟨i,k,e,d,l⟩ | ⟨i,k,b,e,d,r,l⟩
  · subst d
    obtain ⟨z,f,v,c,j⟩:=zew I.hok e
    refine wpAny_notIn_of (zfa n) f j.mapOf ?_
    rw [←(c.val k).isSome_eq,← l]
    exact h _ (I.tok _)
  · subst d
    cases (show u=Value.ref b from n)
    obtain ⟨z,f,t,c,j⟩:=zdK I.hok e
    refine wpAny_notIn_heap (tupleKind_room_in1 p) (W6 I.hok r) f j ?_
    have q:=(c.val k).isSome_eq
    rw [Option.isSome_map] at q
    rw [←q,← l]
    exact h _ (I.tok _)
theorem zbK {c:Heap}{t':Nat}{ob:HO}(I:Inv X pins σ H s)(i:Mut (H a))(h:Heap.SameBut a s.heap c)(g:∃ q,c.get? a=some q)(d:yb X.prog X.w (upd H a ob) c a ob) :
    Inv X pins σ (upd H a ob) { s with heap:=c,toks:=t' } :=
  I.write (x:=a) (e:=a) i (.inl rfl) (fun b q f z=>(h.2 b f).trans z) g d
theorem zj3 {P:Program}{w:World}{H':Hp}{e:Heap}{b:List (Key × V)}{d:List (Key × Value)}(z:b.length≤sizeLine)(f:(a == sysModules)=false)(c:KV b d)(g:e.DictOf (yw P w) a d) :
    yb P w H' e a (.dK b):=⟨z,f,d,c,g⟩
theorem zdA {H':Hp}{Q:Unit→Shared→Prop}(T:A.units+1 < cLine)(I:Inv X pins σ H s)(g:zgt H a y v H')(B:yk y u)(x:yk v r)(h:∀ F,Inv X pins σ H' F→Q () F) :
    wpAny (model X.prog X.w) A (setItem (.ref a) u r) Q E s:=by
  rcases g with ⟨f,k,e,j,l,n⟩ | ⟨f,k,b,e,j,G,l,n⟩
  · subst j n
    obtain ⟨z,m,P,d,w⟩:=zmx I.hok e
    have o:P.length≤sizeLine:=by rw [←d.length];exact z
    have p:(zbc f k v).length≤sizeLine:=by have:=Wg f k v;omega
    refine wpAny_setItem_pairs (hsz:=o) (zfa B) w fun C i t=>h _ ?_
    have S:∃ q,C.get? a=some q:=let ⟨q,_,_,hq,_⟩:=i;⟨q,hq⟩
    exact zbK I (by rw [e];exact True.intro) t S (zj3 p m (d.put k x) i)
  · subst j n
    cases (show u=Value.ref b from B)
    obtain ⟨z,m,O,d,w⟩:=zlg I.hok e
    have o:O.length≤sizeLine:=by rw [←Paired.length d];exact z
    have p:(zbc f k v).length≤sizeLine:=by have:=Wg f k v;omega
    refine wpAny_setItem_heap (hsz:=o) (tupleKind_room_in1 T) (W6 I.hok G) w fun C i t=>h _ ?_
    obtain ⟨q,L,J,hq,M,N,R,_,K⟩:=i
    refine zbK I (by rw [e];exact True.intro) t ⟨q,hq⟩ ⟨p,m,_,(d.put k G x).keeps fun c U D=>?_,q,L,J,hq,M,N,R,K⟩
    rw [zm (zjD D e (fun z=>nomatch z))]
    exact D
end
noncomputable def zmf (i:Expr):Prop:=∀ b a,subscripted i false b a=operate [b,a] (getItem b a)
theorem ziY {a:Program}{w:World}{A:Around}{E:Value→Shared→Prop}{s:Shared}{env:Env}{c b:Expr}{f:Pos}{T id:String}{Q:Value→Shared→Prop}
    (m:typeLookup (.type T) "__getitem__"=pure (some (.builtin id))) (n:zmf b)
    (h:wpAny (model a w) A (eval c env) (fun o k=>wpAny (model a w) A (eval b env) (fun i d=>d.TypeIs o T∧wpAny (model a w) A (getItem o i) Q E d) E k) E s) :
    wpAny (model a w) A (eval (.Subscript c b f) env) Q E s:=by
  refine Subscript_ (wpAny_mono h (fun o k l=>wpAny_mono l (fun i d e=>?_) fun _ _ x=>x) fun _ _ x=>x)
  obtain ⟨j,e⟩:=e
  unfold subscriptTail
  refine wpAny_bind ?_
  rw [getitemInPython_of_ne j.not_modules]
  refine wpAny_bind (wpAny_specialOf j m ?_)
  have fin:wpAny (model a w) A (subscripted b false o i) (fun r g=>wpAny (model a w) A (letTemporaryGo c o r>>=fun _=>pure r) Q E g) E d:=by
    rw [n o i]
    exact wpAny_operating (wpAny_mono e (fun r g p=>wpAny_bind (wpAny_letTemporaryGo (wpAny_pure p))) fun _ _ x=>x)
  first
    | exact wpAny_pure (wpAny_bind fin)
    | exact wpAny_bind (wpAny_pure (wpAny_bind fin))
    | exact wpAny_bind fin
theorem zbt {X:Cx} {c:List (Addr × Obj)} {σ:St} {H:Hp} {s:Shared} {a:Addr} {y:V} {o:Option V} (I:Inv X c σ H s) (g:zig H a y o):s.TypeIs (.ref a) "dict":=by
  rcases g with ⟨d,k,e,_,_⟩ | ⟨d,k,b,e,_,_,_⟩
  · obtain ⟨_,_,i,_,f⟩:=zew I.hok e
    exact f.typeIs
  · obtain ⟨_,_,h,_,f⟩:=zdK I.hok e
    exact f.typeIs
noncomputable def zmP (b ty:TE):TE:=fun σ H Q=>b σ H fun x H1=>ty σ H1 fun y H2=>∃ a v,x=.ref a∧zig H2 a y (some v)∧Q v H2
noncomputable def zmz (b ty tv:TE):TS:=fun D σ H=>tv σ H fun v H1=>b σ H1 fun x H2=>ty σ H2 fun y H3=>∃ a H4,x=.ref a∧zgt H3 a y v H4∧D.nx σ H4
section
variable {X:Cx}{o i e value:Expr}{pos pos' tpos:Pos}{td ty tv:TE}
theorem ziB (m:X.A.units+1 < cLine)(n:PE X o td)(j:PE X i ty)(k:zmf i):PE X (.Subscript o i pos) (zmP td ty):=by
  intro b s σ H Q I h
  refine ziY PySem.F.slot_dict_getitem.lookup k (thn (n b s σ H _ I h) fun u d ⟨x,H1,I1,l,f⟩=>thn (j b d σ H1 _ I1 f) fun w r hh9=>?_)
  obtain ⟨y,H2,I2,e,a,v,ex,g,p⟩:=hh9
  subst ex
  obtain rfl:u=Value.ref a:=l
  exact ⟨zbt I2 g,zdY m I2 g e fun q t I3 c=>⟨v,H2,I3,c,p⟩⟩
theorem zi3 (p:X.A.units+1 < cLine)(q:PE X o td)(k:PE X i ty)(f:PE X value tv)(n:swapsWith value (some (.Subscript o i pos')) pos.line X.env=pure false) :
    PS X (.Assign [.Subscript o i pos'] value pos) (zmz td ty tv):=by
  intro b s σ H D I h
  refine wpAny_Assign_Subscript (thn (f b s σ H _ I h) fun r c ⟨v,H1,I1,d,m⟩=>thn (q b c σ H1 _ I1 m) fun u j ⟨x,H2,I2,l,t⟩=>thn (k b j σ H2 _ I2 t) fun A z hh9=>?_) n
  obtain ⟨y,H3,I3,e,a,H4,ex,g,w⟩:=hh9
  subst ex
  obtain rfl:u=Value.ref a:=l
  exact zdA p I3 g e d fun B I4=>⟨σ,H4,I4,w⟩
end
theorem zgr {P:Program} {w:World} {H:Hp} (h:Heap) (a:sysModules < h.objs.size):yb P w H (h.push { cls:=.type "dict",data:=.dict #[] }) h.objs.size (.dK []) :=
  ⟨Nat.zero_le _,beq_eq_false_iff_ne.mpr (Ne.symm (Nat.ne_of_lt a)),[],.nil,Heap.DictOf.new h⟩
theorem zct {P:Program} {w:World} {H:Hp} (h:Heap) (a:sysModules < h.objs.size):yb P w H (h.push { cls:=.type "dict",data:=.dict #[] }) h.objs.size (.dT []) :=
  ⟨Nat.zero_le _,beq_eq_false_iff_ne.mpr (Ne.symm (Nat.ne_of_lt a)),[],.nil,_,#[],0,Heap.get?_push_size _ rfl,⟨rfl,rfl,rfl⟩,rfl,rfl,List.nodup_nil⟩
noncomputable def zld:TE:=fun _ H Q=>∀ p,H p=none→Q (.ref p) (upd H p (.dK []))
noncomputable def zk2:TE:=fun _ H Q=>∀ p,H p=none→Q (.ref p) (upd H p (.dT []))
section
variable {X:Cx}{pos:Pos}
theorem zgV:PE X (.Dict [] [] pos) zld:=fun b s σ H Q I h =>
  wpAny_Dict_empty ⟨.ref s.heap.objs.size,_,I.laid (a:=s.heap.objs.size) (o:=.dK []) (t':=s.toks) (fun _ _ q=>Heap.get?_push_of_some _ q) (Nat.le_refl _) (zgr s.heap I.big),rfl,h _ (I.hok.fresh (Nat.le_refl _))⟩
theorem zgk:PE X (.Dict [] [] pos) zk2:=fun b s σ H Q I h =>
  wpAny_Dict_empty ⟨.ref s.heap.objs.size,_,I.laid (a:=s.heap.objs.size) (o:=.dT []) (t':=s.toks) (fun _ _ q=>Heap.get?_push_of_some _ q) (Nat.le_refl _) (zct s.heap I.big),rfl,h _ (I.hok.fresh (Nat.le_refl _))⟩
end
theorem zbR {X:Cx}:vO X (.builtin "isinstance") (fun a H Q=>∃ x n t b,a=[x,.ty n]∧zcp X.K H x t∧PySem.W.kitOne X.K t (.type n)=some b∧Q (.bl b) H):=by
  intro c s σ H a g Q I r h
  obtain ⟨x,n,t,b,rfl,ty,e,q⟩:=h
  obtain ⟨u,d,rfl,f,rt⟩:=zg5 r
  cases (show d=Value.type n from rt)
  exact zdF I f ty e fun tk=>⟨.bl b,H,I.tok _,rfl,q⟩
theorem zfS {X:Cx}:OpR X (compareOp .Is) (fun x y H Q=>∃ i j,x=.bl i∧y=.bl j∧Q (.bl (i == j)) H):=by
  intro a s σ H x y v u Q I c b h
  obtain ⟨i,j,rfl,rfl,q⟩:=h
  cases c
  cases b
  refine wpAny_is_plain (by rfl) ⟨.bl (i == j),H,I,?_,q⟩
  cases i <;> cases j <;> rfl
theorem zbg {X:Cx}:OpR X (compareOp .IsNot) (fun x y H Q=>∃ i j,x=.bl i∧y=.bl j∧Q (.bl (!(i == j))) H):=by
  intro a s σ H x y v u Q I c b h
  obtain ⟨i,j,rfl,rfl,q⟩:=h
  cases c
  cases b
  refine wpAny_isNot_plain (by rfl) ⟨.bl (!(i == j)),H,I,?_,q⟩
  cases i <;> cases j <;> rfl
noncomputable def zh2 (K:PySem.W.Frag):R2:=fun x y H Q=>∃ a b c d,x=.ref a∧y=.ref b∧SqT K H a c∧SqT K H b d∧c.length+d.length≤sizeLine ∧
  (c=[]→Q (.ref b) H)∧(c≠[]→d=[]→Q (.ref a) H)∧(c≠[]→d≠[]→∀ p,H p=none→Q (.ref p) (upd H p (.tup (c++d))))
theorem zfP {X:Cx}:OpR X (binaryOp .Add) (zh2 X.K):=by
  intro d s σ H x y v u Q I q m h
  obtain ⟨a,b,w,N,rfl,rfl,C,o,D,E,G,K⟩:=h
  by_cases j:w=[]
  · subst j
    cases q
    cases m
    obtain ⟨J,r,p,_⟩:=I.tuple C
    obtain ⟨g,P,L,_⟩:=I.tuple o
    cases r
    obtain ⟨⟨cls,O,data,M⟩,B,t,n,z⟩:=id p
    obtain ⟨⟨A,dd2,k,l⟩,c,i,F,f⟩:=id L
    simp only at t z i f
    subst t z i f
    exact concat_meets ⟨_,B,rfl⟩ ⟨_,c,rfl⟩ noFill_tuple_add seq_tuple_add PySem.F.slot_tuple_add PySem.F.entry_tuple_add (PySem.F.args_tuple_add_2 _ _)
      (tuple_addW0 a b #[] g.toArray n F O dd2 M l rfl) ⟨B,c,⟨.ref b,H,I,rfl,E rfl⟩⟩
  · refine ziX d s σ H (.ref a) (.ref b) v u Q I q m ⟨a,b,w,N,rfl,rfl,C,o,j,D,?_⟩
    exact ⟨fun e=>G j e,fun e=>K j e⟩
inductive Ys:St→St→Prop where
  | nil:Ys [] []
  | non {a:Option V} {s t:St}:Ys s t→Ys (none::s) (a::t)
  | same {a:Option V} {s t:St}:Ys s t→Ys (a::s) (a::t)
theorem Ys.refl:∀ s:St,Ys s s
  | []=>.nil
  | _::r=>.same (Ys.refl r)
theorem Ys.length {s t:St}(h:Ys s t):s.length=t.length:=by
  induction h with
  | nil=>rfl
  | non _ a=>simp [a]
  | same _ a=>simp [a]
theorem Ys.get {s t:St}(h:Ys s t):∀ (i:Nat) (v:V),s[i]?=some (some v)→t[i]?=some (some v):=by
  induction h with
  | nil=>intro i v e;exact e
  | non _ a =>
    intro i v e
    cases i with
    | zero=>simp at e
    | succ i=>simpa using a i v (by simpa using e)
  | same _ a =>
    intro i v e
    cases i with
    | zero=>simpa using e
    | succ i=>simpa using a i v (by simpa using e)
theorem Ys.set {n:Nat}{v:V}:∀ {s t:St},Ys s t→s[n]?=some none→Ys s (t.set n (some v))
  | _,_,.nil,_=>.nil
  | _,_,.non (a:=a) h,e=>by
    cases n with
    | zero=>exact .non h
    | succ n=>exact .non (Ys.set h (by simpa using e))
  | _,_,.same (a:=a) h,e=>by
    cases n with
    | zero =>
      have b:a=none:=by simpa using e
      subst b
      exact .non h
    | succ n=>exact .same (Ys.set h (by simpa using e))
theorem Inv.sub {X:Cx}{a:List (Addr × Obj)}{σ b:St}{H:Hp}{s:Shared}(I:Inv X a σ H s)(h:Ys b σ):Inv X a b H s:=I.weak h.length h.get
noncomputable def PIf (X:Cx)(b:List Expr)(t:TT):Prop :=
  ∀ (a:List (Addr × Obj)) (s:Shared) (σ:St) (H:Hp) (Q:Bool→Hp→Prop),Inv X a σ H s→t σ H Q →
    wpAny (model X.prog X.w) X.A (forIn b true fun c r=>if r=true then do let ok←isTrue c X.env (eval c X.env);pure (ForInStep.yield ok) else pure (ForInStep.yield r)) (TP X a σ Q) X.xe s
noncomputable def tYes:TT:=fun _ H Q=>Q true H
theorem zfI {X:Cx}:PIf X [] tYes:=by
  intro a s σ H Q I h
  rw [List.forIn_nil]
  exact wpAny_pure ⟨H,I,h⟩
theorem zbr {X:Cx}{c:Expr}{t:TT}(d:PT X c t):PIf X [c] t:=by
  intro a s σ H Q I h
  rw [List.forIn_cons]
  refine wpAny_bind ?_
  rw [if_pos rfl]
  refine wpAny_bind (thn (d a s σ H Q I h) fun b e q=>wpAny_pure ?_)
  show wpAny _ _ (forIn [] b _) _ _ _
  rw [List.forIn_nil]
  exact wpAny_pure q
section
variable {prog:Program}{w:World}{A:Around}{R:Result→Shared→Prop}{s:Shared}
theorem xF {f a e:Expr}{g:List Expr}{d:Scope}{k:Pos}{l i:Value}{env:Env}(I:Nat→Shared→Prop)
    (turn:∀ n s,I n s→wpAny (model prog w) A (pyNext l) (fun r p=>match r with
      | none=>R (.ok .next) p
      | some v=>wpAny (model prog w) A (letOwnedTupleGo a l v) (fun _ j=>wpAny (model prog w) A (assign a env v) (fun _ y =>
          wpAny (model prog w) A (forIn g true fun c r=>if r=true then do let ok←isTrue c env (eval c env);pure (ForInStep.yield ok) else pure (ForInStep.yield r)) (fun ok o =>
            if ok=true then wpAny (model prog w) A (eval f env) (fun x B =>
              wpAny (model prog w) A (call (.builtin "list.append") [i,x]) (fun _ t=>∃ m,m < n∧I m t) (fun _ _=>False) B) (fun _ _=>False) o
            else ∃ m,m < n∧I m o) (fun _ _=>False) y) (fun _ _=>False) j) (fun _ _=>False) p) (fun _ _=>False) s)
    (n:Nat) (h:I n s) :
    codeAny (model prog w) A (.compLoop (.ListComp f [⟨a,e,g,0⟩] d k) 0 l i env) R s:=by
  refine codeAny_loop rfl I (fun n s F=>?_) n h
  show wpAny _ A ((compTurn (.ListComp f [⟨a,e,g,0⟩] d k) 0 l i env).onRaise (fun x=>do noteFrame x env;theTreesLotGoes x)) _ _ s
  refine wpAny_noted ?_
  rw [compTurn_list]
  refine wpAny_bind (wpAny_standAt (wpAny_bind (wpAny_mono (turn n s F) (fun r p u=>?_) fun _ _ b=>b.elim)))
  cases r with
  | none=>exact wpAny_pure u
  | some v =>
    refine wpAny_bind (wpAny_mono u (fun _ j q=>?_) fun _ _ b=>b.elim)
    refine wpAny_bind (wpAny_mono q (fun _ y D=>wpAny_bind (wpAny_mono D (fun ok o z=>?_) fun _ _ b=>b.elim)) fun _ _ b=>b.elim)
    cases ok with
    | false=>exact wpAny_pure ⟨rfl,z⟩
    | true =>
      exact wpAny_bind (wpAny_bind (wpAny_mono z (fun x B E=>wpAny_bind (wpAny_mono E (fun _ t C=>wpAny_pure (wpAny_pure ⟨rfl,C⟩)) fun _ _ b=>b.elim)) fun _ _ b=>b.elim))
end
noncomputable def tLC (h:TI)(n:Nat)(g:TG)(f:TT)(e:TE):TE:=fun σ H Q=>h σ H fun J H1=>∀ D,H1 D=none→∃ W:Nat→Nat→List V→Hp→Prop,(∃ m,W 0 m [] (upd H1 D (.lst []))) ∧
  ∀ i m a H2,W i m a H2→(J.stop i H2∧Q (.ref D) H2)∨(J.go i H2∧a.length < sizeLine∧∀ x H3,J.yld i H2 x H3→g x (List.replicate n none++σ) H3 fun d H4=>f d H4 fun b H5 =>
    if b=true then e d H5 fun y H6=>H6 D=some (.lst a)∧∃ c,c < m∧W (i+1) c (a++[y]) (upd H6 D (.lst (a++[y]))) else ∃ c,c < m∧W (i+1) c a H5)
theorem xj {α:Type}:∀ {l:List (Str × α)} {y:Str},y∈l.map Prod.fst→∃ c,l.lookup y=some c
  | [],_,h=>by simp at h
  | (k,v)::r,y,h=>by
    by_cases e:y=k
    · exact ⟨v,by simp [List.lookup,e]⟩
    · obtain ⟨c,a⟩:=xj (l:=r) (y:=y) (by simpa [e] using h)
      have b:(y == k)=false:=beq_eq_false_iff_ne.mpr e
      exact ⟨c,by simp only [List.lookup,b];exact a⟩
theorem yD {α:Type}{P:α→Prop}:∀ p∈([]:List α),P p:=fun _ h=>nomatch h
theorem all_cons {α:Type}{P:α→Prop}{a:α}{l:List α}(h:P a)(t:∀ p∈l,P p):∀ p∈a::l,P p:=fun p b=>by
  rcases List.mem_cons.mp b with e | b
  · rw [e];exact h
  · exact t p b
theorem gs1 (σ:St)(v:V)(H:Hp)(Q:St→Hp→Prop)(h:Yb 0 v (List.replicate 1 none++σ) H Q):Yb 0 v (List.replicate 1 none++σ) H (fun a H2=>Ys (List.replicate 1 none++σ) a∧Q a H2):=⟨.set (.refl _) rfl,h⟩
theorem gs2 {K:PySem.W.Frag}(σ:St)(v:V)(H:Hp)(Q:St→Hp→Prop)(h:zl7 K 2 (zbY (Yb 0) (zbY (Yb 1) zlY)) v (List.replicate 2 none++σ) H Q) :
    zl7 K 2 (zbY (Yb 0) (zbY (Yb 1) zlY)) v (List.replicate 2 none++σ) H (fun b H2=>Ys (List.replicate 2 none++σ) b∧Q b H2):=by
  obtain ⟨a,i,e,hq,d,x,r,g,y,j,f,c,q⟩:=h
  exact ⟨a,i,e,hq,d,x,r,g,y,j,f,c,.set (.set (.refl _) rfl) rfl,q⟩
noncomputable def v7 (X:Cx)(L M:List Str)(a:Scope)(b:List (Str × Addr))(s₀:Shared)(H₀:Hp)(ex:List Addr)(pn:List (Addr × Obj)):Cx :=
  { X with N:=L++M,s₀:=s₀,H₀:=H₀,env:=compEnvC a b s₀.heap.objs.size X.env,outer:=X.stack,stack:=X.stack,ex:=ex,fn:=fun _=>false,pn:=pn,xe:=fun _ _=>False }
structure yN (X:Cx) (L M:List Str) (scope:Scope) (cl:List (Str × Addr)):Prop where
  clos:closureFor scope X.env=pure cl
  cell:∀ y∈scope.names,y.2≠.cell
  kind:scope.kind=.function
  names:∀ y∈scope.names,y.2=.local→scope.names.lookup y.1=some .local
  sub:∀ y c,cl.lookup y=some c→X.env.cells.lookup y=some c
  has:∀ y,((relabel scope X.env).names.lookup y=some .cell∨(relabel scope X.env).names.lookup y=some .free)→∃ c,cl.lookup y=some c
  mlen:M.length=X.N.length
  msk:∀ (i:Nat) y,M[i]?=some y→Vis (relabel scope X.env) y→X.N[i]?=some y
  vis:∀ (i:Nat) y,M[i]?=some y→Vis (relabel scope X.env) y→((relabel scope X.env).names.lookup y=some .cell∨(relabel scope X.env).names.lookup y=some .free)
  out:∀ (i:Nat) y,M[i]?=some y→Vis (relabel scope X.env) y→Vis X.env.scope y∧X.env.kindOf y≠some .local
theorem Inv.letGo {X:Cx}{a:List (Addr × Obj)}{σ:St}{H:Hp}{s:Shared}{C:Addr}{i:Heap}(I:Inv X a σ H s)(f:WG X a H C)(g:Heap.SameBut C s.heap i):Inv X a σ H { s with heap:=i }:=by
  obtain ⟨k,f1,f2,f3,f4,f5⟩:=f
  have j:∀ b,b∉[C]→b≠C:=fun b h z=>h (by rw [z];exact List.mem_singleton.mpr rfl)
  refine I.call' (s':={ s with heap:=i }) (ch:=[C]) rfl ⟨fun b o e _ _ d=>(g.2 b (j b d)).trans e,fun b o e _ _ d=>⟨o.slots,(g.2 b (j b d)).trans e⟩,fun _ _ _ n _=>n,fun b o e d=>⟨o,(g.2 b (j b d)).trans e⟩,fun _ _ q=>q,fun _ _ _ q=>q,fun _ _ q=>q⟩ ?_ I.bare fun b h=>?_
  · intro b m e
    refine (I.hok b m e).stay (fun c v l q=>(g.2 c ?_).trans q) (fun _ q=>q) fun _ _ q=>q
    rintro rfl
    rcases l with z | z
    · rw [←z,k] at e;cases e
    · rw [k] at z;cases z
  · rw [List.mem_singleton.mp h]
    exact ⟨f3,f1,f4,f5⟩
theorem zfk {use:Option (Value→Sem Unit)}{Qf:Value→Shared→Prop}{X:Cx}{a7 tg t:Expr}{a6:List Expr}{L M:List Str}{a:Scope}{cl:List (Str × Addr)}{c8:Pos}{wi:TI}{g:TG}{tt:TT}{te:TE}
    (hc:X.calm=true) (S:yN X L M a cl) (hi:PI X tg t wi)
    (d4:∀ (σ:St) (v:V) (H:Hp) (Q:St→Hp→Prop),g v (List.replicate L.length none++σ) H Q→g v (List.replicate L.length none++σ) H (fun σ2 H2=>Ys (List.replicate L.length none++σ) σ2∧Q σ2 H2))
    (hg:∀ s₀ H₀ ex pn,PG (v7 X L M a cl s₀ H₀ ex pn) tg g) (ht:∀ s₀ H₀ ex pn,PIf (v7 X L M a cl s₀ H₀ ex pn) a6 tt) (he:∀ s₀ H₀ ex pn,PE (v7 X L M a cl s₀ H₀ ex pn) a7 te)
    (hs:∀ x,foldedSetIterable t X.env x=pure x:=by intro _;rfl) :
    ∀ (R:Pos) (f:List (Addr × Obj)) (s:Shared) (σ:St) (H:Hp) (Q:VK),Inv X f σ H s→tLC wi L.length g tt te σ H Q →
      (∀ (D C:Addr) (H':Hp) (F:Shared),Inv X f σ H' F→(∃ m,F.heap.Ns C m)→WG X f H' C→Q (.ref D) H'→compPost (model X.prog X.w) X.A X.xe use Qf (.ref D) C (.ok .next) F) →
      wpAny (model X.prog X.w) X.A (comprehension (.ListComp a7 [⟨tg,t,a6,0⟩] a c8) a X.env R (newList []) false (eval t X.env) use) Qf X.xe s:=by
  intro R f s σ H Q I h fin
  refine wpAny_comprehension_free (use:=use) rfl hs S.clos S.kind S.names (thn (hi f s σ H _ I h) fun v s1 h1=>thn h1 fun e8 l h2=>?_)
  obtain ⟨it,A,tn,J,H2,e,I2,T,c9,f2,q⟩:=h2
  subst e
  have hD:H2 l.heap.objs.size=none:=I2.hok.fresh (Nat.le_refl _)
  obtain ⟨W,⟨m0,w0⟩,turn⟩:=q _ hD
  refine wpAny_newObj_type (wpAny_newFunctionEnv S.cell (by intro y hy;simp at hy) (fun h₁ O P=>?_) S.kind)
  have I3:Inv X f σ (upd H2 l.heap.objs.size (.lst [])) { l with heap:=l.heap.push { cls:=.type "list",data:=.seq ([]:List Value).toArray } }:=by
    refine I2.laid (t':=l.toks) (fun b u e=>Heap.get?_push_of_some _ e) (Nat.le_refl _) ?_
    exact ⟨Nat.zero_le _,[],0,.nil,Heap.get?_push_size _ rfl⟩
  generalize c6:({ l with heap:=l.heap.push { cls:=.type "list",data:=.seq ([]:List Value).toArray } }:Shared)=s3 at I3 O P ⊢
  have N:∀ b∈A,b < l.heap.objs.size:=fun b j=>by
    obtain ⟨o,ho,_⟩:=T.obj _ _ c9 b j
    exact Heap.lt_size ho
  have e6:s3.heap.objs.size=l.heap.objs.size+1:=by rw [←c6];exact Heap.size_push ..
  have d3:∀ b o,l.heap.get? b=some o→s3.heap.get? b=some o:=fun b o e=>by rw [←c6];exact Heap.get?_push_of_some _ e
  have w:∀ b o,s3.heap.get? b=some o→h₁.get? b=some o:=fun b o e=>(P.2 b (Nat.ne_of_lt (Heap.lt_size e))).trans (Heap.get?_push_of_some _ e)
  generalize d2:upd H2 l.heap.objs.size (.lst [])=H3 at I3 w0
  have b6:∀ b∈A,H3 b=none:=fun b j=>by
    rw [←d2,zm (Nat.ne_of_lt (N b j))]
    exact (f2 b j).1
  have c3:∀ b∈A,b∉frs X.stack:=fun b j z=>by
    obtain ⟨_,n1,n2,_⟩:=f2 b j
    rcases List.mem_cons.mp (I3.stkSub b z) with e | e
    · exact n1 e
    · exact n2 e
  let Y:Cx:=v7 X L M a cl s3 H3 A (X.pn++f)
  have OkY:Y.Ok:=by
    refine ⟨I.ok.mod,S.kind,I.ok.glob,I.ok.blt,Nat.le_refl _,fun x y c h1 h2=>I.ok.inj x y c (S.sub x c h1) (S.sub y c h2),fun x hx=>S.has x hx,(fun x c h _=>absurd h Bool.false_ne_true),I.ok.hd,I.ok.frames,.inl rfl,fun b j=>⟨?_,fun x c e z=>?_⟩,
      I3.bs,Nat.le_trans I.ok.bsz I3.sz,fun b o e j=>?_,c3,I3.stack,I3.stkFree⟩
    · show b≠s3.heap.objs.size
      exact Nat.ne_of_lt (Nat.lt_of_lt_of_le (N b j) (by rw [e6];exact Nat.le_succ _))
    · exact (f2 b j).2.2.2.2.1 x c (S.sub x c e) z
    · rcases (f2 b j).2.2.2.1 with z | z
      · exact I.ok.noex b o e z
      · have h1:=Heap.lt_size e
        have h2:=I.ok.bsz
        exact absurd (Nat.lt_of_lt_of_le h1 (Nat.le_trans h2 z)) (Nat.lt_irrefl _)
  have I4:Inv Y [] (List.replicate L.length none++σ) H3 { s3 with heap:=h₁,toks:=s3.toks+([]:List (Str × Value)).length }:=by
    refine ⟨OkY,rfl,I3.bare,Un.kept w,⟨_,O,fun i y v e1 e2 e3=>?_⟩,fun x c e=>?_,I3.hok.fresh (Nat.le_refl _),fun x c e=>I3.freeC x c (S.sub x c e),fun p hp=>?_,I3.hok.kept w,?_⟩
    · have hi:¬ i < L.length:=fun d9=>by
        rw [List.getElem?_append_left (by simpa using d9),List.getElem?_replicate] at e2
        split at e2 <;> cases e2
      have b0:M[i - L.length]?=some y:=by
        have e1:(L++M)[i]?=some y:=e1
        rw [List.getElem?_append_right (by omega)] at e1
        exact e1
      have d6:σ[i - L.length]?=some (some v):=by rw [List.getElem?_append_right (by simpa using Nat.le_of_not_lt hi)] at e2;simpa using e2
      have e0:=S.msk _ y b0 e3
      obtain ⟨ov,ok⟩:=S.out _ y b0 e3
      obtain ⟨m,hn,hl⟩:=I3.loc
      obtain ⟨u,ru,lk⟩:=hl _ y v e0 d6 ov
      refine ⟨u,ru,?_⟩
      rcases lk with ⟨hk,_⟩ | ⟨_,c,d7,a8⟩
      · exact absurd hk ok
      · have kn:=S.vis _ y b0 e3
        obtain ⟨c',b8⟩:=S.has y kn
        have:=S.sub y c' b8
        rw [d7] at this
        cases this
        refine .inr ⟨kn,c,b8,?_⟩
        obtain ⟨o,ho,hd⟩:=a8
        exact ⟨o,w _ _ ho,hd⟩
    · obtain ⟨v,o,ho,hd⟩:=I3.cell x c (S.sub x c e)
      exact ⟨v,o,w _ _ ho,hd⟩
    · have a9:p∈X.pn++f:=List.append_nil (X.pn++f) ▸ hp
      obtain ⟨a1,a2,a3,a4,a5⟩:=I3.pin p a9
      refine ⟨w _ _ a1,a2,Nat.ne_of_lt (Heap.lt_size a1),fun z=>?_,a5⟩
      rcases List.mem_cons.mp (I3.stkSub p.1 z) with e | e
      · exact a3 e
      · exact a4 e
    · show (List.replicate L.length none++σ).length=(L++M).length
      rw [List.length_append,List.length_append,List.length_replicate,I.len,S.mlen]
  have b4:∀ {H':Hp},(∀ b∈A,H' b=none)→∀ b∈A,WG Y [] H' b:=fun {H'} hn b j=>by
    refine ⟨hn b j,(OkY.exf b j).1,c3 b j,.inl j,(OkY.exf b j).2,fun p hp=>?_⟩
    have a9:p∈X.pn++f:=List.append_nil (X.pn++f) ▸ hp
    exact (f2 b j).2.2.2.2.2 p a9
  have b9:tn 0 h₁:=T.keep _ _ _ c9 fun b j o e=>w b o (d3 b o e)
  -- behind the B
  have c7:∀ (H':Hp) (F:Shared),Inv Y [] (List.replicate L.length none++σ) H' F→Q (.ref l.heap.objs.size) H'→compPost (model X.prog X.w) X.A X.xe use Qf (.ref l.heap.objs.size) s3.heap.objs.size (.ok .next) F:=fun H' F J' q'=>by
    obtain ⟨m,hn,_⟩:=J'.loc
    refine fin _ _ H' F (I3.call' (ch:=A) J'.os J'.base J'.hok J'.bare fun b j=>?_) ⟨m,hn⟩ (I3.fpOk (Nat.le_refl _) J'.free) q'
    obtain ⟨_,n1,_,n3,n4,n5⟩:=f2 b j
    exact ⟨n3,n1,n4,n5⟩
  have B:codeAny (model X.prog X.w) X.A (.compLoop (.ListComp a7 [⟨tg,t,a6,0⟩] a c8) 0 (.ref it) (.ref l.heap.objs.size) (compEnvC a cl s3.heap.objs.size X.env))
      (compPost (model X.prog X.w) X.A X.xe use Qf (.ref l.heap.objs.size) s3.heap.objs.size) { s3 with heap:=h₁,toks:=s3.toks+([]:List (Str × Value)).length }:=by
    refine xF (fun n F=>∃ i K H',Inv Y [] (List.replicate L.length none++σ) H' F∧tn i F.heap∧(∀ b∈A,H' b=none)∧W i n K H') ?_ m0 ⟨0,[],H3,I4,b9,b6,w0⟩
    rintro n s5 ⟨i,K,H5,I5,c1,d0,w5⟩
    rcases turn i n K H5 w5 with ⟨b7,qn⟩ | ⟨go,c5,step⟩
    · refine thn (T.done Y rfl rfl rfl hc i [] s5 _ H5 _ I5 (b4 d0) c1 b7) fun r s6 hh9=>?_
      obtain ⟨hr,I6⟩:=hh9
      subst hr
      exact c7 H5 s6 I6 qn
    · refine thn (T.item Y rfl rfl rfl hc i [] s5 _ H5 _ I5 (b4 d0) c1 go) fun r s6 hh9=>?_
      obtain ⟨u,hr,h6⟩:=hh9
      subst hr
      refine thn h6 fun _ s7 hh9=>?_
      obtain ⟨x,H7,I7,r7,y7,a0,d5⟩:=hh9
      have I7':=I7.pinned (b4 d5) (T.obj _ _ a0)
      have g7:=d4 σ x H7 _ (step x H7 y7)
      refine thn (hg _ _ _ _ _ s7 _ H7 x u _ I7' r7 g7) fun _ s8 hh9=>?_
      obtain ⟨σ8,H8,I8,U,q8⟩:=hh9
      have again:∀ {σ9:St} {H9:Hp} {s9:Shared} {zs:List V},Inv Y ([]++wv A s7.heap) σ9 H9 s9→Ys (List.replicate L.length none++σ) σ9→(∃ m',m' < n∧W (i+1) m' zs H9) →
          ∃ m,m < n∧∃ i K H',Inv Y [] (List.replicate L.length none++σ) H' s9∧tn i s9.heap∧(∀ b∈A,H' b=none)∧W i m K H':=fun {σ9 H9 s9 zs} I9 sub9 w9=>by
        obtain ⟨m',hm,w9⟩:=w9
        refine ⟨m',hm,i+1,zs,H9,(I9.sub sub9).unpinned,T.keep _ _ _ a0 fun b j o e=>(I9.pin (b,o) (List.mem_append_right _ (List.mem_append_right _ (yh j e)))).1,fun b j=>?_,w9⟩
        obtain ⟨o,e,d⟩:=T.obj _ _ a0 b j
        exact (I9.pin (b,o) (List.mem_append_right _ (List.mem_append_right _ (yh j e)))).2.1
      refine thn (ht _ _ _ _ _ s8 σ8 H8 _ I8 q8) fun b s9 hh9=>?_
      obtain ⟨H9,I9,q9⟩:=hh9
      cases b with
      | false =>
        rw [if_neg Bool.false_ne_true] at q9
        rw [if_neg Bool.false_ne_true]
        exact again I9 U q9
      | true =>
        rw [if_pos rfl] at q9
        rw [if_pos rfl]
        refine thn (he _ _ _ _ _ s9 σ8 H9 _ I9 q9) fun y G hh9=>?_
        obtain ⟨yv,H10,I10,e7,Z,e4⟩:=hh9
        obtain ⟨d8,E,k,rv,d1⟩:K.length≤sizeLine∧∃ (E:List Value) (n:Nat),ye K E∧G.heap.get? l.heap.objs.size=some { cls:=.type "list",data:=.seq E.toArray n }:=I10.hok _ _ Z
        have c4:G.heap.PlainList l.heap.objs.size E.toArray:=⟨k,d1⟩
        refine wpAny_list_append_plain (hsz:=by rw [List.size_toArray,← rv.length];exact d8) c4 fun e5 c0 b5=>?_
        obtain ⟨k',c2⟩:=c0
        have I11:Inv Y ([]++wv A s7.heap) σ8 (upd H10 l.heap.objs.size (.lst (K++[yv]))) { G with heap:=e5 }:=by
          refine I10.write (x:=l.heap.objs.size) (e:=l.heap.objs.size) (t':=G.toks) (by rw [Z];exact True.intro) (.inl rfl) (fun b u j e=>(b5.2 b j).trans e) ⟨_,c2⟩ ?_
          refine ⟨by rw [List.length_append];show K.length+1≤sizeLine;exact c5,E++[y],k',rv.append (.cons e7 .nil),?_⟩
          rw [c2]
          simp
        exact again I11 U e4
  exact codeAny_compStart_list B (T.self _ 0 _ _ _ b9 B)
theorem zhI {X:Cx}{d j b:Expr}{c:List Expr}{L M:List Str}{a:Scope}{i:List (Str × Addr)}{l:Pos}{o:TI}{g:TG}{n:TT}{r:TE}
    (z:X.calm=true) (S:yN X L M a i) (u:PI X j b o)
    (k:∀ (σ:St) (v:V) (H:Hp) (Q:St→Hp→Prop),g v (List.replicate L.length none++σ) H Q→g v (List.replicate L.length none++σ) H (fun p H2=>Ys (List.replicate L.length none++σ) p∧Q p H2))
    (w:∀ s₀ H₀ ex pn,PG (v7 X L M a i s₀ H₀ ex pn) j g) (y:∀ s₀ H₀ ex pn,PIf (v7 X L M a i s₀ H₀ ex pn) c n) (B:∀ s₀ H₀ ex pn,PE (v7 X L M a i s₀ H₀ ex pn) d r)
    (E:∀ x,foldedSetIterable b X.env x=pure x:=by intro _;rfl) :
    PE X (.ListComp d [⟨j,b,c,0⟩] a l) (tLC o L.length g n r):=by
  intro e s σ H Q I h
  rw [eval_ListComp]
  refine zfk z S u k w y B E _ e s σ H Q I h fun D C H' F I' ⟨m,A⟩ f q=>⟨m,A,fun G t=>⟨.ref D,_,I'.letGo f t,rfl,q⟩⟩
theorem zhZ {i:Nat}{x:Str}{u n:Pos}{X:Cx}{k t c:Expr}{j:List Expr}{L M:List Str}{a:Scope}{w:List (Str × Addr)}{l:Pos}{N:TI}{g:TG}{K:TT}{R:TE}
    (Y:X.N.Nodup) (G:X.N[i]?=some x) (hx:Loc X.env.scope x) (hc:X.calm=true) (S:yN X L M a w) (U:PI X t c N)
    (E:∀ (σ:St) (v:V) (H:Hp) (Q:St→Hp→Prop),g v (List.replicate L.length none++σ) H Q→g v (List.replicate L.length none++σ) H (fun y H2=>Ys (List.replicate L.length none++σ) y∧Q y H2))
    (Z:∀ s₀ H₀ ex pn,PG (v7 X L M a w s₀ H₀ ex pn) t g) (ht:∀ s₀ H₀ ex pn,PIf (v7 X L M a w s₀ H₀ ex pn) j K) (he:∀ s₀ H₀ ex pn,PE (v7 X L M a w s₀ H₀ ex pn) k R)
    (hs:∀ x,foldedSetIterable c X.env x=pure x:=by intro _;rfl)
    (B:swapsWith (.ListComp k [⟨t,c,j,0⟩] a l) (some (.Name x u)) n.line X.env=pure true:=by rfl)
    (W:X.fn x=true∨X.env.scope.names.lookup x=some .local:=by first | exact .inl rfl | exact .inr rfl | assumption) :
    PS X (.Assign [.Name x u] (.ListComp k [⟨t,c,j,0⟩] a l) n) (zjM (tLC N L.length g K R) (Yb i)):=by
  intro p s σ H D I h
  rw [exec_Assign_Name_used _ _ _ _ B]
  refine wpAny_bind (wpAny_standAt (wpAny_bind ?_))
  show wpAny _ X.A (do let _←comprehension (.ListComp k [⟨t,c,j,0⟩] a l) a X.env _ (newList []) false (eval c X.env) (some (assign (.Name x u) X.env))) _ _ s
  refine wpAny_bind (thn (zfk (use:=some (assign (.Name x u) X.env)) (Qf:=fun _ r=>SP X p D .next r) hc S U E Z ht he hs _ p s σ H _ I h fun D' C H' r I' ⟨m,P⟩ f q=>?_) fun _ r hq=>wpAny_pure (wpAny_pure hq))
  have A:∀ b∈[C],∃ o,r.heap.get? b=some o∧∀ v,o.data≠.cell v:=fun b F=>by
    rw [List.mem_singleton.mp F]
    obtain ⟨o,O,J,e,d,_⟩:=P
    exact ⟨o,e,fun v z=>by rw [z] at d;cases d⟩
  have I2:=I'.pinned (fp:=[C]) (fun b F=>by rw [List.mem_singleton.mp F];exact f) A
  refine thn (z3 (pos:=u) Y G hx W _ r σ H' (.ref D') (.ref D') _ I2 rfl q) fun _ s2 hh9=>?_
  obtain ⟨y,H2,I3,q3⟩:=hh9
  obtain ⟨o,O,J,e,d⟩:=P
  have pn:=I3.pin (C,o) (List.mem_append_right _ (List.mem_append_right _ (yh (List.mem_singleton.mpr rfl) e)))
  exact ⟨m,⟨o,O,J,pn.1,d⟩,fun h' T=>⟨y,H2,I3.unpinned.letGo ⟨pn.2.1,f.2⟩ T,q3⟩⟩
noncomputable def yM (names a b:List (Str × NameKind))(N M c:List Str):Bool :=
  names.all (fun y=>decide (y.2≠.cell))&&names.all (fun y=>decide (y.2=.local→names.lookup y.1=some .local)) &&
  a.all (fun y=>decide ((y.2=.cell∨y.2=.free)→y.1∈c)) &&
  (M.length == N.length)&&(M.zip N).all (fun p=>decide ((a.lookup p.1=some .local∨a.lookup p.1=some .cell∨a.lookup p.1=some .free)→p.1=p.2)) &&
  M.all (fun y=>decide ((a.lookup y=some .local∨a.lookup y=some .cell∨a.lookup y=some .free) →
    (a.lookup y=some .cell∨a.lookup y=some .free)∧(b.lookup y=some .local∨b.lookup y=some .cell∨b.lookup y=some .free)∧b.lookup y≠some .local))
theorem vZ {X:Cx}{L N M k:List Str}{a:Scope}{f:List (Str × Addr)}{r s:List (Str × NameKind)}(g:(relabel a X.env).names=r)(n:X.env.scope.names=s)(q:X.N=N)
    (d:closureFor a X.env=pure f) (kind:a.kind=.function) (C:f.map Prod.fst=k) (b:yM a.names r s N M k=true) (l:∀ p∈f,X.env.cells.lookup p.1=some p.2):yN X L M a f:=by
  unfold yM at b
  simp only [Bool.and_eq_true,List.all_eq_true,decide_eq_true_eq] at b
  obtain ⟨⟨⟨⟨⟨z,D⟩,t⟩,j⟩,x⟩,m⟩:=b
  have j:M.length=N.length:=by simpa using j
  refine ⟨d,z,kind,D,fun y c h=>l (y,c) (PySem.mem_of_lookup h),fun y h=>?_,by rw [q];exact j,fun i y e v=>?_,fun i y e v=>?_,fun i y e v=>?_⟩
  · rw [g] at h
    have A:y∈k:=by
      rcases h with h | h
      · exact t _ (PySem.mem_of_lookup h) (.inl rfl)
      · exact t _ (PySem.mem_of_lookup h) (.inr rfl)
    exact xj (by rw [C];exact A)
  · unfold Vis at v
    rw [g] at v
    have B:=(List.getElem?_eq_some_iff.mp e).1
    have o:i < N.length:=by rw [←j];exact B
    have E:(M.zip N)[i]?=some (y,N[i]):=by
      rw [List.getElem?_zip_eq_some]
      exact ⟨e,List.getElem?_eq_getElem o⟩
    have:=x _ (List.mem_of_getElem? E) v
    rw [q,List.getElem?_eq_getElem o]
    exact congrArg some this.symm
  · unfold Vis at v
    rw [g] at v ⊢
    exact (m y (List.mem_of_getElem? e) v).1
  · unfold Vis at v
    rw [g] at v
    obtain ⟨_,u,w⟩:=m y (List.mem_of_getElem? e) v
    refine ⟨?_,?_⟩
    · unfold Vis;rw [n];exact u
    · show X.env.scope.names.lookup y≠_;rw [n];exact w
end L2
namespace PySem
open Sem (wp)
open AutoSeq1 (wpAny_loadPart')
section
variable {prog:Program}{w:World}{A:Around}{E:Value→Shared→Prop}{s:Shared}
theorem vU {a l:Addr}{i:Nat}{items}{x:Value}{Q:Value→Shared→Prop}(hit:s.heap.IsTupleIter a l i)
    (hl:s.heap.IsTuple l items) (hx:items[i]?=some x)
    (hQ:∀ e,e.IsTupleIter a l (i+1)→Heap.SameBut a s.heap e→Q x { s with heap:=e }) :
    wpAny (model prog w) A (Builtin.SmallTypes.nextOf (.ref a)) Q E s:=by
  obtain ⟨o,c,g,b⟩:=id hit
  obtain ⟨h,f,_,j,d⟩:=hl
  unfold Builtin.SmallTypes.nextOf
  refine wpAny_bind (wpAny_callSpecial?_slot (name:=Str.ofString "__next__") hit.typeIs F.slot_tuple_iterator_next
    (wpAny_call_entry F.slot_tuple_iterator_next hit.typeIs F.entry_tuple_iterator_next ?_ (F.args_tuple_iterator_next_1 _)))
  show wpAny _ _ (field (.ref a) 0>>=_) _ _ s
  refine wpAny_bind (wpAny_field c b (x:=.ref l) rfl ?_)
  show wpAny _ _ (if (Value.ref l == Value.none)=true then _ else _) _ _ s
  rw [if_neg (show ¬ ((Value.ref l == Value.none)=true) from Bool.false_ne_true)]
  show wpAny _ _ (field (.ref a) 1>>=_) _ _ s
  refine wpAny_bind (wpAny_field c b (x:=.int i 0) rfl ?_)
  show wpAny _ _ (seqItems? (.ref l)>>=_) _ _ s
  refine wpAny_bind (wpAny_seqItems f d ?_)
  simp only [Int.toNat_natCast,hx]
  refine wpAny_bind (wpAny_setField c b (by simp) (wpAny_pure ⟨x,rfl,wpAny_pure (hQ _ ?_ (Heap.SameBut.update ..))⟩))
  exact ⟨_,Heap.get?_update_self _ c (Obj.isFreed_of_fields (Obj.data_mapFields b _)),(Obj.cls_mapFields ..).trans g,by
    rw [Obj.data_mapFields b];simp [rawInt]⟩
theorem xC {b l:Addr}{i:Nat}{items}{Q:Value→Shared→Prop}(hh:A.handled=none)
    (hit:s.heap.IsTupleIter b l i) (hl:s.heap.IsTuple l items) (hx:items[i]?=none)
    (hE:∀ g e,Heap.ExtBut b s.heap g→(∃ o,g.get? e=some o∧o.cls=.type "StopIteration")→E (.ref e) { s with heap:=g }) :
    wpAny (model prog w) A (Builtin.SmallTypes.nextOf (.ref b)) Q E s:=by
  obtain ⟨o,d,j,f⟩:=id hit
  obtain ⟨k,h,_,n,c⟩:=hl
  unfold Builtin.SmallTypes.nextOf
  refine wpAny_bind (wpAny_callSpecial?_slot (name:=Str.ofString "__next__") hit.typeIs F.slot_tuple_iterator_next
    (wpAny_call_entry F.slot_tuple_iterator_next hit.typeIs F.entry_tuple_iterator_next ?_ (F.args_tuple_iterator_next_1 _)))
  show wpAny _ _ (field (.ref b) 0>>=_) _ _ s
  refine wpAny_bind (wpAny_field d f (x:=.ref l) rfl ?_)
  show wpAny _ _ (if (Value.ref l == Value.none)=true then _ else _) _ _ s
  rw [if_neg (show ¬ ((Value.ref l == Value.none)=true) from Bool.false_ne_true)]
  show wpAny _ _ (field (.ref b) 1>>=_) _ _ s
  refine wpAny_bind (wpAny_field d f (x:=.int i 0) rfl ?_)
  show wpAny _ _ (seqItems? (.ref l)>>=_) _ _ s
  refine wpAny_bind (wpAny_seqItems h c ?_)
  simp only [Int.toNat_natCast,hx]
  refine wpAny_bind (wpAny_rule (wpAny_bind (wpAny_setField d f (by simp) ?_)))
  show wpAny _ _ (newExc (.type "StopIteration") []>>=_) _ _ _
  refine wpAny_bind ?_
  simp only [newExc,newTuple]
  refine wpAny_bind (wpAny_newObj_type ?_ (by size_fits))
  refine wpAny_bind (m:=firstArgMember _ _) (wpAny_of_eq (a:=Value.none) (by first | rfl | (simp only [firstArgMember];rfl)) ?_)
  refine wpAny_newObj_type ?_ (by size_fits)
  simp only [raiseNew]
  refine wpAny_bind (wpAny_handled ?_)
  first | rw [show A.in1.handled=none from hh] | rw [hh]
  refine wpAny_bind (wpAny_pure (wpAny_throw ?_))
  exact hE _ _ (((Heap.SameBut.update ..).extBut.push _).push _) ⟨_,Heap.get?_push_size _ rfl,rfl⟩
end
theorem Yd {c:Program}{w:World}{A:Around}{E:Value→Shared→Prop}{s:Shared}{e d l:Addr}{i:Nat}{a:Array Value}{f:Value}{Q:Option Value→Shared→Prop}(t:A.handled=none)
    (n:IsEnum s.heap e d i f) (g:s.heap.IsTupleIter d l i) (p:s.heap.IsTuple l a) (r:a[i]?=none)
    (q:∀ k,Heap.ExtBut d s.heap k→Q none { s with heap:=k }):wpAny (model c w) A (pyNext (.ref e)) Q E s:=by
  have m:s.TypeIs (.ref e) "enumerate":=⟨_,n,rfl⟩
  unfold pyNext
  refine wpAny_bind (wpAny_attempt (wpAny_callSpecial?_slot (name:=Str.ofString "__next__") m F.slot_enumerate_next
    (wpAny_call_entry F.slot_enumerate_next m F.entry_enumerate_next ?_ (F.args_enumerate_next_1 _))))
  show wpAny _ _ (field (.ref e) 2>>=_) _ _ _
  refine wpAny_bind (wpAny_field n rfl (x:=.ref d) rfl ?_)
  refine wpAny_bind (xC t g p r fun k x h j=>?_)
  obtain ⟨o,v,u⟩:=j
  refine wpAny_bind (wpAny_isInstance (T:="StopIteration") (b:=true) ⟨o,v,u⟩ isSubtype_stop ?_)
  exact wpAny_pure (q _ h)
theorem vm {prog:Program}{w:World}{A:Around}(hh:A.handled=none)(it l:Addr)(hne:l≠it)(items:Array Value) :
    Draws prog w A it [it,l] items.size (fun i v=>items[i]?=some v) (fun i h=>h.IsTupleIter it l i∧h.IsTuple l items) where
  live:=fun _ _ st=>let ⟨o,ho,_⟩:=st.1;⟨o,ho⟩
  frame:=fun _ _ _ st hk=>by
    obtain ⟨⟨o,ho,r⟩,⟨o2,ho2,r2⟩⟩:=st
    exact ⟨⟨o,hk it (by simp) o ho,r⟩,⟨o2,hk l (by simp) o2 ho2,r2⟩⟩
  item:=fun i s Q E hi st hQ=>by
    refine vU st.1 st.2 (x:=items[i]) (by simp [hi]) fun h' hit' hs'=>?_
    exact hQ _ h' s.toks (by simp [hi]) ⟨hit',st.2.extBut hs'.extBut hne⟩ hs'
  done:=fun s Q E st hE=>xC hh st.1 st.2 (by simp) hE
theorem Zl (l:Addr)(a:Array Value)(n:Nat)(m:Option Addr)(k:Array (Option Value)) :
    Meets (Builtin.«enumerate.__new__» ⟨[.type "enumerate",.ref l],[]⟩) (fun _ R s=>s.heap.get? l=some { cls:=.type "tuple",dict:=m,data:=.seq a n,slots:=k } ∧
      R (.ok (.ret (.ref (s.heap.push { cls:=.type "tuple_iterator",data:=.fields #[.ref l,.int 0 0] }).objs.size)))
        { s with heap:=(s.heap.push { cls:=.type "tuple_iterator",data:=.fields #[.ref l,.int 0 0] }).push { cls:=.type "enumerate",data:=.fields #[.none,.bool false,.ref s.heap.objs.size,rawInt 0,.none,.none] } }) :=
  .of_wp fun f w A R s h=>by
    obtain ⟨j,g,d,tk,os⟩:=s;obtain ⟨b,h⟩:=h
    have i:=sub_enumerate
    have e:Heap.IsTuple (Shared.heap ⟨j,g,d,tk,os⟩) l a:=⟨_,b,rfl,n,rfl⟩
    wp_walk using wpAny_loadPart' b
    refine wpAny_stack_any fun o=>wpAny_pure ?_
    split
    · rename_i c _ _ _ _ _
      cases (c == Value.type "enumerate")
      · wp_walk using wpAny_loadPart' b,wpAny_pyIter_tuple e
        exact ⟨_,rfl,h⟩
      · wp_walk using wpAny_loadPart' b,wpAny_pyIter_tuple e
        exact ⟨_,rfl,h⟩
    · wp_walk using wpAny_loadPart' b,wpAny_pyIter_tuple e
      exact ⟨_,rfl,h⟩
section
variable {prog:Program}{w:World}{A:Around}{E:Value→Shared→Prop}{s:Shared}
theorem Yc {l:Addr}{a:Array Value}{Q:Value→Shared→Prop}
    (j:s.heap.IsTuple l a)
    (h:∀ c,IsEnum c (s.heap.objs.size+1) s.heap.objs.size 0 .none→c.IsTupleIter s.heap.objs.size l 0→c.objs.size=s.heap.objs.size+2 →
      (∀ b o,s.heap.get? b=some o→c.get? b=some o)→Q (.ref (s.heap.objs.size+1)) { s with heap:=c }) :
    wpAny (model prog w) A (call (.type "enumerate") [.ref l]) Q E s:=by
  obtain ⟨⟨cls,p,data,m⟩,k,g,n,i⟩:=j
  simp only at g i
  subst g i
  refine callType_new F.called_enumerate (by decide) (F.typeCall_enumerate_1 _) (F.newCall_enumerate_1 _) (fun e=>F.args_object_init_2 e _) F.entry_enumerate_new
    (Zl l a n p m) ⟨k,?_⟩
  have d:(s.heap.push { cls:=.type "tuple_iterator",data:=.fields #[.ref l,.int 0 0] }).objs.size=s.heap.objs.size+1:=Heap.size_push ..
  show _∧_
  rw [d]
  have f:IsEnum ((s.heap.push { cls:=.type "tuple_iterator",data:=.fields #[.ref l,.int 0 0] }).push
      { cls:=.type "enumerate",data:=.fields #[.none,.bool false,.ref s.heap.objs.size,rawInt 0,.none,.none] }) (s.heap.objs.size+1) s.heap.objs.size 0 .none:=by
    have:=Heap.get?_push_size (s.heap.push { cls:=.type "tuple_iterator",data:=.fields #[.ref l,.int 0 0] })
      (o:={ cls:=.type "enumerate",data:=.fields #[.none,.bool false,.ref s.heap.objs.size,rawInt 0,.none,.none] }) rfl
    rw [d] at this;exact this
  refine ⟨⟨_,f,rfl⟩,h _ f ⟨_,Heap.get?_push_of_some _ (Heap.get?_push_size _ rfl),rfl,rfl⟩ (by rw [Heap.size_push,d]) fun b o x=>Heap.get?_push_of_some _ (Heap.get?_push_of_some _ x)⟩
end
end PySem
namespace L2
open PySem PySem.Spec PyProof.Rows
section
variable {X:Cx}{pins:List (Addr × Obj)}{σ:St}{H:Hp}{s:Shared}{h':Heap}
theorem Inv.grown {ch:List Addr}{T:Addr}{o:HO}{F:Nat}(I:Inv X pins σ H s)(a:∀ b∈ch,WG X pins H b)(l:s.heap.objs.size≤T)(k:∀ b u,b∉ch→s.heap.get? b=some u→h'.get? b=some u)
    (i:yb X.prog X.w (upd H T o) h' T o):Inv X pins σ (upd H T o) { s with heap:=h',toks:=F }:=by
  have f:H T=none:=I.hok.fresh l
  have j:∀ b u,s.heap.get? b=some u→b≠T:=fun b u e=>Nat.ne_of_lt (Nat.lt_of_lt_of_le (Heap.lt_size e) l)
  have g:∀ b u,H b=some u→b∉ch:=fun b u e z=>by rw [(a b z).1] at e;cases e
  refine I.step (g':=s.gens) (d':=s.drawn) (ch:=ch) (fun b h=>?_) (fun b u _ _ d e _=>k b u d e) (fun b u _ _ d e _=>⟨u.slots,k b u d e⟩) (fun b u _ e n=>by rw [zm (j b u e)];exact n)
    (fun b u d e=>⟨u,k b u d e⟩) (fun b t e=>by rw [zm (zi e f)];exact e) (fun b u t e=>by rw [zm (zi e f)];exact e) (fun b G e=>by rw [zm (zi e f)];exact e) (fun m x=>?_) (fun b u e=>?_) I.bare
  · obtain ⟨_,E,_,C,B,y⟩:=a b h
    exact ⟨C,E,B,y⟩
  · obtain ⟨p,A,w,D,r⟩:=x
    exact ⟨p,A,w,k _ p (fun z=>(a _ z).2.1 rfl) D,r⟩
  · by_cases h:b=T
    · subst h;rw [zo] at e;cases e;exact i
    · rw [zm h] at e
      refine (I.hok b u e).stay (fun c v d q=>k c v ?_ q) (fun c q=>by rw [zm (zi q f)];exact q) fun c t q=>by rw [zm (zi q f)];exact q
      rcases d with z | z
      · rw [z];exact g b u e
      · exact g c _ z
theorem Inv.turnedN {ch:List Addr}{t':Nat}(I:Inv X pins σ H s)(a:∀ b∈ch,WG X pins H b)(k:∀ b u,b∉ch→s.heap.get? b=some u→h'.get? b=some u):Inv X pins σ H { s with heap:=h',toks:=t' }:=by
  have f:∀ b u,H b=some u→b∉ch:=fun b u e z=>by rw [(a b z).1] at e;cases e
  refine I.step (g':=s.gens) (d':=s.drawn) (ch:=ch) (fun b l=>?_) (fun b u _ _ d e _=>k b u d e) (fun b u _ _ d e _=>⟨u.slots,k b u d e⟩) (fun b u _ e n=>n)
    (fun b u d e=>⟨u,k b u d e⟩) (fun b h e=>e) (fun b u h e=>e) (fun _ _ e=>e) (fun m j=>?_) (fun b u e=>?_) I.bare
  · obtain ⟨_,y,_,w,o,p⟩:=a b l
    exact ⟨w,y,o,p⟩
  · obtain ⟨g,t,i,x,r⟩:=j
    exact ⟨g,t,i,k _ g (fun z=>(a _ z).2.1 rfl) x,r⟩
  · refine (I.hok b u e).stay (fun c v d q=>k c v ?_ q) (fun c q=>q) fun c h q=>q
    rcases d with z | z
    · rw [z];exact f b u e
    · exact f c _ z
end
noncomputable def Iel (K:PySem.W.Frag)(a:Addr):It :=
  ⟨fun i H=>∃ b x,SqL K H a b∧b[i]?=some x,fun i H v H'=>∃ T x,v=.ref T∧H T=none∧H'=upd H T (.tup [.int i,x])∧∀ b,SqL K H a b→b[i]?=some x,fun i H=>∃ b,SqL K H a b∧b.length≤i⟩
noncomputable def Iet (K:PySem.W.Frag)(a:Addr):It :=
  ⟨fun i H=>∃ b x,SqT K H a b∧b[i]?=some x,fun i H v H'=>∃ T x,v=.ref T∧H T=none∧H'=upd H T (.tup [.int i,x])∧∀ b,SqT K H a b→b[i]?=some x,fun i H=>∃ b,SqT K H a b∧b.length≤i⟩
theorem zdg {P:Program}{w:World}{K:PySem.W.Frag}{es:List Expr}{k:Nat}{tp:Pos}(a e it:Addr)(hne:e≠it) :
    zhj P w K (.Tuple es k tp) (Iel K a) [e,it] e (fun i h=>(∃ old,IsEnum h e it i old)∧h.IsListIter it a i) where
  mem:=by simp
  obj:=fun i h st b hb=>by
    obtain ⟨⟨old,he⟩,o,ho,_,hd⟩:=st
    rcases List.mem_cons.mp hb with rfl | hb
    · exact ⟨_,he,fun v z=>by cases z⟩
    · rw [List.mem_singleton.mp hb]
      exact ⟨o,ho,fun v z=>by rw [hd] at z;cases z⟩
  keep:=fun i h h' st kk=>by
    obtain ⟨⟨old,he⟩,hit⟩:=st
    exact ⟨⟨old,kk e (by simp) _ he⟩,hit.at fun o q=>kk it (by simp) o q⟩
  item:=by
    intro X hP hw hK hc i pins s σ H E I hf st hg
    subst hP hw hK
    obtain ⟨⟨old,he⟩,hit⟩:=st
    obtain ⟨xs,x,hq,hx⟩:=hg
    obtain ⟨its,rv,p,hz⟩:=I.list hq
    obtain ⟨u,hu,ru⟩:=rv.get hx
    refine wpAny_pyNext_enum_item he hit p.isList (x:=u) (by simpa using hu) hne fun h1 ho1 hit1 hT1 hz1 hk1=>?_
    refine ⟨_,rfl,wpAny_letOwnedTupleGo_enum ho1 fun h2 he2 hs2=>?_⟩
    have hfr:H s.heap.objs.size=none:=I.hok.fresh (Nat.le_refl _)
    have neE:s.heap.objs.size≠e:=Nat.ne_of_gt (Heap.lt_size he)
    have hT2:h2.get? s.heap.objs.size=some { cls:=.type "tuple",data:=.seq #[.int i s.toks,u] }:=(hs2.2 _ neE).trans hT1
    refine ⟨.ref s.heap.objs.size,upd H s.heap.objs.size (.tup [.int i,x]),?_,rfl,⟨_,x,rfl,hfr,rfl,fun ys hy=>by rw [I.list_inj hy hq];exact hx⟩,⟨⟨_,by simpa using he2⟩,hit1.at fun o q=>(hs2.2 it (Ne.symm hne)).trans q⟩,fun b hb=>?_⟩
    · refine I.grown (ch:=[e,it]) hf (Nat.le_refl _) (fun b v hb q=>?_) ?_
      · have n1:b≠e:=fun z=>hb (by simp [z])
        have n2:b≠it:=fun z=>hb (by simp [z])
        exact (hs2.2 b n1).trans (hk1 b v n1 n2 q)
      · exact ⟨by show 2≤sizeLine;decide,[.int i s.toks,u],.cons ⟨_,rfl⟩ (.cons ru .nil),⟨_,hT2,rfl,0,rfl⟩⟩
    · obtain ⟨o,hb2,_⟩:∃ o,s.heap.get? b=some o∧True:=by
        rcases List.mem_cons.mp hb with rfl | hb
        · exact ⟨_,he,trivial⟩
        · rw [List.mem_singleton.mp hb]
          obtain ⟨o,ho,_⟩:=hit
          exact ⟨o,ho,trivial⟩
      rw [zm (Nat.ne_of_lt (Heap.lt_size hb2))]
      exact (hf b hb).1
  done:=by
    intro X hP hw hK hc i pins s σ H E I hf st hg
    subst hP hw hK
    obtain ⟨⟨old,he⟩,hit⟩:=st
    obtain ⟨xs,hq,hx⟩:=hg
    obtain ⟨its,rv,p,hz⟩:=I.list hq
    have hl:=rv.length
    exact wpAny_pyNext_enum_end (I.ok.hd hc) he hit p.isList (by simp;omega) fun h1 hx1=>⟨rfl,I.turnedN (ch:=[e,it]) (t':=s.toks) hf fun b v hb q=>hx1 b v (fun z=>hb (by simp [z])) q⟩
  self:=fun _ _ _ _ _ st h=>wpAny_pyIter_enum st.1.choose_spec h
theorem zdm {P:Program}{w:World}{K:PySem.W.Frag}{es:List Expr}{k:Nat}{tp:Pos}(a e it:Addr)(hne:e≠it)(hai:a≠it)(hae:a≠e) :
    zhj P w K (.Tuple es k tp) (Iet K a) [e,it] e (fun i h=>(∃ old,IsEnum h e it i old)∧h.IsTupleIter it a i) where
  mem:=by simp
  obj:=fun i h st b hb=>by
    obtain ⟨⟨old,he⟩,o,ho,_,hd⟩:=st
    rcases List.mem_cons.mp hb with rfl | hb
    · exact ⟨_,he,fun v z=>by cases z⟩
    · rw [List.mem_singleton.mp hb]
      exact ⟨o,ho,fun v z=>by rw [hd] at z;cases z⟩
  keep:=fun i h h' st kk=>by
    obtain ⟨⟨old,he⟩,o,ho,r⟩:=st
    exact ⟨⟨old,kk e (by simp) _ he⟩,o,kk it (by simp) o ho,r⟩
  item:=by
    intro X hP hw hK hc i pins s σ H E I hf st hg
    subst hP hw hK
    obtain ⟨⟨old,he⟩,hit⟩:=st
    obtain ⟨xs,x,hq,hx⟩:=hg
    obtain ⟨its,rv,p,hz⟩:=I.tuple hq
    obtain ⟨u,hu,ru⟩:=rv.get hx
    have p':s.heap.IsTuple a its.toArray:=p
    have D:=vm (prog:=X.prog) (w:=X.w) (A:=X.A.in1) (I.ok.hd hc) it a hai its.toArray
    have hlt:i < its.toArray.size:=by
      obtain ⟨h1,_⟩:=List.getElem?_eq_some_iff.mp hu
      simpa using h1
    refine wpAny_pyNext_enum_itemD D he ⟨hit,p'⟩ hlt hne (by simp [hne,Ne.symm hae]) fun u' h1 tk hP1 ho1 hit1 hT1 hz1 hk1=>?_
    have eu:u'=u:=by
      have:its[i]?=some u':=by simpa using hP1
      rw [hu] at this
      exact (Option.some.inj this).symm
    subst eu
    refine ⟨_,rfl,wpAny_letOwnedTupleGo_enum ho1 fun h2 he2 hs2=>?_⟩
    have hfr:H s.heap.objs.size=none:=I.hok.fresh (Nat.le_refl _)
    have neE:s.heap.objs.size≠e:=Nat.ne_of_gt (Heap.lt_size he)
    have hT2:h2.get? s.heap.objs.size=some { cls:=.type "tuple",data:=.seq #[.int i tk,u'] }:=(hs2.2 _ neE).trans hT1
    refine ⟨.ref s.heap.objs.size,upd H s.heap.objs.size (.tup [.int i,x]),?_,rfl,⟨_,x,rfl,hfr,rfl,fun ys hy=>by rw [I.tuple_inj hy hq];exact hx⟩,⟨⟨_,by simpa using he2⟩,?_⟩,fun b hb=>?_⟩
    · refine I.grown (ch:=[e,it]) hf (Nat.le_refl _) (fun b v hb q=>?_) ?_
      · have n1:b≠e:=fun z=>hb (by simp [z])
        have n2:b≠it:=fun z=>hb (by simp [z])
        exact (hs2.2 b n1).trans (hk1 b v n1 n2 q)
      · exact ⟨by show 2≤sizeLine;decide,[.int i tk,u'],.cons ⟨_,rfl⟩ (.cons ru .nil),⟨_,hT2,rfl,0,rfl⟩⟩
    · obtain ⟨o,ho,r⟩:=hit1.1
      exact ⟨o,(hs2.2 it (Ne.symm hne)).trans ho,r⟩
    · obtain ⟨o,hb2,_⟩:∃ o,s.heap.get? b=some o∧True:=by
        rcases List.mem_cons.mp hb with rfl | hb
        · exact ⟨_,he,trivial⟩
        · rw [List.mem_singleton.mp hb]
          obtain ⟨o,ho,_⟩:=hit
          exact ⟨o,ho,trivial⟩
      rw [zm (Nat.ne_of_lt (Heap.lt_size hb2))]
      exact (hf b hb).1
  done:=by
    intro X hP hw hK hc i pins s σ H E I hf st hg
    subst hP hw hK
    obtain ⟨⟨old,he⟩,hit⟩:=st
    obtain ⟨xs,hq,hx⟩:=hg
    obtain ⟨its,rv,p,hz⟩:=I.tuple hq
    have hl:=rv.length
    have p':s.heap.IsTuple a its.toArray:=p
    exact Yd (I.ok.hd hc) he hit p' (by simp;omega) fun h1 hx1=>⟨rfl,I.turnedN (ch:=[e,it]) (t':=s.toks) hf fun b v hb q=>hx1 b v (fun z=>hb (by simp [z])) q⟩
  self:=fun _ _ _ _ _ st h=>wpAny_pyIter_enum st.1.choose_spec h
noncomputable def zml (K:PySem.W.Frag)(ta:TA):TI:=fun σ H R=>ta σ H fun c H1=>∃ a,c=[.ref a]∧((∃ b,H1 a=some (.lst b)∧R (Iel K a) H1)∨(∃ b,SqT K H1 a b∧R (Iet K a) H1))
theorem zid {X:Cx} {C:List Expr} {k:Nat} {F:Pos} {a:Expr} {ta:TA} {p m:Pos} (O:Gl X "enumerate") (B:X.mg "enumerate"=none) (g:bootBuiltins "enumerate"=some (.type "enumerate")) (M:PA X [a] ta)
    (K:starEach [a] X.env=[(false,eval a X.env)]:=by rfl):PI X (.Tuple C k F) (.Call (.Name "enumerate" p) [a] [] m) (zml X.K ta):=by
  intro c s σ H R I h
  refine Call_ (vp I O B g (PyProof.Rows.callWith_type1 (thn (M m c s σ H _ I h) fun P f hh9=>?_) K rfl))
  obtain ⟨Q,H1,I1,G,J⟩:=hh9
  obtain ⟨l,e,q⟩:=J
  subst e
  obtain ⟨u,rfl,N⟩:=Wh G
  cases N
  have z:∀ b,f.heap.objs.size≤b→WG X c H1 b:=fun b g=>I1.fpOk g (I1.hok.fresh g)
  have r:f.heap.objs.size+1≠f.heap.objs.size:=by omega
  have j:∀ b∈[f.heap.objs.size+1,f.heap.objs.size],WG X c H1 b:=fun b g=>by
    rcases List.mem_cons.mp g with rfl | g
    · exact z _ (Nat.le_succ _)
    · rw [List.mem_singleton.mp g];exact z _ (Nat.le_refl _)
  rcases q with ⟨x,w,q⟩ | ⟨x,w,q⟩
  · obtain ⟨_,d,n,_,e⟩:x.length≤sizeLine∧∃ (d:List Value) (n:Nat),ye x d∧f.heap.get? l=some { cls:=.type "list",data:=.seq d.toArray n }:=I1.hok _ _ w
    refine call_enumerate_1 e fun D t i E v=>wpAny_pyIter_enum t ?_
    exact ⟨_,_,_,_,H1,rfl,I1.kept (t':=f.toks) v,zdg l _ _ r,⟨⟨_,t⟩,i⟩,j,q⟩
  · obtain ⟨d,_,A,_⟩:=I1.tuple w
    have y:l < f.heap.objs.size:=by
      obtain ⟨o,L,_⟩:=A
      exact Heap.lt_size L
    refine Yc (show f.heap.IsTuple l d.toArray from A) fun D t i E v=>wpAny_pyIter_enum t ?_
    exact ⟨_,_,_,_,H1,rfl,I1.kept (t':=f.toks) v,zdm l _ _ r (Nat.ne_of_lt y) (Nat.ne_of_lt (Nat.lt_succ_of_lt y)),⟨⟨_,t⟩,i⟩,j,q⟩
end L2
namespace HT
open PySem PyProof.Rows
noncomputable def lexLe:List Int→List Int→Bool
  | [],_=>true
  | _::_,[]=>false
  | x::xs,y::ys=>if x=y then lexLe xs ys else decide (x≤y)
theorem zcT (x y:Int)(b a:List Int):lexLe (x::b) (y::a)=if x=y then lexLe b a else decide (x≤y):=rfl
theorem zgj (A:Around)(s:Shared)(a:Int)(t:Tok)(c:Int)(u:Tok)(b:Program)(w:World)(E:Value→Shared→Prop)(Q:Value→Shared→Prop)(h:Q (.bool (decide (a≤c))) s) :
    wpAny (model b w) A (richCompare .LtE (.int a t) (.int c u)) Q E s :=
  (PyProof.Rows.le_int h:wpAny (model b w) A (compareOp .LtE (.int a t) (.int c u)) Q E s)
section
open PySem.SeqAt
open PySem.AutoSeq1 (wpAny_loadPart')
open PySem.MeetsSeq PySem.MeetsSeq2 PySem.MeetsSeq3
theorem VB (l b:Addr)(i f:Array Value)(n T:Nat)(W dd2:Option Addr)(V K:Array (Option Value))(G F:List Int)(O:IntsAre i.toList G)(P:IntsAre f.toList F) :
    Meets (Builtin.«tuple.__le__» ⟨[.ref l,.ref b],[]⟩)
      (fun _ R s=>s.heap.get? l=some { cls:=.type "tuple",dict:=W,data:=.seq i n,slots:=V }∧s.heap.get? b=some { cls:=.type "tuple",dict:=dd2,data:=.seq f T,slots:=K } ∧
        R (.ok (.ret (.bool (lexLe G F)))) s) :=
  .of_wp fun p w A R s h=>by
    obtain ⟨I,g,d,tk,os⟩:=s;obtain ⟨S,Q,h⟩:=h
    have f2:=AutoSeq1.sub_tuple_tuple
    have X:i.size=G.length:=by rw [←O.length];simp
    have Y:f.size=F.length:=by rw [←P.length];simp
    wp_walk using wpAny_loadPart' S,wpAny_loadPart' Q,wpAny_forIn_list _ (fun rest b L=>b.1=none∧L=⟨I,g,d,tk,os⟩∧∃ (H J:List Value) (k m:List Int),rest=H.zip J ∧
      IntsAre H k∧IntsAre J m∧k.length+f.size=m.length+i.size∧R (.ok (.ret (.bool (lexLe k m)))) ⟨I,g,d,tk,os⟩) _
    case turn =>
      rintro ⟨y,x⟩ rest b L ⟨C,rfl,H,J,k,m,o,z,B,j,r⟩
      cases z with
      | nil=>rw [List.zip_nil_left] at o;cases o
      | cons a t E =>
        cases B with
        | nil=>rw [List.zip_nil_right] at o;cases o
        | cons c u D =>
          rw [List.zip_cons_cons] at o
          injection o with hyx hrest
          injection hyx with hy hx
          subst hy hx
          rw [zcT] at r
          simp only [List.length_cons] at j
          obtain ⟨e,U,v⟩:=zcG A.in1 ⟨I,g,d,tk,os⟩ a t c u
          refine wpAny_bind (U p w _ _ ?_)
          cases e with
          | true =>
            rw [if_pos (v.mp rfl)] at r
            wp_walk
            exact ⟨rfl,rfl,_,_,_,_,hrest,E,D,by omega,r⟩
          | false =>
            rw [if_neg (fun q=>absurd (v.mpr q) Bool.false_ne_true)] at r
            have M:=zgj A.in1 ⟨I,g,d,tk,os⟩ a t c u p w
            wp_walk using M
            exact ⟨_,rfl,by simpa using r⟩
    case fin =>
      rintro ⟨b1,b2⟩ L ⟨C,rfl,H,J,k,m,o,z,B,j,r⟩
      simp only at C
      subst C
      have N:lexLe k m=decide (i.size≤f.size):=by
        cases z with
        | nil =>
          simp only [List.length_nil] at j
          show true=_
          exact (decide_eq_true (by omega)).symm
        | cons a t N =>
          cases B with
          | nil =>
            simp only [List.length_nil,List.length_cons] at j
            show false=_
            exact (decide_eq_false (by omega)).symm
          | cons c u hw =>
            rw [List.zip_cons_cons] at o
            cases o
      rw [N] at r
      wp_walk
      exact ⟨_,rfl,by simpa [Builtin.Tuple.tupleCompareSizes] using r⟩
    case h =>
      exact ⟨rfl,rfl,i.toList,f.toList,G,F,rfl,O,P,by omega,h⟩
end
section
variable {prog:Program}{w:World}{A:Around}{E:Value→Shared→Prop}{s:Shared}
theorem le_tupInts {l b:Addr}{c a:Array Value}{g f:List Int}{Q:Value→Shared→Prop}(r:IsTup s.heap l c)(u:IsTup s.heap b a)(v:IntsAre c.toList g)(B:IntsAre a.toList f)
    (y:A.units < cLine) (h:Q (.bool (lexLe g f)) s):wpAny (model prog w) A (compareOp .LtE (.ref l) (.ref b)) Q E s:=by
  obtain ⟨⟨cls,C,data,z⟩,p,o,n,q⟩:=id r
  obtain ⟨⟨m,dd2,j,k⟩,d,i,t,e⟩:=id u
  simp only at o q i e
  subst o q i e
  exact richCompare_meets_room (op:=.LtE) ⟨_,p,rfl⟩ ⟨_,d,rfl⟩ PySem.F.slot_tuple_le PySem.F.entry_tuple_le (PySem.F.args_tuple_le_2 _ _) (VB l b c a n t C dd2 z k g f v B)
    ⟨p,d,show Value.bool (lexLe g f)≠Value.notImplemented∧Q (.bool (lexLe g f)) s from ⟨(fun x=>nomatch x),h⟩⟩ y
end
end HT
namespace L2
open PySem PySem.Spec PyProof.Rows
noncomputable def rLeT (K:PySem.W.Frag):R2:=fun x y H Q=>∃ a b d c,x=.ref a∧y=.ref b∧SqT K H a (d.map V.int)∧SqT K H b (c.map V.int)∧Q (.bl (HT.lexLe d c)) H
theorem zlP {X:Cx}(p:X.A.units < cLine):OpR X (compareOp .LtE) (rLeT X.K):=by
  intro f s σ H x y v u Q I n j h
  obtain ⟨a,b,g,e,rfl,rfl,r,m,q⟩:=h
  cases n
  cases j
  obtain ⟨d,k,o,_⟩:=I.tuple r
  obtain ⟨c,t,l,_⟩:=I.tuple m
  have i:IntsAre d.toArray.toList g:=W5 k
  have w:IntsAre c.toArray.toList e:=W5 t
  exact HT.le_tupInts o l i w p ⟨.bl (HT.lexLe g e),H,I,rfl,q⟩
end L2
namespace HT
open PySem PyProof.Rows
section
variable {prog:Program}{w:World}{A:Around}{E:Value→Shared→Prop}{s:Shared}
theorem own_getItem_whole {t j:Addr}{a:Array Value}{n l:Value}{b e:Option Int}{Q:Value→Shared→Prop}(d:IsTup s.heap t a)(k:s.heap.IsSliceOf j n l .none)(o:IsPart n b)(p:IsPart l e)
    (hw:sIx a.size 0 b=0∧sIx a.size a.size e=a.size) (h:Q (.ref t) s):wpAny (model prog w) A (getItem (.ref t) (.ref j)) Q E s:=by
  obtain ⟨os,f,g,q⟩:=id k
  have i:s.TypeIs (.ref j) "slice":=⟨os,f,g⟩
  unfold getItem
  try with_reducible refine wpAny_holding ?_
  first | refine wpAny_bind (wpAny_pure ?_) | skip
  refine wpAny_bind (wpAny_sequenceKey d.typeIs (by decide) ?_)
  refine wpAny_bind (wpAny_callSpecial?_slot (name:=Str.ofString "__getitem__") d.typeIs PyProof.Rows.slot_tuple_getitem
    (wpAny_call_entry PyProof.Rows.slot_tuple_getitem d.typeIs entry_tuple_getitem ?_ (args_tuple_getitem _ _)))
  show wpAny _ _ (Builtin.Tuple.tupleItemsOf (.ref t)>>=_) _ _ s
  refine wpAny_bind (tupleItemsOf_ d ?_)
  refine wpAny_bind (wpAny_typeOf i ?_)
  rw [if_pos (by decide)]
  refine wpAny_bind (wV k o p ?_)
  have c:(((sIx a.size 0 b:Nat):Int) == 0&&(1:Int) == 1&&(sIx a.size a.size e - sIx a.size 0 b) == a.size)=true:=by
    rw [hw.1,hw.2]
    simp
  show wpAny _ _ (if (((sIx a.size 0 b:Nat):Int) == 0&&(1:Int) == 1&&(sIx a.size a.size e - sIx a.size 0 b) == a.size)=true then _ else _) _ _ s
  rw [if_pos c]
  refine wpAny_bind (m:=Builtin.Tuple.tupleIsExact (.ref t)) ?_
  unfold Builtin.Tuple.tupleIsExact
  refine wpAny_bind (wpAny_typeOf d.typeIs (wpAny_pure ?_))
  rw [if_pos (by decide)]
  refine wpAny_bind (wpAny_rule ?_)
  first
    | exact wpAny_pure ⟨_,rfl,wpAny_pure h⟩
    | exact wpAny_bind (wpAny_pure (wpAny_pure ⟨_,rfl,wpAny_pure h⟩))
end
end HT
namespace PySem
open Sem (wp)
theorem yP {c:Program}{w:World}{A:Around}{m a:Addr}{d:List Addr}{n k:Nat}{P:Nat→Value→Prop}{St:Nat→Heap→Prop}(D:Draws c w A m d n P St){h f:Heap}(j:St k h)(i:Heap.SameBut a h f)(g:a∉d):St k f :=
  D.frame _ _ _ j fun b l o e=>(i.2 b fun z=>g (z ▸ l)).trans e
set_option genInjectivity false in
set_option genSizeOf false in
set_option genCtorIdx false in
structure zgb (z TI TO i1 i2:Addr) (fp1 fp2:List Addr):Prop where
  nd:[z,TI,TO,i1,i2].Nodup
  z1:z∉fp1
  z2:z∉fp2
  o1:TO∉fp1
  o2:TO∉fp2
  i12:i1∉fp2
  i21:i2∉fp1
section
variable {prog:Program}{w:World}{A:Around}{E:Value→Shared→Prop}{s:Shared}{z TI TO i1 i2:Addr}{fp1 fp2:List Addr}{n1 n2 k1 k2:Nat}{P1 P2:Nat→Value→Prop}{St1 St2:Nat→Heap→Prop}{a b:Value}
theorem zaV {Q:Value→Shared→Prop}(D1:Draws prog w A i1 fp1 n1 P1 St1)(D2:Draws prog w A i2 fp2 n2 P2 St2)(ap:zgb z TI TO i1 i2 fp1 fp2)
    (p:IsZip s.heap z TI TO .none) (H:IsPair s.heap TI (.ref i1) (.ref i2)) (N:IsPair s.heap TO a b) (h1:St1 k1 s.heap) (h2:St2 k2 s.heap) (l1:k1 < n1) (l2:k2 < n2)
    (Z:∀ x y g tk,P1 k1 x→P2 k2 y→IsZip g z TI TO (rawInt s.heap.objs.size)→IsPair g TO x y→St1 (k1+1) g→St2 (k2+1) g→IsPair g s.heap.objs.size x y →
      (∀ c o,c∉[z,TO,i1,i2]→s.heap.get? c=some o→g.get? c=some o)→Q (.ref s.heap.objs.size) { s with heap:=g,toks:=tk }) :
    wpAny (model prog w) A (Builtin.«zip.__next__» ⟨[.ref z],[]⟩) (fun fin s'=>∃ v,fin=.done (.ret v)∧Q v s') E s:=by
  obtain ⟨S,u,r,l,t,I,L⟩:=ap
  simp only [List.nodup_cons,List.mem_cons,List.not_mem_nil,or_false,not_or,not_false_eq_true,List.nodup_nil,and_true] at S
  obtain ⟨⟨a2,f,F,J⟩,⟨n5,n6,n7⟩,⟨n8,n9⟩,a0⟩:=S
  show wpAny _ _ (field (.ref z) 2>>=_) _ _ _
  refine wpAny_bind (wpAny_field p rfl (x:=.bool false) rfl ?_)
  show wpAny _ _ (field (.ref z) 3>>=_) _ _ _
  refine wpAny_bind (wpAny_field p rfl (x:=.ref TI) rfl (wpAny_bind (wpAny_seqItems H rfl ?_)))
  show wpAny _ _ (Builtin.SmallTypes.ownedTupleIsFree (.ref z)>>=_) _ _ _
  refine wpAny_bind ?_
  unfold Builtin.SmallTypes.ownedTupleIsFree
  refine wpAny_bind (wpAny_field p rfl (x:=.none) rfl (wpAny_pure ?_))
  simp only [if_true]
  refine wpAny_bind (wpAny_rule (wpAny_bind (wpAny_field p rfl (x:=.ref TO) rfl (wpAny_bind (wpAny_setField_rec p (by simp) fun g1 z1 b1=>?_)))))
  refine wpAny_bind ?_
  simp only [List.zipIdx_cons,List.zipIdx_nil,List.forIn_cons,List.forIn_nil]
  refine wpAny_bind (wpAny_bind (wpAny_onRaise ?_))
  show wpAny _ _ (Builtin.SmallTypes.nextOf (.ref i1)>>=_) _ _ _
  refine wpAny_bind (D1.item k1 _ _ _ l1 (yP D1 h1 b1 u) fun x g2 a1 px M b2=>wpAny_pure ?_)
  have P:IsPair g2 TO a b:=(b2.2 TO n8).trans ((b1.2 TO (Ne.symm f)).trans N)
  refine wpAny_bind (wpAny_seqItems P rfl (wpAny_bind (wpAny_updateSeq_pair P fun g3 o3 b3=>?_)))
  refine wpAny_bind (wpAny_letGo (wpAny_pure ?_))
  refine wpAny_bind (wpAny_bind (wpAny_onRaise ?_))
  show wpAny _ _ (Builtin.SmallTypes.nextOf (.ref i2)>>=_) _ _ _
  have G:St2 k2 g3:=yP D2 (yP D2 (yP D2 h2 b1 r) b2 I) b3 t
  refine wpAny_bind (D2.item k2 _ _ _ l2 G fun y g4 a3 py K i=>wpAny_pure ?_)
  have T:IsPair g4 TO x b:=(i.2 TO n9).trans o3
  refine wpAny_bind (wpAny_seqItems T rfl (wpAny_bind (wpAny_updateSeq_pair T fun d D m=>?_)))
  replace D:IsPair d TO x y:=D
  refine wpAny_bind (wpAny_letGo (wpAny_pure (wpAny_pure ?_)))
  refine wpAny_bind (wpAny_seqItems D rfl ?_)
  show wpAny _ _ (newTuple [x,y]>>=_) _ _ _
  refine wpAny_bind (wpAny_newTuple ?_)
  have k:d.objs.size=s.heap.objs.size:=by rw [m.1,i.1,b3.1,b2.1,b1.1]
  have X:IsZip d z TI TO .ellipsis:=(m.2 z f).trans ((i.2 z J).trans ((b3.2 z f).trans ((b2.2 z F).trans z1)))
  have j:z < d.objs.size:=Heap.lt_size X
  show wpAny _ _ (Builtin.SmallTypes.ownedTupleHandOut (.ref z) (.ref d.objs.size)>>=_) _ _ _
  refine wpAny_bind ?_
  unfold Builtin.SmallTypes.ownedTupleHandOut
  have z6:IsZip (d.push { cls:=.type "tuple",data:=.seq #[x,y] }) z TI TO .ellipsis:=Heap.get?_push_of_some _ X
  refine wpAny_bind (wpAny_setField_rec z6 (by simp) fun g7 z7 Y=>?_)
  refine wpAny_setField_rec z7 (by simp) fun B z8 O=>?_
  have C:∀ c o,c≠z→d.get? c=some o→B.get? c=some o:=fun c o n e=>(O.2 c n).trans ((Y.2 c n).trans (Heap.get?_push_of_some _ e))
  have R:IsPair B d.objs.size x y:=(O.2 _ (Nat.ne_of_gt j)).trans ((Y.2 _ (Nat.ne_of_gt j)).trans (Heap.get?_push_size _ rfl))
  have W:IsZip B z TI TO (rawInt d.objs.size):=z8
  rw [k] at W R
  refine wpAny_pure ⟨_,rfl,?_⟩
  show Q (.ref d.objs.size) _
  rw [k]
  have f1:St1 (k1+1) d:=yP D1 (yP D1 (yP D1 M b3 l) i L) m l
  have f2:St2 (k2+1) d:=yP D2 K m t
  refine Z x y B _ px py W (C _ _ (Ne.symm f) D) (D1.frame _ _ _ f1 fun c h o e=>C c o (fun q=>u (q ▸ h)) e) (D2.frame _ _ _ f2 fun c h o e=>C c o (fun q=>r (q ▸ h)) e) R fun c o h e=>?_
  simp only [List.mem_cons,List.not_mem_nil,or_false,not_or] at h
  obtain ⟨V,U,c3,c4⟩:=h
  exact C c o V ((m.2 c U).trans ((i.2 c c4).trans ((b3.2 c U).trans ((b2.2 c c3).trans ((b1.2 c V).trans e)))))
theorem zbH {Q:Fin→Shared→Prop}(D1:Draws prog w A i1 fp1 n1 P1 St1)(i:z∉fp1)(u:i1≠z)
    (b:IsZip s.heap z TI TO .none) (f:IsPair s.heap TI (.ref i1) (.ref i2)) (m:St1 n1 s.heap)
    (l:∀ g e,(∀ c o,c≠z→c≠i1→s.heap.get? c=some o→g.get? c=some o)→(∃ o,g.get? e=some o∧o.cls=.type "StopIteration")→E (.ref e) { s with heap:=g }) :
    wpAny (model prog w) A (Builtin.«zip.__next__» ⟨[.ref z],[]⟩) Q E s:=by
  show wpAny _ _ (field (.ref z) 2>>=_) _ _ _
  refine wpAny_bind (wpAny_field b rfl (x:=.bool false) rfl ?_)
  show wpAny _ _ (field (.ref z) 3>>=_) _ _ _
  refine wpAny_bind (wpAny_field b rfl (x:=.ref TI) rfl (wpAny_bind (wpAny_seqItems f rfl ?_)))
  show wpAny _ _ (Builtin.SmallTypes.ownedTupleIsFree (.ref z)>>=_) _ _ _
  refine wpAny_bind ?_
  unfold Builtin.SmallTypes.ownedTupleIsFree
  refine wpAny_bind (wpAny_field b rfl (x:=.none) rfl (wpAny_pure ?_))
  simp only [if_true]
  refine wpAny_bind (wpAny_rule (wpAny_bind (wpAny_field b rfl (x:=.ref TO) rfl (wpAny_bind (wpAny_setField_rec b (by simp) fun B t b1=>?_)))))
  refine wpAny_bind ?_
  simp only [List.zipIdx_cons,List.zipIdx_nil,List.forIn_cons,List.forIn_nil]
  refine wpAny_bind (wpAny_bind (wpAny_onRaise ?_))
  show wpAny _ _ (Builtin.SmallTypes.nextOf (.ref i1)>>=_) _ _ _
  refine wpAny_bind (D1.done _ _ _ (yP D1 m b1 i) fun n e b2 v=>?_)
  obtain ⟨y,a,d⟩:=v
  have k:IsZip n z TI TO .ellipsis:=b2 _ _ (Ne.symm u) t
  have h:e≠z:=fun q=>by subst q;rw [k] at a;cases a;simp at d
  exact wpAny_setField_rec k (by simp) fun r _ b3=>l r e (fun c o j p q=>(b3.2 c j).trans (b2 c o p ((b1.2 c j).trans q))) ⟨y,(b3.2 e h).trans a,d⟩
end
noncomputable def VN (b:Bool)(h:Heap)(a l:Addr)(k:Nat):Prop:=if b=true then h.IsListIter a l k else h.IsTupleIter a l k
noncomputable def zcS (b:Bool)(h:Heap)(l:Addr)(a:Array Value):Prop:=if b=true then h.IsList l a else h.IsTuple l a
theorem We {prog:Program}{w:World}{A:Around}(e:A.handled=none)(b:Bool)(c l:Addr)(d:l≠c)(a:Array Value) :
    Draws prog w A c [c,l] a.size (fun i v=>a[i]?=some v) (fun i h=>VN b h c l i∧zcS b h l a):=by
  cases b with
  | true=>exact Draws.list e c l d a
  | false=>exact vm e c l d a
noncomputable def zem (b:Bool) (l:Addr):Obj:={ cls:=.type (if b=true then "list_iterator" else "tuple_iterator"),data:=.fields #[.ref l,.int 0 0] }
noncomputable abbrev zpA (h:Heap)(b1:Bool)(a:Addr):Heap:=h.push (zem b1 a)
noncomputable abbrev zpB (h:Heap)(b1 b2:Bool)(b a:Addr):Heap:=(zpA h b1 b).push (zem b2 a)
noncomputable abbrev zpC (h:Heap) (b1 b2:Bool) (a b:Addr):Heap:=(zpB h b1 b2 a b).push (Obj.mk (.type "tuple") none (.seq #[.ref h.objs.size,.ref (zpA h b1 a).objs.size]) #[])
noncomputable abbrev zpD (h:Heap) (b1 b2:Bool) (b a:Addr):Heap:=(zpC h b1 b2 b a).push (Obj.mk (.type "tuple") none (.seq #[.none,.none]) #[])
noncomputable abbrev zpE (h:Heap) (b1 b2:Bool) (b a:Addr):Heap:=(zpD h b1 b2 b a).push (Obj.mk (.type "zip") none (.fields #[.none,.bool false,.bool false,.ref (zpB h b1 b2 b a).objs.size,.ref (zpC h b1 b2 b a).objs.size]) #[])
theorem zbW (b1 b2:Bool)(c f:Addr)(l k:Array Value) :
    Meets (Builtin.«zip.__new__» ⟨[.type "zip",.ref c,.ref f],[]⟩) (fun _ R s=>zcS b1 s.heap c l∧zcS b2 s.heap f k ∧
      R (.ok (.ret (.ref (zpD s.heap b1 b2 c f).objs.size))) { s with heap:=zpE s.heap b1 b2 c f }) :=
  .of_wp fun m w A R s h=>by
    obtain ⟨i,g,d,tk,os⟩:=s;obtain ⟨j,e,h⟩:=h
    have n:=sub_zip
    cases b1 with
    | true =>
      have b:Heap.IsList (Shared.heap ⟨i,g,d,tk,os⟩) c l:=j
      cases b2 with
      | true =>
        have a:Heap.IsList (Shared.heap ⟨i.push { cls:=.type "list_iterator",data:=.fields #[.ref c,.int 0 0] },g,d,tk,os⟩) f k:=Heap.IsList.push e _
        wp_walk using wpAny_pyIter_list b,wpAny_pyIter_list a
        exact ⟨_,rfl,h⟩
      | false =>
        have a:Heap.IsTuple (Shared.heap ⟨i.push { cls:=.type "list_iterator",data:=.fields #[.ref c,.int 0 0] },g,d,tk,os⟩) f k:=Heap.IsTuple.push e _
        wp_walk using wpAny_pyIter_list b,wpAny_pyIter_tuple a
        exact ⟨_,rfl,h⟩
    | false =>
      have b:Heap.IsTuple (Shared.heap ⟨i,g,d,tk,os⟩) c l:=j
      cases b2 with
      | true =>
        have a:Heap.IsList (Shared.heap ⟨i.push { cls:=.type "tuple_iterator",data:=.fields #[.ref c,.int 0 0] },g,d,tk,os⟩) f k:=Heap.IsList.push e _
        wp_walk using wpAny_pyIter_tuple b,wpAny_pyIter_list a
        exact ⟨_,rfl,h⟩
      | false =>
        have a:Heap.IsTuple (Shared.heap ⟨i.push { cls:=.type "tuple_iterator",data:=.fields #[.ref c,.int 0 0] },g,d,tk,os⟩) f k:=Heap.IsTuple.push e _
        wp_walk using wpAny_pyIter_tuple b,wpAny_pyIter_tuple a
        exact ⟨_,rfl,h⟩
end PySem
namespace PySem
section
variable {prog:Program}{w:World}{A:Around}{E:Value→Shared→Prop}{s:Shared}
theorem zag {b1 b2:Bool}{a d:Addr}{v y:Array Value}{Q:Value→Shared→Prop}(m:zcS b1 s.heap a v)(k:zcS b2 s.heap d y)
    (h:∀ f,IsZip f (s.heap.objs.size+4) (s.heap.objs.size+2) (s.heap.objs.size+3) .none→IsPair f (s.heap.objs.size+2) (.ref s.heap.objs.size) (.ref (s.heap.objs.size+1)) →
      IsPair f (s.heap.objs.size+3) .none .none→VN b1 f s.heap.objs.size a 0→VN b2 f (s.heap.objs.size+1) d 0 →
      (∀ c o,s.heap.get? c=some o→f.get? c=some o)→Q (.ref (s.heap.objs.size+4)) { s with heap:=f }) :
    wpAny (model prog w) A (call (.type "zip") [.ref a,.ref d]) Q E s:=by
  refine callType_new F.called_zip (by decide) (F.typeCall_zip_2 _ _) (F.newCall_zip_2 _ _) (fun q=>F.args_object_init_3 q _ _) F.entry_zip_new
    (zbW b1 b2 a d v y) ⟨m,k,?_⟩
  have i:(zpA s.heap b1 a).objs.size=s.heap.objs.size+1:=Heap.size_push ..
  have p:(zpB s.heap b1 b2 a d).objs.size=s.heap.objs.size+2:=by rw [Heap.size_push,i]
  have j:(zpC s.heap b1 b2 a d).objs.size=s.heap.objs.size+3:=by rw [Heap.size_push,p]
  have u:(zpD s.heap b1 b2 a d).objs.size=s.heap.objs.size+4:=by rw [Heap.size_push,j]
  have n:(zpE s.heap b1 b2 a d).get? (zpD s.heap b1 b2 a d).objs.size=some _:=Heap.get?_push_size _ rfl
  have r:(zpE s.heap b1 b2 a d).get? (zpC s.heap b1 b2 a d).objs.size=some _:=Heap.get?_push_of_some _ (Heap.get?_push_size _ rfl)
  have z:(zpE s.heap b1 b2 a d).get? (zpB s.heap b1 b2 a d).objs.size=some _:=Heap.get?_push_of_some _ (Heap.get?_push_of_some _ (Heap.get?_push_size _ rfl))
  have t:(zpE s.heap b1 b2 a d).get? (zpA s.heap b1 a).objs.size=some (zem b2 d):=Heap.get?_push_of_some _ (Heap.get?_push_of_some _ (Heap.get?_push_of_some _ (Heap.get?_push_size _ rfl)))
  have B:(zpE s.heap b1 b2 a d).get? s.heap.objs.size=some (zem b1 a):=Heap.get?_push_of_some _ (Heap.get?_push_of_some _ (Heap.get?_push_of_some _ (Heap.get?_push_of_some _ (Heap.get?_push_size _ rfl))))
  show _∧_
  rw [p,j,u] at n
  rw [i,p] at z
  rw [j] at r
  rw [i] at t
  rw [u]
  have g:∀ {b:Bool} {l c:Addr},(zpE s.heap b1 b2 a d).get? c=some (zem b l)→VN b (zpE s.heap b1 b2 a d) c l 0:=fun {b l c} e=>by
    cases b
    · exact ⟨_,e,rfl,rfl⟩
    · exact ⟨_,e,rfl,rfl⟩
  exact ⟨⟨_,n,rfl⟩,h _ n z r (g B) (g t) fun c o x =>
    Heap.get?_push_of_some _ (Heap.get?_push_of_some _ (Heap.get?_push_of_some _ (Heap.get?_push_of_some _ (Heap.get?_push_of_some _ x))))⟩
variable {z TI TO i1 i2:Addr}{fp1 fp2:List Addr}{n1 n2 k1 k2:Nat}{P1 P2:Nat→Value→Prop}{St1 St2:Nat→Heap→Prop}{a b:Value}
theorem YX {Q:Option Value→Shared→Prop}(D1:Draws prog w A.in1 i1 fp1 n1 P1 St1)(D2:Draws prog w A.in1 i2 fp2 n2 P2 St2)(u:zgb z TI TO i1 i2 fp1 fp2)
    (h:IsZip s.heap z TI TO .none) (e:IsPair s.heap TI (.ref i1) (.ref i2)) (f:IsPair s.heap TO a b) (l:St1 k1 s.heap) (m:St2 k2 s.heap) (q:k1 < n1) (p:k2 < n2)
    (j:∀ x y d tk,P1 k1 x→P2 k2 y→IsZip d z TI TO (rawInt s.heap.objs.size)→IsPair d TO x y→St1 (k1+1) d→St2 (k2+1) d→IsPair d s.heap.objs.size x y →
      (∀ c o,c∉[z,TO,i1,i2]→s.heap.get? c=some o→d.get? c=some o)→Q (some (.ref s.heap.objs.size)) { s with heap:=d,toks:=tk }) :
    wpAny (model prog w) A (pyNext (.ref z)) Q E s:=by
  have g:s.TypeIs (.ref z) "zip":=⟨_,h,rfl⟩
  unfold pyNext
  exact wpAny_bind (wpAny_attempt (wpAny_callSpecial?_slot (name:=Str.ofString "__next__") g F.slot_zip_next
    (wpAny_call_entry F.slot_zip_next g F.entry_zip_next
      (zaV D1 D2 u h e f l m q p fun x y d tk B t r v k C n i=>wpAny_pure (j x y d tk B t r v k C n i)) (F.args_zip_next_1 _))))
theorem Y0 {Q:Option Value→Shared→Prop}(D1:Draws prog w A.in1 i1 fp1 n1 P1 St1)(f:z∉fp1)(m:i1≠z)
    (h:IsZip s.heap z TI TO .none) (a:IsPair s.heap TI (.ref i1) (.ref i2)) (i:St1 n1 s.heap)
    (n:∀ d,(∀ c o,c≠z→c≠i1→s.heap.get? c=some o→d.get? c=some o)→Q none { s with heap:=d }):wpAny (model prog w) A (pyNext (.ref z)) Q E s:=by
  have g:s.TypeIs (.ref z) "zip":=⟨_,h,rfl⟩
  unfold pyNext
  refine wpAny_bind (wpAny_attempt (wpAny_callSpecial?_slot (name:=Str.ofString "__next__") g F.slot_zip_next
    (wpAny_call_entry F.slot_zip_next g F.entry_zip_next (zbH D1 f m h a i fun d e k p=>?_) (F.args_zip_next_1 _))))
  obtain ⟨o,l,j⟩:=p
  refine wpAny_bind (wpAny_isInstance (T:="StopIteration") (b:=true) ⟨o,l,j⟩ isSubtype_stop ?_)
  exact wpAny_pure (n _ k)
end
end PySem
namespace L2
open PySem PySem.Spec PyProof.Rows
noncomputable def Sq (b:Bool)(K:PySem.W.Frag)(H:Hp)(a:Addr)(c:List V):Prop:=if b=true then SqL K H a c else SqT K H a c
theorem Inv.sq {X:Cx}{d:List (Addr × Obj)}{σ:St}{H:Hp}{s:Shared}{a:Addr}{e:List V}{b:Bool}(I:Inv X d σ H s)(h:Sq b X.K H a e):∃ c:List Value,ye e c∧zcS b s.heap a c.toArray∧a < s.heap.objs.size:=by
  cases b with
  | true =>
    obtain ⟨c,r,p,_⟩:=I.list (show SqL X.K H a e from h)
    exact ⟨c,r,p.isList,by obtain ⟨o,n,f,_⟩:=p;exact Heap.lt_size f⟩
  | false =>
    obtain ⟨c,r,p,_⟩:=I.tuple (show SqT X.K H a e from h)
    exact ⟨c,r,p,by obtain ⟨o,f,_⟩:=p;exact Heap.lt_size f⟩
theorem Inv.sq_inj {X:Cx}{c:List (Addr × Obj)}{σ:St}{H:Hp}{s:Shared}{a:Addr}{d f:List V}{b:Bool}(I:Inv X c σ H s)(h:Sq b X.K H a d)(e:Sq b X.K H a f):d=f:=by
  cases b with
  | true=>exact I.list_inj h e
  | false=>exact I.tuple_inj h e
noncomputable def Izp (K:PySem.W.Frag)(b1 b2:Bool)(c d:Addr):It :=
  ⟨fun i H=>∃ a b x y,Sq b1 K H c a∧Sq b2 K H d b∧a[i]?=some x∧b[i]?=some y,
   fun i H v H'=>∃ T x y,v=.ref T∧H T=none∧H'=upd H T (.tup [x,y])∧(∀ a,Sq b1 K H c a→a[i]?=some x)∧(∀ b,Sq b2 K H d b→b[i]?=some y),
   fun i H=>∃ a,Sq b1 K H c a∧i=a.length⟩
theorem Zb {b:Bool}{h:Heap}{d l:Addr}{k:Nat}(x:VN b h d l k):∃ o,h.get? d=some o∧∀ v,o.data≠.cell v:=by
  cases b
  · obtain ⟨o,a,_,c⟩:=x
    exact ⟨o,a,fun v z=>by rw [c] at z;cases z⟩
  · obtain ⟨o,a,_,c⟩:=x
    exact ⟨o,a,fun v z=>by rw [c] at z;cases z⟩
theorem Xs {b:Bool}{h d:Heap}{a l:Addr}{k:Nat}(x:VN b h a l k)(e:∀ o,h.get? a=some o→d.get? a=some o):VN b d a l k:=by
  cases b
  · obtain ⟨o,c,r⟩:=x
    exact ⟨o,e o c,r⟩
  · obtain ⟨o,c,r⟩:=x
    exact ⟨o,e o c,r⟩
theorem zgy {P:Program}{w:World}{K:PySem.W.Frag}{es:List Expr}{k:Nat}{tp:Pos}(b1 b2:Bool)(l1 l2 z TI TO i1 i2:Addr)(ap:zgb z TI TO i1 i2 [i1,l1] [i2,l2])(n1:l1≠i1)(n2:l2≠i2) :
    zhj P w K (.Tuple es k tp) (Izp K b1 b2 l1 l2) [z,TI,TO,i1,i2] z (fun i h=>IsZip h z TI TO .none∧IsPair h TI (.ref i1) (.ref i2)∧(∃ a b,IsPair h TO a b)∧VN b1 h i1 l1 i∧VN b2 h i2 l2 i) where
  mem:=by simp
  obj:=fun i h st b hb=>by
    obtain ⟨hz,hTI,⟨a,c,hTO⟩,h1,h2⟩:=st
    simp only [List.mem_cons,List.not_mem_nil,or_false] at hb
    rcases hb with rfl | rfl | rfl | rfl | rfl
    · exact ⟨_,hz,fun v z=>by cases z⟩
    · exact ⟨_,hTI,fun v z=>by cases z⟩
    · exact ⟨_,hTO,fun v z=>by cases z⟩
    · exact Zb h1
    · exact Zb h2
  keep:=fun i h h' st kk=>by
    obtain ⟨hz,hTI,⟨a,c,hTO⟩,h1,h2⟩:=st
    exact ⟨kk z (by simp) _ hz,kk TI (by simp) _ hTI,⟨a,c,kk TO (by simp) _ hTO⟩,Xs h1 fun o q=>kk i1 (by simp) o q,Xs h2 fun o q=>kk i2 (by simp) o q⟩
  item:=by
    intro X hP hw hK hc i pins s σ H E I hf st hg
    subst hP hw hK
    obtain ⟨hz,hTI,⟨a,c,hTO⟩,h1,h2⟩:=st
    obtain ⟨xs,ys,x,y,hq1,hq2,hx,hy⟩:=hg
    obtain ⟨its,rv,p,_⟩:=I.sq hq1
    obtain ⟨its2,rv2,p2,_⟩:=I.sq hq2
    obtain ⟨u,hu,ru⟩:=rv.get hx
    obtain ⟨u2,hu2,ru2⟩:=rv2.get hy
    have hl1:i < its.toArray.size:=by simpa using (List.getElem?_eq_some_iff.mp hu).1
    have hl2:i < its2.toArray.size:=by simpa using (List.getElem?_eq_some_iff.mp hu2).1
    have hh:X.A.in1.handled=none:=I.ok.hd hc
    refine YX (We hh b1 i1 l1 n1 its.toArray) (We hh b2 i2 l2 n2 its2.toArray) ap hz hTI hTO ⟨h1,p⟩ ⟨h2,p2⟩ hl1 hl2 fun v1 v2 h' tk e1 e2 hz' hTO' s1 s2 hT' hk=>?_
    have eu:v1=u:=by
      have:its[i]?=some v1:=by simpa using e1
      rw [hu] at this
      exact (Option.some.inj this).symm
    have eu2:v2=u2:=by
      have:its2[i]?=some v2:=by simpa using e2
      rw [hu2] at this
      exact (Option.some.inj this).symm
    subst eu eu2
    obtain ⟨nd,az1,az2,ao1,ao2,a12,a21⟩:=ap
    simp only [List.nodup_cons,List.mem_cons,List.not_mem_nil,or_false,not_or,not_false_eq_true,List.nodup_nil,and_true] at nd
    obtain ⟨⟨m1,m2,m3,m4⟩,⟨m5,m6,m7⟩,⟨m8,m9⟩,m10⟩:=nd
    refine ⟨_,rfl,wpAny_letOwnedTupleGo_zip hz' fun h2' hz2 hs2=>?_⟩
    have hfr:H s.heap.objs.size=none:=I.hok.fresh (Nat.le_refl _)
    have neZ:s.heap.objs.size≠z:=Nat.ne_of_gt (Heap.lt_size hz)
    have hT2:IsPair h2' s.heap.objs.size v1 v2:=(hs2.2 _ neZ).trans hT'
    have hTI':IsPair h' TI (.ref i1) (.ref i2):=hk TI _ (by simp [Ne.symm m1,m5,m6,m7]) hTI
    have lt:∀ b∈[z,TI,TO,i1,i2],b < s.heap.objs.size:=fun b hb=>by
      simp only [List.mem_cons,List.not_mem_nil,or_false] at hb
      rcases hb with rfl | rfl | rfl | rfl | rfl
      · exact Heap.lt_size hz
      · exact Heap.lt_size hTI
      · exact Heap.lt_size hTO
      · obtain ⟨o,ho,_⟩:=Zb h1;exact Heap.lt_size ho
      · obtain ⟨o,ho,_⟩:=Zb h2;exact Heap.lt_size ho
    refine ⟨.ref s.heap.objs.size,upd H s.heap.objs.size (.tup [x,y]),?_,rfl,⟨_,x,y,rfl,hfr,rfl,fun zs hz=>by rw [I.sq_inj hz hq1];exact hx,fun zs hz=>by rw [I.sq_inj hz hq2];exact hy⟩,
      ⟨hz2,(hs2.2 TI (Ne.symm m1)).trans hTI',⟨_,_,(hs2.2 TO (Ne.symm m2)).trans hTO'⟩,Xs s1.1 fun o q=>(hs2.2 i1 (Ne.symm m3)).trans q,Xs s2.1 fun o q=>(hs2.2 i2 (Ne.symm m4)).trans q⟩,fun b hb=>?_⟩
    · refine I.grown (ch:=[z,TI,TO,i1,i2]) hf (Nat.le_refl _) (fun b v hb q=>?_) ?_
      · have nb:b≠z:=fun w=>hb (by simp [w])
        refine (hs2.2 b nb).trans (hk b v (fun w=>hb ?_) q)
        simp only [List.mem_cons,List.not_mem_nil,or_false] at w ⊢
        rcases w with w | w | w | w
        · exact .inl w
        · exact .inr (.inr (.inl w))
        · exact .inr (.inr (.inr (.inl w)))
        · exact .inr (.inr (.inr (.inr w)))
      · exact ⟨by show 2≤sizeLine;decide,[v1,v2],.cons ru (.cons ru2 .nil),⟨_,hT2,rfl,0,rfl⟩⟩
    · rw [zm (Nat.ne_of_lt (lt b hb))]
      exact (hf b hb).1
  done:=by
    intro X hP hw hK hc i pins s σ H E I hf st hg
    subst hP hw hK
    obtain ⟨hz,hTI,⟨a,c,hTO⟩,h1,h2⟩:=st
    obtain ⟨xs,hq,rfl⟩:=hg
    obtain ⟨its,rv,p,_⟩:=I.sq hq
    have hl:=rv.length
    have hh:X.A.in1.handled=none:=I.ok.hd hc
    have D:=We (prog:=X.prog) (w:=X.w) hh b1 i1 l1 n1 its.toArray
    refine Y0 D ap.z1 ?_ hz hTI ⟨by rw [List.size_toArray,← hl];exact h1,p⟩ fun h' hk=>⟨rfl,I.turnedN (ch:=[z,TI,TO,i1,i2]) (t':=s.toks) hf fun b v hb q=>hk b v (fun w=>hb (by simp [w])) (fun w=>hb (by simp [w])) q⟩
    have nd:=ap.nd
    simp only [List.nodup_cons,List.mem_cons,List.not_mem_nil,or_false,not_or,not_false_eq_true,List.nodup_nil,and_true] at nd
    exact Ne.symm nd.1.2.2.1
  self:=fun _ _ _ _ _ st h=>wpAny_pyIter_zip st.1 h
noncomputable def iZip (K:PySem.W.Frag)(ta:TA):TI:=fun σ H R=>ta σ H fun d H1=>∃ b1 b2 b a c e,d=[.ref b,.ref a]∧Sq b1 K H1 b c∧Sq b2 K H1 a e∧R (Izp K b1 b2 b a) H1
theorem zli {X:Cx} {Q:List Expr} {k:Nat} {S:Pos} {a b:Expr} {ta:TA} {p v:Pos} (hg:Gl X "zip") (P:X.mg "zip"=none) (o:bootBuiltins "zip"=some (.type "zip")) (ha:PA X [a,b] ta)
    (V:starEach [a,b] X.env=[(false,eval a X.env),(false,eval b X.env)]:=by rfl) (w:starEach [b] X.env=[(false,eval b X.env)]:=by rfl):PI X (.Tuple Q k S) (.Call (.Name "zip" p) [a,b] [] v) (iZip X.K ta):=by
  intro f s σ H R I h
  refine Call_ (vp I hg P o (PyProof.Rows.callWith_type1 (thn (ha v f s σ H _ I h) fun us c hh9=>?_) (by rw [V,w]) (by rw [w];rfl)))
  obtain ⟨vs,H1,I1,U,M⟩:=hh9
  obtain ⟨b1,b2,x,B,xs,ys,e,C,y,q⟩:=M
  subst e
  obtain ⟨u,u2,rfl,ru,z⟩:=zg5 U
  cases ru
  cases z
  obtain ⟨Z,rv,Y,d⟩:=I1.sq C
  obtain ⟨K,W,O,r⟩:=I1.sq y
  refine zag Y O fun h2 L A J D E N=>wpAny_pyIter_zip L ?_
  have t:∀ b,c.heap.objs.size≤b→WG X f H1 b:=fun b o=>I1.fpOk o (I1.hok.fresh o)
  have T:zgb (c.heap.objs.size+4) (c.heap.objs.size+2) (c.heap.objs.size+3) c.heap.objs.size (c.heap.objs.size+1) [c.heap.objs.size,x] [c.heap.objs.size+1,B]:=by
    have M:x≠c.heap.objs.size:=Nat.ne_of_lt d
    have F:∀ j:Nat,c.heap.objs.size+j≠x:=fun j e=>Nat.lt_irrefl _ (Nat.lt_of_lt_of_le (by rw [←e] at d;exact d) (Nat.le_add_right _ _))
    have G:∀ j:Nat,c.heap.objs.size+j≠B:=fun j e=>Nat.lt_irrefl _ (Nat.lt_of_lt_of_le (by rw [←e] at r;exact r) (Nat.le_add_right _ _))
    have g:∀ i j:Nat,i≠j→c.heap.objs.size+i≠c.heap.objs.size+j:=fun i j h e=>h (Nat.add_left_cancel e)
    have l:∀ i:Nat,i≠0→c.heap.objs.size+i≠c.heap.objs.size:=fun i h e=>h (Nat.add_left_cancel (n:=c.heap.objs.size) (m:=i) (k:=0) e)
    refine ⟨?_,?_,?_,?_,?_,?_,?_⟩
    · simp only [List.nodup_cons,List.mem_cons,List.not_mem_nil,or_false,not_or,not_false_eq_true,List.nodup_nil,and_true]
      exact ⟨⟨g 4 2 (by decide),g 4 3 (by decide),l 4 (by decide),g 4 1 (by decide)⟩,⟨g 2 3 (by decide),l 2 (by decide),g 2 1 (by decide)⟩,⟨l 3 (by decide),g 3 1 (by decide)⟩,Ne.symm (l 1 (by decide))⟩
    · simp only [List.mem_cons,List.not_mem_nil,or_false,not_or];exact ⟨l 4 (by decide),F 4⟩
    · simp only [List.mem_cons,List.not_mem_nil,or_false,not_or];exact ⟨g 4 1 (by decide),G 4⟩
    · simp only [List.mem_cons,List.not_mem_nil,or_false,not_or];exact ⟨l 3 (by decide),F 3⟩
    · simp only [List.mem_cons,List.not_mem_nil,or_false,not_or];exact ⟨g 3 1 (by decide),G 3⟩
    · simp only [List.mem_cons,List.not_mem_nil,or_false,not_or];exact ⟨Ne.symm (l 1 (by decide)),G 0⟩
    · simp only [List.mem_cons,List.not_mem_nil,or_false,not_or];exact ⟨l 1 (by decide),F 1⟩
  refine ⟨_,_,_,_,H1,rfl,I1.kept (t':=c.toks) N,zgy b1 b2 x B _ _ _ _ _ T (Nat.ne_of_lt d) (Nat.ne_of_lt (Nat.lt_succ_of_lt r)),⟨L,A,⟨_,_,J⟩,D,E⟩,fun b o=>?_,q⟩
  simp only [List.mem_cons,List.not_mem_nil,or_false] at o
  rcases o with rfl | rfl | rfl | rfl | rfl
  · exact t _ (Nat.le_add_right _ _)
  · exact t _ (Nat.le_add_right _ _)
  · exact t _ (Nat.le_add_right _ _)
  · exact t _ (Nat.le_refl _)
  · exact t _ (Nat.le_add_right _ _)
end L2
namespace OwnSort
open PySem PyProof.Rows
section pure
variable {κ:KeyKind}{xs:Array Keyed}
theorem up1 {x:Nat}(b:SortedToK κ xs x)(f:1≤x)(h:κ.kle (KK κ xs (x - 1)) (KK κ xs x)):SortedToK κ xs (x+1):=fun i j a e=>by
  by_cases c:j < x
  · exact b i j a c
  · obtain rfl:j=x:=by omega
    by_cases d:i=j
    · rw [d];exact KeyOrd.kle_refl _
    · exact KeyOrd.kle_trans (b i (j - 1) (by omega) (by omega)) h
theorem zg7 {x:Nat}(b:NonIncK κ xs x)(f:1≤x)(h:κ.kle (KK κ xs x) (KK κ xs (x - 1))):NonIncK κ xs (x+1):=fun i j a e=>by
  by_cases c:j < x
  · exact b i j a c
  · obtain rfl:j=x:=by omega
    by_cases d:i=j
    · rw [d];exact KeyOrd.kle_refl _
    · exact KeyOrd.kle_trans h (b i (j - 1) (by omega) (by omega))
theorem XQ {b:Array Keyed}{n:Nat}(e:∀ i,KK κ b i=KK κ xs i)(h:NonIncK κ xs n):NonIncK κ b n:=fun i j a c=>by rw [e,e];exact h i j a c
theorem turned {n:Nat}(a:n≤xs.size)(h:NonIncK κ xs n):SortedToK κ (mirror xs 0 n ((n - 0) / 2)) n:=fun i j b c=>by
  rw [KK_mirror a,KK_mirror a,if_pos ⟨by omega,by omega⟩,if_pos ⟨by omega,by omega⟩]
  exact h _ _ (by omega) (by omega)
theorem zdo:SortedToK κ xs 1:=fun i j a b=>by
  obtain rfl:i=j:=by omega
  exact KeyOrd.kle_refl _
theorem zcX:NonIncK κ xs 1:=fun i j a b=>by
  obtain rfl:i=j:=by omega
  exact KeyOrd.kle_refl _
end pure
set_option genInjectivity false in
set_option genSizeOf false in
set_option genCtorIdx false in
structure SB (k:SortKind) (a₀:Array Keyed) (st:SortSt):Prop where
  pm:(arrOf st).Perm a₀
  kd:kindOf st=k
  fl:failedOf st=none
  pd:pendingOf st=#[]
theorem SB.sz {k:SortKind}{b:Array Keyed}{a:SortSt}(B:SB k b a):(arrOf a).size=b.size:=B.pm.size_eq
theorem SB.put {k:SortKind}{b c:Array Keyed}{a:SortSt}(B:SB k b a)(p:c.Perm (arrOf a)):SB k b (setArr a c):=⟨p.trans B.pm,B.kd,B.fl,B.pd⟩
section
variable {prog:Program}{w:World}{A:Around}{E:Value→Shared→Prop}{s:Shared}{a₀:Array Keyed}{κ:KeyKind}{k:SortKind}{st:SortSt}
noncomputable def LtOk (prog:Program)(w:World)(A:Around)(E:Value→Shared→Prop)(s:Shared)(a₀:Array Keyed)(κ:KeyKind)(k:SortKind):Prop :=
  ∀ (st:SortSt) (i j:Nat) (Q:Option Bool→SortSt→Prop),SB k a₀ st→i < a₀.size→j < a₀.size→Q (some (κ.blt (KK κ (arrOf st) i) (KK κ (arrOf st) j))) st→wpS (model prog w) A E s (ltAt' i j) Q st
theorem zfA {a n:Nat}{Q:AscSt→SortSt→Prop}(L:LtOk prog w A E s a₀ κ k)(o:n≤a₀.size)(l:1≤a)(f:a≤n)(B:SB k a₀ st)(g:SortedToK κ (arrOf st) a)
    (h:∀ m,a≤m→m≤n→SortedToK κ (arrOf st) m→(m=n∨κ.klt (KK κ (arrOf st) m) (KK κ (arrOf st) (m - 1)))→Q (none,m) st):wpS (model prog w) A E s (ascLoop a n) Q st:=by
  unfold ascLoop
  refine wpS_forRange (I:=fun x c t=>(t=st∧c=(none,x))∧SortedToK κ (arrOf st) x) (fun x c t i j d=>?_) (fun c t d=>?_) ⟨⟨rfl,rfl⟩,g⟩
  · obtain ⟨⟨rfl,rfl⟩,b⟩:=d
    refine wpS_bind (L _ x (x - 1) _ B (by omega) (by omega) ?_)
    cases c:κ.blt (KK κ (arrOf t) x) (KK κ (arrOf t) (x - 1)) with
    | true=>exact wpS_pure (h x i (by omega) b (.inr c))
    | false=>exact wpS_pure ⟨⟨rfl,rfl⟩,up1 b (by omega) c⟩
  · obtain ⟨⟨rfl,rfl⟩,b⟩:=d
    have e:max a n=n:=by omega
    rw [e] at b ⊢
    exact h n f (Nat.le_refl _) b (.inl rfl)
theorem zcC {n m:Nat}{Q:Option Nat→SortSt→Prop}(L:LtOk prog w A E s a₀ κ k)(e:m≤a₀.size)(b:1≤n)(a:n≤m)(B:SB k a₀ st)(f:NonIncK κ (arrOf st) n)
    (h:∀ r t,SB k a₀ t→1≤r→r≤m→SortedToK κ (arrOf t) r→Q (some r) t):wpS (model prog w) A E s (tail3 n m) Q st:=by
  unfold tail3
  have B':=B.put (mirror_perm (arrOf st) 0 n ((n - 0) / 2))
  exact wpS_bind (wpS_reverse (wpS_bind (zfA L e b a B' (turned (by rw [B.sz];omega) f) fun r g c d _=>wpS_pure (h r _ B' (by omega) c d))))
theorem zf5 {n m:Nat}{Q:DescSt→SortSt→Prop}(L:LtOk prog w A E s a₀ κ k)(D:m≤a₀.size)(z:1≤n)(u:n≤m)(B:SB k a₀ st)(G:NonIncK κ (arrOf st) n)
    (h:∀ r q t,SB k a₀ t→n≤r→r≤m→NonIncK κ (arrOf t) r→q+1≤r→(∀ i,r - (q+1)≤i→i < r→KK κ (arrOf t) i=KK κ (arrOf t) (r - 1))→Q (none,r,q) t):wpS (model prog w) A E s (descLoop n m) Q st:=by
  unfold descLoop
  refine wpS_forRange (I:=fun x c t=>∃ q,c=(none,x,q)∧SB k a₀ t∧NonIncK κ (arrOf t) x∧q+1≤x∧∀ i,x - (q+1)≤i→i < x→KK κ (arrOf t) i=KK κ (arrOf t) (x - 1))
    (fun x c t y C v=>?_) (fun c t v=>?_) ⟨0,rfl,B,G,z,fun i o f=>by rw [show i=n - 1 from Nat.le_antisymm (Nat.le_sub_one_of_lt f) o]⟩
  · obtain ⟨q,rfl,B1,g,hq,j⟩:=v
    have a:x < a₀.size:=Nat.lt_of_lt_of_le C D
    have b:x - 1 < a₀.size:=Nat.lt_of_le_of_lt (Nat.sub_le _ _) a
    have l:1≤x:=Nat.le_trans z y
    have F:x≤(arrOf t).size:=by rw [B1.sz];exact Nat.le_of_lt a
    refine wpS_bind (L _ x (x - 1) _ B1 a b ?_)
    cases c:κ.blt (KK κ (arrOf t) x) (KK κ (arrOf t) (x - 1)) with
    | true =>
      have d:=zg7 g l (KeyOrd.kle_of_klt c)
      by_cases p:q > 0
      · show wpS _ _ _ _ (if q > 0 then _ else _) _ _
        rw [if_pos p]
        exact wpS_bind (wpS_reverse (wpS_pure ⟨0,rfl,B1.put (mirror_perm _ _ _ _),XQ (KK_mirror_equal F j) d,Nat.succ_le_succ (Nat.zero_le _),fun i o f=>by rw [show i=x+1 - 1 from Nat.le_antisymm (Nat.le_of_lt_succ f) o]⟩))
      · show wpS _ _ _ _ (if q > 0 then _ else _) _ _
        rw [if_neg p]
        exact wpS_pure ⟨0,rfl,B1,d,Nat.succ_le_succ (Nat.zero_le _),fun i o f=>by rw [show i=x+1 - 1 from Nat.le_antisymm (Nat.le_of_lt_succ f) o]⟩
    | false =>
      refine wpS_bind (L _ (x - 1) x _ B1 b a ?_)
      cases f:κ.blt (KK κ (arrOf t) (x - 1)) (KK κ (arrOf t) x) with
      | true=>exact wpS_pure (h x q t B1 y (Nat.le_of_lt C) g hq j)
      | false =>
        have same:KK κ (arrOf t) x=KK κ (arrOf t) (x - 1):=KeyOrd.kle_antisymm f c
        refine wpS_pure ⟨q+1,rfl,B1,zg7 g l f,Nat.succ_le_succ hq,fun i K J=>?_⟩
        show KK κ (arrOf t) i=KK κ (arrOf t) x
        by_cases H:i=x
        · rw [H]
        · rw [same];exact j i (by omega) (by omega)
  · obtain ⟨q,rfl,B1,g,hq,j⟩:=v
    have e:max n m=m:=Nat.max_eq_right u
    rw [e] at g hq j ⊢
    exact h m q t B1 u (Nat.le_refl _) g hq j
theorem Xc {n m:Nat}{Q:Option Nat→SortSt→Prop}(L:LtOk prog w A E s a₀ κ k)(b:m≤a₀.size)(c:n+1≤m)(B:SB k a₀ st)(g:NonIncK κ (arrOf st) (n+1))
    (h:∀ r t,SB k a₀ t→1≤r→r≤m→SortedToK κ (arrOf t) r→Q (some r) t):wpS (model prog w) A E s (descPart n m) Q st:=by
  unfold descPart
  refine wpS_bind (wpS_lift (wpAny_rule ⟨rfl,wpS_bind (zf5 L b (by omega) c B g fun r q t B1 j d e hq f=>?_)⟩))
  have i:r≤(arrOf t).size:=by rw [B1.sz];omega
  by_cases a:q > 0
  · show wpS _ _ _ _ (if q > 0 then _ else _) _ _
    rw [if_pos a]
    exact wpS_bind (wpS_reverse (zcC (n:=r) L b (by omega) d (B1.put (mirror_perm _ _ _ _)) (XQ (KK_mirror_equal i f) e) h))
  · show wpS _ _ _ _ (if q > 0 then _ else _) _ _
    rw [if_neg a]
    exact zcC (n:=r) L b (by omega) d B1 e h
theorem ziz {m:Nat}{Q:Option Nat→SortSt→Prop}(L:LtOk prog w A E s a₀ κ k)(b:m≤a₀.size)(q:1≤m)(B:SB k a₀ st)
    (h:∀ r t,SB k a₀ t→1≤r→r≤m→SortedToK κ (arrOf t) r→Q (some r) t):wpS (model prog w) A E s (countRun' 0 m) Q st:=by
  rw [countRun0_eq]
  refine wpS_bind (zfA L b (Nat.le_refl 1) q B zdo fun n o l a or=>?_)
  show wpS _ _ _ _ (if (n == m)=true then _ else if n > 1 then _ else _) _ _
  by_cases e:n=m
  · rw [if_pos (by rw [e];exact beq_self_eq_true m)]
    exact wpS_pure (h n st B o l a)
  · rw [if_neg (fun z=>e (eq_of_beq z))]
    have f:=or.resolve_left e
    by_cases g:n > 1
    · rw [if_pos g]
      refine wpS_bind (L _ 0 (n - 1) _ B (by omega) (by omega) ?_)
      cases c:κ.blt (KK κ (arrOf st) 0) (KK κ (arrOf st) (n - 1)) with
      | true=>exact wpS_pure (h n st B o l a)
      | false =>
        have v:n≤(arrOf st).size:=by rw [B.sz];omega
        have d:∀ i,0≤i→i < n→KK κ (arrOf st) i=KK κ (arrOf st) (n - 1):=fun i _ p =>
          KeyOrd.kle_antisymm (a i (n - 1) (by omega) (by omega)) (KeyOrd.kle_trans c (a 0 i (by omega) p))
        have x:NonIncK κ (arrOf st) n:=fun i j _ u=>by rw [d i (by omega) (by omega),d j (by omega) u];exact KeyOrd.kle_refl _
        exact wpS_bind (wpS_reverse (Xc L b (by omega) (B.put (mirror_perm _ _ _ _)) (XQ (KK_mirror_equal v d) (zg7 x (by omega) (KeyOrd.kle_of_klt f))) h))
    · rw [if_neg g]
      obtain rfl:n=1:=by omega
      exact Xc L b (by omega) B (zg7 zcX (Nat.le_refl 1) (KeyOrd.kle_of_klt f)) h
theorem zkx {l u a:Nat}(h:(l+u) / 2=a)(c:¬ l ≥ u):l≤a∧a < u:=by
  have b:l < u:=Nat.lt_of_not_le c
  rw [←h]
  exact ⟨(Nat.le_div_iff_mul_le (by decide)).mpr (by rw [Nat.mul_two];exact Nat.add_le_add_left (Nat.le_of_lt b) l),(Nat.div_lt_iff_lt_mul (by decide)).mpr (by rw [Nat.mul_two];exact Nat.add_lt_add_right b u)⟩
theorem zmV {l u a x y:Nat}(d:l≤a)(c:a < u)(b:u - l≤x - y):a - l≤x - (y+1) :=
  Nat.le_trans (Nat.le_sub_one_of_lt (Nat.sub_lt_sub_right d c)) (Nat.sub_le_sub_right b 1)
theorem zmR {l u a x y:Nat}(c:l≤a)(b:u - l≤x - y):u - (a+1)≤x - (y+1) :=
  Nat.le_trans (Nat.sub_le_sub_left (Nat.succ_le_succ c) u) (Nat.sub_le_sub_right b 1)
theorem zkU (r n:Nat):min (max (max r 1) n) n=n:=Nat.min_eq_right (Nat.le_max_right _ _)
theorem zk4 {r n:Nat}(a:¬ r=0)(b:r≤n):min (max r 1) n=r:=by
  rw [Nat.max_eq_left (Nat.pos_of_ne_zero a),Nat.min_eq_left b]
theorem zkf {i j r n:Nat}(b:r=0)(a:i≤j)(d:j < min (max r 1) n):i=j:=by
  subst b
  have c:j=0:=Nat.lt_one_iff.mp (Nat.lt_of_lt_of_le d (Nat.min_le_left _ _))
  subst c
  exact Nat.le_zero.mp a
theorem ziP {n r:Nat}{Q:Bool→SortSt→Prop}(L:LtOk prog w A E s a₀ κ k)(X:n≤a₀.size)(W:r≤n)(B:SB k a₀ st)(Y:SortedToK κ (arrOf st) r)
    (h:∀ t,SB k a₀ t→SortedToK κ (arrOf t) n→Q true t):wpS (model prog w) A E s (binarySort' 0 n r) Q st:=by
  rw [binarySort'_eq]
  refine wpS_bind (wpS_mono (wpS_forRange (I:=fun x c t=>(c=(none,())∧SB k a₀ t)∧SortedToK κ (arrOf t) (min x n)) (Q:=fun c t=>(c=(none,())∧SB k a₀ t)∧SortedToK κ (arrOf t) n)
    (fun x c t Z O H=>?_) (fun c t H=>?_) ⟨⟨rfl,B⟩,?_⟩) fun c t H=>?_)
  · obtain ⟨⟨rfl,B1⟩,d⟩:=H
    rw [Nat.min_eq_left (Nat.le_of_lt O)] at d
    have N:x < a₀.size:=Nat.lt_of_lt_of_le O X
    refine wpS_bind (wpS_mono (wpS_forRange
      (I:=fun y c g=>g=t∧∃ l u,c=(none,l,u)∧(l≤u∧u≤x∧u - l≤x - y)∧(∀ i,i < l→κ.kle (KK κ (arrOf t) i) (KK κ (arrOf t) x))∧∀ i,u≤i→i < x→κ.klt (KK κ (arrOf t) x) (KK κ (arrOf t) i))
      (Q:=fun c g=>g=t∧∃ l u,c=(none,l,u)∧l≤x∧(∀ i,i < l→κ.kle (KK κ (arrOf t) i) (KK κ (arrOf t) x))∧∀ i,l≤i→i < x→κ.klt (KK κ (arrOf t) x) (KK κ (arrOf t) i))
      (fun y c g y1 y2 K=>?_) (fun c g K=>?_) ⟨rfl,0,x,rfl,⟨Nat.zero_le _,Nat.le_refl _,Nat.le_refl _⟩,fun i V=>absurd V (Nat.not_lt_zero _),fun i b o=>absurd (Nat.lt_of_le_of_lt b o) (Nat.lt_irrefl _)⟩) fun c g K=>?_)
    · obtain ⟨rfl,l,u,rfl,⟨C,f,M⟩,z,v⟩:=K
      show wpS _ _ _ _ (if l ≥ u then _ else _) _ _
      by_cases J:l ≥ u
      · rw [if_pos J]
        obtain rfl:l=u:=Nat.le_antisymm C J
        exact wpS_pure ⟨rfl,l,l,rfl,f,z,v⟩
      · rw [if_neg J]
        generalize F:(l+u) / 2=md
        obtain ⟨P,D⟩:=zkx F J
        clear F J C
        refine wpS_bind (L _ (0+x) (0+md) _ B1 (by rw [Nat.zero_add];exact N) (by rw [Nat.zero_add];exact Nat.lt_of_lt_of_le D (Nat.le_trans f (Nat.le_of_lt N))) ?_)
        rw [Nat.zero_add,Nat.zero_add]
        cases S:κ.blt (KK κ (arrOf g) x) (KK κ (arrOf g) md) with
        | true=>exact wpS_pure ⟨rfl,l,md,rfl,⟨P,Nat.le_trans (Nat.le_of_lt D) f,zmV P D M⟩,z,fun i b o=>KeyOrd.klt_of_klt_of_kle S (d _ _ b o)⟩
        | false=>exact wpS_pure ⟨rfl,md+1,u,rfl,⟨D,f,zmR P M⟩,fun i b=>KeyOrd.kle_trans (d i md (Nat.le_of_lt_succ b) (Nat.lt_of_lt_of_le D f)) S,v⟩
    · obtain ⟨rfl,l,u,rfl,⟨C,f,M⟩,z,v⟩:=K
      obtain rfl:l=u:=by omega
      exact ⟨rfl,l,l,rfl,f,z,v⟩
    · obtain ⟨rfl,l,u,rfl,f,z,v⟩:=K
      show wpS _ _ _ _ (do moveDown' (0+x) (0+l);pure (ForInStep.yield (none,()))) _ _
      rw [moveDown'_eq,Nat.zero_add,Nat.zero_add]
      refine wpS_bind (wpS_modify (wpS_pure ⟨⟨rfl,B1.put (bubble_perm _ _ _)⟩,?_⟩))
      have R:x < (arrOf g).size:=by rw [B1.sz];exact N
      rw [Nat.min_eq_left (Nat.succ_le_of_lt O)]
      show SortedToK κ (bubble (arrOf g) x (x - l)) (x+1)
      intro i j a m
      rw [KK_bubble R (Nat.sub_le _ _),KK_bubble R (Nat.sub_le _ _),Nat.sub_sub_self f]
      by_cases b:i=l
      · rw [if_pos b]
        by_cases q:j=l
        · rw [if_pos q];exact KeyOrd.kle_refl _
        · have p:l < j:=Nat.lt_of_le_of_ne (by rw [←b];exact a) (fun e=>q e.symm)
          rw [if_neg q,if_pos ⟨p,Nat.le_of_lt_succ m⟩];exact KeyOrd.kle_of_klt (v _ (Nat.le_sub_one_of_lt p) (Nat.lt_of_lt_of_le (Nat.sub_lt (Nat.zero_lt_of_lt p) Nat.one_pos) (Nat.le_of_lt_succ m)))
      · rw [if_neg b]
        by_cases o:l < i∧i≤x
        · have p:=Nat.lt_of_lt_of_le o.1 a
          rw [if_pos o,if_neg (fun e=>absurd p (by rw [e];exact Nat.lt_irrefl _)),if_pos ⟨p,Nat.le_of_lt_succ m⟩];exact d _ _ (Nat.sub_le_sub_right a 1) (Nat.lt_of_lt_of_le (Nat.sub_lt (Nat.zero_lt_of_lt p) Nat.one_pos) (Nat.le_of_lt_succ m))
        · rw [if_neg o]
          have U:i < l:=Nat.lt_of_le_of_ne (Nat.le_of_not_lt fun h=>o ⟨h,Nat.le_trans a (Nat.le_of_lt_succ m)⟩) b
          clear o b
          by_cases q:j=l
          · rw [if_pos q];exact z i U
          · rw [if_neg q]
            by_cases G:l < j∧j≤x
            · rw [if_pos G];exact d _ _ (Nat.le_sub_one_of_lt (Nat.lt_trans U G.1)) (Nat.lt_of_lt_of_le (Nat.sub_lt (Nat.zero_lt_of_lt G.1) Nat.one_pos) (Nat.le_of_lt_succ m))
            · rw [if_neg G];exact d _ _ a (Nat.lt_of_lt_of_le (Nat.lt_of_le_of_ne (Nat.le_of_not_lt fun h=>G ⟨h,Nat.le_of_lt_succ m⟩) q) f)
  · obtain ⟨⟨C,B1⟩,d⟩:=H
    rw [zkU] at d
    exact ⟨⟨C,B1⟩,d⟩
  · by_cases T:r=0
    · intro i j a m
      obtain rfl:i=j:=zkf T a m
      exact KeyOrd.kle_refl _
    · rw [zk4 T W];exact Y
  · obtain ⟨⟨rfl,B1⟩,d⟩:=H
    exact wpS_pure (h t B1 d)
theorem own_runs {Q:Unit→SortSt→Prop}(L:LtOk prog w A E s a₀ κ k)(B:SB k a₀ st)(D:2≤a₀.size)(p:a₀.size < 64)
    (h:∀ t,(arrOf t).Perm a₀→failedOf t=none→SortedToK κ (arrOf t) a₀.size→Q () t):wpS (model prog w) A E s sortRuns' Q st:=by
  rw [sortRuns'_eq]
  have l:minRun' a₀.size a₀.size 0=a₀.size:=by
    cases e:a₀.size with
    | zero=>omega
    | succ f=>rw [minRun'_succ,if_pos (by omega),Nat.add_zero]
  refine wpS_bind (wpS_get ?_)
  simp only [B.sz,l]
  let Dn:SortSt→Prop:=fun t=>(arrOf t).Perm a₀∧failedOf t=none∧pendingOf t=#[(0,a₀.size,0)]∧SortedToK κ (arrOf t) a₀.size
  have fin:∀ t,SB k a₀ t→SortedToK κ (arrOf t) a₀.size→Dn (setPending t ((pendingOf t).push (0,a₀.size,0))):=fun t B1 o=>⟨B1.pm,B1.fl,by show (pendingOf t).push _=_;rw [B1.pd];rfl,o⟩
  refine wpS_bind (wpS_mono (wpS_forRange (I:=fun x c t=>(x=0∧c=(none,0)∧SB k a₀ t)∨(1≤x∧c=(none,a₀.size)∧Dn t)) (Q:=fun c t=>c=(none,a₀.size)∧Dn t)
    (fun x c t C F a=>?_) (fun c t a=>?_) (.inl ⟨rfl,rfl,B⟩)) fun c t a=>?_)
  · rcases a with ⟨rfl,rfl,B1⟩ | ⟨_,rfl,D1⟩
    · show wpS _ _ _ _ (if 0 ≥ a₀.size then _ else _) _ _
      rw [if_neg (by omega)]
      simp only [Nat.sub_zero,Nat.min_self,Nat.zero_add]
      refine wpS_bind (ziz L (Nat.le_refl _) (by omega) B1 fun r g B2 G q d=>?_)
      show wpS _ _ _ _ (if r < a₀.size then _ else _) _ _
      by_cases i:r < a₀.size
      · rw [if_pos i]
        refine wpS_bind (wpS_lift (wpAny_rule ⟨rfl,wpS_bind (ziP L (Nat.le_refl _) q B2 d fun j B3 n=>?_)⟩))
        refine wpS_bind (wpS_get ?_)
        rw [show (pendingOf j).back?=none by rw [B3.pd];rfl]
        exact wpS_bind (wpS_modify (wpS_pure (.inr ⟨by omega,rfl,fin j B3 n⟩)))
      · rw [if_neg i]
        obtain rfl:r=a₀.size:=by omega
        refine wpS_bind (wpS_get ?_)
        rw [show (pendingOf g).back?=none by rw [B2.pd];rfl]
        exact wpS_bind (wpS_modify (wpS_pure (.inr ⟨by omega,rfl,fin g B2 d⟩)))
    · show wpS _ _ _ _ (if a₀.size ≥ a₀.size then _ else _) _ _
      rw [if_pos (Nat.le_refl _)]
      exact wpS_pure ⟨rfl,D1⟩
  · rcases a with ⟨z,_,_⟩ | ⟨_,e,D1⟩
    · omega
    · exact ⟨e,D1⟩
  · obtain ⟨rfl,y,v,u,m⟩:=a
    refine wpS_bind (wpS_mono (wpS_forRange (I:=fun _ c b=>b=t∧c=(none,())) (Q:=fun c b=>b=t∧c=(none,())) (fun x c b _ _ a=>?_) (fun _ _ z=>z) ⟨rfl,rfl⟩) fun c b a=>?_)
    · obtain ⟨rfl,rfl⟩:=a
      refine wpS_bind (wpS_get ?_)
      rw [if_pos (by rw [u];exact Nat.le_refl 1)]
      exact wpS_pure ⟨rfl,rfl⟩
    · obtain ⟨rfl,rfl⟩:=a
      exact wpS_pure (h _ y v m)
end
noncomputable abbrev Pr:=Int × Int
noncomputable def zkZ (s t:Pr):Bool:=decide (s.1 < t.1∨(s.1=t.1∧s.2 < t.2))
noncomputable def TP (h:Heap) (v:Value) (t:Pr):Prop:=∃ a o n b ty,v=.ref a∧h.get? a=some o∧o.cls=.type "tuple"∧o.data=.seq #[.int t.1 b,.int t.2 ty] n
theorem TP.uniq {h:Heap}{v:Value}{s t:Pr}(x:TP h v s)(y:TP h v t):s=t:=by
  obtain ⟨a,o,n,l,ty,rfl,f,_,g⟩:=x
  obtain ⟨b,k,i,m,j,e,d,_,c⟩:=y
  cases e
  rw [f] at d
  cases d
  rw [g] at c
  injection c with c _
  have:=congrArg Array.toList c
  simp at this
  exact Prod.ext this.1.1 this.2.1
theorem TP.keep {h c:Heap}{v:Value}{t:Pr}(x:TP h v t)(k:∀ b o,h.get? b=some o→c.get? b=some o):TP c v t:=by
  obtain ⟨a,o,n,f,ty,e,d,r⟩:=x
  exact ⟨a,o,n,f,ty,e,k _ _ d,r⟩
open Classical in
noncomputable def keyP (h:Heap)(v:Value):Option Pr:=if x:∃ t,TP h v t then some x.choose else none
@[reducible] noncomputable def kindP (h:Heap):KeyKind where
  α:=Pr
  blt:=zkZ
  irrefl a:=by unfold zkZ;exact decide_eq_false (by omega)
  trans a b c h1 h2:=by unfold zkZ at *;rw [decide_eq_true_eq] at *;omega
  negTrans a b c h:=by unfold zkZ at *;rw [decide_eq_true_eq] at *;rw [decide_eq_true_eq];omega
  total a b h1 h2:=by
    unfold zkZ at *
    rw [decide_eq_false_iff_not] at *
    exact Prod.ext (by omega) (by omega)
  keyOf:=keyP h
  dflt:=(0,0)
theorem zau (b:Bool)(x y:Value):keyLt' (tuples' b) x y=(do
    let xs←Builtin.List.listItems x
    let ys←Builtin.List.listItems y
    for ((p,q),i) in (xs.toList.zip ys.toList).zipIdx do
      if !(← eqBool p q) then return←oneLt' (b&&i == 0) p q
    return xs.size < ys.size):=rfl
theorem zfe (v:Value):firstOfTuple' v=(do
    if (← typeOf v) != .type "tuple" then return none
    return (← Builtin.List.listItems v)[0]?):=rfl
section
variable {prog:Program}{w:World}{A:Around}{E:Value→Shared→Prop}{s:Shared}
theorem lt0 {a b:Int}{t u:Tok}{Q:Bool→Shared→Prop}(h:Q (decide (a < b)) s):wpAny (model prog w) A (oneLt' false (.int a t) (.int b u)) Q E s:=by
  rw [oneLt'_eq]
  rw [if_neg Bool.false_ne_true]
  exact wpAny_bind (PyProof.Rows.lt_int (wpAny_truthy_bool h))
theorem zb8:∀ {a:List Value},(∀ f∈a,∃ i t,f=.int i t)→a.mapM typeOf=pure (a.map fun _=>Value.type "int")
  | [],_=>by simp
  | f::a,h=>by
    obtain ⟨i,t,rfl⟩:=h f List.mem_cons_self
    rw [List.mapM_cons,zb8 fun g b=>h g (List.mem_cons_of_mem _ b),show typeOf (.int i t)=pure (.type "int") from rfl]
    simp
end
end OwnSort
namespace OwnTim
open PySem PyProof.Rows
noncomputable def ky (κ:KeyKind)(x:Keyed):κ.α:=(κ.keyOf x.1).getD κ.dflt
noncomputable def LtE (a:Program)(w:World)(A:Around)(E:Value→Shared→Prop)(s:Shared)(κ:KeyKind)(k:SortKind)(D:Keyed→Prop):Prop :=
  ∀ (b:SortSt) (x y:Keyed) (Q:Option Bool→SortSt→Prop),kindOf b=k→D x→D y→Q (some (κ.blt (ky κ x) (ky κ y))) b→wpS (model a w) A E s (lt' x y) Q b
section
variable {prog:Program}{w:World}{A:Around}{E:Value→Shared→Prop}{s:Shared}{a₀:Array Keyed}{κ:KeyKind}{k:SortKind}{st:SortSt}
theorem zjY {a:Array Keyed}{i:Nat}{x:Keyed}(h:a[i]?=some x):KK κ a i=ky κ x:=by
  unfold KK
  rw [h]
  rfl
theorem zjx (L:LtE prog w A E s κ k (·∈a₀.toList)):OwnSort.LtOk prog w A E s a₀ κ k:=by
  intro st i j Q S c f q
  have a:∀ {i},i < a₀.size→∃ x,(arrOf st)[i]?=some x∧x∈a₀.toList:=fun {i} c=>by
    have b:i < (arrOf st).size:=by rw [S.sz];exact c
    exact ⟨(arrOf st)[i],getElem?_pos _ i b,(Array.perm_iff_toList_perm.mp S.pm).mem_iff.mp (by simp)⟩
  obtain ⟨x,e,h⟩:=a c
  obtain ⟨y,d,g⟩:=a f
  rw [zjY e,zjY d] at q
  rw [ltAt'_eq]
  refine wpS_bind (wpS_get ?_)
  show wpS _ _ _ _ (elem' (arrOf st) i>>=fun x=>elem' (arrOf st) j>>=fun y=>lt' x y) Q st
  rw [elem'_eq,elem'_eq,e,d]
  exact wpS_bind (wpS_pure (wpS_bind (wpS_pure (L _ _ _ _ S.kd h g q))))
theorem own_runsE {Q:Unit→SortSt→Prop}(L:LtE prog w A E s κ k (·∈a₀.toList))(d:(arrOf st).Perm a₀)(f:kindOf st=k)(e:failedOf st=none)(c:pendingOf st=#[])
    (h:∀ t,(arrOf t).Perm a₀→failedOf t=none→SortedToK κ (arrOf t) a₀.size→Q () t) (b:2≤a₀.size) (a:a₀.size < 64):wpS (model prog w) A E s sortRuns' Q st:=OwnSort.own_runs (zjx L) ⟨d,f,e,c⟩ b a h
end
end OwnTim
namespace OwnSortT
open PySem PyProof.Rows OwnSort
theorem lex_irr:∀ a:List Int,HT.lexLt a a=false:=by
  intro a
  induction a with
  | nil=>rfl
  | cons x c b=>rw [HT.lexLt_cons,if_pos rfl,b]
theorem lex_trans:∀ a b c:List Int,HT.lexLt a b=true→HT.lexLt b c=true→HT.lexLt a c=true:=by
  intro a
  induction a with
  | nil =>
    intro b c e d
    cases c with
    | nil=>cases b <;> cases d
    | cons _ _=>rfl
  | cons x i h =>
    intro b c e d
    cases b with
    | nil=>cases e
    | cons y j=>cases c with
      | nil=>cases d
      | cons z zs =>
        rw [HT.lexLt_cons] at e d ⊢
        by_cases g:x=y
        · rw [if_pos g] at e
          by_cases f:y=z
          · rw [if_pos f] at d;rw [if_pos (g.trans f)];exact h _ _ e d
          · rw [if_neg f,decide_eq_true_eq] at d;rw [if_neg (by omega),decide_eq_true_eq];omega
        · rw [if_neg g,decide_eq_true_eq] at e
          by_cases f:y=z
          · rw [if_neg (by omega),decide_eq_true_eq];omega
          · rw [if_neg f,decide_eq_true_eq] at d;rw [if_neg (by omega),decide_eq_true_eq];omega
theorem lex_total:∀ a b:List Int,HT.lexLt a b=false→HT.lexLt b a=false→a=b:=by
  intro a
  induction a with
  | nil =>
    intro b c d
    cases b with
    | nil=>rfl
    | cons _ _=>cases c
  | cons x g f =>
    intro b c d
    cases b with
    | nil=>cases d
    | cons y h =>
      rw [HT.lexLt_cons] at c d
      by_cases e:x=y
      · rw [if_pos e] at c;rw [if_pos e.symm] at d;rw [e,f _ c d]
      · rw [if_neg e,decide_eq_false_iff_not] at c;rw [if_neg (Ne.symm e),decide_eq_false_iff_not] at d;omega
theorem lex_neg (a b c:List Int)(h:HT.lexLt a c=true):HT.lexLt a b=true∨HT.lexLt b c=true:=by
  cases e:HT.lexLt a b with
  | true=>exact .inl rfl
  | false =>
    refine .inr ?_
    cases d:HT.lexLt b a with
    | true=>exact lex_trans _ _ _ d h
    | false=>rw [←lex_total _ _ e d];exact h
noncomputable def TT (h:Heap) (v:Value) (t:List Int):Prop:=∃ a o n b,v=.ref a∧h.get? a=some o∧o.cls=.type "tuple"∧o.data=.seq b.toArray n∧IntsAre b t∧t≠[]
theorem XF:∀ {d:List Value} {c a:List Int},IntsAre d c→IntsAre d a→c=a:=by
  intro d c a h
  induction h generalizing a with
  | nil=>intro b;cases b;rfl
  | cons n t h e=>intro b;cases b with | cons g i f=>rw [e f]
theorem TT.uniq {h:Heap}{v:Value}{s t:List Int}(x:TT h v s)(y:TT h v t):s=t:=by
  obtain ⟨a,o,n,d,rfl,k,_,q,j,_⟩:=x
  obtain ⟨b,p,m,c,e,f,_,g,l,_⟩:=y
  cases e
  rw [k] at f
  cases f
  rw [q] at g
  have i:d.toArray=c.toArray:=by injection g
  cases List.toArray_inj i
  exact XF j l
theorem TT.keep {h d:Heap}{v:Value}{t:List Int}(x:TT h v t)(k:∀ b o,h.get? b=some o→d.get? b=some o):TT d v t:=by
  obtain ⟨a,o,n,c,e,f,r⟩:=x
  exact ⟨a,o,n,c,e,k _ _ f,r⟩
theorem TT.keepT {h f:Heap} {v:Value} {t:List Int} (x:TT h v t) (k:∀ b o,o.cls=.type "tuple"→h.get? b=some o→f.get? b=some o):TT f v t:=by
  obtain ⟨a,o,n,d,e,g,c,r⟩:=x
  exact ⟨a,o,n,d,e,k _ _ c g,c,r⟩
open Classical in
noncomputable def zl8 (h:Heap)(v:Value):Option (List Int):=if x:∃ t,TT h v t then some x.choose else none
@[reducible] noncomputable def kindTT (h:Heap):KeyKind where
  α:=List Int
  blt:=HT.lexLt
  irrefl:=lex_irr
  trans:=lex_trans
  negTrans:=lex_neg
  total:=lex_total
  keyOf:=zl8 h
  dflt:=[]
section
variable {prog:Program}{w:World}{A:Around}{E:Value→Shared→Prop}{s:Shared}
noncomputable def zjH (d:Bool):List Int→List Int→Bool
  | x::xs,y::ys=>if x=y then zjH d xs ys else decide (x < y)
  | _,_=>d
theorem zim:∀ a b:List Int,zjH (decide (a.length < b.length)) a b=HT.lexLt a b:=by
  intro a
  induction a with
  | nil=>intro b;cases b with
    | nil=>rfl
    | cons _ _=>rfl
  | cons x d e=>intro b;cases b with
    | nil=>rfl
    | cons y c =>
      rw [HT.lexLt_cons,← e c]
      show (if x=y then zjH (decide (d.length+1 < c.length+1)) d c else decide (x < y))=_
      rw [show decide (d.length+1 < c.length+1)=decide (d.length < c.length) by congr 1;apply propext;omega]
noncomputable def zeB (x:(Value × Value) × Nat)(_:Option Bool × Unit):Sem (ForInStep (Option Bool × Unit)):=do
  let b←eqBool x.1.1 x.1.2
  if (!b)=true then do
    let c←oneLt' (true&&x.2 == 0) x.1.1 x.1.2
    pure (ForInStep.done (some c,()))
  else pure (ForInStep.yield (none,()))
theorem zgO {d:Bool}:∀ {f:List Value} {g:List Int} {e:List Value} {a:List Int} {k:Nat} {Q:Option Bool × Unit→Shared→Prop},IntsAre f g→IntsAre e a→(∀ r:Option Bool × Unit,r.1.getD d=zjH d g a→Q r s) →
    wpAny (model prog w) A (forIn ((f.zip e).zipIdx k) ((none,()):Option Bool × Unit) zeB) Q E s:=by
  intro f g e a k Q i
  induction i generalizing e a k with
  | nil=>intro b q;exact wpAny_pure (q (none,()) rfl)
  | cons x t i j =>
    intro b q
    cases b with
    | nil=>exact wpAny_pure (q (none,()) rfl)
    | cons y u b =>
      rw [List.zip_cons_cons,List.zipIdx_cons,List.forIn_cons]
      refine wpAny_bind (wpAny_bind (SeqAt.EqAt.int_int x t y u prog w E _ ?_))
      by_cases c:x=y
      · rw [show (x == y)=true by rw [c];exact beq_self_eq_true _]
        refine wpAny_pure (j b fun r l=>q r (l.trans ?_))
        show _=(if x=y then zjH d _ _ else decide (x < y))
        rw [if_pos c]
      · rw [show (x == y)=false by simpa using c]
        have h:Q (some (decide (x < y)),()) s:=q _ (by
          show decide (x < y)=(if x=y then zjH d _ _ else decide (x < y))
          rw [if_neg c])
        cases k with
        | zero=>exact wpAny_bind (oneLt_int (wpAny_pure (wpAny_pure h)))
        | succ k=>exact wpAny_bind (lt0 (wpAny_pure (wpAny_pure h)))
theorem zjh {x y:Value}{a b:List Int}{Q:Bool→Shared→Prop}(m:TT s.heap x a)(l:TT s.heap y b)(h:Q (HT.lexLt a b) s):wpAny (model prog w) A (keyLt' (tuples' true) x y) Q E s:=by
  obtain ⟨p,o,n,c,rfl,t,_,C,g,_⟩:=m
  obtain ⟨q,F,D,f,rfl,j,_,B,i,_⟩:=l
  rw [zau]
  refine wpAny_bind (listItems_at t C (wpAny_bind (listItems_at j B ?_)))
  show wpAny _ _ (forIn ((c.zip f).zipIdx 0) ((none,()):Option Bool × Unit) zeB>>=_) _ _ _
  refine wpAny_bind (zgO (d:=decide (c.length < f.length)) g i fun r z=>?_)
  have e:Q (r.1.getD (decide (c.length < f.length))) s:=by
    rw [z,g.length,i.length,zim];exact h
  obtain ⟨k,u⟩:=r
  cases k with
  | none=>exact wpAny_pure e
  | some v=>exact wpAny_pure e
end
end OwnSortT
namespace OwnSort
open PySem PyProof.Rows
theorem TP.tt {h:Heap}{v:Value}{t:Pr}(x:TP h v t):OwnSortT.TT h v [t.1,t.2]:=by
  obtain ⟨a,o,n,d,ty,f,c,b,e⟩:=x
  exact ⟨a,o,n,[.int t.1 d,.int t.2 ty],f,c,b,e,.cons _ _ (.cons _ _ .nil),List.cons_ne_nil _ _⟩
end OwnSort
namespace Dl
open PySem L2
class KK where
  K:PySem.W.Frag
inductive D where
  | non | bl (b:Bool) | int (i:Int) | str (x:Str) | tup (ds:List D) | lst (ds:List D) | scr (ns:List Int)
    | dct (z t:Bool) (ks:List (List Key)) (vs:List D)
  deriving Inhabited
section
variable [KK]
noncomputable def zaA (o:HO)(t:Bool)(b:List (List Key))(c:List V):Prop :=
  if t=true then ∃ a,o=.dT a∧a.map (·.1)=b∧a.map (·.2)=c else ∃ a:List (Key × V),o=.dK a∧a.map (fun p=>[p.1])=b∧a.map (·.2)=c
noncomputable def za8 (H:Hp)(a:Addr)(z t:Bool)(c:List (List Key))(d:List V):Prop :=
  ∃ u,zaA u t c d∧if z=true then ∃ b,H a=some (.frz b u) else H a=some u
theorem za8.mono {H H':Hp}{a:Addr}{z t:Bool}{c:List (List Key)}{d:List V}(s:zX H H')(h:za8 H a z t c d):za8 H' a z t c d:=by
  obtain ⟨u,e,b⟩:=h
  refine ⟨u,e,?_⟩
  cases z with
  | true =>
    rw [if_pos rfl] at b ⊢
    obtain ⟨f,b⟩:=b
    exact ⟨f,s _ _ b⟩
  | false =>
    rw [if_neg Bool.false_ne_true] at b ⊢
    exact s _ _ b
theorem za8.rd {H:Hp}{a:Addr}{z t:Bool}{c:List (List Key)}{d:List V}(h:za8 H a z t c d):∃ u,zaA u t c d∧Rd H a u:=by
  obtain ⟨u,e,b⟩:=h
  refine ⟨u,e,?_⟩
  cases z with
  | true =>
    rw [if_pos rfl] at b
    obtain ⟨f,b⟩:=b
    exact .inr ⟨f,b⟩
  | false =>
    rw [if_neg Bool.false_ne_true] at b
    exact .inl b
mutual
noncomputable def At (H:Hp):D→V→Prop
  | .non,v=>v=.non
  | .bl b,v=>v=.bl b
  | .int i,v=>v=.int i
  | .str x,v=>v=.str x
  | .tup ds,v=>∃ a c,v=.ref a∧H a=some (.tup c)∧AtL H ds c
  | .lst ds,v=>∃ a c,v=.ref a∧H a=some (.lst c)∧AtL H ds c
  | .scr ns,v=>∃ a,v=.ref a∧SqL KK.K H a (ns.map V.int)
  | .dct z t ks vs,v=>∃ a c,v=.ref a∧za8 H a z t ks c∧AtL H vs c
noncomputable def AtL (H:Hp):List D→List V→Prop
  | [],xs=>xs=[]
  | d::ds,xs=>∃ x r,xs=x::r∧At H d x∧AtL H ds r
end
mutual
theorem At.mono {H H':Hp}(s:zX H H'):∀ {d:D} {v:V},At H d v→At H' d v
  | .non,_,h=>by unfold At at h ⊢;exact h
  | .bl _,_,h=>by unfold At at h ⊢;exact h
  | .int _,_,h=>by unfold At at h ⊢;exact h
  | .str _,_,h=>by unfold At at h ⊢;exact h
  | .tup ds,_,h=>by
    unfold At at h ⊢
    obtain ⟨a,f,e,b,c⟩:=h
    exact ⟨a,f,e,s _ _ b,AtL.mono s c⟩
  | .lst ds,_,h=>by
    unfold At at h ⊢
    obtain ⟨a,f,e,b,c⟩:=h
    exact ⟨a,f,e,s _ _ b,AtL.mono s c⟩
  | .scr ns,_,h=>by
    unfold At at h ⊢
    obtain ⟨a,e,b⟩:=h
    exact ⟨a,e,s.seq b⟩
  | .dct z t ks vs,_,h=>by
    unfold At at h ⊢
    obtain ⟨a,f,e,b,c⟩:=h
    exact ⟨a,f,e,b.mono s,AtL.mono s c⟩
theorem AtL.mono {H H':Hp}(s:zX H H'):∀ {a:List D} {b:List V},AtL H a b→AtL H' a b
  | [],_,h=>by unfold AtL at h ⊢;exact h
  | d::a,_,h=>by
    unfold AtL at h ⊢
    obtain ⟨x,r,e,c,f⟩:=h
    exact ⟨x,r,e,At.mono s c,AtL.mono s f⟩
end
mutual
noncomputable def noL:D→Bool
  | .tup a=>zlX a
  | .lst _=>false
  | .scr _=>false
  | .dct _ _ _ _=>false
  | _=>true
noncomputable def zlX:List D→Bool
  | []=>true
  | d::ds=>noL d&&zlX ds
end
mutual
theorem At.flat {G F:Hp}(h:∀ q b,G q=some (.tup b)→F q=some (.tup b)):∀ {d:D} {v:V},noL d=true→At G d v→At F d v
  | .non,_,_,a=>by unfold At at a ⊢;exact a
  | .bl _,_,_,a=>by unfold At at a ⊢;exact a
  | .int _,_,_,a=>by unfold At at a ⊢;exact a
  | .str _,_,_,a=>by unfold At at a ⊢;exact a
  | .tup ds,_,n,a=>by
    unfold At at a ⊢
    unfold noL at n
    obtain ⟨p,b,e,f,c⟩:=a
    exact ⟨p,b,e,h _ _ f,AtL.flat h n c⟩
  | .lst ds,_,n,_=>by unfold noL at n;cases n
  | .scr ds,_,n,_=>by unfold noL at n;cases n
  | .dct _ _ _ _,_,n,_=>by unfold noL at n;cases n
theorem AtL.flat {G F:Hp}(h:∀ q b,G q=some (.tup b)→F q=some (.tup b)):∀ {c:List D} {b:List V},zlX c=true→AtL G c b→AtL F c b
  | [],_,_,a=>by unfold AtL at a ⊢;exact a
  | d::c,_,n,a=>by
    unfold AtL at a ⊢
    unfold zlX at n
    rw [Bool.and_eq_true] at n
    obtain ⟨x,r,e,f,g⟩:=a
    exact ⟨x,r,e,At.flat h n.1 f,AtL.flat h n.2 g⟩
end
section
variable {H H':Hp}{d:D}{ds es:List D}{v x:V}{xs ys:List V}
theorem At.int {i:Int}:At H (.int i) (.int i):=by unfold At;rfl
theorem At.bl {b:Bool}:At H (.bl b) (.bl b):=by unfold At;rfl
theorem At.non:At H .non .non:=by unfold At;rfl
theorem At.str {y:Str}:At H (.str y) (.str y):=by unfold At;rfl
theorem At.tup {a:Addr}(h:H a=some (.tup xs))(b:AtL H ds xs):At H (.tup ds) (.ref a):=by unfold At;exact ⟨a,xs,rfl,h,b⟩
theorem At.lst {a:Addr}(h:H a=some (.lst xs))(b:AtL H ds xs):At H (.lst ds) (.ref a):=by unfold At;exact ⟨a,xs,rfl,h,b⟩
theorem AtL.nil:AtL H [] []:=by unfold AtL;rfl
theorem AtL.cons (h:At H d x)(a:AtL H ds xs):AtL H (d::ds) (x::xs):=by unfold AtL;exact ⟨x,xs,rfl,h,a⟩
theorem At.int_inv {i:Int}(h:At H (.int i) v):v=.int i:=by unfold At at h;exact h
theorem At.bl_inv {b:Bool}(h:At H (.bl b) v):v=.bl b:=by unfold At at h;exact h
theorem At.non_inv (h:At H .non v):v=.non:=by unfold At at h;exact h
theorem At.str_inv {y:Str}(h:At H (.str y) v):v=.str y:=by unfold At at h;exact h
theorem At.tup_inv (h:At H (.tup ds) v):∃ a xs,v=.ref a∧H a=some (.tup xs)∧AtL H ds xs:=by unfold At at h;exact h
theorem At.lst_inv (h:At H (.lst ds) v):∃ a xs,v=.ref a∧H a=some (.lst xs)∧AtL H ds xs:=by unfold At at h;exact h
theorem At.scr_inv {b:List Int}(h:At H (.scr b) v):∃ a,v=.ref a∧SqL KK.K H a (b.map V.int):=by unfold At at h;exact h
theorem At.dct_inv {z t:Bool}{c:List (List Key)}{b:List D}(h:At H (.dct z t c b) v):∃ a xs,v=.ref a∧za8 H a z t c xs∧AtL H b xs:=by unfold At at h;exact h
theorem AtL.nil_inv (h:AtL H [] xs):xs=[]:=by unfold AtL at h;exact h
theorem AtL.cons_inv (h:AtL H (d::ds) xs):∃ x r,xs=x::r∧At H d x∧AtL H ds r:=by unfold AtL at h;exact h
theorem AtL.length:∀ {ds:List D} {xs:List V},AtL H ds xs→xs.length=ds.length
  | [],_,h=>by rw [h.nil_inv];rfl
  | _::_,_,h=>by
    obtain ⟨x,r,rfl,_,a⟩:=h.cons_inv
    rw [List.length_cons,List.length_cons,AtL.length a]
theorem AtL.get:∀ {ds:List D} {xs:List V} {i:Nat} {d:D},AtL H ds xs→ds[i]?=some d→∃ x,xs[i]?=some x∧At H d x
  | [],_,_,_,_,e=>by simp at e
  | _::_,_,i,_,h,e=>by
    obtain ⟨x,r,rfl,a,b⟩:=h.cons_inv
    cases i with
    | zero =>
      simp at e
      subst e
      exact ⟨x,rfl,a⟩
    | succ i =>
      obtain ⟨y,f,c⟩:=AtL.get (i:=i) b (by simpa using e)
      exact ⟨y,by simpa using f,c⟩
theorem AtL.append:∀ {ds es:List D} {xs ys:List V},AtL H ds xs→AtL H es ys→AtL H (ds++es) (xs++ys)
  | [],_,_,_,h,k=>by rw [h.nil_inv];exact k
  | _::_,_,_,_,h,k=>by
    obtain ⟨x,r,rfl,a,b⟩:=h.cons_inv
    exact .cons a (AtL.append b k)
theorem AtL.snoc (h:AtL H ds xs)(k:At H d v):AtL H (ds++[d]) (xs++[v]):=h.append (.cons k .nil)
theorem AtL.take:∀ (n:Nat) {ds:List D} {xs:List V},AtL H ds xs→AtL H (ds.take n) (xs.take n)
  | 0,_,_,_=>by simpa using AtL.nil
  | n+1,[],_,h=>by rw [h.nil_inv];simpa using AtL.nil
  | n+1,_::_,_,h=>by
    obtain ⟨x,r,rfl,a,b⟩:=h.cons_inv
    rw [List.take_succ_cons,List.take_succ_cons]
    exact .cons a (AtL.take n b)
theorem AtL.drop:∀ (n:Nat) {ds:List D} {xs:List V},AtL H ds xs→AtL H (ds.drop n) (xs.drop n)
  | 0,_,_,h=>h
  | n+1,[],_,h=>by rw [h.nil_inv];simpa using AtL.nil
  | n+1,_::_,_,h=>by
    obtain ⟨x,r,rfl,b,a⟩:=h.cons_inv
    rw [List.drop_succ_cons,List.drop_succ_cons]
    exact AtL.drop n a
theorem AtL.set:∀ (n:Nat) {ds:List D} {xs:List V},AtL H ds xs→At H d v→AtL H (ds.set n d) (xs.set n v)
  | _,[],_,h,_=>by rw [h.nil_inv];simpa using AtL.nil
  | 0,_::_,_,h,k=>by
    obtain ⟨x,r,rfl,b,a⟩:=h.cons_inv
    exact .cons k a
  | n+1,_::_,_,h,k=>by
    obtain ⟨x,r,rfl,b,a⟩:=h.cons_inv
    exact .cons b (AtL.set n a k)
theorem AtL.reverse:∀ {ds:List D} {xs:List V},AtL H ds xs→AtL H ds.reverse xs.reverse
  | [],_,h=>by rw [h.nil_inv];exact .nil
  | _::_,_,h=>by
    obtain ⟨x,r,rfl,a,b⟩:=h.cons_inv
    rw [List.reverse_cons,List.reverse_cons]
    exact (AtL.reverse b).snoc a
theorem AtL.rep (h:AtL H ds xs):∀ k:Nat,AtL H (List.replicate k ds).flatten (List.replicate k xs).flatten
  | 0=>.nil
  | k+1=>by
    rw [List.replicate_succ,List.replicate_succ,List.flatten_cons,List.flatten_cons]
    exact h.append (AtL.rep h k)
theorem AtL.ints (a:List Int):AtL H (a.map D.int) (a.map V.int):=by
  induction a with
  | nil=>exact .nil
  | cons n r b=>exact .cons .int b
theorem AtL.of_ints:∀ {a:List Int} {xs:List V},AtL H (a.map D.int) xs→xs=a.map V.int
  | [],_,h=>h.nil_inv
  | n::r,_,h=>by
    obtain ⟨x,d,rfl,b,c⟩:=AtL.cons_inv (by simpa using h)
    rw [b.int_inv,AtL.of_ints c]
    rfl
end
noncomputable def tyN:D→String
  | .non=>"NoneType" | .bl _=>"bool" | .int _=>"int" | .str _=>"str" | .tup _=>"tuple" | .lst _=>"list" | .scr _=>"list" | .dct _ _ _ _=>"dict"
noncomputable def Hid (F':Hp)(p:Addr)(o:HO):Prop:=F' p=none∨((∃ a,o=.tup a)∧F' p=some o)
noncomputable def Keep (F H F' H':Hp):Prop:=∀ p o,F p=none→H p=some o→Hid F' p o∧H' p=some o
set_option genInjectivity false in
set_option genSizeOf false in
set_option genCtorIdx false in
structure Gr (F H F' H':Hp):Prop where
  ff:zX F F'
  fh:zX F' H'
  kp:Keep F H F' H'
theorem Gr.refl {F H:Hp}(s:zX F H):Gr F H F H:=⟨zX.refl _,s,fun _ _ a b=>⟨.inl a,b⟩⟩
theorem Gr.trans {F H F1 H1 F2 H2:Hp}(a:Gr F H F1 H1)(b:Gr F1 H1 F2 H2):Gr F H F2 H2 :=
  ⟨a.ff.trans b.ff,b.fh,fun p o f d=>by
    obtain ⟨x,y⟩:=a.kp p o f d
    rcases x with x | ⟨e,c⟩
    · exact b.kp p o x y
    · exact ⟨.inr ⟨e,b.ff _ _ c⟩,b.fh _ _ (b.ff _ _ c)⟩⟩
theorem Gr.kl {F H F' H':Hp}{p:Addr}{o:HO}(g:Gr F H F' H')(n:∀ a,o≠.tup a)(d:F p=none)(b:H p=some o):F' p=none∧H' p=some o:=by
  obtain ⟨x,y⟩:=g.kp p o d b
  rcases x with x | ⟨⟨a,c⟩,_⟩
  · exact ⟨x,y⟩
  · exact absurd c (n a)
theorem Gr.alloc {F H:Hp}{p:Addr}(s:zX F H)(h:H p=none)(o:HO):Gr F H (upd F p o) (upd H p o):=by
  have a:F p=none:=s.free h
  refine ⟨fun b u q=>?_,fun b u q=>?_,fun b u q r=>?_⟩
  · rw [zm (zi q a)];exact q
  · by_cases e:b=p
    · subst e;rw [zo] at q ⊢;exact q
    · rw [zm e] at q ⊢;exact s b u q
  · have e:b≠p:=zi r h
    rw [zm e];exact ⟨.inl (by rw [zm e];exact q),r⟩
theorem Gr.hide {F H:Hp}{p:Addr}(s:zX F H)(h:H p=none)(o:HO):Gr F H F (upd H p o):=by
  refine ⟨zX.refl _,fun b u q=>?_,fun b u q r=>?_⟩
  · rw [zm (zi (s b u q) h)];exact s b u q
  · have e:b≠p:=zi r h
    rw [zm e];exact ⟨.inl q,r⟩
theorem Gr.show {F H:Hp}{p:Addr}{o:HO}{F0 H0:Hp}(g:Gr F0 H0 F H)(a:H0 p=none)(c:F p=none)(h:H p=some o):Gr F0 H0 (upd F p o) H:=by
  refine ⟨fun b u q=>?_,fun b u q=>?_,fun b u q r=>?_⟩
  · have:=g.ff b u q
    rw [zm (zi this c)];exact this
  · by_cases e:b=p
    · subst e;rw [zo] at q;rw [←q];exact h
    · rw [zm e] at q;exact g.fh b u q
  · have e:b≠p:=zi r a
    obtain ⟨x,y⟩:=g.kp b u q r
    refine ⟨?_,y⟩
    unfold Hid
    rw [zm e]
    exact x
noncomputable abbrev Ev:=List (Option D)
noncomputable def VAt (F:Hp)(ρ:Ev)(σ:St):Prop:=∀ (i:Nat) (d:D),ρ[i]?=some (some d)→∃ v,σ[i]?=some (some v)∧At F d v
theorem VAt.mono {F F':Hp}{ρ:Ev}{σ:St}(h:VAt F ρ σ)(s:zX F F'):VAt F' ρ σ:=fun i d e=>let ⟨v,e1,a⟩:=h i d e;⟨v,e1,a.mono s⟩
noncomputable def RE (t:TE)(f:Ev→Option D):Prop :=
  ∀ (σ:St) (ρ:Ev) (F H:Hp) (d:D) (Q:VK),zX F H→VAt F ρ σ→f ρ=some d→(∀ F' H' v,Gr F H F' H'→At F' d v→Q v H')→t σ H Q
noncomputable def RT (t:TT)(f:Ev→Option Bool):Prop :=
  ∀ (σ:St) (ρ:Ev) (F H:Hp) (b:Bool) (Q:Bool→Hp→Prop),zX F H→VAt F ρ σ→f ρ=some b→(∀ F' H',Gr F H F' H'→Q b H')→t σ H Q
noncomputable def RA (t:TA)(f:Ev→Option (List D)):Prop :=
  ∀ (σ:St) (ρ:Ev) (F H:Hp) (a:List D) (Q:List V→Hp→Prop),zX F H→VAt F ρ σ→f ρ=some a→(∀ F' H' b,Gr F H F' H'→AtL F' a b→Q b H')→t σ H Q
noncomputable def RF (t:TE)(f:Ev→Option (List D)):Prop :=
  ∀ (σ:St) (ρ:Ev) (F H:Hp) (a:List D) (Q:VK),zX F H→VAt F ρ σ→f ρ=some a→(∀ F' H' p b,Gr F H F' H'→H p=none→F' p=none→H' p=some (.lst b)→AtL F' a b→Q (.ref p) H')→t σ H Q
noncomputable def ED (X:Cx)(e:Expr)(f:Ev→Option D):Prop:=∃ t,PE X e t∧RE t f
noncomputable def TD (X:Cx)(e:Expr)(f:Ev→Option Bool):Prop:=∃ t,PT X e t∧RT t f
noncomputable def WD (X:Cx)(e:Expr)(f:Ev→Option Bool):Prop:=∃ t,PW X e t∧RT t f
noncomputable def AD (X:Cx)(a:List Expr)(f:Ev→Option (List D)):Prop:=∃ t,PA X a t∧RA t f
noncomputable def FL (X:Cx)(e:Expr)(f:Ev→Option (List D)):Prop:=∃ t,PE X e t∧RF t f
section
variable {X:Cx}{a b c:Expr}{pos:Pos}
noncomputable def yp (f:Ev→Option (List D)):Ev→Option D:=fun ρ=>(f ρ).map .lst
theorem Ye {f:Ev→Option (List D)}(h:FL X a f):ED X a (yp f):=by
  obtain ⟨t,v,r⟩:=h
  refine ⟨t,v,fun σ ρ F H d Q s i e q=>?_⟩
  obtain ⟨n,k,rfl⟩:=Option.map_eq_some_iff.mp e
  refine r σ ρ F H n Q s i k fun F' H' p w g m c o j=>?_
  have l:=g.show m c o
  exact q _ _ _ l (At.lst zo (j.mono (fun b u e=>by rw [zm (zi e c)];exact e)))
noncomputable def zc (i:Nat):Ev→Option D:=fun ρ=>(ρ[i]?).getD none
theorem zkW (i:Nat)(h:PE X a (zaD i)):ED X a (zc i):=by
  refine ⟨_,h,fun σ ρ F H d Q s b e q=>?_⟩
  have g:ρ[i]?=some (some d):=by
    unfold zc at e
    cases h:ρ[i]? with
    | none=>rw [h] at e;cases e
    | some x=>rw [h] at e;cases x with
      | none=>cases e
      | some y=>cases e;rfl
  obtain ⟨v,f,c⟩:=b i d g
  exact ⟨v,f,q _ _ _ (.refl s) c⟩
noncomputable def eC (d:D):Ev→Option D:=fun _=>some d
theorem zv {i:Int}(h:PE X a (tC (.int i))):ED X a (eC (.int i)):=⟨_,h,fun _ _ _ _ _ _ s _ e q=>by cases e;exact q _ _ _ (.refl s) .int⟩
theorem zmB {i:Bool}(h:PE X a (tC (.bl i))):ED X a (eC (.bl i)):=⟨_,h,fun _ _ _ _ _ _ s _ e q=>by cases e;exact q _ _ _ (.refl s) .bl⟩
theorem zlO {i:Str}(h:PE X a (tC (.str i))):ED X a (eC (.str i)):=⟨_,h,fun _ _ _ _ _ _ s _ e q=>by cases e;exact q _ _ _ (.refl s) .str⟩
theorem Yj (h:PE X a (tC .non)):ED X a (eC .non):=⟨_,h,fun _ _ _ _ _ _ s _ e q=>by cases e;exact q _ _ _ (.refl s) .non⟩
noncomputable def OpD (r:R2)(g:D→D→Option D):Prop :=
  ∀ (F H:Hp) (x y:V) (d e z:D) (Q:VK),zX F H→At F d x→At F e y→g d e=some z→(∀ F' H' v,Gr F H F' H'→At F' z v→Q v H')→r x y H Q
noncomputable def zj (g:D→D→Option D)(f h:Ev→Option D):Ev→Option D:=fun ρ=>(f ρ).bind fun x=>(h ρ).bind fun y=>g x y
theorem zgL {r:R2}{g:D→D→Option D}{ta c:TE}{f h:Ev→Option D}(t:OpD r g)(j:RE ta f)(k:RE c h):RE (tOp r ta c) (zj g f h):=by
  intro σ ρ F H z Q s d e q
  obtain ⟨x,l,e⟩:=Option.bind_eq_some_iff.mp e
  obtain ⟨y,i,e⟩:=Option.bind_eq_some_iff.mp e
  refine j σ ρ F H x _ s d l fun F1 H1 v a p=>?_
  refine k σ ρ F1 H1 y _ a.fh (d.mono a.ff) i fun F2 H2 u b o=>?_
  exact t F2 H2 v u x y z Q b.fh (p.mono b.ff) o e fun F3 H3 w m n=>q F3 H3 w ((a.trans b).trans m) n
theorem XY {c:Operator}{r:R2}{g:D→D→Option D}{f h:Ev→Option D}(d:OpR X (binaryOp c) r)(i:OpD r g)(e:ED X a f)(j:ED X b h):ED X (.BinOp a c b pos) (zj g f h) :=
  let ⟨_,pa,ra⟩:=e
  let ⟨_,pb,rb⟩:=j
  ⟨_,zdp d pa pb,zgL i ra rb⟩
theorem Z9 {c:CmpOp}{r:R2}{g:D→D→Option D}{f h:Ev→Option D}(d:OpR X (compareOp c) r)(j:OpD r g)(i:behindInMarks c b=false)(e:ED X a f)(k:ED X b h):ED X (.Compare a [c] [b] pos) (zj g f h) :=
  let ⟨_,pa,ra⟩:=e
  let ⟨_,pb,rb⟩:=k
  ⟨_,zfh d pa pb i,zgL j ra rb⟩
noncomputable def asB:D→Option Bool
  | .bl b=>some b
  | _=>none
theorem Xp {d:D}{b:Bool}(h:asB d=some b):d=.bl b:=by
  cases d <;> first | (cases h;rfl) | cases h
noncomputable def tOf (f:Ev→Option D):Ev→Option Bool:=fun ρ=>(f ρ).bind asB
theorem zj0 {t:TE}{f:Ev→Option D}(r:RE t f):RT (zgH t) (tOf f):=by
  intro σ ρ F H b Q s a e q
  obtain ⟨x,g,e⟩:=Option.bind_eq_some_iff.mp e
  cases Xp e
  exact r σ ρ F H _ _ s a g fun F1 H1 v c d=>⟨b,d.bl_inv,q F1 H1 c⟩
theorem zK {c:CmpOp}{r:R2}{g:D→D→Option D}{f h:Ev→Option D}(d:OpR X (compareOp c) r)(j:OpD r g)(i:behindInMarks c b=false)(e:ED X a f)(k:ED X b h):TD X (.Compare a [c] [b] pos) (tOf (zj g f h)) :=
  let ⟨_,pa,ra⟩:=e
  let ⟨_,pb,rb⟩:=k
  ⟨_,zbw d pa pb i,zj0 (zgL j ra rb)⟩
theorem W0 {f:Ev→Option D}(c:ED X a f)(d:∀ b,isTrue a X.env b=(do let v←b;standAt a.pos;holding [v] (truthy v)):=by intro _;rfl):TD X a (tOf f) :=
  let ⟨_,pa,ra⟩:=c
  ⟨_,zhF pa d,zj0 ra⟩
noncomputable def zgJ (f g:Ev→Option Bool):Ev→Option Bool:=fun ρ=>(f ρ).bind fun c=>if c=true then g ρ else some false
noncomputable def Xt (f g:Ev→Option Bool):Ev→Option Bool:=fun ρ=>(f ρ).bind fun c=>if c=true then some true else g ρ
noncomputable def yX (f:Ev→Option Bool):Ev→Option Bool:=fun ρ=>(f ρ).map (!·)
theorem zi0 {f:Ev→Option Bool}(b:TD X a f):WD X (.BoolOp .And [a] pos) f:=let ⟨_,pa,ra⟩:=b;⟨_,zjf pa,ra⟩
theorem zeQ {f:Ev→Option Bool}(b:TD X a f):WD X (.BoolOp .Or [a] pos) f:=let ⟨_,pa,ra⟩:=b;⟨_,zhB pa,ra⟩
theorem zkL {rest:List Expr}{f g:Ev→Option Bool}(o:TD X a f)(i:WD X (.BoolOp .And (b::rest) pos) g):WD X (.BoolOp .And (a::b::rest) pos) (zgJ f g):=by
  obtain ⟨ta,j,h⟩:=o
  obtain ⟨p,l,k⟩:=i
  refine ⟨_,zll j l,fun σ ρ F H z Q s d e q=>?_⟩
  obtain ⟨x,m,e⟩:=Option.bind_eq_some_iff.mp e
  refine h σ ρ F H x _ s d m fun F1 H1 c=>?_
  cases x with
  | true =>
    rw [if_pos rfl] at e ⊢
    exact k σ ρ F1 H1 z Q c.fh (d.mono c.ff) e fun F2 H2 n=>q F2 H2 (c.trans n)
  | false =>
    rw [if_neg Bool.false_ne_true] at e ⊢
    cases e
    exact q F1 H1 c
theorem zjb {rest:List Expr}{f g:Ev→Option Bool}(o:TD X a f)(i:WD X (.BoolOp .Or (b::rest) pos) g):WD X (.BoolOp .Or (a::b::rest) pos) (Xt f g):=by
  obtain ⟨ta,j,h⟩:=o
  obtain ⟨p,l,k⟩:=i
  refine ⟨_,zke j l,fun σ ρ F H z Q s d e q=>?_⟩
  obtain ⟨x,m,e⟩:=Option.bind_eq_some_iff.mp e
  refine h σ ρ F H x _ s d m fun F1 H1 c=>?_
  cases x with
  | false =>
    rw [if_neg Bool.false_ne_true] at e ⊢
    exact k σ ρ F1 H1 z Q c.fh (d.mono c.ff) e fun F2 H2 n=>q F2 H2 (c.trans n)
  | true =>
    rw [if_pos rfl] at e ⊢
    cases e
    exact q F1 H1 c
theorem zmX {f:Ev→Option Bool}(h:WD X a f):TD X a f:=let ⟨_,p,r⟩:=h;⟨_,p.pt,r⟩
theorem za7 {f:Ev→Option Bool}(h:TD X a f):TD X (.UnaryOp .Not a pos) (yX f):=by
  obtain ⟨ta,i,b⟩:=h
  refine ⟨_,zhJ i,fun σ ρ F H z Q s c e q=>?_⟩
  obtain ⟨x,g,rfl⟩:=Option.map_eq_some_iff.mp e
  exact b σ ρ F H x _ s c g fun F1 H1 d=>q F1 H1 d
noncomputable def zcv (f g:Ev→Option D):Ev→Option D:=fun ρ=>((f ρ).bind asB).bind fun c=>if c=true then g ρ else some (.bl false)
noncomputable def eOr (f g:Ev→Option D):Ev→Option D:=fun ρ=>((f ρ).bind asB).bind fun c=>if c=true then some (.bl true) else g ρ
noncomputable def zmy (f:Ev→Option D):Ev→Option D:=fun ρ=>((f ρ).bind asB).map fun c=>.bl (!c)
theorem zlz {op}{f:Ev→Option D}(ha:ED X a f):ED X (.BoolOp op [a] pos) f:=let ⟨_,pa,ra⟩:=ha;⟨_,zkS pa,ra⟩
theorem zlo {rest:List Expr}{f g:Ev→Option D}(t:ED X a f)(l:ED X (.BoolOp .And (b::rest) pos) g):ED X (.BoolOp .And (a::b::rest) pos) (zcv f g):=by
  obtain ⟨ta,n,j⟩:=t
  obtain ⟨u,o,p⟩:=l
  refine ⟨_,zlV n o,fun σ ρ F H z Q s h e q=>?_⟩
  obtain ⟨x,d,e⟩:=Option.bind_eq_some_iff.mp e
  obtain ⟨y,d,i⟩:=Option.bind_eq_some_iff.mp d
  cases Xp i
  refine j σ ρ F H _ _ s h d fun F1 H1 v c m=>⟨x,m.bl_inv,?_⟩
  cases x with
  | true =>
    rw [if_pos rfl] at e ⊢
    exact p σ ρ F1 H1 z Q c.fh (h.mono c.ff) e fun F2 H2 w r k=>q F2 H2 w (c.trans r) k
  | false =>
    rw [if_neg Bool.false_ne_true] at e ⊢
    cases e
    exact q F1 H1 _ c .bl
theorem zla {f:Ev→Option D}(k:ED X a f):ED X (.UnaryOp .Not a pos) (zmy f):=by
  obtain ⟨ta,j,d⟩:=k
  refine ⟨_,zlQ j,fun σ ρ F H z Q s g e q=>?_⟩
  obtain ⟨x,b,rfl⟩:=Option.map_eq_some_iff.mp e
  obtain ⟨y,b,c⟩:=Option.bind_eq_some_iff.mp b
  cases Xp c
  exact d σ ρ F H _ _ s g b fun F1 H1 v h i=>⟨x,i.bl_inv,q F1 H1 _ h .bl⟩
noncomputable def eIf (t:Ev→Option Bool)(f g:Ev→Option D):Ev→Option D:=fun ρ=>(t ρ).bind fun c=>if c=true then f ρ else g ρ
theorem zmc {t:Ev→Option Bool}{f g:Ev→Option D}(u:TD X c t)(y:ED X a f)(m:ED X b g):ED X (.IfExp c a b pos) (eIf t f g):=by
  obtain ⟨tc,r,k⟩:=u
  obtain ⟨ta,n,l⟩:=y
  obtain ⟨A,p,o⟩:=m
  refine ⟨_,zgM r n p,fun σ ρ F H z Q s i e q=>?_⟩
  obtain ⟨x,v,e⟩:=Option.bind_eq_some_iff.mp e
  refine k σ ρ F H x _ s i v fun F1 H1 d=>?_
  cases x with
  | true =>
    rw [if_pos rfl] at e ⊢
    exact l σ ρ F1 H1 z Q d.fh (i.mono d.ff) e fun F2 H2 w j h=>q F2 H2 w (d.trans j) h
  | false =>
    rw [if_neg Bool.false_ne_true] at e ⊢
    exact o σ ρ F1 H1 z Q d.fh (i.mono d.ff) e fun F2 H2 w j h=>q F2 H2 w (d.trans j) h
noncomputable def eUn (g:D→Option D)(f:Ev→Option D):Ev→Option D:=fun ρ=>(f ρ).bind g
noncomputable def zcM:D→Option D
  | .int i=>some (.int (-i))
  | _=>none
theorem zak {f:Ev→Option D}(j:ED X a f):ED X (.UnaryOp .USub a pos) (eUn zcM f):=by
  obtain ⟨ta,h,b⟩:=j
  refine ⟨_,zlJ zhQ h,fun σ ρ F H z Q s c e q=>?_⟩
  obtain ⟨x,i,e⟩:=Option.bind_eq_some_iff.mp e
  cases x <;> try cases e
  exact b σ ρ F H _ _ s c i fun F1 H1 v d g=>⟨_,g.int_inv,q F1 H1 _ d .int⟩
noncomputable def ze:Ev→Option (List D):=fun _=>some []
noncomputable def za (f:Ev→Option D)(g:Ev→Option (List D)):Ev→Option (List D):=fun ρ=>(f ρ).bind fun d=>(g ρ).map (d::·)
theorem zd:AD X [] ze:=⟨_,z5,fun _ _ _ _ _ _ s _ e q=>by cases e;exact q _ _ _ (.refl s) .nil⟩
theorem zb {e:Expr}{a:List Expr}{f:Ev→Option D}{g:Ev→Option (List D)}(r:ED X e f)(t:AD X a g)(l:starEach (e::a) X.env=(false,eval e X.env)::starEach a X.env:=by rfl):AD X (e::a) (za f g):=by
  obtain ⟨ta,m,i⟩:=r
  obtain ⟨y,n,o⟩:=t
  refine ⟨_,zr m n l,fun σ ρ F H z Q s c e q=>?_⟩
  obtain ⟨x,p,e⟩:=Option.bind_eq_some_iff.mp e
  obtain ⟨u,h,rfl⟩:=Option.map_eq_some_iff.mp e
  refine i σ ρ F H x _ s c p fun F1 H1 v b k=>?_
  exact o σ ρ F1 H1 u _ b.fh (c.mono b.ff) h fun F2 H2 w d j=>q F2 H2 _ (b.trans d) (.cons (k.mono d.ff) j)
noncomputable def lim (n:Nat):Bool:=decide (n≤sizeLine)
noncomputable def yJ (g:Ev→Option (List D)):Ev→Option D:=fun ρ=>(g ρ).bind fun a=>if lim a.length=true then some (.tup a) else none
noncomputable def z4 (g:Ev→Option (List D)):Ev→Option (List D):=fun ρ=>(g ρ).bind fun a=>if lim a.length=true then some a else none
theorem xB {c:List Expr}{x1}{g:Ev→Option (List D)}(h:AD X c g):ED X (.Tuple c x1 pos) (yJ g):=by
  obtain ⟨ta,l,j⟩:=h
  refine ⟨_,zkM l,fun σ ρ F H z Q s k e q=>?_⟩
  obtain ⟨n,m,e⟩:=Option.bind_eq_some_iff.mp e
  split at e <;> cases e
  rename_i f
  refine j σ ρ F H n _ s k m fun F1 H1 o a b=>⟨by rw [b.length];exact of_decide_eq_true f,fun p i=>?_⟩
  have d:=Gr.alloc a.fh i (.tup o)
  exact q _ _ _ (a.trans d) (.tup zo (b.mono d.ff))
theorem YZ {d:List Expr}{g:Ev→Option (List D)}(h:AD X d g):FL X (.List d pos) (z4 g):=by
  obtain ⟨ta,k,i⟩:=h
  refine ⟨_,Za k,fun σ ρ F H z Q s j e q=>?_⟩
  obtain ⟨v,l,e⟩:=Option.bind_eq_some_iff.mp e
  split at e <;> cases e
  rename_i t
  refine i σ ρ F H _ _ s j l fun F1 H1 r a f=>⟨by rw [f.length];exact of_decide_eq_true t,fun p b=>?_⟩
  have m:=Gr.hide a.fh b (.lst r)
  have n:H p=none:=by
    cases e:H p with
    | none=>rfl
    | some o =>
      cases c:F p with
      | none=>rw [(a.kp p o c e).2] at b;cases b
      | some u=>rw [a.fh _ _ (a.ff _ _ c)] at b;cases b
  exact q _ _ _ _ (a.trans m) n (a.fh.free b) zo f
end
end
end Dl
namespace Dl
open PySem L2
variable [KK]
inductive Sl where
  | no | v (d:D) | o (ds:List D) | m (t:Bool) (ks:List (List Key)) (vs:List D)
  deriving Inhabited
noncomputable abbrev SE:=List Sl
noncomputable def Sl.f:Sl→Option D
  | .v d=>some d
  | _=>none
noncomputable def Sl.g:Sl→Option D
  | .v d=>some d
  | .o b=>some (.lst b)
  | .m t c a=>some (.dct false t c a)
  | .no=>none
noncomputable def Sl.isO:Sl→Bool
  | .o _=>true
  | .m _ _ _=>true
  | _=>false
noncomputable def visF (ρ:SE):Ev:=ρ.map Sl.f
noncomputable def visG (ρ:SE):Ev:=ρ.map Sl.g
noncomputable def zcl (F:Hp)(o:HO):Sl→Prop
  | .o b=>∃ a,o=.lst a∧AtL F b a
  | .m t c b=>∃ a,zaA o t c a∧AtL F b a
  | _=>False
theorem zcl.mono {F F':Hp}{o:HO}{s:Sl}(h:zcl F o s)(k:zX F F'):zcl F' o s:=by
  cases s with
  | no=>exact h
  | v d=>exact h
  | o c=>obtain ⟨b,e,a⟩:=h;exact ⟨b,e,a.mono k⟩
  | m t f c=>obtain ⟨b,e,a⟩:=h;exact ⟨b,e,a.mono k⟩
theorem zcl.isO {F:Hp}{o:HO}{s:Sl}(h:zcl F o s):s.isO=true:=by
  cases s with
  | no=>exact h.elim
  | v d=>exact h.elim
  | o a=>rfl
  | m t b a=>rfl
theorem zcl.ntup {F:Hp}{o:HO}{s:Sl}(h:zcl F o s)(b:List V):o≠.tup b:=by
  cases s with
  | no=>exact h.elim
  | v d=>exact h.elim
  | o f=>obtain ⟨c,rfl,_⟩:=h;intro e;cases e
  | m t g f =>
    obtain ⟨c,e,_⟩:=h
    unfold zaA at e
    split at e
    · obtain ⟨a,rfl,_⟩:=e;intro e;cases e
    · obtain ⟨a,rfl,_⟩:=e;intro e;cases e
theorem zcl.at {F G:Hp}{o:HO}{s:Sl}{d:D}{p:Addr}(h:zcl F o s)(e:s.g=some d)(b:G p=some o)(k:zX F G):At G d (.ref p):=by
  cases s with
  | no=>exact h.elim
  | v d=>exact h.elim
  | o f =>
    cases e
    obtain ⟨c,rfl,a⟩:=h
    exact .lst b (a.mono k)
  | m t g f =>
    cases e
    obtain ⟨c,e,a⟩:=h
    unfold At
    exact ⟨p,c,rfl,⟨o,e,b⟩,a.mono k⟩
set_option genInjectivity false in
set_option genSizeOf false in
set_option genCtorIdx false in
structure Rl (Fb Hb F H:Hp) (ρ:SE) (σ:St):Prop where
  gr:Gr Fb Hb F H
  vals:∀ (i:Nat) (d:D),ρ[i]?=some (.v d)→∃ v,σ[i]?=some (some v)∧At F d v
  ows:∀ (i:Nat) (s:Sl),ρ[i]?=some s→s.isO=true→∃ p o,σ[i]?=some (some (.ref p))∧Hb p=none∧F p=none∧H p=some o∧zcl F o s
  dis:∀ (i j:Nat) (p:Addr) (s t:Sl),ρ[i]?=some s→ρ[j]?=some t→s.isO=true→t.isO=true→σ[i]?=some (some (.ref p))→σ[j]?=some (some (.ref p))→i=j
  len:ρ.length=σ.length
section
variable {Fb Hb F H F' H':Hp}{ρ ρ':SE}{σ σ':St}
theorem Rl.owns (r:Rl Fb Hb F H ρ σ)(i:Nat)(c:List D)(e:ρ[i]?=some (.o c)):∃ p b,σ[i]?=some (some (.ref p))∧Hb p=none∧F p=none∧H p=some (.lst b)∧AtL F c b:=by
  obtain ⟨p,o,h,f,d,g,b,rfl,a⟩:=r.ows i _ e rfl
  exact ⟨p,b,h,f,d,g,a⟩
theorem Rl.grow (r:Rl Fb Hb F H ρ σ)(g:Gr F H F' H'):Rl Fb Hb F' H' ρ σ:=by
  refine ⟨r.gr.trans g,fun i d e=>?_,fun i s e h=>?_,r.dis,r.len⟩
  · obtain ⟨v,b,a⟩:=r.vals i d e
    exact ⟨v,b,a.mono g.ff⟩
  · obtain ⟨p,o,b,j,c,l,a⟩:=r.ows i s e h
    obtain ⟨f,k⟩:=g.kl a.ntup c l
    exact ⟨p,o,b,j,f,k,a.mono g.ff⟩
theorem Rl.visF (r:Rl Fb Hb F H ρ σ):VAt F (visF ρ) σ:=fun i d e=>by
  unfold Dl.visF at e
  rw [List.getElem?_map] at e
  cases h:ρ[i]? with
  | none=>rw [h] at e;cases e
  | some x =>
    rw [h] at e
    cases x with
    | no=>cases e
    | v c =>
      cases e
      exact r.vals i d h
    | o a=>cases e
    | m t b a=>cases e
noncomputable def Own (ρ:SE)(σ:St)(p:Addr):Prop:=∃ (i:Nat) (s:Sl),ρ[i]?=some s∧s.isO=true∧σ[i]?=some (some (.ref p))
open Classical in
noncomputable def gOf (ρ:SE)(σ:St)(F H:Hp):Hp:=fun p=>if Own ρ σ p then H p else F p
open Classical in
noncomputable def fOf (ρ:SE)(σ:St)(G:Hp):Hp:=fun p=>if Own ρ σ p then none else G p
theorem Rl.own (r:Rl Fb Hb F H ρ σ){p:Addr}(h:Own ρ σ p):Hb p=none∧F p=none∧∃ o,H p=some o∧∀ e,o≠.tup e:=by
  obtain ⟨i,s,k,d,c⟩:=h
  obtain ⟨q,o,b,j,g,f,a⟩:=r.ows i s k d
  rw [c] at b
  cases b
  exact ⟨j,g,o,f,a.ntup⟩
theorem Rl.notown (r:Rl Fb Hb F H ρ σ){q:Addr}(h:H q=none)(j:Nat)(s:Sl)(b:ρ[j]?=some s)(a:s.isO=true):σ[j]?≠some (some (.ref q)):=fun e=>by
  obtain ⟨p,o,f1,_,_,f4,_⟩:=r.ows j s b a
  rw [e] at f1
  cases f1
  rw [h] at f4
  cases f4
theorem Rl.notbase (r:Rl Fb Hb F H ρ σ){q:Addr}(h:H q=none):Hb q=none:=by
  cases z:Hb q with
  | none=>rfl
  | some o =>
    cases a:Fb q with
    | none=>rw [(r.gr.kp q o a z).2] at h;cases h
    | some u=>rw [r.gr.fh _ _ (r.gr.ff _ _ a)] at h;cases h
theorem Rl.fg (r:Rl Fb Hb F H ρ σ):zX F (gOf ρ σ F H):=fun p o e=>by
  unfold gOf
  split
  · exact r.gr.fh p o e
  · exact e
theorem Rl.gh (r:Rl Fb Hb F H ρ σ):zX (gOf ρ σ F H) H:=fun p o e=>by
  unfold gOf at e
  split at e
  · exact e
  · exact r.gr.fh p o e
theorem Rl.visG (r:Rl Fb Hb F H ρ σ):VAt (gOf ρ σ F H) (visG ρ) σ:=fun i d e=>by
  unfold Dl.visG at e
  rw [List.getElem?_map] at e
  cases h:ρ[i]? with
  | none=>rw [h] at e;cases e
  | some x =>
    rw [h] at e
    have e:x.g=some d:=Option.some.inj e
    have own:x.isO=true→∃ v,σ[i]?=some (some v)∧At (gOf ρ σ F H) d v:=fun c=>by
      obtain ⟨p,o,b,k,j,g,a⟩:=r.ows i x h c
      refine ⟨_,b,a.at e ?_ r.fg⟩
      unfold gOf
      rw [if_pos ⟨i,x,h,c,b⟩]
      exact g
    cases x with
    | no=>cases e
    | v l =>
      cases e
      obtain ⟨v,b,a⟩:=r.vals i d h
      exact ⟨v,b,a.mono r.fg⟩
    | o f=>exact own rfl
    | m t n f=>exact own rfl
theorem Rl.back {G':Hp}(r:Rl Fb Hb F H ρ σ)(g:Gr (gOf ρ σ F H) H G' H'):Gr F H (fOf ρ σ G') H'∧∀ q b,G' q=some (.tup b)→fOf ρ σ G' q=some (.tup b):=by
  refine ⟨⟨fun p o e=>?_,fun p o e=>?_,fun p o c a=>?_⟩,fun q b e=>?_⟩
  · unfold fOf
    rw [if_neg (fun h=>by rw [(r.own h).2.1] at e;cases e)]
    exact g.ff p o (r.fg p o e)
  · unfold fOf at e
    split at e
    · cases e
    · exact g.fh p o e
  · by_cases h:Own ρ σ p
    · refine ⟨.inl (by unfold fOf;rw [if_pos h]),g.fh p o (g.ff p o ?_)⟩
      unfold gOf
      rw [if_pos h]
      exact a
    · obtain ⟨x,y⟩:=g.kp p o (by unfold gOf;rw [if_neg h];exact c) a
      refine ⟨?_,y⟩
      unfold Hid fOf
      rw [if_neg h]
      exact x
  · unfold fOf
    rw [if_neg (fun h=>?_)]
    · exact e
    · obtain ⟨_,_,o,a,n⟩:=r.own h
      have:G' q=some o:=g.ff q _ (by unfold gOf;rw [if_pos h];exact a)
      rw [this] at e
      cases e
      exact n b rfl
theorem Rl.out {G':Hp}(r:Rl Fb Hb F H ρ σ)(g:Gr (gOf ρ σ F H) H G' H'):Gr Fb Hb G' H':=by
  refine ⟨fun p o e=>g.ff p o (r.fg p o (r.gr.ff p o e)),g.fh,fun p o i b=>?_⟩
  obtain ⟨a,d⟩:=r.gr.kp p o i b
  have c:gOf ρ σ F H p=F p:=by
    unfold gOf
    rw [if_neg (fun h=>by rw [(r.own h).1] at b;cases b)]
  rcases a with a | ⟨a,f⟩
  · exact g.kp p o (by rw [c];exact a) d
  · have:=g.ff p o (by rw [c];exact f)
    exact ⟨.inr ⟨a,this⟩,g.fh _ _ this⟩
theorem Rl.set (r:Rl Fb Hb F H ρ σ){i:Nat}{d:D}{v:V}(a:At F d v):Rl Fb Hb F H (ρ.set i (.v d)) (σ.set i (some v)):=by
  have f:∀ {j:Nat} {s:Sl},(ρ.set i (.v d))[j]?=some s→s.isO=true→i≠j:=fun {j s} h b e=>by
    subst e
    rw [List.getElem?_set] at h
    simp only [if_true] at h
    split at h <;> cases h
    cases b
  refine ⟨r.gr,fun j e h=>?_,fun j s h b=>?_,fun j k p s t g l m o n q=>?_,by simp [r.len]⟩
  · by_cases c:i=j
    · subst c
      rw [List.getElem?_set] at h
      simp only [if_true] at h
      split at h
      · rename_i u
        cases h
        refine ⟨v,?_,a⟩
        rw [List.getElem?_set]
        simp [←r.len,u]
      · cases h
    · rw [List.getElem?_set_ne c] at h ⊢
      exact r.vals j e h
  · have c:=f h b
    rw [List.getElem?_set_ne c] at h ⊢
    exact r.ows j s h b
  · have x:=f g m
    have w:=f l o
    rw [List.getElem?_set_ne x] at g n
    rw [List.getElem?_set_ne w] at l q
    exact r.dis j k p s t g l m o n q
theorem Rl.setW (r:Rl Fb Hb F H ρ σ){i:Nat}{w:Sl}{p:Addr}{o:HO}(z:Hb p=none)(A:F p=none)(C:H p=some o)(a:zcl F o w)
    (v:∀ (j:Nat) (s:Sl),ρ[j]?=some s→s.isO=true→σ[j]?≠some (some (.ref p))):Rl Fb Hb F H (ρ.set i w) (σ.set i (some (.ref p))):=by
  have b:∀ {s:Sl},(ρ.set i w)[i]?=some s→i < ρ.length∧s=w:=fun {s} h=>by
    rw [List.getElem?_set] at h
    simp only [if_true] at h
    split at h
    · rename_i f
      cases h
      exact ⟨f,rfl⟩
    · cases h
  have c:i < ρ.length→(σ.set i (some (V.ref p)))[i]?=some (some (.ref p)):=fun f=>by
    rw [List.getElem?_set]
    simp [←r.len,f]
  refine ⟨r.gr,fun j e h=>?_,fun j s h B=>?_,fun j k q s t n u x y g l=>?_,by simp [r.len]⟩
  · by_cases d:i=j
    · subst d
      have e:=(b h).2
      have:=a.isO
      rw [←e] at this
      cases this
    · rw [List.getElem?_set_ne d] at h ⊢
      exact r.vals j e h
  · by_cases d:i=j
    · subst d
      obtain ⟨f,e⟩:=b h
      subst e
      exact ⟨p,o,c f,z,A,C,a⟩
    · rw [List.getElem?_set_ne d] at h ⊢
      exact r.ows j s h B
  · by_cases d:i=j
    · subst d
      by_cases m:i=k
      · exact m
      · obtain ⟨f,_⟩:=b n
        rw [c f] at g
        cases g
        rw [List.getElem?_set_ne m] at u l
        exact absurd l (v k t u y)
    · by_cases m:i=k
      · subst m
        obtain ⟨f,_⟩:=b u
        rw [c f] at l
        cases l
        rw [List.getElem?_set_ne d] at n g
        exact absurd g (v j s n x)
      · rw [List.getElem?_set_ne d] at n g
        rw [List.getElem?_set_ne m] at u l
        exact r.dis j k q s t n u x y g l
theorem Rl.setO (r:Rl Fb Hb F H ρ σ){i:Nat}{c:List D}{p:Addr}{b:List V}(e:Hb p=none)(g:F p=none)(f:H p=some (.lst b))(a:AtL F c b)
    (d:∀ (j:Nat) (s:Sl),ρ[j]?=some s→s.isO=true→σ[j]?≠some (some (.ref p))):Rl Fb Hb F H (ρ.set i (.o c)) (σ.set i (some (.ref p))):=r.setW e g f ⟨b,rfl,a⟩ d
theorem Rl.mutW (r:Rl Fb Hb F H ρ σ){i:Nat}{w v:Sl}{p:Addr}{y:HO}(e:ρ[i]?=some w)(hw:w.isO=true)(l:σ[i]?=some (some (.ref p)))(a:zcl F y v):Rl Fb Hb F (upd H p y) (ρ.set i v) σ:=by
  obtain ⟨q,o,B,D,E,Q,_⟩:=r.ows i w e hw
  rw [l] at B
  cases B
  have C:i < ρ.length:=(List.getElem?_eq_some_iff.mp e).1
  have A:∀ {j:Nat} {s:Sl} {q:Addr},i≠j→ρ[j]?=some s→s.isO=true→σ[j]?=some (some (.ref q))→q≠p:=fun {j s q} hne m g n z=>by
    subst z
    exact hne (r.dis i j q w s e m hw g l n)
  refine ⟨⟨r.gr.ff,fun b o z=>?_,fun b o N I=>?_⟩,fun j d h=>?_,fun j s h g=>?_,fun j k q s t m n O P L M=>?_,by simp [r.len]⟩
  · rw [zm (zi z E)]
    exact r.gr.fh b o z
  · rw [zm (zi I D)]
    exact r.gr.kp b o N I
  · by_cases c:i=j
    · subst c
      rw [List.getElem?_set_self C] at h
      cases h
      exact (Bool.noConfusion a.isO)
    · rw [List.getElem?_set_ne c] at h
      exact r.vals j d h
  · by_cases c:i=j
    · subst c
      rw [List.getElem?_set_self C] at h
      cases h
      exact ⟨p,y,l,D,E,zo,a⟩
    · rw [List.getElem?_set_ne c] at h
      obtain ⟨q,z,f1,f2,f3,f4,f5⟩:=r.ows j s h g
      refine ⟨q,z,f1,f2,f3,?_,f5⟩
      rw [zm (A c h g f1)]
      exact f4
  · have f:∀ {j:Nat} {s:Sl},(ρ.set i v)[j]?=some s→s.isO=true→∃ G,ρ[j]?=some G∧G.isO=true:=fun {j s} h g=>by
      by_cases c:i=j
      · subst c;exact ⟨w,e,hw⟩
      · rw [List.getElem?_set_ne c] at h;exact ⟨s,h,g⟩
    obtain ⟨f1,J,u⟩:=f m O
    obtain ⟨f2,K,x⟩:=f n P
    exact r.dis j k q f1 f2 J K u x L M
theorem Rl.mutate (r:Rl Fb Hb F H ρ σ){i:Nat}{d c:List D}{p:Addr}{b:List V}(e:ρ[i]?=some (.o d))(f:σ[i]?=some (some (.ref p)))(a:AtL F c b):Rl Fb Hb F (upd H p (.lst b)) (ρ.set i (.o c)) σ :=
  r.mutW e rfl f ⟨b,rfl,a⟩
noncomputable def Sl.fz:Sl→Sl
  | .o c=>.v (.lst c)
  | .m t b a=>.v (.dct false t b a)
  | s=>s
noncomputable def zmU (ρ:SE)(i:Nat):SE:=ρ.set i ((ρ[i]?).getD .no).fz
theorem Rl.freeze (r:Rl Fb Hb F H ρ σ)(i:Nat):∃ F',Rl Fb Hb F' H (zmU ρ i) σ:=by
  unfold zmU
  cases h:ρ[i]? with
  | none =>
    refine ⟨F,?_⟩
    rw [List.set_eq_of_length_le (List.getElem?_eq_none_iff.mp h)]
    exact r
  | some s =>
    have l:i < ρ.length:=(List.getElem?_eq_some_iff.mp h).1
    have same:s.fz=s→∃ F',Rl Fb Hb F' H (ρ.set i ((some s).getD .no).fz) σ:=fun e=>by
      refine ⟨F,?_⟩
      show Rl Fb Hb F H (ρ.set i s.fz) σ
      rw [e]
      have:ρ.set i s=ρ:=by
        apply List.ext_getElem?
        intro j
        by_cases f:i=j
        · subst f;rw [List.getElem?_set_self l,h]
        · rw [List.getElem?_set_ne f]
      rw [this]
      exact r
    have c:∀ d,s.isO=true→s.g=some d→s.fz=.v d→∃ F',Rl Fb Hb F' H (ρ.set i ((some s).getD .no).fz) σ:=fun d G R L=>by
      obtain ⟨p,o,D,J,C,M,a⟩:=r.ows i s h G
      have A:zX F (upd F p o):=fun b u e=>by rw [zm (zi e C)];exact e
      show ∃ F',Rl Fb Hb F' H (ρ.set i s.fz) σ
      rw [L]
      have B:∀ {j:Nat} {t:Sl},(ρ.set i (.v d))[j]?=some t→t.isO=true→i≠j:=fun {j t} h g e=>by
        subst e
        rw [List.getElem?_set_self l] at h
        cases h
        cases g
      refine ⟨upd F p o,r.gr.show J C M,fun j e z=>?_,fun j t z g=>?_,fun j k q t u n x E I K N=>?_,by simp [r.len]⟩
      · by_cases f:i=j
        · subst f
          rw [List.getElem?_set_self l] at z
          cases z
          exact ⟨_,D,a.at R zo A⟩
        · rw [List.getElem?_set_ne f] at z
          obtain ⟨v,f1,f2⟩:=r.vals j e z
          exact ⟨v,f1,f2.mono A⟩
      · have f:=B z g
        rw [List.getElem?_set_ne f] at z
        obtain ⟨q,y,f1,f2,f3,f4,f5⟩:=r.ows j t z g
        refine ⟨q,y,f1,f2,?_,f4,f5.mono A⟩
        rw [zm (fun w=>f (r.dis i j p s t h z G g D (by rw [←w];exact f1)))]
        exact f3
      · have Q:=B n E
        have O:=B x I
        rw [List.getElem?_set_ne Q] at n
        rw [List.getElem?_set_ne O] at x
        exact r.dis j k q t u n x E I K N
    cases s with
    | no=>exact same rfl
    | v d=>exact same rfl
    | o P=>exact c _ rfl rfl rfl
    | m t S P=>exact c _ rfl rfl rfl
end
inductive Ctl where
  | nx (ρ:SE) | rt (d:D) | bk (ρ:SE) | ct (ρ:SE) | no
  deriving Inhabited
noncomputable def SOk (Fb Hb:Hp)(E:zaB):Ctl→Prop
  | .nx ρ=>∀ F H σ,Rl Fb Hb F H ρ σ→E.nx σ H
  | .bk ρ=>∀ F H σ,Rl Fb Hb F H ρ σ→E.bk σ H
  | .ct ρ=>∀ F H σ,Rl Fb Hb F H ρ σ→E.ct σ H
  | .rt d=>∀ F H v,Gr Fb Hb F H→At F d v→E.rt v H
  | .no=>False
noncomputable def RS (t:TS)(g:SE→Ctl):Prop:=∀ (Fb Hb F H:Hp) (ρ:SE) (σ:St) (E:zaB),Rl Fb Hb F H ρ σ→SOk Fb Hb E (g ρ)→t E σ H
noncomputable def SD (X:Cx)(a:Stmt)(g:SE→Ctl):Prop:=∃ t,PS X a t∧RS t g
noncomputable def SDs (X:Cx)(a:List Stmt)(g:SE→Ctl):Prop:=∃ t,PSs X a t∧RS t g
section
variable {X:Cx}{st:Stmt}{sts:List Stmt}{a b c e:Expr}{pos pos':Pos}
noncomputable def zP:SE→Ctl:=.nx
noncomputable def zx (g h:SE→Ctl):SE→Ctl:=fun ρ=>match g ρ with
  | .nx a=>h a
  | .rt d=>.rt d
  | .bk a=>.bk a
  | .ct a=>.ct a
  | .no=>.no
theorem yn:SDs X [] zP:=⟨_,zbf,fun _ _ F H ρ σ E r h=>h F H σ r⟩
theorem zg {g h:SE→Ctl}(f:SD X st g)(i:SDs X sts h):SDs X (st::sts) (zx g h):=by
  obtain ⟨t,p,r⟩:=f
  obtain ⟨u,c,l⟩:=i
  refine ⟨_,xI p c,fun Fb Hb F H ρ σ E b k=>?_⟩
  refine r Fb Hb F H ρ σ { E with nx:=u E } b ?_
  unfold zx at k
  cases e:g ρ with
  | nx m =>
    rw [e] at k
    exact fun F' H' j a=>l Fb Hb F' H' m j E a k
  | rt d=>rw [e] at k;exact k
  | bk d=>rw [e] at k;exact k
  | ct d=>rw [e] at k;exact k
  | no=>rw [e] at k;exact k
theorem zq {g:SE→Ctl}(a:SD X st g):SDs X [st] g:=let ⟨_,p,r⟩:=a;⟨_,YQ p,r⟩
noncomputable def sFz (i:Nat)(g:SE→Ctl):SE→Ctl:=fun ρ=>g (zmU ρ i)
theorem Ve {g:SE→Ctl}(i:Nat)(h:SDs X sts g):SDs X sts (sFz i g):=by
  obtain ⟨t,p,r⟩:=h
  refine ⟨_,p,fun Fb Hb F H ρ σ E b k=>?_⟩
  obtain ⟨F',a⟩:=b.freeze i
  exact r Fb Hb F' H _ σ E a k
noncomputable def sNo:SE→Ctl:=fun _=>.no
theorem zgl:SD X st sNo:=⟨_,zha,fun _ _ _ _ _ _ _ _ h=>h.elim⟩
noncomputable def zO (f:Ev→Option D):SE→Ctl:=fun ρ=>match f (visG ρ) with
  | some d=>.rt d
  | none=>.no
theorem yg {f:Ev→Option D}(h:ED X e f):SD X (.Return (some e) pos) (zO f):=by
  obtain ⟨t,p,r⟩:=h
  refine ⟨_,Vf p,fun Fb Hb F H ρ σ E a k=>?_⟩
  unfold zO at k
  cases h:f (visG ρ) with
  | none=>rw [h] at k;exact k.elim
  | some d =>
    rw [h] at k
    exact r σ _ _ H d _ a.gh a.visG h fun F' H' v g b=>k F' H' v (a.out g) b
noncomputable def zmo:SE→Ctl:=fun _=>.rt .non
noncomputable def vEv (m:Bool)(f:Ev→Option D)(ρ:SE):Option D:=if m=true then (f (visG ρ)).bind fun d=>if noL d=true then some d else none else f (visF ρ)
theorem RE.at {Fb Hb F H:Hp}{ρ:SE}{σ:St}{m:Bool}{f:Ev→Option D}{t:TE}{d:D}{Q:VK}(r:RE t f)(a:Rl Fb Hb F H ρ σ)(h:vEv m f ρ=some d)(q:∀ F' H' v,Gr F H F' H'→At F' d v→Q v H'):t σ H Q:=by
  unfold vEv at h
  cases m with
  | false =>
    rw [if_neg Bool.false_ne_true] at h
    exact r σ _ _ H d _ a.gr.fh a.visF h q
  | true =>
    rw [if_pos rfl] at h
    obtain ⟨l,e,b⟩:=Option.bind_eq_some_iff.mp h
    split at b <;> cases b
    rename_i j
    refine r σ _ _ H d _ a.gh a.visG e fun F' H' v g c=>?_
    obtain ⟨i,k⟩:=a.back g
    exact q _ H' v i (c.flat k j)
noncomputable def yu (m:Bool)(i:Nat)(f:Ev→Option D):SE→Ctl:=fun ρ=>match vEv m f ρ with
  | some d=>.nx (ρ.set i (.v d))
  | none=>.no
theorem vf {m:Bool}{i:Nat}{x:Str}{f:Ev→Option D}(n:X.N.Nodup)(j:X.N[i]?=some x)(c:Loc X.env.scope x)(o:ED X e f)(q:swapsWith e (some (.Name x pos')) pos.line X.env=pure false:=by rfl)
    (l:X.fn x=true∨X.env.scope.names.lookup x=some .local:=by first | exact .inl rfl | exact .inr rfl | assumption):SD X (.Assign [.Name x pos'] e pos) (yu m i f):=by
  obtain ⟨t,p,r⟩:=o
  refine ⟨_,Yk n j c p q l,fun Fb Hb F H ρ σ E a k=>?_⟩
  unfold yu at k
  cases h:vEv m f ρ with
  | none=>rw [h] at k;exact k.elim
  | some d =>
    rw [h] at k
    exact r.at a h fun F' H' v g b=>k F' H' _ ((a.grow g).set b)
noncomputable def yH (f:Ev→Option D):SE→Ctl:=fun ρ=>match f (visG ρ) with
  | some _=>.nx ρ
  | none=>.no
theorem zU {f:Ev→Option D}(b:ED X e f)(c:swapsWith e none pos.line X.env=pure false:=by rfl):SD X (.Expr e pos) (yH f):=by
  obtain ⟨t,p,r⟩:=b
  refine ⟨_,Vy p c,fun Fb Hb F H ρ σ E a k=>?_⟩
  unfold yH at k
  cases h:f (visG ρ) with
  | none=>rw [h] at k;exact k.elim
  | some d =>
    rw [h] at k
    exact r σ _ _ H d _ a.gh a.visG h fun F' H' v g i=>k _ H' σ (a.grow (a.back g).1)
noncomputable def zao (i:Nat)(f:Ev→Option (List D)):SE→Ctl:=fun ρ=>match f (visF ρ) with
  | some a=>.nx (ρ.set i (.o a))
  | none=>.no
theorem zaN {i:Nat}{x:Str}{f:Ev→Option (List D)}(n:X.N.Nodup)(j:X.N[i]?=some x)(b:Loc X.env.scope x)(s:FL X e f)(u:swapsWith e (some (.Name x pos')) pos.line X.env=pure false:=by rfl)
    (l:X.fn x=true∨X.env.scope.names.lookup x=some .local:=by first | exact .inl rfl | exact .inr rfl | assumption):SD X (.Assign [.Name x pos'] e pos) (zao i f):=by
  obtain ⟨t,p,r⟩:=s
  refine ⟨_,Yk n j b p u l,fun Fb Hb F H ρ σ E a k=>?_⟩
  unfold zao at k
  cases h:f (visF ρ) with
  | none=>rw [h] at k;exact k.elim
  | some o =>
    rw [h] at k
    refine r σ _ _ H o _ a.gr.fh a.visF h fun F' H' q w g d m v b=>?_
    have c:=a.grow g
    exact k F' H' _ (c.setO (a.notbase d) m v b (a.notown d))
noncomputable def sIf (t:Ev→Option Bool)(g h:SE→Ctl):SE→Ctl:=fun ρ=>match t (visG ρ) with
  | some true=>g ρ
  | some false=>h ρ
  | none=>.no
theorem wt {f e:List Stmt}{t:Ev→Option Bool}{g h:SE→Ctl}(p:TD X c t)(r:SDs X f g)(j:SDs X e h):SD X (.If c f e pos) (sIf t g h):=by
  obtain ⟨tc,o,q⟩:=p
  obtain ⟨ta,l,i⟩:=r
  obtain ⟨s,n,m⟩:=j
  refine ⟨_,zgK o l n,fun Fb Hb F H ρ σ E b k=>?_⟩
  unfold sIf at k
  cases h:t (visG ρ) with
  | none=>rw [h] at k;exact k.elim
  | some d =>
    rw [h] at k
    refine q σ _ _ H d _ b.gh b.visG h fun F' H' g=>?_
    have a:=b.grow (b.back g).1
    cases d with
    | true=>rw [if_pos rfl];exact i Fb Hb _ H' ρ σ E a k
    | false=>rw [if_neg Bool.false_ne_true];exact m Fb Hb _ H' ρ σ E a k
noncomputable def vR (t:Ev→Option Bool)(g:SE→Ctl):Nat→SE→Ctl
  | 0,_=>.no
  | n+1,ρ=>match t (visG ρ) with
    | some true=>match g ρ with
      | .nx a=>vR t g n a
      | .ct a=>vR t g n a
      | .bk a=>.nx a
      | .rt d=>.rt d
      | .no=>.no
    | some false=>.nx ρ
    | none=>.no
theorem zcO {j:List Stmt}{t:Ev→Option Bool}{g:SE→Ctl}(n:Nat)(l:PassesOwn (model X.prog X.w) X.A X.env X.xe)(v:TD X c t)(x:SDs X j g):SD X (.While c j [] pos) (vR t g n):=by
  obtain ⟨tc,u,o⟩:=v
  obtain ⟨ta,r,p⟩:=x
  refine ⟨_,zfQ l u r,fun Fb Hb F H ρ σ E a k=>?_⟩
  refine ⟨fun m σ H=>∃ F ρ,Rl Fb Hb F H ρ σ∧SOk Fb Hb E (vR t g m ρ),⟨n,F,ρ,a,k⟩,?_⟩
  rintro m σ H ⟨F,ρ,a,k⟩
  cases m with
  | zero=>exact k.elim
  | succ m =>
    unfold vR at k
    cases h:t (visG ρ) with
    | none=>rw [h] at k;exact k.elim
    | some d =>
      rw [h] at k
      refine o σ _ _ H d _ a.gh a.visG h fun F' H' s=>?_
      have b:=a.grow (a.back s).1
      cases d with
      | false=>rw [if_neg Bool.false_ne_true];exact k _ H' σ b
      | true =>
        rw [if_pos rfl]
        refine ⟨fun σ H=>∃ F ρ,Rl Fb Hb F H ρ σ∧SOk Fb Hb E (vR t g m ρ),fun y H' w=>⟨m,Nat.lt_succ_self m,w⟩,?_⟩
        refine p Fb Hb _ H' ρ σ _ b ?_
        dsimp only at k
        cases e:g ρ with
        | nx f=>rw [e] at k;exact fun F2 H2 q i=>⟨F2,f,i,k⟩
        | ct f=>rw [e] at k;exact fun F2 H2 q i=>⟨F2,f,i,k⟩
        | bk f=>rw [e] at k;exact k
        | rt d=>rw [e] at k;exact k
        | no=>rw [e] at k;exact k.elim
noncomputable def RG (t:TG)(b:D→SE→Option SE):Prop:=∀ (Fb Hb F H:Hp) (ρ c:SE) (σ:St) (d:D) (v:V) (Q:St→Hp→Prop),Rl Fb Hb F H ρ σ→At F d v→b d ρ=some c→(∀ a,Rl Fb Hb F H c a→Q a H)→t v σ H Q
noncomputable def RGs (t:TGs)(b:List D→SE→Option SE):Prop:=∀ (Fb Hb F H:Hp) (ρ c:SE) (σ:St) (e:List D) (d:List V) (Q:St→Hp→Prop),Rl Fb Hb F H ρ σ→AtL F e d→b e ρ=some c→(∀ a,Rl Fb Hb F H c a→Q a H)→t d σ H Q
noncomputable def BD (X:Cx)(a:Expr)(b:D→SE→Option SE):Prop:=∃ t,PG X a t∧RG t b
noncomputable def BDs (X:Cx)(a:List Expr)(b:List D→SE→Option SE):Prop:=∃ t,PGs X a t∧RGs t b
noncomputable def yG (i:Nat):D→SE→Option SE:=fun d ρ=>some (ρ.set i (.v d))
theorem vP {i:Nat}(h:PG X a (Yb i)):BD X a (yG i):=by
  refine ⟨_,h,fun Fb Hb F H ρ f σ d v Q c b e q=>?_⟩
  cases e
  exact q _ (c.set b)
noncomputable def zi1:List D→SE→Option SE
  | [],ρ=>some ρ
  | _,_=>none
noncomputable def Xj (b:D→SE→Option SE)(c:List D→SE→Option SE):List D→SE→Option SE
  | d::ds,ρ=>(b d ρ).bind (c ds)
  | [],_=>none
theorem zfJ:BDs X [] zi1:=by
  refine ⟨_,zb0,fun Fb Hb F H ρ d σ c f Q b a e q=>?_⟩
  cases c with
  | nil=>cases e;exact ⟨a.nil_inv,q _ b⟩
  | cons _ _=>cases e
theorem zad {a:List Expr}{b:D→SE→Option SE}{c:List D→SE→Option SE}(n:BD X e b)(o:BDs X a c)
    (z:(assignEach (e::a) X.env).map (·.2)=assign e X.env::(assignEach a X.env).map (·.2):=by rfl):BDs X (e::a) (Xj b c):=by
  obtain ⟨t,p,r⟩:=n
  obtain ⟨u,l,A⟩:=o
  refine ⟨_,Y6 p l z,fun Fb Hb F H ρ B σ g C Q v j e q=>?_⟩
  cases g with
  | nil=>cases e
  | cons d g =>
    obtain ⟨x,i,rfl,y,w⟩:=j.cons_inv
    obtain ⟨h,m,k⟩:=Option.bind_eq_some_iff.mp e
    exact ⟨x,i,rfl,r Fb Hb F H ρ h σ d x _ v y m fun s f=>A Fb Hb F H h B s g i Q f w k q⟩
noncomputable def zhw (n:Nat)(c:List D→SE→Option SE):D→SE→Option SE
  | .tup ds,ρ=>if ds.length=n then c ds ρ else none
  | _,_=>none
theorem zh5 {b:List Expr}{k:Nat}{n:Nat}{c:List D→SE→Option SE}(o:X.calm=true)(h:BDs X b c)
    (s:(assignEach b X.env).length=n:=by rfl) (f:(assignEach b X.env).findIdx? (·.1)=none:=by rfl):BD X (.Tuple b k pos) (zhw n c):=by
  obtain ⟨t,p,r⟩:=h
  refine ⟨_,zfx o p s f,fun Fb Hb F H ρ x σ d v Q i l e q=>?_⟩
  cases d with
  | tup w =>
    unfold zhw at e
    dsimp only at e
    split at e
    · rename_i u
      obtain ⟨a,g,rfl,m,j⟩:=l.tup_inv
      exact ⟨a,g,rfl,SqT.of (i.gr.fh _ _ m),by rw [j.length];exact u,r Fb Hb F H ρ x σ w g Q i j e q⟩
    · cases e
  | _=>cases e
noncomputable def sAsg (m:Bool)(f:Ev→Option D)(b:D→SE→Option SE):SE→Ctl:=fun ρ=>match (vEv m f ρ).bind fun d=>b d ρ with
  | some a=>.nx a
  | none=>.no
noncomputable def zeC (m:Bool)(i:Nat)(a b:Ev→Option D):SE→Ctl:=fun ρ=>match (vEv m b ρ).bind fun d=>(a (visG ρ)).bind fun k=>match ρ[i]?,k with
    | some (.o ds),.int k=>(ixN ds.length k).map fun j=>ρ.set i (.o (ds.set j d))
    | _,_=>none with
  | some c=>.nx c
  | none=>.no
theorem zjV {m:Bool}{i:Nat}{f:Expr}{y z:Ev→Option D}(P:ED X e z)(S:PE X a (zaD i))(G:ED X f y)(l:swapsWithSole [.Subscript a f pos'] e pos.line X.env=pure false:=by rfl)(hw:swappedStores [.Subscript a f pos'] e X.env=pure none:=by rfl)
    (L:(assignEach [.Subscript a f pos'] X.env).map (·.2)=[assign (.Subscript a f pos') X.env]:=by rfl)
    (T:∀ v,assign (.Subscript a f pos') X.env v=(do
      let ov←holding [v] (eval a X.env)
      let iv←holding [v,ov] (eval f X.env)
      standAt pos'
      holding [v,ov,iv] (setItem ov iv v)
      release [v,ov,iv] []):=by intro _;rfl):SD X (.Assign [.Subscript a f pos'] e pos) (zeC m i y z):=by
  obtain ⟨t,p,r⟩:=P
  obtain ⟨tk,R,J⟩:=G
  refine ⟨_,zlG p (zks S R zgR T) l hw L,fun Fb Hb F H ρ σ E A k=>?_⟩
  unfold zeC at k
  cases h:(vEv m z ρ).bind fun d=>(y (visG ρ)).bind fun k=>match ρ[i]?,k with
    | some (.o u),.int k=>(ixN u.length k).map fun j=>ρ.set i (.o (u.set j d))
    | _,_=>none with
  | none=>rw [h] at k;exact k.elim
  | some Z =>
    rw [h] at k
    obtain ⟨d,K,c⟩:=Option.bind_eq_some_iff.mp h
    obtain ⟨Q,C,c⟩:=Option.bind_eq_some_iff.mp c
    cases l:ρ[i]? with
    | none=>rw [l] at c;cases c
    | some U =>
      rw [l] at c
      cases U with
      | no=>cases c
      | v _=>cases c
      | m _ _ _=>cases c
      | o u =>
        cases Q with
        | int O =>
          obtain ⟨j,M,rfl⟩:=Option.map_eq_some_iff.mp c
          refine r.at A K fun F' H' v g I=>?_
          have b:=A.grow g
          obtain ⟨q,V,f1,_⟩:=b.owns i u l
          refine ⟨_,f1,?_⟩
          refine J σ _ _ H' _ _ b.gh b.visG C fun F3 H3 W N x=>?_
          obtain ⟨B,_⟩:=b.back N
          have s:=b.grow B
          obtain ⟨Y,w,n,_,_,f4,f5⟩:=s.owns i u l
          rw [f1] at n
          cases n
          refine ⟨q,w,O,j,rfl,x.int_inv,f4,by rw [f5.length];exact M,?_⟩
          exact k _ _ σ (s.mutate l f1 (f5.set j (I.mono B.ff)))
        | _=>cases c
end
end Dl
namespace L2
open PySem PySem.Spec PyProof.Rows
section
variable {X:Cx}{tg:Expr}
noncomputable def iSeq (K:PySem.W.Frag)(tl:TE):TI:=fun σ H R=>tl σ H fun x H1=>(∃ a,x=.ref a∧(∃ b,SqL K H1 a b)∧R (Itl K a) H1)∨(∃ a,x=.ref a∧(∃ b,SqT K H1 a b)∧R (Itt K a) H1)
theorem zlD {l:Expr}{tl:TE}(j:PE X l tl):PI X tg l (iSeq X.K tl):=by
  intro f s σ H R I h
  refine thn (j f s σ H _ I h) fun v c hh9=>?_
  obtain ⟨x,H1,I1,i,m⟩:=hh9
  rcases m with ⟨a,e,⟨n,hq⟩,q⟩ | ⟨a,e,⟨n,hq⟩,q⟩
  · subst e
    cases i
    obtain ⟨d,k,p,r⟩:=I1.list hq
    refine wpAny_pyIter_list p.isList ?_
    refine ⟨c.heap.objs.size,[c.heap.objs.size],_,_,H1,rfl,I1.kept (t':=c.toks) fun b o e=>Heap.get?_push_of_some _ e,zd7 a _,⟨_,Heap.get?_push_size _ rfl,rfl,rfl⟩,fun b g=>?_,q⟩
    have e:b=c.heap.objs.size:=by simpa using g
    subst e
    exact I1.fpOk (Nat.le_refl _) (I1.hok.fresh (Nat.le_refl _))
  · subst e
    cases i
    obtain ⟨d,k,p,r⟩:=I1.tuple hq
    refine wpAny_pyIter_tuple (show c.heap.IsTuple a d.toArray from p) ?_
    refine ⟨c.heap.objs.size,[c.heap.objs.size],_,_,H1,rfl,I1.kept (t':=c.toks) fun b o e=>Heap.get?_push_of_some _ e,zda a _,⟨_,Heap.get?_push_size _ rfl,rfl,rfl⟩,fun b g=>?_,q⟩
    have e:b=c.heap.objs.size:=by simpa using g
    subst e
    exact I1.fpOk (Nat.le_refl _) (I1.hok.fresh (Nat.le_refl _))
end
end L2
namespace Dl
open PySem L2
variable [KK]
noncomputable def ziD (J:It)(F:Hp)(a:List D):Prop:=∀ (i:Nat) (F2 H2:Hp),zX F F2→zX F2 H2→(i=a.length→J.stop i H2) ∧
  ∀ d,a[i]?=some d→J.go i H2∧∀ x H3,J.yld i H2 x H3→∃ F3,Gr F2 H2 F3 H3∧At F3 d x
noncomputable def RI (b:TI)(f:Ev→Option (List D)):Prop :=
  ∀ (σ:St) (ρ:Ev) (F H:Hp) (a:List D) (R:It→Hp→Prop),zX F H→VAt F ρ σ→f ρ=some a→(∀ F' H' J,Gr F H F' H'→ziD J F' a→R J H')→b σ H R
noncomputable def ID (X:Cx)(c a:Expr)(f:Ev→Option (List D)):Prop:=∃ b,PI X c a b∧RI b f
noncomputable def WM:D→Option (List D)
  | .lst a=>some a
  | .tup a=>some a
  | _=>none
section
variable {X:Cx}{tg a b c e:Expr}{pos:Pos}
theorem zlL {K:PySem.W.Frag}{F:Hp}{p:Addr}{a:List V}{f:List D}(h:F p=some (.lst a))(j:AtL F f a):ziD (Itl K p) F f:=by
  intro i F2 H2 c e
  have q:SqL K H2 p a:=SqL.of (e _ _ (c _ _ h))
  refine ⟨fun k=>⟨a,q,by rw [j.length,k];exact Nat.le_refl _⟩,fun d m=>?_⟩
  obtain ⟨x,g,l⟩:=j.get m
  refine ⟨⟨a,x,q,g⟩,fun y H3 b=>?_⟩
  obtain ⟨rfl,b⟩:=b
  have:=b a q
  rw [g] at this
  cases this
  exact ⟨F2,.refl e,l.mono c⟩
theorem zk6 {K:PySem.W.Frag}{F:Hp}{p:Addr}{a:List V}{f:List D}(h:F p=some (.tup a))(j:AtL F f a):ziD (Itt K p) F f:=by
  intro i F2 H2 c e
  have q:SqT K H2 p a:=SqT.of (e _ _ (c _ _ h))
  refine ⟨fun k=>⟨a,q,by rw [j.length,k];exact Nat.le_refl _⟩,fun d m=>?_⟩
  obtain ⟨x,g,l⟩:=j.get m
  refine ⟨⟨a,x,q,g⟩,fun y H3 b=>?_⟩
  obtain ⟨rfl,b⟩:=b
  have:=b a q
  rw [g] at this
  cases this
  exact ⟨F2,.refl e,l.mono c⟩
noncomputable def iOf (f:Ev→Option D):Ev→Option (List D):=fun ρ=>(f ρ).bind WM
theorem ZZ {f:Ev→Option D}(m:ED X a f):ID X tg a (iOf f):=by
  obtain ⟨t,p,r⟩:=m
  refine ⟨_,zlD p,fun σ ρ F H n R s k e q=>?_⟩
  obtain ⟨d,l,j⟩:=Option.bind_eq_some_iff.mp e
  refine r σ ρ F H d _ s k l fun F1 H1 v c i=>?_
  cases d <;> try cases j
  · obtain ⟨p,h,rfl,b,g⟩:=i.tup_inv
    exact .inr ⟨p,rfl,⟨h,SqT.of (c.fh _ _ b)⟩,q F1 H1 _ c (zk6 b g)⟩
  · obtain ⟨p,h,rfl,b,g⟩:=i.lst_inv
    exact .inl ⟨p,rfl,⟨h,SqL.of (c.fh _ _ b)⟩,q F1 H1 _ c (zlL b g)⟩
noncomputable def zjL (a:Int)(n:Nat):List D:=(List.range n).map fun k:Nat=>.int (a+k)
theorem zhK {F:Hp}(c:Int)(n:Nat):ziD (Itr c n) F (zjL c n):=by
  intro i F2 H2 j g
  have a:(zjL c n).length=n:=by unfold zjL;simp
  refine ⟨fun e=>by rw [a] at e;rw [e];exact Nat.le_refl _,fun d b=>?_⟩
  have f:i < n:=by
    have:=(List.getElem?_eq_some_iff.mp b).1
    omega
  refine ⟨f,fun y H3 h=>?_⟩
  obtain ⟨rfl,rfl⟩:=h
  refine ⟨F2,.refl g,?_⟩
  unfold zjL at b
  rw [List.getElem?_map,List.getElem?_range f] at b
  cases b
  exact .int
@[irreducible] noncomputable def zk1 (j:Int):Bool:=decide (-(2 ^ 62)≤j∧j < 2 ^ 62)
omit [KK] in
theorem Xn {j:Int}:zk1 j=true↔-(2 ^ 62)≤j∧j < 2 ^ 62:=by unfold zk1;exact decide_eq_true_iff
noncomputable def WT:List D→Option (List D)
  | [.int j]=>if zk1 j=true then some (zjL 0 j.toNat) else none
  | _=>none
noncomputable def rng2:List D→Option (List D)
  | [.int i,.int j]=>if zk1 i=true∧zk1 j=true then some (zjL i (j - i).toNat) else none
  | _=>none
noncomputable def zhq (g:List D→Option (List D))(f:Ev→Option (List D)):Ev→Option (List D):=fun ρ=>(f ρ).bind g
theorem Wo {p:Pos} {f:Ev→Option (List D)} (w:Gl X "range") (h:X.mg "range"=none) (n:AD X [a] f) (j:starEach [a] X.env=[(false,eval a X.env)]:=by rfl):ID X tg (.Call (.Name "range" p) [a] [] pos) (zhq WT f):=by
  obtain ⟨t,l,r⟩:=n
  refine ⟨_,zaq w h l j,fun σ ρ F H z R s g e q=>?_⟩
  obtain ⟨d,m,b⟩:=Option.bind_eq_some_iff.mp e
  refine r σ ρ F H d _ s g m fun F1 H1 v i k=>?_
  unfold WT at b
  split at b
  · split at b
    · cases b
      rename_i c
      obtain ⟨x,y,rfl,o,u⟩:=k.cons_inv
      cases u.nil_inv
      exact ⟨_,by rw [o.int_inv],(Xn.mp c).1,(Xn.mp c).2,q F1 H1 _ i (zhK 0 _)⟩
    · cases b
  · cases b
noncomputable def zai (n:Nat):List D→List D
  | []=>[]
  | d::ds=>.tup [.int n,d]::zai (n+1) ds
omit [KK] in
theorem za6 (a:List D):∀ (n i:Nat),(zai n a)[i]?=(a[i]?).map fun d=>.tup [.int ((n+i:Nat):Int),d]:=by
  induction a with
  | nil=>intro n i;simp [zai]
  | cons d a b =>
    intro n i
    cases i with
    | zero=>simp [zai]
    | succ i =>
      show (zai (n+1) a)[i]?=(a[i]?).map _
      rw [b]
      have:n+1+i=n+(i+1):=by omega
      rw [this]
omit [KK] in
theorem ZR (a:List D):∀ n,(zai n a).length=a.length:=by
  induction a with
  | nil=>intro n;rfl
  | cons d a b=>intro n;simp [zai,b]
noncomputable def W1 (f:Ev→Option (List D)):Ev→Option (List D):=fun ρ=>(f ρ).bind fun a=>match a with
  | [d]=>(WM d).map (zai 0)
  | _=>none
theorem zeV {G:List Expr} {k:Nat} {Q p:Pos} {f:Ev→Option (List D)} (W:Gl X "enumerate") (K:X.mg "enumerate"=none) (L:bootBuiltins "enumerate"=some (.type "enumerate")) (V:AD X [a] f)
    (U:starEach [a] X.env=[(false,eval a X.env)]:=by rfl):ID X (.Tuple G k Q) (.Call (.Name "enumerate" p) [a] [] pos) (W1 f):=by
  obtain ⟨t,M,r⟩:=V
  refine ⟨_,zid W K L M U,fun σ ρ F H ds R s J e q=>?_⟩
  obtain ⟨Y,O,B⟩:=Option.bind_eq_some_iff.mp e
  refine r σ ρ F H Y _ s J O fun F1 H1 v A S=>?_
  split at B
  · obtain ⟨x,Z,rfl,l,P⟩:=S.cons_inv
    cases P.nil_inv
    obtain ⟨G,I,rfl⟩:=Option.map_eq_some_iff.mp B
    rename_i d
    cases d <;> try cases I
    · obtain ⟨p,c,rfl,o,z⟩:=l.tup_inv
      refine ⟨p,rfl,.inr ⟨c,SqT.of (A.fh _ _ o),q F1 H1 _ A fun i F2 H2 m n=>?_⟩⟩
      have g:SqT X.K H2 p c:=SqT.of (n _ _ (m _ _ o))
      refine ⟨fun E=>⟨c,g,by rw [z.length,E,ZR];exact Nat.le_refl _⟩,fun d u=>?_⟩
      rw [za6] at u
      obtain ⟨N,j,rfl⟩:=Option.map_eq_some_iff.mp u
      obtain ⟨x,b,l⟩:=z.get j
      refine ⟨⟨c,x,g,b⟩,fun y H3 h=>?_⟩
      obtain ⟨T,y,rfl,C,rfl,h⟩:=h
      have:=h c g
      rw [b] at this
      cases this
      have w:=Gr.alloc n C (.tup [.int i,x])
      exact ⟨_,w,.tup zo (.cons (by rw [Nat.zero_add];exact .int) (.cons (l.mono (m.trans w.ff)) .nil))⟩
    · obtain ⟨p,c,rfl,o,z⟩:=l.lst_inv
      refine ⟨p,rfl,.inl ⟨c,A.fh _ _ o,q F1 H1 _ A fun i F2 H2 m n=>?_⟩⟩
      have g:SqL X.K H2 p c:=SqL.of (n _ _ (m _ _ o))
      refine ⟨fun E=>⟨c,g,by rw [z.length,E,ZR];exact Nat.le_refl _⟩,fun d u=>?_⟩
      rw [za6] at u
      obtain ⟨N,j,rfl⟩:=Option.map_eq_some_iff.mp u
      obtain ⟨x,b,l⟩:=z.get j
      refine ⟨⟨c,x,g,b⟩,fun y H3 h=>?_⟩
      obtain ⟨T,y,rfl,C,rfl,h⟩:=h
      have:=h c g
      rw [b] at this
      cases this
      have w:=Gr.alloc n C (.tup [.int i,x])
      exact ⟨_,w,.tup zo (.cons (by rw [Nat.zero_add];exact .int) (.cons (l.mono (m.trans w.ff)) .nil))⟩
  · cases B
noncomputable def hb2 (F1 Hb:Hp):Hp:=fun p=>match F1 p with
  | some o=>some o
  | none=>Hb p
theorem Xv {F1 Hb:Hp}{p:Addr}(h:F1 p=none):hb2 F1 Hb p=Hb p:=by unfold hb2;rw [h]
theorem zfT {F1 Hb:Hp}{p:Addr}{o:HO}(h:F1 p=some o):hb2 F1 Hb p=some o:=by unfold hb2;rw [h]
theorem Gr.up {Fb Hb F1 H1 F H:Hp}(c:Gr Fb Hb F1 H1)(g:Gr F1 (hb2 F1 Hb) F H):Gr Fb Hb F H:=by
  refine ⟨c.ff.trans g.ff,g.fh,fun p o e a=>?_⟩
  rcases (c.kp p o e a).1 with n | ⟨d,b⟩
  · exact g.kp p o n (by rw [Xv n];exact a)
  · exact ⟨.inr ⟨d,g.ff _ _ b⟩,g.fh _ _ (g.ff _ _ b)⟩
theorem Gr.dn {Fb Hb F1 F H:Hp}(g:Gr Fb Hb F H)(c:zX Fb F1)(s:zX F1 F):Gr F1 (hb2 F1 Hb) F H:=by
  refine ⟨s,g.fh,fun p o b a=>?_⟩
  rw [Xv b] at a
  exact g.kp p o (c.free b) a
theorem Rl.up {Fb Hb F1 H1 F H:Hp}{ρ:SE}{σ:St}(c:Gr Fb Hb F1 H1)(r:Rl F1 (hb2 F1 Hb) F H ρ σ):Rl Fb Hb F H ρ σ:=by
  refine ⟨c.up r.gr,r.vals,fun i s e f=>?_,r.dis,r.len⟩
  obtain ⟨p,o,d,a,b⟩:=r.ows i s e f
  refine ⟨p,o,d,?_,b⟩
  cases h:F1 p with
  | none=>rw [Xv h] at a;exact a
  | some o=>rw [zfT h] at a;cases a
theorem Rl.dn {Fb Hb F1 F H:Hp}{ρ:SE}{σ:St}(r:Rl Fb Hb F H ρ σ)(b:zX Fb F1)(s:zX F1 F):Rl F1 (hb2 F1 Hb) F H ρ σ:=by
  refine ⟨r.gr.dn b s,r.vals,fun i t e f=>?_,r.dis,r.len⟩
  obtain ⟨p,o,d,c,a,g⟩:=r.ows i t e f
  refine ⟨p,o,d,?_,a,g⟩
  rw [Xv (s.free a)]
  exact c
noncomputable def zeX (b:D→SE→Option SE)(g:SE→Ctl):List D→SE→Ctl
  | [],ρ=>.nx ρ
  | d::ds,ρ=>match b d ρ with
    | none=>.no
    | some c=>match g c with
      | .nx a=>zeX b g ds a
      | .ct a=>zeX b g ds a
      | .bk a=>.nx a
      | .rt d=>.rt d
      | .no=>.no
noncomputable def WE (f:Ev→Option (List D))(b:D→SE→Option SE)(g:SE→Ctl):SE→Ctl:=fun ρ=>match f (visF ρ) with
  | some a=>zeX b g a ρ
  | none=>.no
theorem zh3 {Fb Hb F1 H1:Hp}{ρ:SE}{σ:St}{E:zaB}{J:It}{g:TG}{B:TS}{a:List D}{b:D→SE→Option SE}{l:SE→Ctl}(p:ziD J F1 a)(U:RG g b)(O:RS B l)(c:Rl Fb Hb F1 H1 ρ σ)(k:SOk Fb Hb E (zeX b l a ρ)) :
    ∃ W:Nat→Nat→St→Hp→Prop,(∃ m,W 0 m σ H1)∧∀ i m σ H,W i m σ H →
      (J.stop i H∧E.nx σ H)∨(J.go i H∧∃ N:St→Hp→Prop,(∀ z H',N z H'→∃ G,G < m∧W (i+1) G z H')∧∀ x H',J.yld i H x H'→g x σ H' fun s H2=>B { E with nx:=N,ct:=N,bk:=E.nx } s H2):=by
  refine ⟨fun i m σ H=>m=a.length - i∧i≤a.length∧∃ F ρ,zX F1 F∧Rl Fb Hb F H ρ σ∧SOk Fb Hb E (zeX b l (a.drop i) ρ),⟨a.length,by simp,Nat.zero_le _,F1,ρ,zX.refl _,c,k⟩,?_⟩
  rintro i m σ H ⟨rfl,V,F,ρ,A,y,k⟩
  obtain ⟨j,Q⟩:=p i F H A y.gr.fh
  by_cases f:i < a.length
  · have K:a.drop i=a[i]::a.drop (i+1):=List.drop_eq_getElem_cons f
    rw [K] at k
    unfold zeX at k
    obtain ⟨M,I⟩:=Q a[i] (by simp [f])
    refine .inr ⟨M,fun σ H=>∃ F ρ,zX F1 F∧Rl Fb Hb F H ρ σ∧SOk Fb Hb E (zeX b l (a.drop (i+1)) ρ),fun z H' w=>⟨a.length - (i+1),by omega,rfl,f,w⟩,fun x H' L=>?_⟩
    obtain ⟨F3,C,R⟩:=I x H' L
    cases t:b a[i] ρ with
    | none=>rw [t] at k;exact k.elim
    | some r =>
      rw [t] at k
      dsimp only at k
      refine U Fb Hb F3 H' ρ r σ _ x _ (y.grow C) R t fun s u=>?_
      have P:=A.trans C.ff
      refine O F1 (hb2 F1 Hb) F3 H' r s _ (u.dn c.gr.ff P) ?_
      cases n:l r with
      | nx o=>rw [n] at k;exact fun F4 H4 q h=>⟨F4,o,h.gr.ff,h.up c.gr,k⟩
      | ct o=>rw [n] at k;exact fun F4 H4 q h=>⟨F4,o,h.gr.ff,h.up c.gr,k⟩
      | bk o=>rw [n] at k;exact fun F4 H4 q h=>k F4 H4 q (h.up c.gr)
      | rt d=>rw [n] at k;exact fun F4 H4 v T S=>k F4 H4 v (c.gr.up T) S
      | no=>rw [n] at k;exact k.elim
  · have e:i=a.length:=by omega
    subst e
    rw [List.drop_length] at k
    exact .inl ⟨j rfl,k F H σ y⟩
theorem zap {a:Expr}{body:List Stmt}{f:Ev→Option (List D)}{b:D→SE→Option SE}{g:SE→Ctl}(r:PassesOwn (model X.prog X.w) X.A X.env X.xe)(n:X.calm=true)(i:ID X tg a f)(u:BD X tg b)(e:SDs X body g)
    (t:∀ x,foldedSetIterable a X.env x=pure x:=by intro _;rfl):SD X (.For tg a body [] pos) (WE f b g):=by
  obtain ⟨y,o,p⟩:=i
  obtain ⟨q,j,v⟩:=u
  obtain ⟨w,l,m⟩:=e
  refine ⟨_,zh6 r n o j l t,fun Fb Hb F H ρ σ E c k=>?_⟩
  unfold WE at k
  cases h:f (visF ρ) with
  | none=>rw [h] at k;exact k.elim
  | some s =>
    rw [h] at k
    exact p σ _ _ H s _ c.gr.fh c.visF h fun F1 H1 J d ok=>zh3 ok v m (c.grow d) k
end
noncomputable def lcD (b:D→Option (List (Option D)))(t:Ev→Option Bool)(f:Ev→Option D)(ρ:Ev):List D→Option (List D)
  | []=>some []
  | d::ds=>(b d).bind fun own=>(t (own++ρ)).bind fun c=>if c=true then (f (own++ρ)).bind fun y=>(lcD b t f ρ ds).map (y::·) else lcD b t f ρ ds
noncomputable def fLC (i:Ev→Option (List D))(b:D→Option (List (Option D)))(t:Ev→Option Bool)(f:Ev→Option D):Ev→Option (List D):=fun ρ=>(i ρ).bind fun a=>if lim a.length=true then lcD b t f ρ a else none
noncomputable def b1:D→Option (List (Option D)):=fun d=>some [some d]
noncomputable def b2:D→Option (List (Option D))
  | .tup [x,y]=>some [some x,some y]
  | _=>none
noncomputable def RB (n:Nat)(t:TG)(b:D→Option (List (Option D))):Prop:=∀ (σ:St) (ρ:Ev) (F H:Hp) (d:D) (v:V) (own:List (Option D)) (Q:St→Hp→Prop),zX F H→VAt F ρ σ→At F d v→b d=some own→(∀ a,VAt F (own++ρ) a→Q a H)→t v (List.replicate n none++σ) H Q
noncomputable def xJ:Ev→Option Bool:=fun _=>some true
theorem zhD:RT tYes xJ:=fun _ _ _ _ _ _ s _ e q=>by cases e;exact q _ _ (.refl s)
theorem zeu {wi:TI}{n:Nat}{g:TG}{tt:TT}{te:TE}{fi:Ev→Option (List D)}{b:D→Option (List (Option D))}{W:Ev→Option Bool}{fe:Ev→Option D}(ri:RI wi fi)(rg:RB n g b)(rt:RT tt W)(re:RE te fe) :
    RF (tLC wi n g tt te) (fLC fi b W fe):=by
  intro σ ρ F H N Q s va e q
  obtain ⟨a,e1,L⟩:=Option.bind_eq_some_iff.mp e
  split at L <;> try cases L
  rename_i C
  have C:a.length≤sizeLine:=of_decide_eq_true C
  refine ri σ ρ F H a _ s va e1 fun F1 H1 J B ok=>?_
  intro P G
  have T:F1 P=none:=B.fh.free G
  have a0:H P=none:=by
    cases e:H P with
    | none=>rfl
    | some o =>
      cases L:F P with
      | none=>rw [(B.kp P o L e).2] at G;cases G
      | some u=>rw [B.fh _ _ (B.ff _ _ L)] at G;cases G
  refine ⟨fun i m M H2=>m=a.length - i∧i≤a.length∧∃ F2 done,Gr F1 H1 F2 H2∧Gr F1 (upd H1 P (.lst [])) F2 (upd H2 P (.lst []))∧F2 P=none∧H2 P=some (.lst M)∧AtL F2 done M∧done.length≤i∧∃ d,lcD b W fe ρ (a.drop i)=some d∧done++d=N,⟨a.length,by simp,Nat.zero_le _,F1,[],Gr.hide B.fh G _,?_,T,zo,.nil,Nat.zero_le _,N,L,rfl⟩,?_⟩
  · rw [zbh]
    exact .refl fun b u z=>by rw [zm (zi z T)];exact B.fh b u z
  rintro i m M H2 ⟨rfl,hi,F2,done,w,a1,K,E,V,a2,d,c,f⟩
  obtain ⟨O,go⟩:=ok i F2 H2 w.ff w.fh
  by_cases p:i < a.length
  · have hd:a.drop i=a[i]::a.drop (i+1):=List.drop_eq_getElem_cons p
    rw [hd] at c
    unfold lcD at c
    obtain ⟨own,hb,c⟩:=Option.bind_eq_some_iff.mp c
    obtain ⟨cb,hc,c⟩:=Option.bind_eq_some_iff.mp c
    obtain ⟨k1,k2⟩:=go a[i] (by simp [p])
    refine .inr ⟨k1,by rw [V.length];omega,fun x H3 Y=>?_⟩
    obtain ⟨F3,U,a3⟩:=k2 x H3 Y
    refine rg σ ρ F3 H3 a[i] x own _ U.fh (va.mono (B.ff.trans (w.ff.trans U.ff))) a3 hb fun σ4 S=>?_
    refine rt σ4 _ F3 H3 cb _ U.fh S hc fun F5 H5 g5=>?_
    have k:=U.trans g5
    obtain ⟨X,h5⟩:=k.kl (fun _ e=>by cases e) K E
    have l:∀ {F6 H6:Hp} {o:HO},Gr F2 H2 F6 H6→F6 P=none→Gr F1 (upd H1 P (.lst [])) F6 (upd (upd H6 P o) P (.lst [])):=fun {F6 H6 o} t A=>by
      rw [zbh]
      refine ⟨w.ff.trans t.ff,fun b u z=>?_,fun b u z1 I=>?_⟩
      · rw [zm (zi z A)];exact t.fh b u z
      · by_cases h:b=P
        · subst h
          rw [zo] at I ⊢
          exact ⟨.inl A,I⟩
        · rw [zm h] at I ⊢
          exact (w.trans t).kp b u z1 I
    have j:∀ {F6 H6:Hp} {o:HO},Gr F2 H2 F6 H6→F6 P=none→Gr F1 H1 F6 (upd H6 P o):=fun {F6 H6 o} t A=>by
      refine ⟨w.ff.trans t.ff,fun b u z=>?_,fun b u z1 I=>?_⟩
      · rw [zm (zi z A)];exact t.fh b u z
      · rw [zm (zi I G)]
        exact (w.trans t).kp b u z1 I
    cases cb with
    | false =>
      rw [if_neg Bool.false_ne_true] at c ⊢
      have R:H5=upd H5 P (.lst M):=by
        funext b
        by_cases h:b=P
        · subst h;rw [zo];exact h5
        · rw [zm h]
      refine ⟨a.length - (i+1),by omega,rfl,p,F5,done,?_,?_,X,h5,V.mono k.ff,by omega,d,c,f⟩
      · rw [R];exact j k X
      · have:=l (o:=.lst M) k X
        rw [←R] at this
        exact this
    | true =>
      rw [if_pos rfl] at c ⊢
      obtain ⟨y,Y,c⟩:=Option.bind_eq_some_iff.mp c
      obtain ⟨rest,Z,rfl⟩:=Option.map_eq_some_iff.mp c
      refine re σ4 _ F5 H5 y _ g5.fh (S.mono g5.ff) Y fun F6 H6 v t a6=>?_
      have r:=k.trans t
      obtain ⟨A,h6⟩:=r.kl (fun _ e=>by cases e) K E
      refine ⟨h6,a.length - (i+1),by omega,rfl,p,F6,done++[y],j r A,l r A,A,zo,(V.mono r.ff).snoc a6,by rw [List.length_append];simp;omega,rest,Z,by rw [←f,List.append_assoc];rfl⟩
  · have e:i=a.length:=by omega
    subst e
    rw [List.drop_length] at c
    cases c
    rw [List.append_nil] at f
    subst f
    exact .inl ⟨O rfl,q F2 H2 P M (B.trans w) a0 K E V⟩
theorem rb1:RB 1 (Yb 0) b1:=by
  intro σ ρ F H d v own Q s b a e q
  cases e
  refine q _ fun i c h=>?_
  cases i with
  | zero=>cases h;exact ⟨v,rfl,a⟩
  | succ i=>exact b i c h
theorem rb2 {K:PySem.W.Frag}:RB 2 (zl7 K 2 (zbY (Yb 0) (zbY (Yb 1) zlY))) b2:=by
  intro σ ρ F H d v own Q s f b e q
  unfold b2 at e
  split at e <;> cases e
  obtain ⟨p,l,rfl,j,a⟩:=b.tup_inv
  obtain ⟨x,r,rfl,k,a⟩:=a.cons_inv
  obtain ⟨y,r,rfl,c,a⟩:=a.cons_inv
  cases a.nil_inv
  refine ⟨p,_,rfl,SqT.of (s _ _ j),rfl,x,_,rfl,y,_,rfl,rfl,?_⟩
  refine q _ fun i g h=>?_
  match i,h with
  | 0,h=>cases h;exact ⟨x,rfl,k⟩
  | 1,h=>cases h;exact ⟨y,rfl,c⟩
  | i+2,h=>exact f i g h
noncomputable def tCan (f:Ev→Option D):TE:=fun σ H Q=>∃ ρ F d,zX F H∧VAt F ρ σ∧f ρ=some d∧∀ F' H' v,Gr F H F' H'→At F' d v→Q v H'
noncomputable def zkJ (f:Ev→Option Bool):TT:=fun σ H Q=>∃ ρ F d,zX F H∧VAt F ρ σ∧f ρ=some d∧∀ F' H',Gr F H F' H'→Q d H'
theorem ED.can {X:Cx}{e:Expr}{f:Ev→Option D}(h:ED X e f):PE X e (tCan f):=by
  obtain ⟨t,p,r⟩:=h
  rintro a s σ H Q I ⟨ρ,F,d,b,c,g,i⟩
  exact p a s σ H Q I (r σ ρ F H d Q b c g i)
theorem TD.can {X:Cx}{e:Expr}{f:Ev→Option Bool}(h:TD X e f):PT X e (zkJ f):=by
  obtain ⟨t,p,r⟩:=h
  rintro a s σ H Q I ⟨ρ,F,d,b,c,g,i⟩
  exact p a s σ H Q I (r σ ρ F H d Q b c g i)
theorem Xb {f:Ev→Option D}:RE (tCan f) f:=fun _ ρ F _ d _ a b c e=>⟨ρ,F,d,a,b,c,e⟩
theorem ze3 {f:Ev→Option Bool}:RT (zkJ f) f:=fun _ ρ F _ d _ a b c e=>⟨ρ,F,d,a,b,c,e⟩
theorem zcj {X:Cx}{d j c:Expr}{L M:List Str}{a:Scope}{f:List (Str × Addr)}{h:Pos}{k:Ev→Option (List D)}{b:D→Option (List (Option D))}{m:Ev→Option D}{g:TG}
    (r:X.calm=true) (S:yN X L M a f) (o:ID X j c k)
    (e:∀ (σ:St) (v:V) (H:Hp) (Q:St→Hp→Prop),g v (List.replicate L.length none++σ) H Q→g v (List.replicate L.length none++σ) H (fun l H2=>Ys (List.replicate L.length none++σ) l∧Q l H2))
    (i:RB L.length g b)
    (t:∀ s₀ H₀ ex pn,PG (v7 X L M a f s₀ H₀ ex pn) j g) (p:∀ s₀ H₀ ex pn,ED (v7 X L M a f s₀ H₀ ex pn) d m)
    (q:∀ x,foldedSetIterable c X.env x=pure x:=by intro _;rfl):FL X (.ListComp d [⟨j,c,[],0⟩] a h) (fLC k b xJ m):=by
  obtain ⟨u,s,n⟩:=o
  exact ⟨_,zhI r S s e t (fun _ _ _ _=>zfI) (fun _ _ _ _=>(p _ _ _ _).can) q,zeu n i zhD Xb⟩
theorem zeF {X:Cx}{e k d c:Expr}{L M:List Str}{a:Scope}{f:List (Str × Addr)}{j:Pos}{l:Ev→Option (List D)}{b:D→Option (List (Option D))}{n:Ev→Option Bool}{o:Ev→Option D}{g:TG}
    (q:X.calm=true) (S:yN X L M a f) (p:ID X k d l)
    (h:∀ (σ:St) (v:V) (H:Hp) (Q:St→Hp→Prop),g v (List.replicate L.length none++σ) H Q→g v (List.replicate L.length none++σ) H (fun m H2=>Ys (List.replicate L.length none++σ) m∧Q m H2))
    (i:RB L.length g b)
    (w:∀ s₀ H₀ ex pn,PG (v7 X L M a f s₀ H₀ ex pn) k g) (y:∀ s₀ H₀ ex pn,TD (v7 X L M a f s₀ H₀ ex pn) c n) (t:∀ s₀ H₀ ex pn,ED (v7 X L M a f s₀ H₀ ex pn) e o)
    (u:∀ x,foldedSetIterable d X.env x=pure x:=by intro _;rfl):FL X (.ListComp e [⟨k,d,[c],0⟩] a j) (fLC l b n o):=by
  obtain ⟨z,r,s⟩:=p
  exact ⟨_,zhI q S r h w (fun _ _ _ _=>zbr (y _ _ _ _).can) (fun _ _ _ _=>(t _ _ _ _).can) u,zeu s i ze3 Xb⟩
theorem zj6 {t:TE}{f:Ev→Option (List D)}(r:RF t f):RE t (yp f):=by
  intro σ ρ F H d Q s c e q
  obtain ⟨h,j,rfl⟩:=Option.map_eq_some_iff.mp e
  refine r σ ρ F H h Q s c j fun F' H' p n g l a m i=>?_
  have k:=g.show l a m
  exact q _ _ _ k (At.lst zo (i.mono (fun b u e=>by rw [zm (zi e a)];exact e)))
noncomputable def FLS (X:Cx)(i:Nat)(a:Stmt)(f:Ev→Option (List D)):Prop:=∃ t,PS X a (zjM t (Yb i))∧RF t f
theorem zbX {m:Bool}{i:Nat}{b:Stmt}{f:Ev→Option (List D)}(e:FLS X i b f):SD X b (yu m i (yp f)):=by
  obtain ⟨t,p,r⟩:=e
  refine ⟨_,p,fun Fb Hb F H ρ σ E a k=>?_⟩
  unfold yu at k
  cases h:vEv m (yp f) ρ with
  | none=>rw [h] at k;exact k.elim
  | some d =>
    rw [h] at k
    exact (zj6 r).at a h fun F' H' v g c=>k F' H' _ ((a.grow g).set c)
theorem zbB {i:Nat}{x:Str}{r d:Pos}{X:Cx}{e h c:Expr}{L M:List Str}{a:Scope}{l:List (Str × Addr)}{f:Pos}{o:Ev→Option (List D)}{b:D→Option (List (Option D))}{q:Ev→Option D}{g:TG}
    (w:X.N.Nodup) (n:X.N[i]?=some x) (z:Loc X.env.scope x) (A:X.calm=true) (S:yN X L M a l) (s:ID X h c o)
    (k:∀ (σ:St) (v:V) (H:Hp) (Q:St→Hp→Prop),g v (List.replicate L.length none++σ) H Q→g v (List.replicate L.length none++σ) H (fun p H2=>Ys (List.replicate L.length none++σ) p∧Q p H2))
    (m:RB L.length g b)
    (y:∀ s₀ H₀ ex pn,PG (v7 X L M a l s₀ H₀ ex pn) h g) (C:∀ s₀ H₀ ex pn,ED (v7 X L M a l s₀ H₀ ex pn) e q)
    (E:∀ x,foldedSetIterable c X.env x=pure x:=by intro _;rfl)
    (j:swapsWith (.ListComp e [⟨h,c,[],0⟩] a f) (some (.Name x r)) d.line X.env=pure true:=by rfl)
    (t:X.fn x=true∨X.env.scope.names.lookup x=some .local:=by first | exact .inl rfl | exact .inr rfl | assumption):FLS X i (.Assign [.Name x r] (.ListComp e [⟨h,c,[],0⟩] a f) d) (fLC o b xJ q):=by
  obtain ⟨F,u,B⟩:=s
  exact ⟨_,zhZ w n z A S u k y (fun _ _ _ _=>zfI) (fun _ _ _ _=>(C _ _ _ _).can) E j t,zeu B m zhD Xb⟩
theorem zib {i:Nat}{x:Str}{t e:Pos}{X:Cx}{f k d c:Expr}{L M:List Str}{a:Scope}{j:List (Str × Addr)}{h:Pos}{p:Ev→Option (List D)}{b:D→Option (List (Option D))}{r:Ev→Option Bool}{s:Ev→Option D}{g:TG}
    (B:X.N.Nodup) (o:X.N[i]?=some x) (u:Loc X.env.scope x) (z:X.calm=true) (S:yN X L M a j) (w:ID X k d p)
    (l:∀ (σ:St) (v:V) (H:Hp) (Q:St→Hp→Prop),g v (List.replicate L.length none++σ) H Q→g v (List.replicate L.length none++σ) H (fun q H2=>Ys (List.replicate L.length none++σ) q∧Q q H2))
    (m:RB L.length g b)
    (G:∀ s₀ H₀ ex pn,PG (v7 X L M a j s₀ H₀ ex pn) k g) (I:∀ s₀ H₀ ex pn,TD (v7 X L M a j s₀ H₀ ex pn) c r) (E:∀ s₀ H₀ ex pn,ED (v7 X L M a j s₀ H₀ ex pn) f s)
    (F:∀ x,foldedSetIterable d X.env x=pure x:=by intro _;rfl)
    (n:swapsWith (.ListComp f [⟨k,d,[c],0⟩] a h) (some (.Name x t)) e.line X.env=pure true:=by rfl)
    (y:X.fn x=true∨X.env.scope.names.lookup x=some .local:=by first | exact .inl rfl | exact .inr rfl | assumption):FLS X i (.Assign [.Name x t] (.ListComp f [⟨k,d,[c],0⟩] a h) e) (fLC p b r s):=by
  obtain ⟨J,A,C⟩:=w
  exact ⟨_,zhZ B o u z S A l G (fun _ _ _ _=>zbr (I _ _ _ _).can) (fun _ _ _ _=>(E _ _ _ _).can) F n y,zeu C m ze3 Xb⟩
noncomputable def fnD (n:Nat)(g:SE→Ctl)(a:List D):Option D:=match g (a.map .v++List.replicate (n - a.length) .no) with
  | .rt d=>some d
  | .nx _=>some .non
  | _=>none
noncomputable def spD (m:Nat)(p:List D→Option D):Sp:=fun b H Q _=>∃ a d F,a.length=m∧zX F H∧AtL F a b∧p a=some d∧∀ F' H' v,Gr F H F' H'→At F' d v→Q v H'
theorem zab {F H:Hp}{N:List Str}{b:List D}{l:List V}(s:zX F H)(a:AtL F b l):Rl F H F H (b.map .v++List.replicate (N.length - b.length) .no) (L2.start N l):=by
  have k:=a.length
  have g:∀ (i:Nat) (t:Sl),(b.map Sl.v++List.replicate (N.length - b.length) Sl.no)[i]?=some t→t.isO=true→False:=fun i t h f=>by
    by_cases c:i < b.length
    · rw [List.getElem?_append_left (by simpa using c),List.getElem?_map] at h
      cases e:b[i]? with
      | none=>rw [e] at h;cases h
      | some d=>rw [e] at h;cases h;cases f
    · rw [List.getElem?_append_right (by simpa using c),List.getElem?_replicate] at h
      split at h <;> cases h
      cases f
  refine ⟨.refl s,fun i d h=>?_,fun i t h f=>(g i t h f).elim,fun i j p t u h _ f=>(g i t h f).elim,?_⟩
  · by_cases c:i < b.length
    · rw [List.getElem?_append_left (by simpa using c),List.getElem?_map] at h
      cases e:b[i]? with
      | none=>rw [e] at h;cases h
      | some o =>
        rw [e] at h
        cases h
        obtain ⟨x,m,n⟩:=a.get e
        refine ⟨x,?_,n⟩
        unfold L2.start
        rw [List.getElem?_append_left (by simpa [k] using c),List.getElem?_map,m]
        rfl
    · rw [List.getElem?_append_right (by simpa using c),List.getElem?_replicate] at h
      split at h <;> cases h
  · unfold L2.start
    simp [k]
theorem zI {P:Program}{w:World}{K:PySem.W.Frag}{o:Str→Option Value}{i:Heap}{x b:Str}{j:Stmt}{f:Addr}{n:FuncData}{N ps:List Str}{k:Nat}{g:SE→Ctl}(Fu:Fun K x b j f n)(S:xr N ps (zw j))
    (B:∀ (c:Value) (A:Around) (outer:List Env) (s:Shared) (H:Hp) (E:XK),yL k (A.deeper (PyProof.Rows.envOfC b (zw j) s.heap.objs.size f c))→SDs (wS CX0 P w K o i N b (zw j) f c A outer s H E).nox (yC j) g) :
    zJ P w K o i CX0 (k+1) f n ps (spD ps.length (fnD N.length g)):=by
  refine Fu.ok S (fun D H Q E h=>?_) fun c A outer s H D Q E C h=>?_
  · obtain ⟨m,d,F,u,_,a,_⟩:=h
    rw [a.length];exact u
  · obtain ⟨m,d,F,u,y,a,e,q⟩:=h
    obtain ⟨t,p,r⟩:=B c A outer s H E C
    refine ⟨t,p,r F H F H _ _ _ (zab y a) ?_⟩
    unfold fnD at e
    cases l:g (m.map .v++List.replicate (N.length - m.length) .no) with
    | rt I=>rw [l] at e;cases e;exact fun F' H' v g z=>q F' H' v g z
    | nx ρ=>rw [l] at e;cases e;exact fun F' H' σ G=>q F' H' _ G.gr .non
    | bk ρ=>rw [l] at e;cases e
    | ct ρ=>rw [l] at e;cases e
    | no=>rw [l] at e;cases e
theorem zk0 {P:Program}{w:World}{K:PySem.W.Frag}{g:Str→Option Value}{a:Heap}{f:Addr}{e:FuncData}{ps:List Str}{k m:Nat}{p q:List D→Option D}(F:zJ P w K g a CX0 k f e ps (spD m p))(h:∀ b d,b.length=m→q b=some d→p b=some d):zJ P w K g a CX0 k f e ps (spD m q) :=
  F.imp fun o H Q E ⟨b,d,F',c,j,l,n,i⟩=>⟨b,d,F',c,j,l,h b d c n,i⟩
noncomputable def zh (m:Nat)(p:List D→Option D)(f:Ev→Option (List D)):Ev→Option D:=fun ρ=>(f ρ).bind fun a=>if a.length=m then p a else none
theorem zdN {X:Cx}{x:Str}{k m:Nat}{f:Addr}{o:FuncData}{u:List Str}{p:List D→Option D}{e:Expr}{a:List Expr}{B b:Pos}{l:Ev→Option (List D)}(F:zJ X.prog X.w X.K X.mg X.base CX0 k f o u (spD m p))(L:yL k X.A)(C:Gl X x)(w:X.mg x=some (.ref f))(G:PySem.W.keepIn X.K (.ref f)=true)(K:vH X.K o u [])
    (N:AD X (e::a) l) (i:(x == ("__debug__":Str))=false:=by decide) (M:starEach (e::a) X.env=(false,eval e X.env)::starEach a X.env:=by rfl) (h:(backTo b (starEach a X.env)).any (·.1)=false:=by rfl) :
    ED X (.Call (.Name x B) (e::a) [] b) (zh m p l):=by
  obtain ⟨t,E,r⟩:=N
  refine ⟨_,ze2 F L C w G K .nil zkB E i M h,fun σ ρ F0 H d Q s J e q=>?_⟩
  obtain ⟨j,y,c⟩:=Option.bind_eq_some_iff.mp e
  split at c <;> try cases c
  rename_i z
  refine r σ ρ F0 H j _ s J y fun F1 H1 O n A=>?_
  refine ⟨j,d,F1,z,n.fh,by rw [List.append_nil];exact A,c,fun F' H' v g I=>q F' H' v (n.trans g) I⟩
end Dl
namespace Dl
open PySem L2
variable [KK]
section
variable {X:Cx}{a b c e:Expr}{pos:Pos}
theorem zE:bootBuiltins "isinstance"=some (.builtin "isinstance"):=by decide +kernel
theorem zcL:bootBuiltins "len"=some (.builtin "len"):=by decide +kernel
theorem zht:bootBuiltins "min"=some (.builtin "min"):=by decide +kernel
theorem zhL:bootBuiltins "max"=some (.builtin "max"):=by decide +kernel
theorem Wy:bootBuiltins "sorted"=some (.builtin "sorted"):=by decide +kernel
theorem Wl:bootBuiltins "sum"=some (.builtin "sum"):=by decide +kernel
theorem zlf:bootBuiltins "all"=some (.builtin "all"):=by decide +kernel
theorem zk7:bootBuiltins "any"=some (.builtin "any"):=by decide +kernel
theorem zhW:bootBuiltins "int"=some (.type "int"):=by decide +kernel
theorem zfl:bootBuiltins "bool"=some (.type "bool"):=by decide +kernel
theorem zca:bootBuiltins "tuple"=some (.type "tuple"):=by decide +kernel
theorem zbN:bootBuiltins "list"=some (.type "list"):=by decide +kernel
theorem Z4:bootBuiltins "enumerate"=some (.type "enumerate"):=by decide +kernel
theorem zbe:bootBuiltins "reversed"=some (.type "reversed"):=by decide +kernel
theorem zkr:bootBuiltins "zip"=some (.type "zip"):=by decide +kernel
noncomputable def zi5 (C:Int→Int→Bool)(g:Int→Int→Int):D→D→Option D
  | .int i,.int j=>if C i j=true then some (.int (g i j)) else none
  | _,_=>none
noncomputable def zc2 (g:Int→Int→Int):D→D→Option D
  | .int i,.int j=>some (.int (g i j))
  | _,_=>none
noncomputable def zjO (g:Int→Int→Bool):D→D→Option D
  | .int i,.int j=>some (.bl (g i j))
  | _,_=>none
theorem Xo {C:Int→Int→Prop}{Cb:Int→Int→Bool}{g:Int→Int→Int}(h:∀ i j,Cb i j=true→C i j):OpD (rI C fun i j=>.int (g i j)) (zi5 Cb g):=by
  intro F H x y d e z Q s f b a q
  cases d <;> try cases a
  cases e <;> try cases a
  unfold zi5 at a
  dsimp only at a
  split at a <;> cases a
  rename_i c
  exact ⟨_,_,f.int_inv,b.int_inv,h _ _ c,q F H _ (.refl s) .int⟩
theorem zas {g:Int→Int→Int}:OpD (rI0 fun i j=>.int (g i j)) (zc2 g):=by
  intro F H x y d e z Q s c b a q
  cases d <;> try cases a
  cases e <;> try cases a
  exact ⟨_,_,c.int_inv,b.int_inv,q F H _ (.refl s) .int⟩
theorem zL {g:Int→Int→Bool}:OpD (rI0 fun i j=>.bl (g i j)) (zjO g):=by
  intro F H x y d e z Q s c b a q
  cases d <;> try cases a
  cases e <;> try cases a
  exact ⟨_,_,c.int_inv,b.int_inv,q F H _ (.refl s) .bl⟩
theorem zaO {r c:R2}{g i:D→D→Option D}(h:OpD r g)(k:OpD c i):OpD (fun x y H Q=>r x y H Q∨c x y H Q) (fun d e=>(g d e).or (i d e)):=by
  intro F H x y d e z Q s j f a q
  dsimp only at a
  cases b:g d e with
  | some l=>rw [b] at a;cases a;exact .inl (h F H x y d e z Q s j f b q)
  | none=>rw [b] at a;exact .inr (k F H x y d e z Q s j f a q)
noncomputable def zkN:D→D→Option D
  | .tup a,.tup b=>if lim (a.length+b.length)=true then some (.tup (a++b)) else none
  | _,_=>none
noncomputable def zlM:D→D→Option (List D)
  | .lst a,.lst b=>if lim (a.length+b.length)=true then some (a++b) else none
  | _,_=>none
noncomputable def zfu (d e:D):Option D:=(zlM d e).map .lst
noncomputable def zkA:D→D→Option D
  | .str a,.str b=>if lim (a.length+b.length)=true then some (.str (a++b)) else none
  | _,_=>none
theorem zgf {K:PySem.W.Frag}:OpD (zh2 K) zkN:=by
  intro F H x y d e z Q s o l a q
  cases d <;> try cases a
  cases e <;> try cases a
  unfold zkN at a
  dsimp only at a
  split at a <;> cases a
  rename_i j
  obtain ⟨p,h,rfl,c,b⟩:=o.tup_inv
  obtain ⟨m,i,rfl,f,bl⟩:=l.tup_inv
  refine ⟨p,m,h,i,rfl,rfl,SqT.of (s _ _ c),SqT.of (s _ _ f),by rw [b.length,bl.length];exact of_decide_eq_true j,fun n=>?_,fun _ k=>?_,fun _ _ r t=>?_⟩
  · subst n
    have:(_:List D)=[]:=List.length_eq_zero_iff.mp b.length.symm
    subst this
    exact q F H _ (.refl s) (.tup f bl)
  · subst k
    have:(_:List D)=[]:=List.length_eq_zero_iff.mp bl.length.symm
    subst this
    rw [List.append_nil] at q
    exact q F H _ (.refl s) (.tup c b)
  · have g:=Gr.alloc s t (.tup (h++i))
    exact q _ _ _ g (.tup zo ((b.append bl).mono g.ff))
theorem zf6:OpD zmF zfu:=by
  intro F H x y d e z Q s m i a q
  cases d <;> try cases a
  cases e <;> try cases a
  unfold zfu zlM at a
  dsimp only at a
  split at a <;> cases a
  rename_i h
  obtain ⟨p,c,rfl,k,b⟩:=m.lst_inv
  obtain ⟨j,f,rfl,l,bl⟩:=i.lst_inv
  refine ⟨p,j,c,f,rfl,rfl,s _ _ k,s _ _ l,by rw [b.length,bl.length];exact of_decide_eq_true h,fun r n=>?_⟩
  have g:=Gr.alloc s n (.lst (c++f))
  exact q _ _ _ g (.lst zo ((b.append bl).mono g.ff))
theorem zgu:OpD (fun x y H Q=>∃ i j,x=.str i∧y=.str j∧i.length+j.length≤sizeLine∧Q (.str (i++j)) H) zkA:=by
  intro F H x y d e z Q s f c a q
  cases d <;> try cases a
  cases e <;> try cases a
  unfold zkA at a
  dsimp only at a
  split at a <;> cases a
  rename_i b
  exact ⟨_,_,f.str_inv,c.str_inv,of_decide_eq_true b,q F H _ (.refl s) .str⟩
noncomputable def vA:D→D→Option D
  | .int i,.int j=>some (.int (i+j))
  | .tup a,.tup b=>if lim (a.length+b.length)=true then some (.tup (a++b)) else none
  | .lst a,.lst b=>if lim (a.length+b.length)=true then some (.lst (a++b)) else none
  | .str a,.str b=>if lim (a.length+b.length)=true then some (.str (a++b)) else none
  | _,_=>none
theorem zbU {r:R2}{g a:D→D→Option D}(h:OpD r g)(k:∀ d e z,a d e=some z→g d e=some z):OpD r a:=fun F H x y d e z Q s f b c q=>h F H x y d e z Q s f b (k d e z c) q
theorem X3 {f h:Ev→Option D}(k:ED X a f)(l:ED X b h):ED X (.BinOp a .Add b pos) (zj vA f h) :=
  XY (((zkh.or zfP).or zcy).or zdf) (zbU (zaO (zaO (zaO (zas (g:=fun i j=>i+j)) zgf) zf6) zgu) fun d e z h=>by
    cases d <;> try cases h
    all_goals cases e <;> try cases h
    · rfl
    · unfold vA at h;dsimp only at h;split at h <;> cases h;rename_i c;simp [zc2,zkN,c,zfu,zlM,zkA]
    · unfold vA at h;dsimp only at h;split at h <;> cases h;rename_i c;simp [zc2,zkN,c,zfu,zlM,zkA]
    · unfold vA at h;dsimp only at h;split at h <;> cases h;rename_i c;simp [zc2,zkN,c,zfu,zlM,zkA]) k l
noncomputable def zhC (g:D→D→Option (List D))(f h:Ev→Option D):Ev→Option (List D):=fun ρ=>(f ρ).bind fun x=>(h ρ).bind fun y=>g x y
theorem zbJ {F H F1 H1:Hp}{p:Addr}(b:Gr F H F1 H1)(a:H1 p=none):H p=none:=by
  cases e:H p with
  | none=>rfl
  | some o =>
    cases c:F p with
    | none=>rw [(b.kp p o c e).2] at a;cases a
    | some u=>rw [b.fh _ _ (b.ff _ _ c)] at a;cases a
noncomputable def XM (i j:Int):Bool:=decide ((-(2 ^ 64) < i∧i < 2 ^ 64)∨(-(2 ^ 64) < j∧j < 2 ^ 64))
noncomputable def zds:D→D→Option (List D)
  | .lst a,.int k=>if -(2 ^ 63)≤k∧k < 2 ^ 63∧lim (a.length*k.toNat)=true then some (List.replicate k.toNat a).flatten else none
  | _,_=>none
noncomputable def zgd (d e:D):Option D:=(zds d e).map .lst
noncomputable def Zq:D→D→Option D
  | .int i,.int j=>if XM i j=true then some (.int (i*j)) else none
  | .lst a,.int k=>if -(2 ^ 63)≤k∧k < 2 ^ 63∧lim (a.length*k.toNat)=true then some (.lst (List.replicate k.toNat a).flatten) else none
  | _,_=>none
theorem zg6:OpD rRep zgd:=by
  intro F H x y d e z Q s j h a q
  cases d <;> try cases a
  cases e <;> try cases a
  unfold zgd zds at a
  dsimp only at a
  split at a <;> cases a
  rename_i b
  obtain ⟨p,f,rfl,i,c⟩:=j.lst_inv
  refine ⟨p,_,f,rfl,h.int_inv,s _ _ i,b.1,b.2.1,by rw [c.length];exact of_decide_eq_true b.2.2,fun r l=>?_⟩
  rename_i m k
  have g:=Gr.alloc s l (.lst (List.replicate k.toNat f).flatten)
  exact q _ _ _ g (.lst zo ((c.rep _).mono g.ff))
theorem zfq {f h:Ev→Option D}(k:ED X a f)(m:ED X b h):ED X (.BinOp a .Mult b pos) (zj Zq f h) :=
  XY (zku.or zhO) (zbU (zaO (Xo (Cb:=XM) (g:=fun i j=>i*j) fun i j h=>by have l:=of_decide_eq_true (show decide ((-(2 ^ 64) < i∧i < 2 ^ 64)∨(-(2 ^ 64) < j∧j < 2 ^ 64))=true from h);exact l) zg6) fun d e z h=>by
    cases d <;> try cases h
    all_goals cases e <;> try cases h
    · unfold Zq at h;dsimp only at h;split at h <;> cases h;rename_i c;simp [zi5,c]
    · unfold Zq at h;dsimp only at h;split at h <;> cases h;rename_i c;show (zgd _ _)=_;unfold zgd zds;dsimp only;rw [if_pos c];rfl) k m
theorem zh4 {f h:Ev→Option D}(K:ED X a f)(t:ED X b h):FL X (.BinOp a .Mult b pos) (zhC zds f h):=by
  obtain ⟨ta,w,o⟩:=K
  obtain ⟨L,C,B⟩:=t
  refine ⟨_,zdp zhO w C,fun σ ρ F H z Q s l e q=>?_⟩
  obtain ⟨x,E,k⟩:=Option.bind_eq_some_iff.mp e
  obtain ⟨y,n,d⟩:=Option.bind_eq_some_iff.mp k
  clear e k
  refine o σ ρ F H x _ s l E fun F1 H1 v g J=>?_
  refine B σ ρ F1 H1 y _ g.fh (l.mono g.ff) n fun F2 H2 u c I=>?_
  cases x <;> try cases d
  cases y <;> try cases d
  unfold zds at d
  dsimp only at d
  split at d <;> cases d
  rename_i j
  obtain ⟨p,G,rfl,A,m⟩:=(J.mono c.ff).lst_inv
  refine ⟨p,_,G,rfl,I.int_inv,c.fh _ _ A,j.1,j.2.1,by rw [m.length];exact of_decide_eq_true j.2.2,fun r i=>?_⟩
  exact q _ _ _ _ ((g.trans c).trans (Gr.hide c.fh i _)) (zbJ (g.trans c) i) (c.fh.free i) zo (m.rep _)
noncomputable def Zr:=zc2 fun i j=>i - j
noncomputable def Xm:=zi5 (fun _ j=>decide (0 < j∧j < 1606938044258990275541962092341162602522202993782792835301376)) fun i j=>i / j
noncomputable def Zp:=zi5 (fun _ j=>decide (0 < j)) fun i j=>i % j
noncomputable def zmE (i j:Int):Bool:=decide (0≤j∧j≤1000000∧i.natAbs < 2 ^ 64)
noncomputable def powD:=zi5 zmE fun i j=>i ^ j.toNat
theorem xD {f h:Ev→Option D}(c:ED X a f)(d:ED X b h):ED X (.BinOp a .Sub b pos) (zj Zr f h):=XY zkw zas c d
theorem zf9:OpR X (binaryOp .FloorDiv) (rI (fun _ j=>0 < j∧j < 1606938044258990275541962092341162602522202993782792835301376) fun i j=>.int (i / j)):=opI fun i j _ _ _ _ _ a q=>by
  have d:(0:Int) < j:=a.1
  have e:j < 1606938044258990275541962092341162602522202993782792835301376:=a.2
  refine PyProof.Rows.floordiv_int (by omega) (by rw [Int.fdiv_eq_ediv_of_nonneg i (by omega)];exact q) (.inl (PyProof.noPylong_of_log2 ?_))
  have b:j.natAbs≠0:=by omega
  have c:j.natAbs < 1606938044258990275541962092341162602522202993782792835301376:=by omega
  have f:j.natAbs.log2 < 200:=(Nat.log2_lt b).mpr c
  omega
theorem zd0 {f h:Ev→Option D}(c:ED X a f)(e:ED X b h):ED X (.BinOp a .FloorDiv b pos) (zj Xm f h):=XY zf9 (Xo fun _ _ h=>by have d:=of_decide_eq_true h;exact d) c e
theorem zjU {f h:Ev→Option D}(c:ED X a f)(e:ED X b h):ED X (.BinOp a .Mod b pos) (zj Zp f h):=XY zlc (Xo fun _ _ h=>by have d:=of_decide_eq_true h;exact d) c e
theorem zki {f h:Ev→Option D}(c:ED X a f)(e:ED X b h):ED X (.BinOp a .Pow b pos) (zj powD f h):=XY zlm (Xo fun _ _ h=>by have d:=of_decide_eq_true h;exact d) c e
noncomputable def ltD:=zjO fun i j=>decide (i < j)
noncomputable def leD:=zjO fun i j=>decide (i≤j)
noncomputable def gtD:=zjO fun i j=>decide (j < i)
noncomputable def geD:=zjO fun i j=>decide (j≤i)
noncomputable def eqS:D→D→Option Bool
  | .non,.non=>some true
  | .int i,.int j=>some (decide (i=j))
  | .bl i,.bl j=>some (decide (i=j))
  | .str i,.str j=>some (decide (i=j))
  | .non,.int _=>some false | .int _,.non=>some false | .non,.bl _=>some false | .bl _,.non=>some false | .non,.str _=>some false | .str _,.non=>some false
  | .int _,.str _=>some false | .str _,.int _=>some false | .bl _,.str _=>some false | .str _,.bl _=>some false
  | _,_=>none
noncomputable def eqD (d e:D):Option D:=(eqS d e).map .bl
noncomputable def neD (d e:D):Option D:=(eqS d e).map fun c=>.bl (!c)
theorem zhN:OpD rEq eqD:=by
  intro F H x y d e z Q s b a f q
  obtain ⟨c,g,rfl⟩:=Option.map_eq_some_iff.mp f
  cases d <;> cases e <;> try cases g
  · cases b.non_inv;cases a.non_inv;exact ⟨rfl,q F H _ (.refl s) .bl⟩
  · cases b.non_inv;cases a.bl_inv;exact ⟨rfl,q F H _ (.refl s) .bl⟩
  · cases b.non_inv;cases a.int_inv;exact ⟨rfl,q F H _ (.refl s) .bl⟩
  · cases b.non_inv;cases a.str_inv;exact ⟨rfl,q F H _ (.refl s) .bl⟩
  · cases b.bl_inv;cases a.non_inv;exact ⟨rfl,q F H _ (.refl s) .bl⟩
  · cases b.bl_inv;cases a.bl_inv;refine ⟨rfl,?_⟩;rw [show ∀ i j:Bool,decide (V.bl i=V.bl j)=decide (i=j) from fun i j=>by simp];exact q F H _ (.refl s) .bl
  · cases b.bl_inv;cases a.str_inv;exact ⟨rfl,q F H _ (.refl s) .bl⟩
  · cases b.int_inv;cases a.non_inv;exact ⟨rfl,q F H _ (.refl s) .bl⟩
  · cases b.int_inv;cases a.int_inv;refine ⟨rfl,?_⟩;rw [show ∀ i j:Int,decide (V.int i=V.int j)=decide (i=j) from fun i j=>by simp];exact q F H _ (.refl s) .bl
  · cases b.int_inv;cases a.str_inv;exact ⟨rfl,q F H _ (.refl s) .bl⟩
  · cases b.str_inv;cases a.non_inv;exact ⟨rfl,q F H _ (.refl s) .bl⟩
  · cases b.str_inv;cases a.bl_inv;exact ⟨rfl,q F H _ (.refl s) .bl⟩
  · cases b.str_inv;cases a.int_inv;exact ⟨rfl,q F H _ (.refl s) .bl⟩
  · cases b.str_inv;cases a.str_inv;refine ⟨rfl,?_⟩;rw [show ∀ i j:Str,decide (V.str i=V.str j)=decide (i=j) from fun i j=>by simp];exact q F H _ (.refl s) .bl
theorem zeS:OpD rNe neD:=by
  intro F H x y d e z Q s m f k q
  obtain ⟨c,h,rfl⟩:=Option.map_eq_some_iff.mp k
  have:=zhN F H x y d e (.bl c) (fun v H'=>∃ b,v=.bl b∧Q (.bl (!b)) H') s m f (by unfold eqD;rw [h];rfl) fun F' H' v g a=>⟨c,a.bl_inv,q F' H' _ g .bl⟩
  obtain ⟨i,b,j,l⟩:=this
  cases j
  exact ⟨i,l⟩
noncomputable def zlT:D→D→Option D
  | d,.non=>some (.bl (match d with | .non=>true | _=>false))
  | .bl a,.bl b=>some (.bl (a == b))
  | _,_=>none
noncomputable def Wc:D→D→Option D
  | d,.non=>some (.bl (match d with | .non=>false | _=>true))
  | .bl a,.bl b=>some (.bl (!(a == b)))
  | _,_=>none
theorem zeo {F:Hp}{d:D}{x:V}(h:At F d x):decide (x=V.non)=(match d with | .non=>true | _=>false):=by
  cases d with
  | non=>cases h.non_inv;rfl
  | bl b=>cases h.bl_inv;rfl
  | int b=>cases h.int_inv;rfl
  | str b=>cases h.str_inv;rfl
  | tup e=>obtain ⟨a,c,rfl,_⟩:=h.tup_inv;rfl
  | lst e=>obtain ⟨a,c,rfl,_⟩:=h.lst_inv;rfl
  | scr e=>obtain ⟨a,rfl,_⟩:=h.scr_inv;rfl
  | dct z t f g=>obtain ⟨a,c,rfl,_⟩:=h.dct_inv;rfl
theorem zjq:OpD (fun x y H Q=>(y=.non∧Q (.bl (decide (x=.non))) H)∨∃ i j,x=.bl i∧y=.bl j∧Q (.bl (i == j)) H) zlT:=by
  intro F H x y d e z Q s c b a q
  unfold zlT at a
  split at a
  · cases a
    refine .inl ⟨b.non_inv,?_⟩
    rw [zeo c]
    have:=q F H _ (.refl s) .bl
    cases d <;> exact this
  · cases a
    exact .inr ⟨_,_,c.bl_inv,b.bl_inv,q F H _ (.refl s) .bl⟩
  · cases a
theorem zdi:OpD (fun x y H Q=>(y=.non∧Q (.bl (!decide (x=.non))) H)∨∃ i j,x=.bl i∧y=.bl j∧Q (.bl (!(i == j))) H) Wc:=by
  intro F H x y d e z Q s c b a q
  unfold Wc at a
  split at a
  · cases a
    refine .inl ⟨b.non_inv,?_⟩
    rw [zeo c]
    have:=q F H _ (.refl s) .bl
    cases d <;> exact this
  · cases a
    exact .inr ⟨_,_,c.bl_inv,b.bl_inv,q F H _ (.refl s) .bl⟩
  · cases a
theorem zj7:OpR X (compareOp .Is) (fun x y H Q=>(y=.non∧Q (.bl (decide (x=.non))) H)∨∃ i j,x=.bl i∧y=.bl j∧Q (.bl (i == j)) H):=zkC.or zfS
theorem ze9:OpR X (compareOp .IsNot) (fun x y H Q=>(y=.non∧Q (.bl (!decide (x=.non))) H)∨∃ i j,x=.bl i∧y=.bl j∧Q (.bl (!(i == j))) H):=ziE.or zbg
noncomputable def zck (g a:D→D→Option D)(f h k:Ev→Option D):Ev→Option D:=fun ρ=>(f ρ).bind fun x=>(h ρ).bind fun y=>((g x y).bind asB).bind fun c=>if c=true then (k ρ).bind fun z=>a y z else some (.bl false)
theorem zgI {r t:R2}{g B:D→D→Option D}{ta o tc:TE}{f h k:Ev→Option D}(V:OpD r g)(n:OpD t B)(E:RE ta f)(J:RE o h)(O:RE tc k):RE (zdI r t ta o tc) (zck g B f h k):=by
  intro σ ρ F H z Q s d e q
  obtain ⟨x,K,e⟩:=Option.bind_eq_some_iff.mp e
  obtain ⟨y,C,e⟩:=Option.bind_eq_some_iff.mp e
  obtain ⟨c,b,e⟩:=Option.bind_eq_some_iff.mp e
  obtain ⟨W,b,N⟩:=Option.bind_eq_some_iff.mp b
  cases Xp N
  refine E σ ρ F H x _ s d K fun F1 H1 v i T=>?_
  refine J σ ρ F1 H1 y _ i.fh (d.mono i.ff) C fun F2 H2 u j A=>?_
  refine V F2 H2 v u x y _ _ j.fh (T.mono j.ff) A b fun F3 H3 w l P=>⟨c,P.bl_inv,?_⟩
  have a:=(i.trans j).trans l
  cases c with
  | true =>
    rw [if_pos rfl] at e ⊢
    obtain ⟨p,U,S⟩:=Option.bind_eq_some_iff.mp e
    refine O σ ρ F3 H3 p _ l.fh (d.mono a.ff) U fun F4 H4 L m R=>?_
    exact n F4 H4 u L y p z Q m.fh (A.mono (l.ff.trans m.ff)) R S fun F5 H5 G M I=>q F5 H5 G ((a.trans m).trans M) I
  | false =>
    rw [if_neg Bool.false_ne_true] at e ⊢
    cases e
    exact q F3 H3 _ a .bl
theorem zfY {i d:CmpOp}{r e:R2}{g n:D→D→Option D}{f h k:Ev→Option D}(u:OpR X (compareOp i) r)(o:OpR X (compareOp d) e)(t:OpD r g)(l:OpD e n)(s:ED X a f)(p:ED X b h)(q:ED X c k)
    (j:∀ {ta m tc:TE},PE X a ta→PE X b m→PE X c tc→PE X (.Compare a [i,d] [b,c] pos) (zdI r e ta m tc)):ED X (.Compare a [i,d] [b,c] pos) (zck g n f h k) :=
  let ⟨_,pa,ra⟩:=s
  let ⟨_,pb,rb⟩:=p
  let ⟨_,pc,rc⟩:=q
  ⟨_,j pa pb pc,zgI t l ra rb rc⟩
noncomputable def zch:List D→Option (List Int)
  | []=>some []
  | .int b::ds=>(zch ds).map (b::·)
  | _=>none
omit [KK] in
theorem Wk:∀ {b:List D} {a:List Int},zch b=some a→b=a.map .int
  | [],a,h=>by cases h;rfl
  | d::b,a,h=>by
    cases d <;> try cases h
    obtain ⟨e,c,rfl⟩:=Option.map_eq_some_iff.mp h
    rw [Wk c]
    rfl
noncomputable def leT:D→D→Option D
  | .tup a,.tup b=>(zch a).bind fun c=>(zch b).map fun d=>.bl (HT.lexLe c d)
  | _,_=>none
theorem ziM {K:PySem.W.Frag}:OpD (rLeT K) leT:=by
  intro F H x y d e z Q s c b a q
  cases d <;> try cases a
  cases e <;> try cases a
  obtain ⟨n,l,g⟩:=Option.bind_eq_some_iff.mp a
  obtain ⟨m,f,rfl⟩:=Option.map_eq_some_iff.mp g
  rw [Wk l] at c
  rw [Wk f] at b
  obtain ⟨p,o,rfl,i,k⟩:=c.tup_inv
  obtain ⟨h,r,rfl,j,bl⟩:=b.tup_inv
  cases k.of_ints
  cases bl.of_ints
  exact ⟨p,h,n,m,rfl,rfl,SqT.of (s _ _ i),SqT.of (s _ _ j),q F H _ (.refl s) .bl⟩
noncomputable def ixD:D→D→Option D
  | .lst ds,.int i=>atI ds i
  | .tup ds,.int i=>atI ds i
  | .scr ns,.int i=>(atI ns i).map .int
  | _,_=>none
theorem AtL.atI {F:Hp}{c:List D}{a:List V}{i:Int}{d:D}(b:AtL F c a)(h:L2.atI c i=some d):∃ x,L2.atI a i=some x∧At F d x:=by
  unfold L2.atI at h ⊢
  obtain ⟨j,k,e⟩:=Option.bind_eq_some_iff.mp h
  obtain ⟨x,g,f⟩:=b.get e
  exact ⟨x,by rw [b.length,k];exact g,f⟩
theorem zkc:OpD (rIx KK.K) ixD:=by
  intro F H x y d e z Q s h o c q
  cases e <;> try (cases d <;> cases c)
  cases o.int_inv
  cases d with
  | lst r =>
    obtain ⟨p,i,rfl,b,g⟩:=h.lst_inv
    obtain ⟨v,a,f⟩:=g.atI c
    exact .inl ⟨p,i,_,v,rfl,rfl,SqL.of (s _ _ b),a,q F H _ (.refl s) f⟩
  | tup r =>
    obtain ⟨p,i,rfl,b,g⟩:=h.tup_inv
    obtain ⟨v,a,f⟩:=g.atI c
    exact .inr (.inl ⟨p,i,_,v,rfl,rfl,SqT.of (s _ _ b),a,q F H _ (.refl s) f⟩)
  | scr k =>
    obtain ⟨p,rfl,b⟩:=h.scr_inv
    obtain ⟨n,a,rfl⟩:=Option.map_eq_some_iff.mp c
    refine .inl ⟨p,k.map V.int,_,.int n,rfl,rfl,s.seq b,?_,q F H _ (.refl s) .int⟩
    unfold L2.atI at a ⊢
    rw [List.length_map]
    obtain ⟨j,m,l⟩:=Option.bind_eq_some_iff.mp a
    rw [m]
    show (k.map V.int)[j]?=_
    rw [List.getElem?_map,l]
    rfl
  | _=>cases c
theorem vk {f h:Ev→Option D}(d:ED X a f)(c:ED X b h)(e:VF b)(g:X.K=KK.K:=by rfl):ED X (.Subscript a b pos) (zj ixD f h) :=
  let ⟨_,pa,ra⟩:=d
  let ⟨_,pb,rb⟩:=c
  ⟨_,ziq zeM pa pb e,zgL (by rw [g];exact zkc) ra rb⟩
noncomputable def zdu {α:Type}(a:List α)(b c:Option Int):List α:=(a.drop (HT.sIx a.length 0 b)).take (HT.sIx a.length a.length c - HT.sIx a.length 0 b)
theorem AtL.cut {F:Hp}{a:List D}{c:List V}{lo hi:Option Int}(b:AtL F a c):AtL F (zdu a lo hi) (zbT c lo hi):=by
  unfold zdu zbT
  rw [b.length]
  exact (b.drop _).take _
noncomputable def OD (X:Cx)(e:Option Expr)(f:Ev→Option (Option Int)):Prop:=∃ t,PO X e t∧∀ (σ:St) (ρ:Ev) (F H:Hp) (i:Option Int) (Q:Option Int→Hp→Prop),zX F H→VAt F ρ σ→f ρ=some i→(∀ F' H',Gr F H F' H'→Q i H')→t σ H Q
noncomputable def zjr:Ev→Option (Option Int):=fun _=>some none
noncomputable def asI:D→Option Int
  | .int i=>some i
  | _=>none
noncomputable def za2 (f:Ev→Option D):Ev→Option (Option Int):=fun ρ=>((f ρ).bind asI).map some
theorem ziJ:OD X none zjr:=⟨_,ziF,fun _ _ _ _ _ _ s _ e q=>by cases e;exact q _ _ (.refl s)⟩
theorem zjE {f:Ev→Option D}(h:ED X e f):OD X (some e) (za2 f):=by
  obtain ⟨t,p,r⟩:=h
  refine ⟨_,zi2 p,fun σ ρ F H i Q s c e q=>?_⟩
  obtain ⟨j,a,rfl⟩:=Option.map_eq_some_iff.mp e
  obtain ⟨d,a,b⟩:=Option.bind_eq_some_iff.mp a
  cases d <;> cases b
  exact r σ ρ F H _ _ s c a fun F1 H1 v g k=>⟨_,k.int_inv,q F1 H1 g⟩
noncomputable def slD:D→Option Int→Option Int→Option D
  | .lst ds,lo,hi=>some (.lst (zdu ds lo hi))
  | .scr ns,lo,hi=>some (.lst ((zdu ns lo hi).map .int))
  | .tup ds,lo,hi=>some (.tup (zdu ds lo hi))
  | _,_,_=>none
noncomputable def eSl (g:D→Option Int→Option Int→Option D)(f:Ev→Option D)(l h:Ev→Option (Option Int)):Ev→Option D:=fun ρ=>(f ρ).bind fun d=>(l ρ).bind fun a=>(h ρ).bind fun b=>g d a b
omit [KK] in
theorem zhb {a:List Int}{c b:Option Int}:zbT (a.map V.int) c b=(zdu a c b).map V.int:=by
  unfold zbT zdu
  rw [List.length_map,List.map_take,List.map_drop]
end
end Dl
namespace L2
open PySem PySem.Spec PyProof.Rows
noncomputable def rSlN:V→Option Int→Option Int→Hp→VK→Prop:=fun x c d H Q=>∃ a b,x=.ref a∧H a=some (.tup b)∧(zbT b c d=b→Q (.ref a) H)∧∀ p,H p=none→Q (.ref p) (upd H p (.tup (zbT b c d)))
theorem ziV {X:Cx}:SlR X rSlN:=by
  intro d s σ H x v u p f i t Q I l k g n h
  obtain ⟨a,b,rfl,j,o,q⟩:=h
  by_cases hw:HT.sIx b.length 0 f=0∧HT.sIx b.length b.length i=b.length
  · cases l
    obtain ⟨e,r,m,w⟩:=I.tuple (SqT.of j)
    have c:e.toArray.size=b.length:=by rw [List.size_toArray];exact r.length.symm
    refine ⟨"tuple",_,PyProof.Rows.slot_tuple_getitem.lookup,m.typeIs,?_⟩
    refine HT.own_getItem_whole m k g n (by rw [c];exact hw) ⟨.ref a,H,I,rfl,o ?_⟩
    unfold zbT
    rw [hw.1,hw.2,List.drop_zero,Nat.sub_zero,List.take_length]
  · exact zlx d s σ H (.ref a) v u p f i t Q I l k g n ⟨a,b,rfl,SqT.of j,hw,q⟩
end L2
namespace Dl
open PySem L2
variable [KK]
section
variable {X:Cx}{a b c e:Expr}{pos:Pos}
theorem zgS {x A:Option Expr}{I:Pos}{f:Ev→Option D}{l h:Ev→Option (Option Int)}(U:ED X a f)(O:OD X x l)(T:OD X A h)(W:X.K=KK.K:=by rfl):ED X (.Subscript a (.Slice x A none I) pos) (eSl slD f l h):=by
  obtain ⟨ta,J,G⟩:=U
  obtain ⟨tl,w,P⟩:=O
  obtain ⟨Y,K,S⟩:=T
  refine ⟨_,zg3 (zjn.or ziV) J w K,fun σ ρ F H z Q s y e q=>?_⟩
  obtain ⟨d,L,e⟩:=Option.bind_eq_some_iff.mp e
  obtain ⟨i,E,e⟩:=Option.bind_eq_some_iff.mp e
  obtain ⟨j,C,e⟩:=Option.bind_eq_some_iff.mp e
  refine G σ ρ F H d _ s y L fun F1 H1 v o R=>?_
  refine P σ ρ F1 H1 i _ o.fh (y.mono o.ff) E fun F2 H2 t=>?_
  refine S σ ρ F2 H2 j _ t.fh (y.mono (o.ff.trans t.ff)) C fun F3 H3 c=>?_
  have b:=(o.trans t).trans c
  have B:=R.mono (t.ff.trans c.ff)
  cases d <;> try cases e
  · obtain ⟨p,m,rfl,k,u⟩:=B.tup_inv
    refine .inr ⟨p,m,rfl,c.fh _ _ k,fun N=>?_,fun r n=>?_⟩
    · have:=u.cut (lo:=i) (hi:=j)
      rw [N] at this
      exact q F3 H3 _ b (.tup k this)
    · have g:=Gr.alloc c.fh n (.tup (zbT m i j))
      exact q _ _ _ (b.trans g) (.tup zo (u.cut.mono g.ff))
  · obtain ⟨p,m,rfl,k,u⟩:=B.lst_inv
    refine .inl ⟨p,m,rfl,SqL.of (c.fh _ _ k),fun r n=>?_⟩
    have g:=Gr.alloc c.fh n (.lst (zbT m i j))
    exact q _ _ _ (b.trans g) (.lst zo (u.cut.mono g.ff))
  · rename_i M _ _
    obtain ⟨p,rfl,k⟩:=B.scr_inv
    refine .inl ⟨p,_,rfl,(by rw [W];exact c.fh.seq k),fun r n=>?_⟩
    rw [zhb]
    have g:=Gr.alloc c.fh n (.lst ((zdu M i j).map V.int))
    exact q _ _ _ (b.trans g) (.lst zo (.ints _))
noncomputable def CaD (r:List V→Hp→VK→Prop)(g:List D→Option D):Prop:=∀ (F H:Hp) (b:List V) (a:List D) (z:D) (Q:VK),zX F H→AtL F a b→g a=some z→(∀ F' H' v,Gr F H F' H'→At F' z v→Q v H')→r b H Q
noncomputable def eFn (g:List D→Option D)(f:Ev→Option (List D)):Ev→Option D:=fun ρ=>(f ρ).bind g
noncomputable def fFn (g:List D→Option (List D))(f:Ev→Option (List D)):Ev→Option (List D):=fun ρ=>(f ρ).bind g
theorem yr {x:Str}{id:String}{p:Pos}{a:List Expr}{r:List V→Hp→VK→Prop}{g:List D→Option D}{f:Ev→Option (List D)}(y:vO X (.builtin id) r)(I:CaD r g)(b:Gl X x)(n:X.mg x=none)(o:bootBuiltins x=some (.builtin id))(G:AD X (e::a) f)
    (B:x≠"__name__":=by decide) (d:(x == ("__debug__":Str))=false:=by decide) (C:starEach (e::a) X.env=(false,eval e X.env)::starEach a X.env:=by rfl) (c:(backTo pos (starEach a X.env)).any (·.1)=false:=by rfl) :
    ED X (.Call (.Name x p) (e::a) [] pos) (eFn g f):=by
  obtain ⟨t,u,l⟩:=G
  refine ⟨_,z9 y b n o u B d C c,fun σ ρ F H z Q s m e q=>?_⟩
  obtain ⟨i,w,k⟩:=Option.bind_eq_some_iff.mp e
  refine l σ ρ F H i _ s m w fun F1 H1 A h E=>?_
  exact I F1 H1 A i z Q h.fh E k fun F' H' v g j=>q F' H' v (h.trans g) j
theorem zeN {x:Str}{T:String}{p:Pos}{a:List Expr}{r:List V→Hp→VK→Prop}{g:List D→Option D}{f:Ev→Option (List D)}(y:vO X (.type T) r)(I:CaD r g)(b:Gl X x)(n:X.mg x=none)(o:bootBuiltins x=some (.type T))(G:AD X (e::a) f)
    (B:x≠"__name__":=by decide) (d:(x == ("__debug__":Str))=false:=by decide) (C:starEach (e::a) X.env=(false,eval e X.env)::starEach a X.env:=by rfl) (c:(backTo pos (starEach a X.env)).any (·.1)=false:=by rfl) :
    ED X (.Call (.Name x p) (e::a) [] pos) (eFn g f):=by
  obtain ⟨t,u,l⟩:=G
  refine ⟨_,zaF y b n o u B d C c,fun σ ρ F H z Q s m e q=>?_⟩
  obtain ⟨i,w,k⟩:=Option.bind_eq_some_iff.mp e
  refine l σ ρ F H i _ s m w fun F1 H1 A h E=>?_
  exact I F1 H1 A i z Q h.fh E k fun F' H' v g j=>q F' H' v (h.trans g) j
noncomputable def WU:List D→Option D
  | [.lst ds]=>some (.int ds.length)
  | [.tup ds]=>some (.int ds.length)
  | [.scr ds]=>some (.int ds.length)
  | _=>none
theorem zbi:CaD (fun b H Q=>∃ p d,b=[.ref p]∧(SqL KK.K H p d∨SqT KK.K H p d)∧Q (.int d.length) H) WU:=by
  intro F H i h z Q s f e q
  unfold WU at e
  split at e <;> cases e
  all_goals
    obtain ⟨x,r,rfl,c,g⟩:=f.cons_inv
    cases g.nil_inv
  · obtain ⟨p,b,rfl,a,bl⟩:=c.lst_inv
    exact ⟨p,b,rfl,.inl (SqL.of (s _ _ a)),by rw [bl.length];exact q F H _ (.refl s) .int⟩
  · obtain ⟨p,b,rfl,a,bl⟩:=c.tup_inv
    exact ⟨p,b,rfl,.inr (SqT.of (s _ _ a)),by rw [bl.length];exact q F H _ (.refl s) .int⟩
  · obtain ⟨p,rfl,a⟩:=c.scr_inv
    exact ⟨p,_,rfl,.inl ((s.seq a)),by rw [List.length_map];exact q F H _ (.refl s) .int⟩
noncomputable def zk9:List D→Option D
  | [.int i,.int j]=>some (.int (if j > i then j else i))
  | _=>none
noncomputable def zkz:List D→Option D
  | [.int i,.int j]=>some (.int (if j < i then j else i))
  | _=>none
theorem zcn {g:Int→Int→Int}:CaD (fun h H Q=>∃ i j,h=[.int i,.int j]∧Q (.int (g i j)) H) (fun b=>match b with | [.int i,.int j]=>some (.int (g i j)) | _=>none):=by
  intro F H k b z Q s d e q
  dsimp only at e
  split at e <;> cases e
  obtain ⟨x,r,rfl,f,a⟩:=d.cons_inv
  obtain ⟨y,r,rfl,c,a⟩:=a.cons_inv
  cases a.nil_inv
  exact ⟨_,_,by rw [f.int_inv,c.int_inv],q F H _ (.refl s) .int⟩
theorem zfW:CaD (fun a H Q=>∃ i j,a=[.int i,.int j]∧Q (.int (if j > i then j else i)) H) zk9:=zcn (g:=fun i j=>if j > i then j else i)
theorem zgg:CaD (fun a H Q=>∃ i j,a=[.int i,.int j]∧Q (.int (if j < i then j else i)) H) zkz:=zcn (g:=fun i j=>if j < i then j else i)
noncomputable def vz:List D→Option D
  | [.lst ds]=>some (.tup ds)
  | [.tup ds]=>some (.tup ds)
  | _=>none
theorem zec {K:PySem.W.Frag}:CaD (fun a H Q=>∃ p c,a=[.ref p]∧((SqL K H p c∧∀ l,H l=none→Q (.ref l) (upd H l (.tup c)))∨(SqT K H p c∧Q (.ref p) H))) vz:=by
  intro F H k j z Q s h e q
  unfold vz at e
  split at e <;> cases e
  all_goals
    obtain ⟨x,r,rfl,d,i⟩:=h.cons_inv
    cases i.nil_inv
  · obtain ⟨p,a,rfl,b,bl⟩:=d.lst_inv
    refine ⟨p,a,rfl,.inl ⟨SqL.of (s _ _ b),fun l f=>?_⟩⟩
    have g:=Gr.alloc s f (.tup a)
    exact q _ _ _ g (.tup zo (bl.mono g.ff))
  · obtain ⟨p,a,rfl,b,bl⟩:=d.tup_inv
    exact ⟨p,a,rfl,.inr ⟨SqT.of (s _ _ b),q F H _ (.refl s) (.tup b bl)⟩⟩
noncomputable def zf0:List D→Option (List D)
  | [.lst ds]=>some ds
  | [.tup ds]=>some ds
  | [.scr ns]=>some (ns.map .int)
  | _=>none
theorem ziw {p:Pos} {f:Ev→Option (List D)} (g:Gl X "list") (n:X.mg "list"=none) (B:AD X [e] f) (C:X.K=KK.K:=by rfl)
    (y:starEach [e] X.env=(false,eval e X.env)::starEach [] X.env:=by rfl) (j:(backTo pos (starEach [] X.env)).any (·.1)=false:=by rfl):FL X (.Call (.Name "list" p) [e] [] pos) (fFn zf0 f):=by
  obtain ⟨t,o,k⟩:=B
  refine ⟨_,zaF zaI g n zbN o (by decide) (by decide) y j,fun σ ρ F H z Q s m e q=>?_⟩
  obtain ⟨w,u,d⟩:=Option.bind_eq_some_iff.mp e
  refine k σ ρ F H w _ s m u fun F1 H1 E a A=>?_
  unfold zf0 at d
  split at d <;> cases d
  all_goals
    obtain ⟨x,r,rfl,h,v⟩:=A.cons_inv
    cases v.nil_inv
  · obtain ⟨p,i,rfl,c,bl⟩:=h.lst_inv
    exact ⟨p,i,rfl,.inl (SqL.of (a.fh _ _ c)),fun l b=>q _ _ _ _ (a.trans (Gr.hide a.fh b _)) (zbJ a b) (a.fh.free b) zo bl⟩
  · obtain ⟨p,i,rfl,c,bl⟩:=h.tup_inv
    exact ⟨p,i,rfl,.inr (SqT.of (a.fh _ _ c)),fun l b=>q _ _ _ _ (a.trans (Gr.hide a.fh b _)) (zbJ a b) (a.fh.free b) zo bl⟩
  · obtain ⟨p,rfl,c⟩:=h.scr_inv
    exact ⟨p,_,rfl,.inl (by rw [C];exact a.fh.seq c),fun l b=>q _ _ _ _ (a.trans (Gr.hide a.fh b _)) (zbJ a b) (a.fh.free b) zo (.ints _)⟩
inductive TyD (K:PySem.W.Frag) (H:Hp):V→Value→Prop where
  | of {v:V} {t:Value} (h:zcp K H v t):TyD K H v t
  | dd {a:Addr} {u:HO} (h:Rd H a u) (d:(∃ kvs,u=.dK kvs)∨∃ kvs,u=.dT kvs):TyD K H (.ref a) (.type "dict")
theorem zaX {X:Cx}:vO X (.builtin "isinstance") (fun j H Q=>∃ x n t b,j=[x,.ty n]∧TyD X.K H x t∧PySem.W.kitOne X.K t (.type n)=some b∧Q (.bl b) H):=by
  intro f s σ H j m Q I r h
  obtain ⟨x,n,t,b,rfl,ty,e,q⟩:=h
  cases ty with
  | of ty=>exact zbR f s σ H _ m Q I r ⟨x,n,t,b,rfl,ty,e,q⟩
  | @dd a u h d =>
    cases r with
    | cons y A =>
      cases A with
      | cons v w =>
        cases w
        cases y
        cases v
        have ok:=h.ok I.hok
        rcases d with ⟨c,rfl⟩ | ⟨c,rfl⟩
        · obtain ⟨_,_,B,_,p⟩:=(show yb X.prog X.w H s.heap a (.dK c) from ok)
          obtain ⟨o,l,k,g,i,_⟩:=p
          exact PySem.W.kia_one PySem.W.kitx_dict I.kIn ⟨o,g,i.1⟩ e (fun z=>nomatch z) fun tk=>⟨.bl b,H,I.tok tk,rfl,q⟩
        · obtain ⟨_,_,j,_,o,l,k,g,i,_⟩:=(show yb X.prog X.w H s.heap a (.dT c) from ok)
          exact PySem.W.kia_one PySem.W.kitx_dict I.kIn ⟨o,g,i.1⟩ e (fun z=>nomatch z) fun tk=>⟨.bl b,H,I.tok tk,rfl,q⟩
theorem At.ty {K:PySem.W.Frag}{F H:Hp}(s:zX F H):∀ {d:D} {v:V},At F d v→(∀ g,d≠.scr g)→TyD K H v (.type (tyN d))
  | .non,_,h,_=>by cases h.non_inv;exact .of .non
  | .bl b,_,h,_=>by cases h.bl_inv;exact .of (.bl b)
  | .int i,_,h,_=>by cases h.int_inv;exact .of (.int i)
  | .str x,_,h,_=>by cases h.str_inv;exact .of (.str x)
  | .tup ds,_,h,_=>by obtain ⟨a,j,rfl,e,_⟩:=h.tup_inv;exact .of (.tup (s _ _ e))
  | .lst ds,_,h,_=>by obtain ⟨a,j,rfl,e,_⟩:=h.lst_inv;exact .of (.lst (s _ _ e))
  | .scr g,_,_,n=>absurd rfl (n g)
  | .dct z t ks vs,_,h,_=>by
    obtain ⟨a,j,rfl,d,_⟩:=h.dct_inv
    obtain ⟨u,f,k⟩:=(d.mono s).rd
    exact .dd k (by
      unfold zaA at f
      split at f
      · obtain ⟨c,rfl,_⟩:=f;exact .inr ⟨c,rfl⟩
      · obtain ⟨c,rfl,_⟩:=f;exact .inl ⟨c,rfl⟩)
inductive Ty where
  | int | bool | tuple | list | str
noncomputable def Ty.nm:Ty→String
  | .int=>"int" | .bool=>"bool" | .tuple=>"tuple" | .list=>"list" | .str=>"str"
noncomputable def isT:Ty→D→Bool
  | .int,.int _=>true | .int,.bl _=>true
  | .bool,.bl _=>true
  | .tuple,.tup _=>true
  | .list,.lst _=>true
  | .str,.str _=>true
  | _,_=>false
noncomputable def ZQ (n:Ty):D→Option D
  | .scr _=>none
  | d=>some (.bl (isT n d))
theorem zkR (K:PySem.W.Frag)(n:Ty)(d:D)(h:∀ a,d≠.scr a):PySem.W.kitOne K (.type (tyN d)) (.type n.nm)=some (isT n d):=by
  cases n <;> cases d <;> first | exact absurd rfl (h _) | kernel_rfl
theorem zeq {p:Pos} {f:Ev→Option D} (n:Ty) (g:Gl X "isinstance") (w:X.mg "isinstance"=none) (C:ED X a f) (x:PE X b (tC (.ty n.nm)))
    (m:starEach [a,b] X.env=(false,eval a X.env)::starEach [b] X.env:=by rfl) (j:starEach [b] X.env=(false,eval b X.env)::starEach [] X.env:=by rfl) (i:(backTo pos (starEach [b] X.env)).any (·.1)=false:=by rfl) :
    ED X (.Call (.Name "isinstance" p) [a,b] [] pos) (eUn (ZQ n) f):=by
  obtain ⟨t,y,r⟩:=C
  refine ⟨_,z9 zaX g w zE (zr y (zr x z5 j) m) (by decide) (by decide) m i,fun σ ρ F H z Q s u e q=>?_⟩
  obtain ⟨d,A,k⟩:=Option.bind_eq_some_iff.mp e
  refine r σ ρ F H d _ s u A fun F1 H1 v l B=>?_
  have c:∀ c,d≠.scr c:=fun c h=>by subst h;cases k
  have o:z=.bl (isT n d):=by
    cases d <;> first | exact (Option.some.inj k).symm | exact absurd rfl (c _)
  subst o
  exact ⟨v,n.nm,_,_,rfl,B.ty l.fh c,zkR _ n d c,q F1 H1 _ l .bl⟩
noncomputable def zhA (m:Bool)(i:Nat)(f:Ev→Option D):SE→Ctl:=fun ρ=>match (vEv m f ρ).bind fun d=>match ρ[i]? with
    | some (.o ds)=>if decide (ds.length < sizeLine)=true then some (ρ.set i (.o (ds++[d]))) else none
    | _=>none with
  | some a=>.nx a
  | none=>.no
theorem zen {m:Bool}{i:Nat}{p b:Pos}{f:Ev→Option D}(L:PE X a (zaD i))(K:ED X e f)
    (I:∀ {ta:TE} {t:TA},PE X a ta→PA X [e] t→PE X (.Call (.Attribute a "append" p) [e] [] b) (tBM X.K "list" zeh ta t)) (w:swapsWith (.Call (.Attribute a "append" p) [e] [] b) none pos.line X.env=pure false:=by rfl)
    (j:starEach [e] X.env=(false,eval e X.env)::starEach [] X.env:=by rfl):SD X (.Expr (.Call (.Attribute a "append" p) [e] [] b) pos) (zhA m i f):=by
  obtain ⟨t,A,C⟩:=K
  refine ⟨_,Vy (I L (zr A z5 j)) w,fun Fb Hb F H ρ σ E x k=>?_⟩
  unfold zhA at k
  cases h:(vEv m f ρ).bind fun d=>match ρ[i]? with
    | some (.o r)=>if decide (r.length < sizeLine)=true then some (ρ.set i (.o (r++[d]))) else none
    | _=>none with
  | none=>rw [h] at k;exact k.elim
  | some O =>
    rw [h] at k
    obtain ⟨d,B,c⟩:=Option.bind_eq_some_iff.mp h
    cases j:ρ[i]? with
    | none=>rw [j] at c;cases c
    | some M =>
      rw [j] at c
      cases M with
      | no=>cases c
      | v _=>cases c
      | m _ _ _=>cases c
      | o r =>
        dsimp only at c
        split at c <;> cases c
        rename_i J
        obtain ⟨q,G,f1,f2,f3,f4,f5⟩:=x.owns i r j
        refine ⟨_,f1,.inl ⟨rfl,G,SqL.of f4⟩,?_⟩
        refine C.at x B fun F' H' v g z=>?_
        have n:=x.grow g
        obtain ⟨N,u,l,_,_,y,s⟩:=n.owns i r j
        rw [f1] at l
        cases l
        refine ⟨q,u,v,rfl,rfl,y,by rw [s.length];exact of_decide_eq_true J,?_⟩
        exact k _ _ σ (n.mutate j f1 (s.snoc z))
noncomputable def zjG (i:Nat)(f:Ev→Option D):SE→Ctl:=fun ρ=>match (f (visF ρ)).bind fun d=>match ρ[i]?,d with
    | some (.o ds),.lst es=>if lim (ds.length+es.length)=true then some (ρ.set i (.o (ds++es))) else none
    | _,_=>none with
  | some a=>.nx a
  | none=>.no
theorem zfF {i:Nat}{p b:Pos}{f:Ev→Option D}(O:PE X a (zaD i))(N:ED X e f)
    (L:∀ {ta:TE} {t:TA},PE X a ta→PA X [e] t→PE X (.Call (.Attribute a "extend" p) [e] [] b) (tBM X.K "list" zeb ta t)) (y:swapsWith (.Call (.Attribute a "extend" p) [e] [] b) none pos.line X.env=pure false:=by rfl)
    (j:starEach [e] X.env=(false,eval e X.env)::starEach [] X.env:=by rfl):SD X (.Expr (.Call (.Attribute a "extend" p) [e] [] b) pos) (zjG i f):=by
  obtain ⟨t,B,I⟩:=N
  refine ⟨_,Vy (L O (zr B z5 j)) y,fun Fb Hb F H ρ σ E u k=>?_⟩
  unfold zjG at k
  cases h:(f (visF ρ)).bind fun d=>match ρ[i]?,d with
    | some (.o r),.lst w=>if lim (r.length+w.length)=true then some (ρ.set i (.o (r++w))) else none
    | _,_=>none with
  | none=>rw [h] at k;exact k.elim
  | some R =>
    rw [h] at k
    obtain ⟨d,C,c⟩:=Option.bind_eq_some_iff.mp h
    cases j:ρ[i]? with
    | none=>rw [j] at c;cases c
    | some P =>
      rw [j] at c
      cases P with
      | no=>cases c
      | v _=>cases c
      | m _ _ _=>cases c
      | o r =>
        cases d with
        | lst w =>
          dsimp only at c
          split at c <;> cases c
          rename_i M
          obtain ⟨q,J,f1,f2,f3,f4,f5⟩:=u.owns i r j
          refine ⟨_,f1,.inl ⟨rfl,J,SqL.of f4⟩,?_⟩
          refine I σ _ _ H _ _ u.gr.fh u.visF C fun F' H' v g A=>?_
          have n:=u.grow g
          obtain ⟨Q,x,l,_,_,z,s⟩:=n.owns i r j
          rw [f1] at l
          cases l
          obtain ⟨G,zs,rfl,K,bl⟩:=A.lst_inv
          refine ⟨q,G,x,zs,rfl,rfl,z,g.fh _ _ K,by rw [s.length,bl.length];exact of_decide_eq_true M,?_⟩
          exact k _ _ σ (n.mutate j f1 (s.append bl))
        | _=>cases c
end
end Dl
namespace Dl
open PySem L2
variable [KK]
noncomputable def okE:Nat→D→Bool
  | _,.scr _=>false
  | _,.dct _ _ _ _=>false
  | 0,.tup _=>false
  | 0,.lst _=>false
  | n+1,.tup ds=>ds.all (okE n)
  | n+1,.lst ds=>ds.all (okE n)
  | _,_=>true
noncomputable def eqN:Nat→D→D→Bool
  | _,.non,.non=>true
  | _,.bl a,.bl b=>a == b
  | _,.bl a,.int b=>(if a then 1 else 0) == b
  | _,.int a,.bl b=>a == (if b then 1 else 0)
  | _,.int a,.int b=>a == b
  | _,.str a,.str b=>a == b
  | n+1,.tup a,.tup b=>(List.zipWith (eqN n) a b).all id&&a.length == b.length
  | n+1,.lst a,.lst b=>(List.zipWith (eqN n) a b).all id&&a.length == b.length
  | _,_,_=>false
omit [KK] in
theorem VA {n:Nat}:∀ (a b:List D),(List.zipWith (eqN n) a b).all id=(List.range (min a.length b.length)).all fun j=>eqN n (a.getD j .non) (b.getD j .non):=by
  intro a b
  have:List.zipWith (eqN n) a b=(List.range (min a.length b.length)).map fun j=>eqN n (a.getD j .non) (b.getD j .non):=by
    apply List.ext_getElem
    · simp
    · intro i c d
      simp at c d
      have f:i < a.length:=Nat.lt_of_lt_of_le c (Nat.min_le_left _ _)
      have e:i < b.length:=Nat.lt_of_lt_of_le c (Nat.min_le_right _ _)
      simp [f,e]
  rw [this,List.all_map]
  rfl
omit [KK] in
noncomputable def vOf:D→V
  | .bl b=>.bl b
  | .int i=>.int i
  | .str t=>.str t
  | _=>.non
theorem xv {F:Hp}{d:D}{x:V}(h:okE 0 d=true)(a:At F d x):x=vOf d:=by
  cases d with
  | non=>exact a.non_inv
  | bl b=>exact a.bl_inv
  | int b=>exact a.int_inv
  | str b=>exact a.str_inv
  | _=>cases h
omit [KK] in
theorem Xq {d:D}(h:okE 0 d=true):zjp (vOf d)=true:=by
  cases d <;> first | rfl | cases h
omit [KK] in
theorem VU {d:D}{p:Addr}(h:okE 0 d=true)(e:vOf d=.ref p):False:=by
  cases d <;> first | (cases h;done) | (cases e;done)
noncomputable def dOfV:V→D
  | .bl b=>.bl b
  | .int i=>.int i
  | .str t=>.str t
  | _=>.non
omit [KK] in
theorem zfH {d:D}(h:okE 0 d=true):dOfV (vOf d)=d:=by
  cases d <;> first | rfl | (cases h;done)
omit [KK] in
theorem zdX {d e:D}(a:okE 0 d=true)(b:okE 0 e=true)(h:vOf d=vOf e):d=e:=by
  rw [←zfH a,h,zfH b]
omit [KK] in
theorem xn {n:Nat}{d:D}(h:okE (n+1) d=true):okE 0 d=true∨(∃ a,d=.tup a∧a.all (okE n)=true)∨∃ a,d=.lst a∧a.all (okE n)=true:=by
  cases d with
  | tup a=>exact .inr (.inl ⟨a,rfl,h⟩)
  | lst a=>exact .inr (.inr ⟨a,rfl,h⟩)
  | scr _=>cases h
  | dct _ _ _ _=>cases h
  | _=>exact .inl rfl
theorem zd3 {F:Hp}{n:Nat}(k:∀ {d e:D} {v:V},okE n d=true→okE n e=true→At F d v→At F e v→d=e):∀ {c:List V} {a b:List D},a.all (okE n)=true→b.all (okE n)=true→AtL F a c→AtL F b c→a=b:=by
  intro c
  induction c with
  | nil =>
    intro a b _ _ g f
    exact (List.length_eq_zero_iff.mp g.length.symm).trans (List.length_eq_zero_iff.mp f.length.symm).symm
  | cons x c j =>
    intro a b h i g f
    cases a with
    | nil=>cases g.nil_inv
    | cons d a=>cases b with
      | nil=>cases f.nil_inv
      | cons e b =>
        obtain ⟨y,r,o,b1,m⟩:=g.cons_inv
        obtain ⟨s,q,l,b2,p⟩:=f.cons_inv
        cases o
        cases l
        rw [List.all_cons,Bool.and_eq_true] at h i
        rw [j h.2 i.2 m p,k h.1 i.1 b1 b2]
theorem zh7 {F:Hp}:∀ (n:Nat) {d e:D} {v:V},okE n d=true→okE n e=true→At F d v→At F e v→d=e:=by
  intro n
  induction n with
  | zero =>
    intro d e v l g j a
    exact zdX l g ((xv l j).symm.trans (xv g a))
  | succ n u =>
    intro d e v l g j a
    rcases xn l with f1 | ⟨w,rfl,m⟩ | ⟨w,rfl,m⟩
    · have b:=xv f1 j
      rcases xn g with f2 | ⟨k,rfl,_⟩ | ⟨k,rfl,_⟩
      · exact zdX f1 f2 (b.symm.trans (xv f2 a))
      · obtain ⟨p,s,o,_⟩:=a.tup_inv
        exact (VU f1 (b.symm.trans o)).elim
      · obtain ⟨p,s,o,_⟩:=a.lst_inv
        exact (VU f1 (b.symm.trans o)).elim
    · obtain ⟨p,s,c,i,r⟩:=j.tup_inv
      rcases xn g with f2 | ⟨k,rfl,h⟩ | ⟨k,rfl,h⟩
      · exact (VU f2 ((xv f2 a).symm.trans c)).elim
      · obtain ⟨q,t,b,f,bl⟩:=a.tup_inv
        cases c.symm.trans b
        cases i.symm.trans f
        rw [zd3 u m h r bl]
      · obtain ⟨q,t,b,f,bl⟩:=a.lst_inv
        cases c.symm.trans b
        cases i.symm.trans f
    · obtain ⟨p,s,c,i,r⟩:=j.lst_inv
      rcases xn g with f2 | ⟨k,rfl,h⟩ | ⟨k,rfl,h⟩
      · exact (VU f2 ((xv f2 a).symm.trans c)).elim
      · obtain ⟨q,t,b,f,bl⟩:=a.tup_inv
        cases c.symm.trans b
        cases i.symm.trans f
      · obtain ⟨q,t,b,f,bl⟩:=a.lst_inv
        cases c.symm.trans b
        cases i.symm.trans f
        rw [zd3 u m h r bl]
omit [KK] in
theorem zhc:∀ (n:Nat) {d:D},okE n d=true→eqN n d d=true:=by
  intro n
  induction n with
  | zero =>
    intro d h
    cases d with
    | tup _=>cases h
    | lst _=>cases h
    | scr _=>cases h
    | dct _ _ _ _=>cases h
    | _=>first | rfl | exact decide_eq_true rfl | exact beq_self_eq_true _
  | succ n e =>
    have b:∀ {a:List D},a.all (okE n)=true→(List.zipWith (eqN n) a a).all id=true:=by
      intro a
      induction a with
      | nil=>intro _;rfl
      | cons d a c =>
        intro h
        rw [List.all_cons,Bool.and_eq_true] at h
        rw [List.zipWith_cons_cons,List.all_cons,c h.2,Bool.and_true]
        exact e h.1
    intro d h
    cases d with
    | tup a=>show ((List.zipWith (eqN n) a a).all id&&a.length == a.length)=true;rw [b h];simp
    | lst a=>show ((List.zipWith (eqN n) a a).all id&&a.length == a.length)=true;rw [b h];simp
    | scr _=>cases h
    | dct _ _ _ _=>cases h
    | _=>first | rfl | exact decide_eq_true rfl | exact beq_self_eq_true _
theorem zhy {F:Hp}(n:Nat){d e:D}{v:V}(b:okE n d=true)(a:okE n e=true)(f:At F d v)(c:At F e v):eqN n d e=true:=by
  rw [zh7 n b a f c]
  exact zhc n a
omit [KK] in
theorem xO {n:Nat}{a:List D}{j:Nat}(h:a.all (okE n)=true)(b:j < a.length):okE n (a.getD j .non)=true:=by
  have:a.getD j .non=a[j]:=by simp [b]
  rw [this]
  exact List.all_eq_true.mp h _ (List.getElem_mem b)
theorem AtL.nth {F:Hp}{a:List D}{c:List V}{b:List Value}{j:Nat}(f:AtL F a c)(r:ye c b)(h:j < b.length):∃ x,At F (a.getD j .non) x∧yk x b[j]:=by
  have o:=f.length
  have n:=r.length
  have e:j < a.length:=by omega
  obtain ⟨x,l,k⟩:=f.get (i:=j) (d:=a[j]) (by simp [e])
  obtain ⟨u,g,m⟩:=r.get l
  refine ⟨x,by rw [show a.getD j .non=a[j] by simp [e]];exact k,?_⟩
  have:b[j]?=some b[j]:=by simp [h]
  rw [g] at this
  cases this
  exact m
omit [KK] in
theorem zcg {n:Nat}{d e:D}(a:okE 0 d=true)(b:okE 0 e=true):eqN n d e=eqV (vOf d) (vOf e):=by
  cases n <;> cases d <;> first | (cases a;done) | skip
  all_goals cases e <;> first | (cases b;done) | rfl
omit [KK] in
theorem zcF {n:Nat}{d:D}(a:List D)(h:okE 0 d=true):eqN (n+1) d (.tup a)=false∧eqN (n+1) d (.lst a)=false∧eqN (n+1) (.tup a) d=false∧eqN (n+1) (.lst a) d=false:=by
  cases d <;> first | exact ⟨rfl,rfl,rfl,rfl⟩ | cases h
omit [KK] in
theorem V5 {A:Around}{s:Shared}{d:D}{u:Value}{p:Addr}{e:Array Value}(h:okE 0 d=true)(r:yk (vOf d) u)(c:A.units < cLine) :
    (s.heap.IsTuple p e→SeqAt.EqAt A s u (.ref p) false∧SeqAt.EqAt A s (.ref p) u false)∧(s.heap.IsList p e→SeqAt.EqAt A s u (.ref p) false∧SeqAt.EqAt A s (.ref p) u false):=by
  cases d with
  | non=>cases r;exact ⟨fun a=>⟨.none_tuple a c,.tuple_none a c⟩,fun a=>⟨.none_list a c,.list_none a c⟩⟩
  | bl b=>cases r;exact ⟨fun a=>⟨.bool_tuple b a c,.tuple_bool b a c⟩,fun a=>⟨.bool_list b a c,.list_bool b a c⟩⟩
  | int b=>obtain ⟨t,rfl⟩:=r;exact ⟨fun a=>⟨.int_tuple b t a c,.tuple_int b t a c⟩,fun a=>⟨.int_list b t a c,.list_int b t a c⟩⟩
  | str b=>obtain ⟨t,rfl⟩:=r;exact ⟨fun a=>⟨.str_tuple b t a c,.tuple_str b t a c⟩,fun a=>⟨.str_list b t a c,.list_str b t a c⟩⟩
  | _=>cases h
theorem VJ {X:Cx}{c:List (Addr × Obj)}{σ:St}{F H:Hp}{s:Shared}(I:Inv X c σ H s)(i:zX F H){e:List D}{x:V}{u:Value}(a:At F (.tup e) x)(r:yk x u):∃ p b d,u=.ref p∧x=.ref p∧ye d b∧AtL F e d∧s.heap.IsTuple p b.toArray:=by
  obtain ⟨p,d,rfl,g,h⟩:=a.tup_inv
  cases r
  obtain ⟨b,f,j,k⟩:=I.tuple (SqT.of (i _ _ g))
  exact ⟨p,b,d,rfl,rfl,f,h,j⟩
theorem Vq {X:Cx}{c:List (Addr × Obj)}{σ:St}{F H:Hp}{s:Shared}(I:Inv X c σ H s)(i:zX F H){e:List D}{x:V}{u:Value}(a:At F (.lst e) x)(r:yk x u):∃ p b d,u=.ref p∧x=.ref p∧ye d b∧AtL F e d∧s.heap.IsList p b.toArray:=by
  obtain ⟨p,d,rfl,g,h⟩:=a.lst_inv
  cases r
  obtain ⟨b,f,j,k⟩:=I.list (SqL.of (i _ _ g))
  exact ⟨p,b,d,rfl,rfl,f,h,j.isList⟩
omit [KK] in
theorem zek {n:Nat}(a b:List D):((List.zipWith (eqN n) a b).all id&&a.length == b.length)=((List.range (min a.length b.length)).all (fun j=>eqN n (a.getD j .non) (b.getD j .non))&&a.length == b.length):=by rw [VA]
theorem zcc {X:Cx}{O:List (Addr × Obj)}{σ:St}{F H:Hp}{s:Shared}(I:Inv X O σ H s)(w:zX F H):∀ (n:Nat) {A:Around} {d e:D} {x y:V} {u v:Value},okE n d=true→okE n e=true→At F d x→At F e y→yk x u→yk y v→A.units+n < cLine→SeqAt.EqAt A s u v (eqN n d e):=by
  intro n
  induction n with
  | zero =>
    intro A d e x y u v C o r g G m Z
    cases xv C r
    cases xv o g
    rw [zcg C o]
    exact zhR G m (Xq C) (Xq o)
  | succ n ih =>
    intro A d e x y u v C o r g G m Z
    have b:A.units < cLine:=Nat.lt_of_le_of_lt (Nat.le_add_right _ _) Z
    have Q:A.units+1+n < cLine:=by rw [Nat.add_assoc,Nat.add_comm 1 n];exact Z
    rcases xn C with f1 | ⟨k,rfl,S⟩ | ⟨k,rfl,S⟩
    · cases xv f1 r
      rcases xn o with f2 | ⟨c,rfl,B⟩ | ⟨c,rfl,B⟩
      · cases xv f2 g
        rw [zcg f1 f2]
        exact zhR G m (Xq f1) (Xq f2)
      · obtain ⟨q,a,R,rfl,_,_,_,ht2⟩:=VJ I w g m
        rw [(zcF c f1).1]
        exact ((V5 f1 G b).1 ht2).1
      · obtain ⟨q,a,R,rfl,_,_,_,ht2⟩:=Vq I w g m
        rw [(zcF c f1).2.1]
        exact ((V5 f1 G b).2 ht2).1
    · obtain ⟨p,J,xs,rfl,K,L,P,z⟩:=VJ I w r G
      rcases xn o with f2 | ⟨c,rfl,B⟩ | ⟨c,rfl,B⟩
      · cases xv f2 g
        rw [(zcF k f2).2.2.1]
        exact ((V5 f2 m b).1 z).2
      · obtain ⟨q,a,R,rfl,E,l,bl,ht2⟩:=VJ I w g m
        by_cases i:p=q
        · subst i
          rw [K] at r
          rw [E] at g
          rw [zhy (n+1) C o r g]
          exact .same _
        · have f:J.toArray.size=k.length:=by rw [List.size_toArray,← L.length,P.length]
          have h:a.toArray.size=c.length:=by rw [List.size_toArray,← l.length,bl.length]
          have:=SeqAt.RcAt.tuples (A:=A) (e:=fun j=>eqN n (k.getD j .non) (c.getD j .non)) z ht2 b fun j M N=>by
            obtain ⟨x',W,U⟩:=P.nth L (j:=j) M
            obtain ⟨y',Y,T⟩:=bl.nth l (j:=j) N
            exact ih (xO S (f ▸ M)) (xO B (h ▸ N)) W Y U T Q
          rw [f,h] at this
          rw [show eqN (n+1) (.tup k) (.tup c)=_ from zek k c]
          exact SeqAt.EqAt.of_refs i this
      · obtain ⟨q,a,R,rfl,_,_,_,ht2⟩:=Vq I w g m
        exact .tuple_list z ht2 b
    · obtain ⟨p,J,xs,rfl,K,L,P,z⟩:=Vq I w r G
      rcases xn o with f2 | ⟨c,rfl,B⟩ | ⟨c,rfl,B⟩
      · cases xv f2 g
        rw [(zcF k f2).2.2.2]
        exact ((V5 f2 m b).2 z).2
      · obtain ⟨q,a,R,rfl,_,_,_,ht2⟩:=VJ I w g m
        exact .list_tuple z ht2 b
      · obtain ⟨q,a,R,rfl,E,l,bl,ht2⟩:=Vq I w g m
        by_cases i:p=q
        · subst i
          rw [K] at r
          rw [E] at g
          rw [zhy (n+1) C o r g]
          exact .same _
        · have f:J.toArray.size=k.length:=by rw [List.size_toArray,← L.length,P.length]
          have h:a.toArray.size=c.length:=by rw [List.size_toArray,← l.length,bl.length]
          rw [show eqN (n+1) (.lst k) (.lst c)=_ from zek k c]
          by_cases t:k.length=c.length
          · have:=SeqAt.RcAt.lists (A:=A) (e:=fun j=>eqN n (k.getD j .non) (c.getD j .non)) z ht2 (by rw [f,h,t]) b fun j M N=>by
              obtain ⟨x',W,U⟩:=P.nth L (j:=j) M
              obtain ⟨y',Y,T⟩:=bl.nth l (j:=j) N
              exact ih (xO S (f ▸ M)) (xO B (h ▸ N)) W Y U T Q
            rw [f] at this
            rw [←t,Nat.min_self,beq_self_eq_true,Bool.and_true]
            exact SeqAt.EqAt.of_refs i this
          · have:=SeqAt.RcAt.lists_lengths (A:=A) z ht2 (by rw [f,h];exact bne_iff_ne.mpr t) b
            rw [beq_eq_false_iff_ne.mpr t,Bool.and_false]
            exact SeqAt.EqAt.of_refs i this
noncomputable def zmM (d:D)(a:List D):Option Bool:=if okE 20 d=true∧a.all (okE 20)=true then some (a.any fun e=>eqN 20 e d) else none
noncomputable def inD (d e:D):Option D:=(WM e).bind fun a=>(zmM d a).map .bl
open Classical in
noncomputable def zfN (F:Hp)(d:D)(u:Value):Bool:=decide (∃ a x,At F a x∧yk x u∧okE 20 a=true∧eqN 20 a d=true)
open Classical in
theorem zdJ {F:Hp}{d b:D}{x:V}{u:Value}(a:At F b x)(r:yk x u)(k:okE 20 b=true):zfN F d u=eqN 20 b d:=by
  unfold zfN
  cases h:eqN 20 b d with
  | true=>exact decide_eq_true ⟨b,x,a,r,k,h⟩
  | false =>
    refine decide_eq_false ?_
    rintro ⟨j,y,i,g,f,c⟩
    have e:=g.inj r
    subst e
    rw [zh7 20 f k i a] at c
    rw [c] at h
    cases h
theorem VI {F:Hp}{d:D}:∀ {a:List D} {b:List V} {c:List Value},AtL F a b→ye b c→a.all (okE 20)=true→c.any (zfN F d)=a.any fun e=>eqN 20 e d
  | [],_,_,al,r,_=>by cases al.nil_inv;cases r;rfl
  | e::a,_,_,al,r,k=>by
    obtain ⟨x,b,rfl,i,g⟩:=al.cons_inv
    cases r with
    | cons h f =>
      rw [List.all_cons,Bool.and_eq_true] at k
      rw [List.any_cons,List.any_cons,zdJ i h k.1,VI g f k.2]
section
variable {X:Cx}
noncomputable def rInD (a:Bool):R2:=fun x y H Q=>∃ F d e c b,zX F H∧At F d x∧At F e y∧WM e=some c∧zmM d c=some b∧Q (.bl (if a then !b else b)) H
theorem zhT {k:Nat}(N:yL k X.A):OpR X (compareOp .In) (rInD false):=by
  intro J s σ H x y v u Q I L D h
  obtain ⟨F,d,e,E,b,B,O,K,P,o,q⟩:=h
  unfold zmM at o
  split at o <;> cases o
  rename_i m
  have R:X.A.in1.units+20 < cLine:=by have:=N.un;show X.A.units+1+20 < cLine;omega
  have g:∀ {i:List V} {w:List Value},AtL F E i→ye i w→∀ z∈w,SeqAt.EqAt X.A.in1 s z v (zfN F d z):=fun {i w} c r z f=>by
    obtain ⟨j,M,rfl⟩:=List.getElem_of_mem f
    obtain ⟨S,G,l⟩:=c.nth r M
    have A:j < E.length:=by have:=c.length;have:=r.length;omega
    have C:=xO m.2 A
    rw [zdJ G l C]
    exact zcc I B 20 C m.1 G O l L R
  cases e <;> cases P
  · obtain ⟨p,i,rfl,t,c⟩:=K.tup_inv
    cases D
    obtain ⟨a,r,n,f⟩:=I.tuple (SqT.of (B _ _ t))
    refine SeqAt.in_tupleAt (zfN F d) n (fun z f=>g c r z (by simpa using f)) ⟨.bl _,H,I,rfl,?_⟩
    rw [show a.toArray.any (zfN F d)=a.any (zfN F d) by simp,VI c r m.2]
    exact q
  · obtain ⟨p,i,rfl,t,c⟩:=K.lst_inv
    cases D
    obtain ⟨a,r,n,f⟩:=I.list (SqL.of (B _ _ t))
    refine SeqAt.in_listAt (zfN F d) n.isList (fun z f=>g c r z (by simpa using f)) ⟨.bl _,H,I,rfl,?_⟩
    rw [show a.toArray.any (zfN F d)=a.any (zfN F d) by simp,VI c r m.2]
    exact q
theorem zhk:OpD (rInD false) inD:=by
  intro F H x y d e z Q s j f i q
  obtain ⟨h,g,c⟩:=Option.bind_eq_some_iff.mp i
  obtain ⟨b,a,rfl⟩:=Option.map_eq_some_iff.mp c
  exact ⟨F,d,e,h,b,s,j,f,g,a,q F H _ (.refl s) .bl⟩
noncomputable def eqG (d e:D):Option Bool:=match d,e with
  | .tup _,.tup _=>if okE 20 d=true∧okE 20 e=true then some (eqN 20 d e) else none
  | .lst _,.lst _=>if okE 20 d=true∧okE 20 e=true then some (eqN 20 d e) else none
  | _,_=>eqS d e
noncomputable def Ze (d e:D):Option D:=(eqG d e).map .bl
noncomputable def zl0:R2:=fun x y H Q=>∃ F d e,zX F H∧At F d x∧At F e y∧((∃ a b,d=.tup a∧e=.tup b)∨(∃ a b,d=.lst a∧e=.lst b))∧okE 20 d=true∧okE 20 e=true∧Q (.bl (eqN 20 d e)) H
theorem zlR {k:Nat}(V:yL k X.A):OpR X (compareOp .Eq) zl0:=by
  intro P s σ H x y v u Q I n m h
  obtain ⟨F,d,e,o,S,R,T,L,M,q⟩:=h
  have B:X.A.units+30 < cLine:=by have:=V.un;omega
  rcases T with ⟨g,c,rfl,rfl⟩ | ⟨g,c,rfl,rfl⟩
  · obtain ⟨p,U,rfl,D,z⟩:=S.tup_inv
    obtain ⟨N,ys,rfl,K,bl⟩:=R.tup_inv
    cases n
    cases m
    obtain ⟨l,r,C,W⟩:=I.tuple (SqT.of (o _ _ D))
    obtain ⟨b,A,ht2,E⟩:=I.tuple (SqT.of (o _ _ K))
    have a:l.toArray.size=g.length:=by rw [List.size_toArray,← r.length,z.length]
    have f:b.toArray.size=c.length:=by rw [List.size_toArray,← A.length,bl.length]
    refine SeqAt.eq_tupleAt (e:=fun j=>eqN 19 (g.getD j .non) (c.getD j .non)) (show s.heap.IsTuple p l.toArray from C) (show s.heap.IsTuple N b.toArray from ht2) (by omega) (fun j t w=>?_) ⟨.bl _,H,I,rfl,?_⟩
    · obtain ⟨Y,G,n⟩:=z.nth r (j:=j) (by simpa using t)
      obtain ⟨Z,J,m⟩:=bl.nth A (j:=j) (by simpa using w)
      exact zcc I o 19 (xO L (by rw [←a];exact t)) (xO M (by rw [←f];exact w)) G J (by simpa using n) (by simpa using m) (Nat.lt_of_le_of_lt (show X.A.units+20≤X.A.units+30 from Nat.add_le_add_left (by decide) _) B)
    · rw [a,f,← VA]
      exact q
  · obtain ⟨p,U,rfl,D,z⟩:=S.lst_inv
    obtain ⟨N,ys,rfl,K,bl⟩:=R.lst_inv
    cases n
    cases m
    obtain ⟨l,r,C,W⟩:=I.list (SqL.of (o _ _ D))
    obtain ⟨b,A,ht2,E⟩:=I.list (SqL.of (o _ _ K))
    have a:l.toArray.size=g.length:=by rw [List.size_toArray,← r.length,z.length]
    have f:b.toArray.size=c.length:=by rw [List.size_toArray,← A.length,bl.length]
    have O:eqN 20 (.lst g) (.lst c)=((List.range (min g.length c.length)).all (fun j=>eqN 19 (g.getD j .non) (c.getD j .non))&&g.length == c.length):=by
      show ((List.zipWith (eqN 19) g c).all id&&g.length == c.length)=_
      rw [VA]
    by_cases i:g.length=c.length
    · refine SeqAt.eq_listAt (e:=fun j=>eqN 19 (g.getD j .non) (c.getD j .non)) C.isList ht2.isList (by rw [a,f];exact i) (Nat.lt_of_le_of_lt (Nat.le_add_right _ 30) B) (fun j t w=>?_) ⟨.bl _,H,I,rfl,?_⟩
      · obtain ⟨Y,G,n⟩:=z.nth r (j:=j) (by simpa using t)
        obtain ⟨Z,J,m⟩:=bl.nth A (j:=j) (by simpa using w)
        exact zcc I o 19 (xO L (by rw [←a];exact t)) (xO M (by rw [←f];exact w)) G J (by simpa using n) (by simpa using m) (Nat.lt_of_le_of_lt (show X.A.units+20≤X.A.units+30 from Nat.add_le_add_left (by decide) _) B)
      · rw [a]
        rw [O,← i,Nat.min_self] at q
        simpa using q
    · refine SeqAt.eq_list_lengthsAt C.isList ht2.isList (by rw [a,f];simpa using i) (Nat.lt_of_le_of_lt (Nat.le_add_right _ 30) B) ⟨.bl _,H,I,rfl,?_⟩
      have:(g.length == c.length)=false:=by simpa using i
      rw [O,this,Bool.and_false] at q
      exact q
theorem ziS:OpD zl0 (fun d e=>match d,e with
  | .tup _,.tup _=>if okE 20 d=true∧okE 20 e=true then some (.bl (eqN 20 d e)) else none
  | .lst _,.lst _=>if okE 20 d=true∧okE 20 e=true then some (.bl (eqN 20 d e)) else none
  | _,_=>none):=by
  intro F H x y d e z Q s f c a q
  dsimp only at a
  split at a
  · split at a <;> cases a
    rename_i b
    exact ⟨F,_,_,s,f,c,.inl ⟨_,_,rfl,rfl⟩,b.1,b.2,q F H _ (.refl s) .bl⟩
  · split at a <;> cases a
    rename_i b
    exact ⟨F,_,_,s,f,c,.inr ⟨_,_,rfl,rfl⟩,b.1,b.2,q F H _ (.refl s) .bl⟩
  · cases a
theorem xV {k:Nat}(a:yL k X.A):OpR X (compareOp .Eq) (fun x y H Q=>rEq x y H Q∨zl0 x y H Q):=zkD.or (zlR a)
theorem yK:OpD (fun x y H Q=>rEq x y H Q∨zl0 x y H Q) Ze:=by
  refine zbU (zaO zhN ziS) fun d e z h=>?_
  obtain ⟨b,a,rfl⟩:=Option.map_eq_some_iff.mp h
  unfold eqG at a
  split at a
  · split at a <;> cases a
    rename_i c
    show (Option.or none (if okE 20 _=true∧okE 20 _=true then some (D.bl (eqN 20 _ _)) else none))=_
    rw [if_pos c]
    rfl
  · split at a <;> cases a
    rename_i c
    show (Option.or none (if okE 20 _=true∧okE 20 _=true then some (D.bl (eqN 20 _ _)) else none))=_
    rw [if_pos c]
    rfl
  · show ((eqD d e).or _)=_
    unfold eqD
    rw [a]
    rfl
theorem seq_walk {d:List (Addr × Obj)}{σ:St}{H:Hp}{s:Shared}{a:Addr}{r:List V}{A:Around}{Q:Value→Shared→Prop}{E:Value→Shared→Prop}(I:Inv X d σ H s)(C:A.handled=none)(h:SqL X.K H a r∨SqT X.K H a r)
    (k:∀ (B:Addr) (c:List Value) (y x:List Addr) (St:Nat→Heap→Prop) (f:Shared),ye r c→Walks X.prog X.w A B y x c.length (fun i v=>c[i]?=some v) St→St 0 f.heap→(∀ b∈y,b < f.heap.objs.size) →
      (∀ (l:Heap) (tk:Nat),(∀ b o,b∉x→f.heap.get? b=some o→l.get? b=some o)→Inv X d σ H { f with heap:=l,toks:=tk })→Q (.ref B) f) :
    wpAny (model X.prog X.w) A (pyIter (.ref a)) Q E s:=by
  have g:∀ {o:Obj} {f:Shared},f={ s with heap:=s.heap.push o }→∀ (l:Heap) (tk:Nat),(∀ b u,b∉[s.heap.objs.size]→f.heap.get? b=some u→l.get? b=some u)→Inv X d σ H { f with heap:=l,toks:=tk }:=fun {o f} e l tk kk=>by
    subst e
    exact I.kept (t':=tk) fun b u z=>kk b u (by simpa using Nat.ne_of_lt (Heap.lt_size z)) (Heap.get?_push_of_some _ z)
  rcases h with h | h
  · obtain ⟨c,q,p,F⟩:=I.list h
    have m:a < s.heap.objs.size:=by obtain ⟨o,n,t,_⟩:=p;exact Heap.lt_size t
    refine wpAny_pyIter_list p.isList ?_
    have W:=Walks.list (prog:=X.prog) (w:=X.w) (A:=A) C s.heap.objs.size a (Nat.ne_of_lt m) c.toArray
    refine k s.heap.objs.size c [s.heap.objs.size,a] [s.heap.objs.size] (fun i h=>h.IsListIter s.heap.objs.size a i∧h.IsList a c.toArray) _ q (by simpa using W) ⟨⟨_,Heap.get?_push_size _ rfl,rfl,rfl⟩,p.isList.at fun o e=>Heap.get?_push_of_some _ e⟩ (fun b j=>?_) (g rfl)
    show b < (s.heap.push _).objs.size
    rw [Heap.size_push]
    rcases List.mem_cons.mp j with rfl | j
    · exact Nat.lt_succ_self _
    · rw [List.mem_singleton.mp j];exact Nat.lt_succ_of_lt m
  · obtain ⟨c,q,p,F⟩:=I.tuple h
    have D:s.heap.IsTuple a c.toArray:=p
    have m:a < s.heap.objs.size:=by obtain ⟨o,t,_⟩:=p;exact Heap.lt_size t
    refine wpAny_pyIter_tuple D ?_
    have W:=Walks.tuple (prog:=X.prog) (w:=X.w) (A:=A) C s.heap.objs.size a (Nat.ne_of_lt m) c.toArray
    refine k s.heap.objs.size c [s.heap.objs.size,a] [s.heap.objs.size] (fun i h=>h.IsTupleIter s.heap.objs.size a i∧h.IsTuple a c.toArray) _ q (by simpa using W) ⟨⟨_,Heap.get?_push_size _ rfl,rfl,rfl⟩,D.at fun o e=>Heap.get?_push_of_some _ e⟩ (fun b j=>?_) (g rfl)
    show b < (s.heap.push _).objs.size
    rw [Heap.size_push]
    rcases List.mem_cons.mp j with rfl | j
    · exact Nat.lt_succ_self _
    · rw [List.mem_singleton.mp j];exact Nat.lt_succ_of_lt m
end
end Dl
namespace Dl
open PySem L2
variable [KK]
omit [KK] in
theorem zfb {a:List Bool}:(List.range a.length).all (fun i=>a.getD i false)=a.all id:=by
  have:a=(List.range a.length).map fun i=>a.getD i false:=by
    apply List.ext_getElem
    · simp
    · intro i b c
      simp [b]
  conv=>rhs;rw [this]
  rw [List.all_map]
  rfl
omit [KK] in
theorem zeH {a:List Bool}:(List.range a.length).any (fun i=>a.getD i false)=a.any id:=by
  have:a=(List.range a.length).map fun i=>a.getD i false:=by
    apply List.ext_getElem
    · simp
    · intro i b c
      simp [b]
  conv=>rhs;rw [this]
  rw [List.any_map]
  rfl
omit [KK] in
theorem zeO:∀ (a:List Int) (n:Nat),n≤a.length→preSum (fun i=>a.getD i 0) n=(a.take n).sum:=by
  intro a n
  induction n with
  | zero=>intro _;simp [preSum]
  | succ n b =>
    intro h
    show preSum (fun i=>a.getD i 0) n+a.getD n 0=_
    rw [b (by omega),List.take_succ,List.sum_append]
    have:a[n]?=some a[n]:=by simp [show n < a.length by omega]
    simp [this]
section
variable {X:Cx}
omit [KK] in
theorem zes {b:List Bool}{a:List Value}{i:Nat}{v:Value}(r:ye (b.map V.bl) a)(h:a[i]?=some v):v=.bool (b.getD i false):=by
  have d:=r.length
  have f:i < a.length:=(List.getElem?_eq_some_iff.mp h).1
  rw [List.length_map] at d
  obtain ⟨u,c,e⟩:=r.get (i:=i) (x:=.bl (b[i]'(by omega))) (by rw [List.getElem?_map];simp [show i < b.length by omega])
  rw [h] at c
  cases c
  cases e
  simp [show i < b.length by omega]
omit [KK] in
theorem vals_int {b:List Int}{a:List Value}{i:Nat}{v:Value}(r:ye (b.map V.int) a)(h:a[i]?=some v):∃ t,v=.int (b.getD i 0) t:=by
  have d:=r.length
  have f:i < a.length:=(List.getElem?_eq_some_iff.mp h).1
  rw [List.length_map] at d
  obtain ⟨u,c,e⟩:=r.get (i:=i) (x:=.int (b[i]'(by omega))) (by rw [List.getElem?_map];simp [show i < b.length by omega])
  rw [h] at c
  cases c
  obtain ⟨t,rfl⟩:=e
  exact ⟨t,by simp [show i < b.length by omega]⟩
theorem zdO (k:X.calm=true):vO X (.builtin "all") (fun d H Q=>∃ (p:Addr) (b:List Bool),d=[.ref p]∧(SqL X.K H p (b.map V.bl)∨SqT X.K H p (b.map V.bl))∧Q (.bl (b.all id)) H):=by
  intro e s σ H d A Q I r h
  obtain ⟨p,b,rfl,hq,q⟩:=h
  obtain ⟨u,rfl,z⟩:=Wh r
  cases z
  refine call_all_walk (seq_walk I (I.ok.hd k) hq fun n y m l St B c W x o a=>?_)
  have f:=c.length
  rw [List.length_map] at f
  refine ⟨n,m,l,_,_,St,fun i=>b.getD i false,rfl,W,x,fun i v s Q E j g=>?_,fun t tk w=>⟨.bl _,H,a t tk w,rfl,?_⟩⟩
  · rw [zes c j]
    exact wpAny_truthy_bool g
  · rw [←f,zfb]
    exact q
theorem zdH (k:X.calm=true):vO X (.builtin "any") (fun d H Q=>∃ (p:Addr) (b:List Bool),d=[.ref p]∧(SqL X.K H p (b.map V.bl)∨SqT X.K H p (b.map V.bl))∧Q (.bl (b.any id)) H):=by
  intro e s σ H d A Q I r h
  obtain ⟨p,b,rfl,hq,q⟩:=h
  obtain ⟨u,rfl,z⟩:=Wh r
  cases z
  refine call_any_walk (seq_walk I (I.ok.hd k) hq fun n y m l St B c W x o a=>?_)
  have f:=c.length
  rw [List.length_map] at f
  refine ⟨n,m,l,_,_,St,fun i=>b.getD i false,rfl,W,x,fun i v s Q E j g=>?_,fun t tk w=>⟨.bl _,H,a t tk w,rfl,?_⟩⟩
  · rw [zes c j]
    exact wpAny_truthy_bool g
  · rw [←f,zeH]
    exact q
theorem vI (m:X.calm=true):vO X (.builtin "sum") (fun f H Q=>∃ (p:Addr) (a:List Int),f=[.ref p]∧(SqL X.K H p (a.map V.int)∨SqT X.K H p (a.map V.int))∧Q (.int a.sum) H):=by
  intro g s σ H f B Q I r h
  obtain ⟨p,a,rfl,hq,q⟩:=h
  obtain ⟨u,rfl,y⟩:=Wh r
  cases y
  refine call_sum_walkG (seq_walk I (I.ok.hd m) hq fun w n t o St A e W k c b=>?_)
  have d:=e.length
  rw [List.length_map] at d
  refine ⟨w,t,o,_,_,St,fun i=>a.getD i 0,rfl,W,k,c,fun i v l=>vals_int e l,fun x tk z j=>⟨.int a.sum,H,b x tk j,?_,q⟩⟩
  refine ⟨z,?_⟩
  rw [←d,zeO a _ (Nat.le_refl _),List.take_length]
noncomputable def maxL (a:List Int):Int:=(a.max?).getD 0
noncomputable def zjI (a:List Int):Int:=(a.min?).getD 0
omit [KK] in
theorem best_ge (f:Nat→Int):∀ k i,i≤k→f i≤f (argBest (fun i j=>decide (f j < f i)) k)∧argBest (fun i j=>decide (f j < f i)) k≤k:=by
  intro k
  induction k with
  | zero => intro i hi; have : i = 0 := by omega
            subst this;exact ⟨Int.le_refl _,Nat.le_refl _⟩
  | succ k ih =>
    intro i hi
    unfold argBest
    obtain ⟨h1,h2⟩:=ih (min i k) (Nat.min_le_right _ _)
    split
    · rename_i hc
      have hc:f (argBest (fun i j=>decide (f j < f i)) k) < f (k+1):=of_decide_eq_true hc
      refine ⟨?_,Nat.le_refl _⟩
      by_cases hik:i≤k
      · rw [Nat.min_eq_left hik] at h1;omega
      · have:i=k+1:=by omega
        subst this;exact Int.le_refl _
    · rename_i hc
      have hc:¬ f (argBest (fun i j=>decide (f j < f i)) k) < f (k+1):=fun z=>hc (decide_eq_true z)
      refine ⟨?_,by omega⟩
      by_cases hik:i≤k
      · rw [Nat.min_eq_left hik] at h1;exact h1
      · have:i=k+1:=by omega
        subst this;omega
omit [KK] in
theorem max_is {a:List Int}{m:Int}(b:m∈a)(c:∀ x∈a,x≤m):maxL a=m:=by
  unfold maxL
  rw [List.max?_eq_some_iff.mpr ⟨b,c⟩]
  rfl
omit [KK] in
theorem zlS {a:List Int}{m:Int}(b:m∈a)(c:∀ x∈a,m≤x):zjI a=m:=by
  unfold zjI
  rw [List.min?_eq_some_iff.mpr ⟨b,c⟩]
  rfl
omit [KK] in
theorem getD_mem {a:List Int}{k:Nat}(h:k < a.length):a.getD k 0∈a:=by
  rw [List.getD_eq_getElem?_getD,List.getElem?_eq_getElem h]
  exact List.getElem_mem h
omit [KK] in
theorem getD_at {a:List Int}{k:Nat}(h:k < a.length):a.getD k 0=a[k]:=by
  rw [List.getD_eq_getElem?_getD,List.getElem?_eq_getElem h]
  rfl
theorem zd6 (C:X.calm=true):vO X (.builtin "max") (fun n H Q=>∃ (p:Addr) (a:List Int),n=[.ref p]∧(SqL X.K H p (a.map V.int)∨SqT X.K H p (a.map V.int))∧a≠[]∧Q (.int (maxL a)) H):=by
  intro o s σ H n R Q I r h
  obtain ⟨p,a,rfl,hq,k,q⟩:=h
  obtain ⟨u,rfl,N⟩:=Wh r
  cases N
  refine call_max_walk (seq_walk I (I.ok.hd C) hq fun G b F D St T e W M g c=>?_)
  have K:=e.length
  rw [List.length_map] at K
  have l:0 < a.length:=List.length_pos_iff.mpr k
  refine ⟨G,F,D,_,_,St,fun i j=>decide (a.getD j 0 < a.getD i 0),rfl,W,M,g,by omega,fun i j U P s Q E z f w=>?_,fun v J tk y L=>?_⟩
  · obtain ⟨O,rfl⟩:=vals_int e z
    obtain ⟨S,rfl⟩:=vals_int e f
    exact PyProof.Rows.gt_int w
  · obtain ⟨t,rfl⟩:=vals_int e y
    refine ⟨.int (maxL a),H,c J tk L,⟨t,?_⟩,q⟩
    have d:=best_ge (fun i=>a.getD i 0) (b.length - 1)
    have B:argBest (fun i j=>decide (a.getD j 0 < a.getD i 0)) (b.length - 1) < a.length:=by
      have:=(d 0 (Nat.zero_le _)).2
      omega
    rw [max_is (m:=a.getD (argBest (fun i j=>decide (a.getD j 0 < a.getD i 0)) (b.length - 1)) 0)]
    · exact getD_mem B
    · intro x A
      obtain ⟨j,f,rfl⟩:=List.getElem_of_mem A
      have:=(d j (by omega)).1
      rw [←getD_at f]
      exact this
theorem zfp (C:X.calm=true):vO X (.builtin "min") (fun n H Q=>∃ (p:Addr) (a:List Int),n=[.ref p]∧(SqL X.K H p (a.map V.int)∨SqT X.K H p (a.map V.int))∧a≠[]∧Q (.int (zjI a)) H):=by
  intro o s σ H n S Q I r h
  obtain ⟨p,a,rfl,hq,k,q⟩:=h
  obtain ⟨u,rfl,O⟩:=Wh r
  cases O
  refine call_min_walk (seq_walk I (I.ok.hd C) hq fun G b F D St U e W N g c=>?_)
  have K:=e.length
  rw [List.length_map] at K
  have l:0 < a.length:=List.length_pos_iff.mpr k
  refine ⟨G,F,D,_,_,St,fun i j=>decide (a.getD i 0 < a.getD j 0),rfl,W,N,g,by omega,fun i j Y R s Q E z f w=>?_,fun v J tk y M=>?_⟩
  · obtain ⟨P,rfl⟩:=vals_int e z
    obtain ⟨T,rfl⟩:=vals_int e f
    exact PyProof.Rows.lt_int w
  · obtain ⟨t,rfl⟩:=vals_int e y
    refine ⟨.int (zjI a),H,c J tk M,⟨t,?_⟩,q⟩
    have d:=best_ge (fun i=>- a.getD i 0) (b.length - 1)
    have L:(fun i j=>decide (a.getD i 0 < a.getD j 0))=fun i j=>decide (-a.getD j 0 < -a.getD i 0):=by
      funext i j
      congr 1
      apply propext
      constructor <;> intro h <;> omega
    rw [L]
    have B:argBest (fun i j=>decide (-a.getD j 0 < -a.getD i 0)) (b.length - 1) < a.length:=by
      have:=(d 0 (Nat.zero_le _)).2
      omega
    rw [zlS (m:=a.getD (argBest (fun i j=>decide (-a.getD j 0 < -a.getD i 0)) (b.length - 1)) 0)]
    · exact getD_mem B
    · intro x A
      obtain ⟨j,f,rfl⟩:=List.getElem_of_mem A
      have:=(d j (by omega)).1
      rw [←getD_at f]
      omega
noncomputable def zlZ:List D→Option (List Bool)
  | []=>some []
  | .bl b::ds=>(zlZ ds).map (b::·)
  | _=>none
noncomputable def zfL:List D→Option (List Int)
  | []=>some []
  | .int b::ds=>(zfL ds).map (b::·)
  | _=>none
omit [KK] in
theorem zbm:∀ {b:List D} {a:List Bool},zlZ b=some a→b=a.map .bl
  | [],a,h=>by cases h;rfl
  | d::b,a,h=>by
    cases d <;> try cases h
    obtain ⟨e,c,rfl⟩:=Option.map_eq_some_iff.mp h
    rw [zbm c]
    rfl
omit [KK] in
theorem vx:∀ {b:List D} {a:List Int},zfL b=some a→b=a.map .int
  | [],a,h=>by cases h;rfl
  | d::b,a,h=>by
    cases d <;> try cases h
    obtain ⟨e,c,rfl⟩:=Option.map_eq_some_iff.mp h
    rw [vx c]
    rfl
theorem AtL.of_bls {H:Hp}:∀ {b:List Bool} {a:List V},AtL H (b.map D.bl) a→a=b.map V.bl
  | [],_,h=>h.nil_inv
  | n::r,_,h=>by
    obtain ⟨x,e,rfl,c,d⟩:=AtL.cons_inv (by simpa using h)
    rw [c.bl_inv,AtL.of_bls d]
    rfl
noncomputable def zin {α:Type}(a:List D→Option α)(g:α→Option D):List D→Option D
  | [d]=>((WM d).bind a).bind g
  | _=>none
theorem XV {K:PySem.W.Frag}{F H:Hp}{l:List V}{i:List D}{z:D}{α:Type}{m:List D→Option α}{g:α→Option D}(s:zX F H)(o:AtL F i l)(e:zin m g i=some z) :
    ∃ p f a b,l=[.ref p]∧(SqL K H p a∨SqT K H p a)∧AtL F f a∧m f=some b∧g b=some z:=by
  unfold zin at e
  split at e
  · obtain ⟨b,q,h⟩:=Option.bind_eq_some_iff.mp e
    obtain ⟨f,n,j⟩:=Option.bind_eq_some_iff.mp q
    obtain ⟨x,r,rfl,k,t⟩:=o.cons_inv
    cases t.nil_inv
    rename_i d
    cases d <;> cases n
    · obtain ⟨p,a,rfl,c,bl⟩:=k.tup_inv
      exact ⟨p,_,a,b,rfl,.inr (SqT.of (s _ _ c)),bl,j,h⟩
    · obtain ⟨p,a,rfl,c,bl⟩:=k.lst_inv
      exact ⟨p,_,a,b,rfl,.inl (SqL.of (s _ _ c)),bl,j,h⟩
  · cases e
noncomputable def zmT:=zin zlZ fun a=>some (.bl (a.all id))
noncomputable def anyD:=zin zlZ fun a=>some (.bl (a.any id))
noncomputable def zfw:=zin zfL fun a=>some (.int a.sum)
noncomputable def zkg:=zin zfL fun a=>if a=[] then none else some (.int (maxL a))
noncomputable def zlp:=zin zfL fun a=>if a=[] then none else some (.int (zjI a))
theorem ziO {K:PySem.W.Frag}:CaD (fun b H Q=>∃ (p:Addr) (a:List Bool),b=[.ref p]∧(SqL K H p (a.map V.bl)∨SqT K H p (a.map V.bl))∧Q (.bl (a.all id)) H) zmT:=by
  intro F H i g z Q s d e q
  obtain ⟨p,h,b,a,rfl,hq,bl,f,c⟩:=XV (K:=K) s d e
  cases c
  rw [zbm f] at bl
  rw [bl.of_bls] at hq
  exact ⟨p,a,rfl,hq,q F H _ (.refl s) .bl⟩
theorem zjg {K:PySem.W.Frag}:CaD (fun b H Q=>∃ (p:Addr) (a:List Bool),b=[.ref p]∧(SqL K H p (a.map V.bl)∨SqT K H p (a.map V.bl))∧Q (.bl (a.any id)) H) anyD:=by
  intro F H i g z Q s d e q
  obtain ⟨p,h,b,a,rfl,hq,bl,f,c⟩:=XV (K:=K) s d e
  cases c
  rw [zbm f] at bl
  rw [bl.of_bls] at hq
  exact ⟨p,a,rfl,hq,q F H _ (.refl s) .bl⟩
theorem XC {K:PySem.W.Frag}:CaD (fun b H Q=>∃ (p:Addr) (a:List Int),b=[.ref p]∧(SqL K H p (a.map V.int)∨SqT K H p (a.map V.int))∧Q (.int a.sum) H) zfw:=by
  intro F H j h z Q s d e q
  obtain ⟨p,i,b,g,rfl,hq,bl,f,c⟩:=XV (K:=K) s d e
  cases c
  rw [vx f] at bl
  rw [bl.of_ints] at hq
  exact ⟨p,g,rfl,hq,q F H _ (.refl s) .int⟩
theorem zfX {K:PySem.W.Frag}:CaD (fun d H Q=>∃ (p:Addr) (a:List Int),d=[.ref p]∧(SqL K H p (a.map V.int)∨SqT K H p (a.map V.int))∧a≠[]∧Q (.int (maxL a)) H) zkg:=by
  intro F H k i z Q s f e q
  obtain ⟨p,j,d,h,rfl,hq,bl,g,c⟩:=XV (K:=K) s f e
  split at c <;> cases c
  rename_i b
  rw [vx g] at bl
  rw [bl.of_ints] at hq
  exact ⟨p,h,rfl,hq,b,q F H _ (.refl s) .int⟩
theorem zf8 {K:PySem.W.Frag}:CaD (fun d H Q=>∃ (p:Addr) (a:List Int),d=[.ref p]∧(SqL K H p (a.map V.int)∨SqT K H p (a.map V.int))∧a≠[]∧Q (.int (zjI a)) H) zlp:=by
  intro F H k i z Q s f e q
  obtain ⟨p,j,d,h,rfl,hq,bl,g,c⟩:=XV (K:=K) s f e
  split at c <;> cases c
  rename_i b
  rw [vx g] at bl
  rw [bl.of_ints] at hq
  exact ⟨p,h,rfl,hq,b,q F H _ (.refl s) .int⟩
end
end Dl
namespace Dl
open PySem L2
variable [KK]
section
variable {X:Cx}{tg a b c e:Expr}{pos:Pos}
noncomputable def zfM:List D→List D→List D
  | x::xs,y::ys=>.tup [x,y]::zfM xs ys
  | _,_=>[]
omit [KK] in
theorem zco:∀ (b a:List D) (i:Nat),(zfM b a)[i]?=match b[i]?,a[i]? with | some x,some y=>some (.tup [x,y]) | _,_=>none
  | [],a,i=>by simp [zfM]
  | x::b,[],i=>by simp [zfM]
  | x::b,y::a,0=>by simp [zfM]
  | x::b,y::a,i+1=>by simpa [zfM] using zco b a i
omit [KK] in
theorem XD:∀ (a b:List D),a.length≤b.length→(zfM a b).length=a.length
  | [],b,_=>by simp [zfM]
  | x::a,[],h=>by simp at h
  | x::a,y::b,h=>by simp [zfM,XD a b (by simpa using h)]
noncomputable def zf7 (f:Ev→Option (List D)):Ev→Option (List D):=fun ρ=>(f ρ).bind fun c=>match c with
  | [d,e]=>(WM d).bind fun a=>(WM e).bind fun b=>if a.length≤b.length then some (zfM a b) else none
  | _=>none
theorem zkk {K:PySem.W.Frag}{F H:Hp}{d:D}{v:V}{j:List D}(s:zX F H)(h:At F d v)(e:WM d=some j):∃ b p a,v=.ref p∧(∀ {F' H':Hp},zX F F'→zX F' H'→Sq b K H' p a)∧AtL F j a:=by
  cases d <;> cases e
  · obtain ⟨p,a,rfl,g,i⟩:=h.tup_inv
    exact ⟨false,p,a,rfl,fun c f=>SqT.of (f _ _ (c _ _ g)),i⟩
  · obtain ⟨p,a,rfl,g,i⟩:=h.lst_inv
    exact ⟨true,p,a,rfl,fun c f=>SqL.of (f _ _ (c _ _ g)),i⟩
theorem zhx {es:List Expr} {k:Nat} {tp p:Pos} {f:Ev→Option (List D)} (hg:Gl X "zip") (hm:X.mg "zip"=none) (ha:AD X [a,b] f)
    (hs:starEach [a,b] X.env=[(false,eval a X.env),(false,eval b X.env)]:=by rfl) (I:starEach [b] X.env=[(false,eval b X.env)]:=by rfl):ID X (.Tuple es k tp) (.Call (.Name "zip" p) [a,b] [] pos) (zf7 f):=by
  obtain ⟨t,pa,r⟩:=ha
  refine ⟨_,zli hg hm zkr pa hs I,fun σ ρ F H ds R s va e q=>?_⟩
  obtain ⟨as,e1,o⟩:=Option.bind_eq_some_iff.mp e
  refine r σ ρ F H as _ s va e1 fun F1 H1 v l a1=>?_
  split at o
  · obtain ⟨x,r',rfl,ax,M⟩:=a1.cons_inv
    obtain ⟨y,r',rfl,ay,M⟩:=M.cons_inv
    cases M.nil_inv
    obtain ⟨xs,e3,m⟩:=Option.bind_eq_some_iff.mp o
    obtain ⟨ys,e4,c⟩:=Option.bind_eq_some_iff.mp m
    clear o m e
    split at c <;> cases c
    rename_i G
    obtain ⟨b1,p1,w,rfl,j,Y⟩:=zkk (K:=X.K) l.fh ax e3
    obtain ⟨b2,p2,O,rfl,h,bl⟩:=zkk (K:=X.K) l.fh ay e4
    refine ⟨b1,b2,p1,p2,w,O,rfl,j (zX.refl _) l.fh,h (zX.refl _) l.fh,q F1 H1 _ l fun i F2 H2 A C=>?_⟩
    have E:=j A C
    have V:=h A C
    refine ⟨fun hl=>⟨w,E,by rw [hl,XD _ _ G,Y.length]⟩,fun d g=>?_⟩
    rw [zco] at g
    cases B:xs[i]? with
    | none=>rw [B] at g;cases g
    | some x =>
      cases J:ys[i]? with
      | none=>rw [B,J] at g;cases g
      | some y =>
        rw [B,J] at g
        cases g
        obtain ⟨u,U,au⟩:=Y.get B
        obtain ⟨W,n,L⟩:=bl.get J
        refine ⟨⟨w,O,u,W,E,V,U,n⟩,fun z H3 hz=>?_⟩
        obtain ⟨T,x',y',rfl,hT,rfl,P,Q⟩:=hz
        have Z:=P w E
        have S:=Q O V
        rw [U] at Z
        rw [n] at S
        cases Z
        cases S
        have N:=Gr.alloc C hT (.tup [u,W])
        exact ⟨_,N,.tup zo (.cons (au.mono (A.trans N.ff)) (.cons (L.mono (A.trans N.ff)) .nil))⟩
  · cases o
noncomputable def Wn (g:List D→Option (List D))(f:Ev→Option (List D))(b:D→SE→Option SE)(h:SE→Ctl):SE→Ctl:=fun ρ=>match (f (visG ρ)).bind g with
  | some a=>zeX b h a ρ
  | none=>.no
theorem Vw {p c:Pos} {body:List Stmt} {f:Ev→Option (List D)} {m:D→SE→Option SE} {g:SE→Ctl} (C:PassesOwn (model X.prog X.w) X.A X.env X.xe) (d:X.calm=true) (i:Gl X "range") (n:X.mg "range"=none) (J:AD X [a] f) (K:BD X tg m) (q:SDs X body g)
    (l:starEach [a] X.env=[(false,eval a X.env)]:=by rfl) (I:∀ x,foldedSetIterable (.Call (.Name "range" p) [a] [] pos) X.env x=pure x:=by intro _;rfl):SD X (.For tg (.Call (.Name "range" p) [a] [] pos) body [] c) (Wn WT f m g):=by
  obtain ⟨t,s,r⟩:=J
  obtain ⟨B,u,M⟩:=K
  obtain ⟨N,v,w⟩:=q
  refine ⟨_,zh6 C d (zaq i n s l) u v I,fun Fb Hb F H ρ σ E e k=>?_⟩
  unfold Wn at k
  cases h:(f (visG ρ)).bind WT with
  | none=>rw [h] at k;exact k.elim
  | some Q =>
    rw [h] at k
    obtain ⟨L,y,b⟩:=Option.bind_eq_some_iff.mp h
    refine r σ _ _ H L _ e.gh e.visG y fun F1 H1 O o G=>?_
    have j:=e.grow (e.back o).1
    unfold WT at b
    split at b
    · split at b <;> cases b
      rename_i d
      obtain ⟨x,P,rfl,z,A⟩:=G.cons_inv
      cases A.nil_inv
      exact ⟨_,by rw [z.int_inv],(Xn.mp d).1,(Xn.mp d).2,zh3 (zhK 0 _) M w j k⟩
    · cases b
end
theorem ziu {P:Program}{w:World}{K:PySem.W.Frag}{d:Str→Option Value}{a:Heap}{f:Addr}{b:FuncData}{g:List Str}{k m:Nat}:zJ P w K d a CX0 k f b g (spD m fun _=>none):=by
  refine ⟨fun c H Q E h=>?_,fun A outer s H args i c Q E _ _ _ _ h=>?_⟩
  · obtain ⟨_,_,_,_,_,_,e,_⟩:=h
    cases e
  · obtain ⟨_,_,_,_,_,_,e,_⟩:=h
    cases e
noncomputable def zl5 (n:Nat)(g:(List D→Option D)→SE→Ctl):Nat→List D→Option D
  | 0=>fun _=>none
  | k+1=>fnD n (g (zl5 n g k))
theorem zkQ {P:Program}{w:World}{K:PySem.W.Frag}{mg:Str→Option Value}{base:Heap}{x a:Str}{c:Stmt}{f:Addr}{e:FuncData}{N d:List Str}{k0:Nat}{g:(List D→Option D)→SE→Ctl}(Fu:Fun K x a c f e)(S:xr N d (zw c))
    (i:∀ (k:Nat) (r:List D→Option D),zJ P w K mg base CX0 (k0+k) f e d (spD d.length r)→∀ (b:Value) (A:Around) (outer:List Env) (s:Shared) (H:Hp) (E:XK),yL (k0+k) (A.deeper (PyProof.Rows.envOfC a (zw c) s.heap.objs.size f b))→SDs (wS CX0 P w K mg base N a (zw c) f b A outer s H E).nox (yC c) (g r)) :
    ∀ n,zJ P w K mg base CX0 (k0+n) f e d (spD d.length (zl5 N.length g n)):=by
  intro n
  induction n with
  | zero=>exact ziu
  | succ n h=>exact zI Fu S fun b A outer s H E j=>i n _ h b A outer s H E j
noncomputable def zez (K:PySem.W.Frag):Sp:=fun c H Q _=>∃ (a:Addr) (b:List Int),c=[.ref a]∧SqL K H a (b.map V.int)∧b.length≤63∧∀ H',Q (.bl true) H'
end Dl
namespace Dl
open PySem L2
theorem zkn {P:Program}{w:World}{K:PySem.W.Frag}{e:Str→Option Value}{b:Heap}{f:Addr}{d:FuncData}{ps:List Str}{k:Nat}{p:List D→Option D}(F:zJ P w K e b CX0 k f d ps (@spD ⟨K⟩ 1 p))(h:∀ c:List Int,c.length≤63→p [.scr c]=some (.bl true)) :
    zJ P w K e b CX0 k f d ps (zez K):=by
  letI:KK:=⟨K⟩
  refine F.imp fun l H Q E j=>?_
  obtain ⟨a,c,rfl,hq,i,q⟩:=j
  refine ⟨[.scr c],.bl true,H,rfl,zX.refl _,.cons ?_ .nil,h c i,fun F' H' v _ g=>?_⟩
  · unfold At
    exact ⟨a,rfl,hq⟩
  · rw [g.bl_inv]
    exact q H'
structure Def (K:PySem.W.Frag) (mg:Str→Option Value) (x:Str) (st:Stmt) (ps:List Str) (f:Addr) (fd:FuncData):Prop where
  fn:Fun K x x st f fd
  bd:vH K fd ps []
  at_:mg x=some (.ref f)
theorem Def.kp {K:PySem.W.Frag}{c:Str→Option Value}{x:Str}{b:Stmt}{e:List Str}{f:Addr}{a:FuncData}(d:Def K c x b e f a):PySem.W.keepIn K (.ref f)=true:=d.fn.kp
inductive Ctl.w:Ctl→(SE→Prop)→(SE→Prop)→(SE→Prop)→(D→Prop)→Prop where
  | nx {ρ:SE} {n b k:SE→Prop} {r:D→Prop}:n ρ→Ctl.w (.nx ρ) n b k r
  | bk {ρ:SE} {n b k:SE→Prop} {r:D→Prop}:b ρ→Ctl.w (.bk ρ) n b k r
  | ct {ρ:SE} {n b k:SE→Prop} {r:D→Prop}:k ρ→Ctl.w (.ct ρ) n b k r
  | rt {d:D} {n b k:SE→Prop} {r:D→Prop}:r d→Ctl.w (.rt d) n b k r
section
variable {ρ:SE}{d:D}{n b k:SE→Prop}{r:D→Prop}
theorem Ctl.w.nxi (h:Ctl.w (.nx ρ) n b k r):n ρ:=by cases h;assumption
theorem Ctl.w.bki (h:Ctl.w (.bk ρ) n b k r):b ρ:=by cases h;assumption
theorem Ctl.w.cti (h:Ctl.w (.ct ρ) n b k r):k ρ:=by cases h;assumption
theorem Ctl.w.rti (h:Ctl.w (.rt d) n b k r):r d:=by cases h;assumption
theorem Ctl.w.noi (h:Ctl.w .no n b k r):False:=by cases h
end
noncomputable abbrev noP:SE→Prop:=fun _=>False
section
variable {g h:SE→Ctl}{ρ ρ':SE}{n b k:SE→Prop}{r:D→Prop}
theorem zkl (e:(g ρ).w (fun ρ'=>(h ρ').w n b k r) b k r):(zx g h ρ).w n b k r:=by
  unfold zx
  cases a:g ρ with
  | nx ρ'=>rw [a] at e;exact e.nxi
  | bk ρ'=>rw [a] at e;exact .bk e.bki
  | ct ρ'=>rw [a] at e;exact .ct e.cti
  | rt d=>rw [a] at e;exact .rt e.rti
  | no=>rw [a] at e;exact e.noi.elim
theorem yO (e:g ρ=.nx ρ')(q:(h ρ').w n b k r):(zx g h ρ).w n b k r:=zkl (by rw [e];exact .nx q)
theorem w_nx (e:g ρ=.nx ρ')(q:n ρ'):(g ρ).w n b k r:=by rw [e];exact .nx q
theorem w_rt {d:D}(e:g ρ=.rt d)(q:r d):(g ρ).w n b k r:=by rw [e];exact .rt q
theorem zhl {h:D→SE→Option SE}(I:Nat→SE→Prop):∀ (c:List D) (j:Nat) (ρ:SE),I j ρ →
    (∀ i d ρ,c[i]?=some d→I (j+i) ρ→∃ f,h d ρ=some f∧(g f).w (I (j+i+1)) n (I (j+i+1)) r)→(∀ ρ,I (j+c.length) ρ→n ρ)→(zeX h g c ρ).w n b k r
  | [],j,ρ,h0,_,fin=>.nx (fin ρ h0)
  | d::c,j,ρ,h0,step,fin=>by
    obtain ⟨f,o,a⟩:=step 0 d ρ rfl h0
    unfold zeX
    rw [o]
    dsimp only
    have next:∀ ρ',I (j+1) ρ'→(zeX h g c ρ').w n b k r:=fun ρ' q=>zhl I c (j+1) ρ' q
      (fun i m ρ p l=>by
        have:=step (i+1) m ρ (by simpa using p) (by rw [show j+(i+1)=j+1+i by omega];exact l)
        rwa [show j+(i+1)+1=j+1+i+1 by omega] at this)
      (fun ρ l=>fin ρ (by rw [List.length_cons,show j+(c.length+1)=j+1+c.length by omega];exact l))
    cases e:g f with
    | nx ρ'=>rw [e] at a;exact next ρ' a.nxi
    | ct ρ'=>rw [e] at a;exact next ρ' a.cti
    | bk ρ'=>rw [e] at a;exact .nx a.bki
    | rt m=>rw [e] at a;exact .rt a.rti
    | no=>rw [e] at a;exact a.noi.elim
theorem zmC {f:Ev→Option (List D)}{h:D→SE→Option SE}{ds:List D}(I:Nat→SE→Prop)(e:f (visF ρ)=some ds)(j:I 0 ρ)
    (step:∀ i d ρ,ds[i]?=some d→I i ρ→∃ c,h d ρ=some c∧(g c).w (I (i+1)) n (I (i+1)) r) (fin:∀ ρ,I ds.length ρ→n ρ):(WE f h g ρ).w n b k r:=by
  unfold WE
  rw [e]
  exact zhl I ds 0 ρ j (fun i d ρ l a=>by rw [Nat.zero_add] at a ⊢;exact step i d ρ l a) (fun ρ a=>fin ρ (by rw [Nat.zero_add] at a;exact a))
end
theorem fn_w {m:Nat}{g:SE→Ctl}{b:List D}{d:D}{ρ:SE}(e:b.map .v++List.replicate (m - b.length) .no=ρ)(q:(g ρ).w (fun _=>d=.non) noP noP (fun c=>c=d)):fnD m g b=some d:=by
  unfold fnD
  rw [e]
  cases a:g ρ with
  | nx f=>rw [a] at q;rw [show d=.non from q.nxi]
  | rt c=>rw [a] at q;rw [show c=d from q.rti]
  | bk _=>rw [a] at q;exact q.bki.elim
  | ct _=>rw [a] at q;exact q.cti.elim
  | no=>rw [a] at q;exact q.noi.elim
theorem zhs {n:Nat}(h:n≤1000):lim n=true:=by
  unfold lim
  exact decide_eq_true (Nat.le_of_lt (XT h))
noncomputable abbrev Pr:=Int × Int
variable [KK]
end Dl
namespace Dl
open PySem L2
noncomputable def zmW:D→Option Key
  | .int i=>some (.inl i)
  | .str x=>some (.inr x)
  | _=>none
noncomputable def zgs:List D→Option (List Key)
  | []=>some []
  | d::ds=>(zmW d).bind fun k=>(zgs ds).map (k::·)
noncomputable def zkV:D→Option (List Key)
  | .tup a=>zgs a
  | _=>none
noncomputable def ziR (t:Bool)(d:D):Option (List Key):=if t=true then zkV d else (zmW d).map ([·])
noncomputable def intQ:Int→Int→Bool
  | .ofNat a,.ofNat b=>Nat.beq a b
  | .negSucc a,.negSucc b=>Nat.beq a b
  | _,_=>false
theorem zcf {a b:Int}:intQ a b=true↔a=b:=by
  cases a with
  | ofNat a=>cases b with
    | ofNat b=>exact ⟨fun h=>(by rw [Nat.eq_of_beq_eq_true h]),fun h=>(by cases h;exact Nat.beq_refl a)⟩
    | negSucc b=>exact ⟨fun h=>(by cases h),fun h=>(by cases h)⟩
  | negSucc a=>cases b with
    | ofNat b=>exact ⟨fun h=>(by cases h),fun h=>(by cases h)⟩
    | negSucc b=>exact ⟨fun h=>(by rw [Nat.eq_of_beq_eq_true h]),fun h=>(by cases h;exact Nat.beq_refl a)⟩
noncomputable def zfV:Key→Key→Bool
  | .inl i,.inl j=>intQ i j
  | .inr a,.inr b=>decide (a=b)
  | _,_=>false
noncomputable def zl3:List Key→List Key→Bool
  | [],[]=>true
  | a::r,b::s=>match zfV a b with
    | true=>zl3 r s
    | false=>false
  | _,_=>false
theorem za4 {a b:Key}:zfV a b=true↔a=b:=by
  cases a with
  | inl i=>cases b with
    | inl j=>exact ⟨fun h=>(by rw [zcf.mp h]),fun h=>(by cases h;exact zcf.mpr rfl)⟩
    | inr b=>exact ⟨fun h=>(by cases h),fun h=>(by cases h)⟩
  | inr i=>cases b with
    | inl j=>exact ⟨fun h=>(by cases h),fun h=>(by cases h)⟩
    | inr b=>exact ⟨fun h=>(by rw [of_decide_eq_true h]),fun h=>(by cases h;exact decide_eq_true rfl)⟩
theorem zcH {x y:List Key}:zl3 x y=true↔x=y:=by
  induction x generalizing y with
  | nil=>cases y with
    | nil=>exact ⟨fun _=>rfl,fun _=>rfl⟩
    | cons b s=>exact ⟨fun h=>(by cases h),fun h=>(by cases h)⟩
  | cons a r c=>cases y with
    | nil=>exact ⟨fun h=>(by cases h),fun h=>(by cases h)⟩
    | cons b s =>
      show (match zfV a b with | true=>zl3 r s | false=>false)=true↔_
      cases h:zfV a b with
      | true=>rw [za4.mp h];exact c.trans ⟨fun h=>(by rw [h]),fun h=>(by cases h;rfl)⟩
      | false=>exact ⟨fun h=>(by cases h),fun e=>(by cases e;rw [za4.mpr rfl] at h;cases h)⟩
noncomputable def zeG (x y:List Key):Decidable (x=y):=match h:zl3 x y with
  | true=>.isTrue (zcH.mp h)
  | false=>.isFalse fun e=>by rw [zcH.mpr e] at h;cases h
noncomputable def V8:List (List Key)→List D→List Key→Option D
  | k'::ks,v::vs,k=>@ite _ (k'=k) (zeG k' k) (some v) (V8 ks vs k)
  | _,_,_=>none
noncomputable def zl6:List (List Key)→List D→List Key→D→List D
  | k'::ks,v::vs,k,d=>(@ite _ (k'=k) (zeG k' k) d v)::zl6 ks vs k d
  | _,_,_,_=>[]
noncomputable def zgz (a:List (List Key))(b:List D)(k:List Key):List (List Key):=if (V8 a b k).isSome=true then a else a++[k]
noncomputable def zfU (b:List (List Key))(a:List D)(k:List Key)(d:D):List D:=if (V8 b a k).isSome=true then zl6 b a k d else a++[d]
theorem zaK {a k:List Key}{c:List (List Key)}{v:D}{b:List D}:V8 (a::c) (v::b) k=if a=k then some v else V8 c b k:=by
  show @ite _ (a=k) (zeG a k) (some v) (V8 c b k)=_
  by_cases h:a=k
  · rw [if_pos h,if_pos h]
  · rw [if_neg h,if_neg h]
section
variable [KK]
theorem zbz {F:Hp}{d:D}{k:Key}{y:V}(h:zmW d=some k)(a:At F d y):y=kV k:=by
  cases d with
  | int i=>cases h;exact a.int_inv
  | str x=>cases h;exact a.str_inv
  | _=>cases h
theorem zcb {F:Hp}:∀ {b:List D} {c:List Key} {e:List V},zgs b=some c→AtL F b e→e=c.map kV
  | [],_,_,h,a=>by cases h;exact a.nil_inv
  | d::b,_,_,h,a=>by
    obtain ⟨k,f,g⟩:=Option.bind_eq_some_iff.mp h
    obtain ⟨r,i,rfl⟩:=Option.map_eq_some_iff.mp g
    obtain ⟨x,m,rfl,l,j⟩:=a.cons_inv
    rw [zbz f l,zcb i j]
    rfl
theorem zbj {F:Hp}{d:D}{k:List Key}{y:V}(h:zkV d=some k)(a:At F d y):∃ b,y=.ref b∧F b=some (.tup (k.map kV)):=by
  cases d with
  | tup e =>
    obtain ⟨b,g,rfl,c,f⟩:=a.tup_inv
    rw [zcb (show zgs e=some k from h) f] at c
    exact ⟨b,rfl,c⟩
  | _=>cases h
section
variable {κ:Type}[DecidableEq κ](f:κ→List Key)(hf:∀ a b,f a=f b→a=b)
include hf
theorem V1 {F:Hp}{k:κ}:∀ {b:List (κ × V)} {c:List D},AtL F c (b.map (·.2)) →
    (∀ d,V8 (b.map fun p=>f p.1) c (f k)=some d→∃ x,zcP b k=some x∧At F d x)∧(V8 (b.map fun p=>f p.1) c (f k)=none→zcP b k=none)
  | [],_,_=>⟨fun d h=>(by cases h),fun _=>rfl⟩
  | p::b,[],a=>by cases a.nil_inv
  | p::b,v::c,a=>by
    obtain ⟨x,r,e,j,i⟩:=a.cons_inv
    cases e
    have g:=V1 (k:=k) i
    by_cases h:p.1=k
    · rw [Xx h]
      have e:V8 ((p::b).map fun p=>f p.1) (v::c) (f k)=some v:=by
        rw [List.map_cons,zaK,if_pos (by rw [h])]
      rw [e]
      exact ⟨fun d z=>(by cases z;exact ⟨_,rfl,j⟩),fun z=>(by cases z)⟩
    · rw [Xw h]
      have e:V8 ((p::b).map fun p=>f p.1) (v::c) (f k)=V8 (b.map fun p=>f p.1) c (f k):=by
        rw [List.map_cons,zaK,if_neg (fun z=>h (hf _ _ z))]
      rw [e]
      exact g
theorem zf3 {F:Hp}{k:κ}{b:List (κ × V)}{c:List D}(a:AtL F c (b.map (·.2))):(V8 (b.map fun p=>f p.1) c (f k)).isSome=(zcP b k).isSome:=by
  obtain ⟨g,i⟩:=V1 f hf (k:=k) a
  cases h:V8 (b.map fun p=>f p.1) c (f k) with
  | none=>rw [i h];rfl
  | some d=>obtain ⟨x,e,_⟩:=g d h;rw [e];rfl
theorem zey {F:Hp}{k:κ}{d:D}{y:V}(i:At F d y):∀ {b:List (κ × V)} {c:List D},AtL F c (b.map (·.2)) →
    AtL F (zl6 (b.map fun p=>f p.1) c (f k) d) ((b.map fun g=>if g.1=k then (g.1,y) else g).map (·.2))
  | [],_,_=>by unfold zl6;exact .nil
  | p::b,[],a=>by cases a.nil_inv
  | p::b,v::c,a=>by
    obtain ⟨x,r,e,m,l⟩:=a.cons_inv
    cases e
    have j:=zey (k:=k) i l
    rw [List.map_cons,List.map_cons]
    refine AtL.cons ?_ j
    by_cases h:p.1=k
    · rw [if_pos h,if_pos (by rw [h])];exact i
    · rw [if_neg h,if_neg (fun z=>h (hf _ _ z))];exact m
theorem zdZ {F:Hp}{k:κ}{d:D}{y:V}(g:At F d y){b:List (κ × V)}{c:List D}(a:AtL F c (b.map (·.2))) :
    (zbc b k y).map (fun p=>f p.1)=zgz (b.map fun p=>f p.1) c (f k)∧AtL F (zfU (b.map fun p=>f p.1) c (f k) d) ((zbc b k y).map (·.2)):=by
  unfold zbc zgz zfU
  rw [zf3 f hf a,V3]
  cases h:(zcP b k).isSome with
  | true =>
    rw [if_pos rfl,if_pos rfl,if_pos rfl]
    refine ⟨?_,zey f hf g a⟩
    rw [List.map_map]
    refine List.map_congr_left fun p _=>?_
    by_cases e:p.1=k
    · show f (if p.1=k then (p.1,y) else p).1=_;rw [if_pos e]
    · show f (if p.1=k then (p.1,y) else p).1=_;rw [if_neg e]
  | false =>
    rw [if_neg Bool.false_ne_true,if_neg Bool.false_ne_true,if_neg Bool.false_ne_true,List.map_append,List.map_append]
    exact ⟨rfl,a.append (.cons g .nil)⟩
end
theorem zfv (a b:Key)(h:[a]=[b]):a=b:=by cases h;rfl
theorem zhm (a b:List Key)(h:a=b):a=b:=h
theorem zdz {F H:Hp}{a:Addr}{z t:Bool}{g:List (List Key)}{n:List V}{h:List D}{l:D}{k:List Key}{y:V}(s:zX F H)(c:za8 F a z t g n)(j:AtL F h n)(f:ziR t l=some k)(m:At F l y) :
    ∃ o,zig H a y o∧(∀ d,V8 g h k=some d→∃ x,o=some x∧At F d x)∧(V8 g h k=none→o=none):=by
  obtain ⟨u,c,i⟩:=(c.mono s).rd
  unfold zaA at c
  unfold ziR at f
  cases t with
  | true =>
    rw [if_pos rfl] at c f
    obtain ⟨e,rfl,rfl,rfl⟩:=c
    obtain ⟨b,rfl,p⟩:=zbj f m
    exact ⟨_,.inr ⟨e,k,b,i,rfl,s _ _ p,rfl⟩,V1 (fun k=>k) zhm j⟩
  | false =>
    rw [if_neg Bool.false_ne_true] at c f
    obtain ⟨e,rfl,rfl,rfl⟩:=c
    obtain ⟨r,q,rfl⟩:=Option.map_eq_some_iff.mp f
    rw [zbz q m]
    exact ⟨_,.inl ⟨e,r,i,rfl,rfl⟩,V1 (fun k=>[k]) zfv j⟩
theorem zi8 {F H:Hp}{a:Addr}{o:HO}{t:Bool}{f:List (List Key)}{r:List V}{j:List D}{p d:D}{k:List Key}{y v:V}{G:Hp}(h:H a=some o)(e:zaA o t f r)(n:AtL F j r)(c:ziR t p=some k)(q:At G p y)(s:zX G H)(w:At F d v)
    (m:f.length < sizeLine):∃ u,zgt H a y v (upd H a u)∧zcl F u (.m t (zgz f j k) (zfU f j k d)):=by
  unfold zaA at e
  unfold ziR at c
  cases t with
  | true =>
    rw [if_pos rfl] at e c
    obtain ⟨l,rfl,rfl,rfl⟩:=e
    obtain ⟨b,rfl,x⟩:=zbj c q
    obtain ⟨g,i⟩:=zdZ (fun k=>k) zhm (k:=k) w n
    refine ⟨_,zgt.t h (s _ _ x) (by simpa using m),_,?_,i⟩
    unfold zaA
    rw [if_pos rfl]
    exact ⟨_,rfl,g,rfl⟩
  | false =>
    rw [if_neg Bool.false_ne_true] at e c
    obtain ⟨l,rfl,rfl,rfl⟩:=e
    obtain ⟨A,z,rfl⟩:=Option.map_eq_some_iff.mp c
    rw [zbz z q]
    obtain ⟨g,i⟩:=zdZ (fun k=>[k]) zfv (k:=A) w n
    refine ⟨_,zgt.k h (by simpa using m),_,?_,i⟩
    unfold zaA
    rw [if_neg Bool.false_ne_true]
    exact ⟨_,rfl,g,rfl⟩
noncomputable def zls:D→D→Option D
  | .dct _ t ks vs,kd=>(ziR t kd).bind fun k=>V8 ks vs k
  | _,_=>none
noncomputable def zl1 (a:Bool):D→D→Option D
  | kd,.dct _ t ks vs=>(ziR t kd).map fun k=>.bl (a != (V8 ks vs k).isSome)
  | _,_=>none
section
variable {X:Cx}{a b c:Expr}{pos apos:Pos}
theorem zi6 {k:Nat}{f h:Ev→Option D}(G:yL k X.A)(N:ED X a f)(l:ED X b h)(L:zmf b):ED X (.Subscript a b pos) (zj zls f h):=by
  obtain ⟨ta,P,j⟩:=N
  obtain ⟨R,n,m⟩:=l
  refine ⟨_,ziB (zdG G) P n L,fun σ ρ F H z Q s g e q=>?_⟩
  obtain ⟨x,r,e⟩:=Option.bind_eq_some_iff.mp e
  obtain ⟨y,i,e⟩:=Option.bind_eq_some_iff.mp e
  refine j σ ρ F H x _ s g r fun F1 H1 v c K=>?_
  refine m σ ρ F1 H1 y _ c.fh (g.mono c.ff) i fun F2 H2 u d J=>?_
  cases x with
  | dct S t W U =>
    obtain ⟨V,A,B⟩:=Option.bind_eq_some_iff.mp e
    obtain ⟨p,T,rfl,E,M⟩:=(K.mono d.ff).dct_inv
    obtain ⟨o,O,C,_⟩:=zdz d.fh E M A J
    obtain ⟨w,rfl,I⟩:=C z B
    exact ⟨p,w,rfl,O,q F2 H2 w (c.trans d) I⟩
  | _=>cases e
noncomputable def zmA (b:Bool):R2:=fun x y H Q=>∃ a o,y=.ref a∧zig H a x o∧Q (.bl (b != o.isSome)) H
theorem zhH {k:Nat}(e:yL k X.A):OpR X (compareOp .In) (zmA false):=by
  intro b s σ H x y v u Q I d c h
  obtain ⟨a,o,rfl,g,q⟩:=h
  obtain rfl:u=Value.ref a:=c
  exact d_in (zdG e) I g d fun f I3=>⟨.bl o.isSome,H,I3,rfl,by simpa using q⟩
theorem zfg {k:Nat}(e:yL k X.A):OpR X (compareOp .NotIn) (zmA true):=by
  intro b s σ H x y v u Q I d c h
  obtain ⟨a,o,rfl,g,q⟩:=h
  obtain rfl:u=Value.ref a:=c
  exact ziT (zdG e) I g d fun f I3=>⟨.bl (!o.isSome),H,I3,rfl,by simpa using q⟩
theorem zb3 {a:Bool}:OpD (zmA a) (zl1 a):=by
  intro F H x y d e z Q s g f h q
  cases e with
  | dct u t b c =>
    obtain ⟨k,j,rfl⟩:=Option.map_eq_some_iff.mp h
    obtain ⟨p,v,rfl,m,i⟩:=f.dct_inv
    obtain ⟨o,n,l,r⟩:=zdz s m i j g
    refine ⟨p,o,rfl,n,?_⟩
    have e:(V8 b c k).isSome=o.isSome:=by
      cases h:V8 b c k with
      | none=>rw [r h];rfl
      | some d=>obtain ⟨w,rfl,_⟩:=l d h;rfl
    rw [←e]
    exact q F H _ (.refl s) .bl
  | _=>cases h
end
section
variable {X:Cx}{a e ko:Expr}{pos pos':Pos}{st:Stmt}
noncomputable def zjd (t:Bool)(i:Nat):SE→Ctl:=fun ρ=>.nx (ρ.set i (.m t [] []))
theorem zh9 {t:Bool}{i:Nat}{x:Str}(j:X.N.Nodup)(f:X.N[i]?=some x)(e:Loc X.env.scope x)(c:swapsWith (.Dict [] [] pos) (some (.Name x pos')) pos.line X.env=pure false:=by rfl)
    (h:X.fn x=true∨X.env.scope.names.lookup x=some .local:=by first | exact .inl rfl | exact .inr rfl | assumption) {d:Pos} (c:swapsWith (.Dict [] [] d) (some (.Name x pos')) pos.line X.env=pure false:=by rfl):SD X (.Assign [.Name x pos'] (.Dict [] [] d) pos) (zjd t i):=by
  have l:∀ (o:HO),zcl (fun _=>none) o (.m t [] [])→∀ (Fb Hb F H:Hp) (ρ:SE) (σ:St) (E:zaB),Rl Fb Hb F H ρ σ→SOk Fb Hb E (zjd t i ρ)→∀ p,H p=none→E.nx (σ.set i (some (.ref p))) (upd H p o):=fun o m Fb Hb F H ρ σ E a k p b=>by
    have g:=Gr.hide a.gr.fh b o
    refine k F _ _ ((a.grow g).setW (a.notbase b) (a.gr.fh.free b) zo (m.mono fun _ _ z=>by cases z) (a.notown b))
  cases t with
  | true =>
    refine ⟨_,Yk j f e zgk c h,fun Fb Hb F H ρ σ E a k=>?_⟩
    refine fun p b=>l (.dT []) ⟨[],?_,.nil⟩ Fb Hb F H ρ σ E a k p b
    unfold zaA
    rw [if_pos rfl]
    exact ⟨[],rfl,rfl,rfl⟩
  | false =>
    refine ⟨_,Yk j f e zgV c h,fun Fb Hb F H ρ σ E a k=>?_⟩
    refine fun p b=>l (.dK []) ⟨[],?_,.nil⟩ Fb Hb F H ρ σ E a k p b
    unfold zaA
    rw [if_neg Bool.false_ne_true]
    exact ⟨[],rfl,rfl,rfl⟩
noncomputable def zmg (ρ:SE)(i:Nat)(a d:D):Option SE:=match ρ[i]? with
  | some (.m t ks vs)=>(ziR t a).bind fun k=>if decide (ks.length < sizeLine)=true then some (ρ.set i (.m t (zgz ks vs k) (zfU ks vs k d))) else none
  | _=>none
noncomputable def zg2 (m:Bool)(i:Nat)(a b:Ev→Option D):SE→Ctl:=fun ρ=>match (vEv m b ρ).bind fun d=>(a (visG ρ)).bind fun e=>zmg ρ i e d with
  | some c=>.nx c
  | none=>.no
theorem zfG {k:Nat}{m:Bool}{i:Nat}{u w:Ev→Option D}(M:yL k X.A)(P:ED X e w)(S:PE X a (zaD i))(I:ED X ko u)(l:swapsWith e (some (.Subscript a ko pos')) pos.line X.env=pure false:=by rfl):SD X (.Assign [.Subscript a ko pos'] e pos) (zg2 m i u w):=by
  obtain ⟨t,p,r⟩:=P
  obtain ⟨tk,Q,K⟩:=I
  refine ⟨_,zi3 (zdG M) S Q p l,fun Fb Hb F H ρ σ E z k=>?_⟩
  unfold zg2 at k
  cases h:(vEv m w ρ).bind fun d=>(u (visG ρ)).bind fun A=>zmg ρ i A d with
  | none=>rw [h] at k;exact k.elim
  | some ρ' =>
    rw [h] at k
    obtain ⟨d,L,c⟩:=Option.bind_eq_some_iff.mp h
    obtain ⟨A,G,c⟩:=Option.bind_eq_some_iff.mp c
    unfold zmg at c
    split at c
    · rename_i T B V l
      obtain ⟨W,N,n⟩:=Option.bind_eq_some_iff.mp c
      have y:decide (B.length < sizeLine)=true:=by
        cases R:decide (B.length < sizeLine) with
        | true=>rfl
        | false=>rw [R,if_neg Bool.false_ne_true] at n;cases n
      rw [if_pos y] at n
      cases n
      refine r.at z L fun F' H' v g J=>?_
      have b:=z.grow g
      obtain ⟨q,o,f1,_⟩:=b.ows i _ l rfl
      refine ⟨_,f1,?_⟩
      refine K σ _ _ H' _ _ b.gh b.visG G fun F3 H3 Y x s=>?_
      obtain ⟨C,_⟩:=b.back x
      have j:=b.grow C
      obtain ⟨q3,Z,f,_,_,f4,U,f5,f6⟩:=j.ows i _ l rfl
      rw [f1] at f
      cases f
      obtain ⟨o',O,hw⟩:=zi8 f4 f5 f6 N s x.fh (J.mono C.ff) (of_decide_eq_true y)
      exact ⟨q,_,rfl,O,k _ _ σ (j.mutW l rfl f1 hw)⟩
    · cases c
end
end
end Dl
namespace Dl
open PySem L2
variable [KK]
section
variable {X:Cx}
noncomputable def rNeL:R2:=fun x y H Q=>∃ F a b,zX F H∧At F (.lst a) x∧At F (.lst b) y∧okE 20 (.lst a)=true∧okE 20 (.lst b)=true∧Q (.bl (!eqN 20 (.lst a) (.lst b))) H
theorem zlh {k:Nat}(M:yL k X.A):OpR X (compareOp .NotEq) rNeL:=by
  intro A s σ H x y v u Q I l i h
  obtain ⟨F,b,a,o,R,O,E,G,q⟩:=h
  have n:X.A.units+30 < cLine:=by have:=M.un;omega
  obtain ⟨p,T,rfl,J,B⟩:=R.lst_inv
  obtain ⟨S,Y,rfl,P,bl⟩:=O.lst_inv
  cases l
  cases i
  obtain ⟨m,r,D,U⟩:=I.list (SqL.of (o _ _ J))
  obtain ⟨g,C,ht2,K⟩:=I.list (SqL.of (o _ _ P))
  have c:m.toArray.size=b.length:=by rw [List.size_toArray,← r.length,B.length]
  have f:g.toArray.size=a.length:=by rw [List.size_toArray,← C.length,bl.length]
  have w:eqN 20 (.lst b) (.lst a)=((List.range (min b.length a.length)).all (fun j=>eqN 19 (b.getD j .non) (a.getD j .non))&&b.length == a.length):=by
    show ((List.zipWith (eqN 19) b a).all id&&b.length == a.length)=_
    rw [VA]
  by_cases d:b.length=a.length
  · refine SeqAt.RcNeAt.lists (e:=fun j=>eqN 19 (b.getD j .non) (a.getD j .non)) D.isList ht2.isList (by rw [c,f];exact d) (Nat.lt_of_le_of_lt (Nat.le_add_right _ 30) n) (fun j t z=>?_) _ _ _ _ ⟨.bl _,H,I,rfl,?_⟩
    · obtain ⟨V,L,l⟩:=B.nth r (j:=j) (by simpa using t)
      obtain ⟨W,N,i⟩:=bl.nth C (j:=j) (by simpa using z)
      exact zcc I o 19 (xO E (by rw [←c];exact t)) (xO G (by rw [←f];exact z)) L N (by simpa using l) (by simpa using i) (Nat.lt_of_le_of_lt (show X.A.units+20≤X.A.units+30 from Nat.add_le_add_left (by decide) _) n)
    · rw [c]
      rw [w,← d,Nat.min_self] at q
      simpa using q
  · refine SeqAt.RcNeAt.lists_lengths D.isList ht2.isList (by rw [c,f];simpa using d) (Nat.lt_of_le_of_lt (Nat.le_add_right _ 30) n) _ _ _ _ ⟨.bl _,H,I,rfl,?_⟩
    have:(b.length == a.length)=false:=by simpa using d
    rw [w,this,Bool.and_false] at q
    exact q
end
noncomputable def zdC:D→D→Option D
  | .lst ds,.lst es=>if (okE 20 (.lst ds)&&okE 20 (.lst es))=true then some (.bl (!eqN 20 (.lst ds) (.lst es))) else none
  | _,_=>none
theorem zik:OpD rNeL zdC:=by
  intro F H x y d e z Q s f c a q
  unfold zdC at a
  split at a
  · split at a <;> cases a
    rename_i b
    rw [Bool.and_eq_true] at b
    exact ⟨F,_,_,s,f,c,b.1,b.2,q F H _ (.refl s) .bl⟩
  · cases a
end Dl
namespace L2
open PySem PySem.Spec PyProof.Rows
section
variable {prog:Program}{w:World}{A:Around}{E:Value→Shared→Prop}{s:Shared}{d it:Addr}{o:Obj}{es:Array DictEntry}{ep i:Nat}
theorem zgU {Q:Value→Shared→Prop}(f:(d == sysModules)=false)(a:s.heap.get? d=some o)(e:o.ExactDict)(c:o.data=.dict es ep)
    (g:Q (.ref s.heap.objs.size) { s with heap:=s.heap.push { cls:=.type "dict_keyiterator",data:=.fields #[.ref d,.int 0 0,.int es.size 0,.int ep 0] } }):wpAny (model prog w) A (pyIter (.ref d)) Q E s:=by
  have b:s.TypeIs (.ref d) "dict":=⟨o,a,e.1⟩
  refine wpAny_pyIter_slot b PySem.F.slot_dict_iter (wpAny_call_entry PySem.F.slot_dict_iter b PySem.F.entry_dict_iter ?_ (PySem.F.args_dict_iter_1 _))
  unfold Builtin.«dict.__iter__»
  refine wpAny_bind ?_
  unfold Builtin.Dict.dictSlotNone
  refine wpAny_bind (wpAny_notOrdered_dict b ?_)
  show wpAny _ _ (pure (Value.ref d)) _ _ s
  refine wpAny_pure ?_
  show wpAny _ _ (Builtin.Dict.showsAll d>>=_) _ _ s
  unfold Builtin.Dict.showsAll
  rw [if_neg (by rw [f];exact Bool.false_ne_true)]
  refine wpAny_bind (wpAny_pure (wpAny_bind (wpAny_dictEntries a c (wpAny_bind (wpAny_dictEpoch a c ?_)))))
  refine wpAny_bind (wpAny_newObj_type (wpAny_pure ⟨_,rfl,"dict_keyiterator",_,⟨_,Heap.get?_push_size _ rfl,rfl⟩,PySem.F.slot_dict_keyiterator_next.lookup,?_⟩))
  simpa [rawInt] using g
theorem zgY {e:DictEntry}{Q:Option Value→Shared→Prop}(a:s.heap.IsKeyIter it d i es.size ep)(k:s.heap.get? d=some o)(l:o.data=.dict es ep)(n:es[i]?=some e)
    (m:∀ j,j.IsKeyIter it d (i+1) es.size ep→Heap.SameBut it s.heap j→Q (some e.key) { s with heap:=j }):wpAny (model prog w) A (pyNext (.ref it)) Q E s:=by
  obtain ⟨p,f,h,b⟩:=id a
  unfold pyNext
  refine wpAny_bind (wpAny_attempt (wpAny_callSpecial?_slot (name:=Str.ofString "__next__") a.typeIs PySem.F.slot_dict_keyiterator_next
    (wpAny_call_entry PySem.F.slot_dict_keyiterator_next a.typeIs PySem.F.entry_dict_keyiterator_next ?_ (PySem.F.args_dict_keyiterator_next_1 _))))
  refine wpAny_bind (wpAny_pure ?_)
  refine wpAny_bind ?_
  refine wpAny_bind ?_
  first | refine wpAny_bind (wpAny_typeNameOfWhole_keyiter a.typeIs (wpAny_pure ?_)) | refine wpAny_bind (wpAny_typeNameOf_keyiter a.typeIs (wpAny_pure ?_))
  refine wpAny_bind (wpAny_fieldsOf f b ?_)
  have g:Builtin.Dict_items.ownsTuple "dict_keyiterator"=false:=by decide
  simp only [g,Bool.false_eq_true,if_false]
  show wpAny _ _ (if (Value.ref d == Value.none)=true then _ else _) _ _ s
  rw [if_neg (show ¬ ((Value.ref d == Value.none)=true) from Bool.false_ne_true)]
  refine wpAny_bind (wpAny_pure (wpAny_bind (wpAny_dictEntries k l ?_)))
  rw [if_neg (by simp)]
  refine wpAny_bind (wpAny_pure (wpAny_bind (wpAny_dictEpoch k l ?_)))
  rw [if_neg (by simp)]
  refine wpAny_pure ?_
  simp only [show ¬ ((i:Int) < 0) from by omega,if_false,Int.toNat_natCast,n]
  refine wpAny_bind ?_
  first | refine wpAny_bind (wpAny_typeNameOfWhole_keyiter a.typeIs (wpAny_pure ?_)) | refine wpAny_bind (wpAny_typeNameOf_keyiter a.typeIs (wpAny_pure ?_))
  refine wpAny_bind (wpAny_isOneOf_keyiter a.typeIs ?_)
  show wpAny _ _ (setField (.ref it) 1 (rawInt ((i:Int)+1))>>=_) _ _ s
  refine wpAny_bind (wpAny_setField f b (by simp) ?_)
  have c:(s.heap.update it (Obj.mapFields (·.setIfInBounds 1 (rawInt ((i:Int)+1))))).IsKeyIter it d (i+1) es.size ep :=
    ⟨_,Heap.get?_update_self _ f (Obj.isFreed_of_fields (Obj.data_mapFields b _)),(Obj.cls_mapFields ..).trans h,by rw [Obj.data_mapFields b];simp [rawInt]⟩
  refine wpAny_bind (wpAny_holding ?_)
  refine wpAny_bind (wpAny_isOneOf_keyiter (s:={ s with heap:=s.heap.update it (Obj.mapFields (·.setIfInBounds 1 (rawInt ((i:Int)+1)))) }) c.typeIs ?_)
  show wpAny _ _ (pure e.key) _ _ _
  exact wpAny_pure (wpAny_pure ⟨_,rfl,wpAny_pure (m _ c (Heap.SameBut.update ..))⟩)
theorem zi4 {Q:Option Value→Shared→Prop}(q:A.handled=none)(c:s.heap.IsKeyIter it d i es.size ep)(h:s.heap.get? d=some o)(j:o.data=.dict es ep)(p:es.size≤i)
    (n:∀ k,Heap.ExtBut it s.heap k→Q none { s with heap:=k }):wpAny (model prog w) A (pyNext (.ref it)) Q E s:=by
  obtain ⟨r,g,l,f⟩:=id c
  unfold pyNext
  refine wpAny_bind (wpAny_attempt (wpAny_callSpecial?_slot (name:=Str.ofString "__next__") c.typeIs PySem.F.slot_dict_keyiterator_next
    (wpAny_call_entry PySem.F.slot_dict_keyiterator_next c.typeIs PySem.F.entry_dict_keyiterator_next ?_ (PySem.F.args_dict_keyiterator_next_1 _))))
  refine wpAny_bind (wpAny_pure ?_)
  refine wpAny_bind ?_
  refine wpAny_bind ?_
  first | refine wpAny_bind (wpAny_typeNameOfWhole_keyiter c.typeIs (wpAny_pure ?_)) | refine wpAny_bind (wpAny_typeNameOf_keyiter c.typeIs (wpAny_pure ?_))
  refine wpAny_bind (wpAny_fieldsOf g f ?_)
  have e:Builtin.Dict_items.ownsTuple "dict_keyiterator"=false:=by decide
  simp only [e,Bool.false_eq_true,if_false]
  show wpAny _ _ (if (Value.ref d == Value.none)=true then _ else _) _ _ s
  rw [if_neg (show ¬ ((Value.ref d == Value.none)=true) from Bool.false_ne_true)]
  refine wpAny_bind (wpAny_pure (wpAny_bind (wpAny_dictEntries h j ?_)))
  rw [if_neg (by simp)]
  refine wpAny_bind (wpAny_pure (wpAny_bind (wpAny_dictEpoch h j ?_)))
  rw [if_neg (by simp)]
  refine wpAny_pure ?_
  simp only [show ¬ ((i:Int) < 0) from by omega,if_false,Int.toNat_natCast,Array.getElem?_eq_none p]
  refine wpAny_bind ?_
  first | refine wpAny_bind (wpAny_typeNameOfWhole_keyiter c.typeIs (wpAny_pure ?_)) | refine wpAny_bind (wpAny_typeNameOf_keyiter c.typeIs (wpAny_pure ?_))
  show wpAny _ _ (setField (.ref it) 0 .none>>=_) _ _ s
  refine wpAny_bind (wpAny_setField g f (by simp) ?_)
  show wpAny _ _ (newExc (.type "StopIteration") []>>=_) _ _ _
  refine wpAny_bind ?_
  simp only [newExc,newTuple]
  refine wpAny_bind (wpAny_newObj_type ?_ (by size_fits))
  refine wpAny_bind (m:=firstArgMember _ _) (wpAny_of_eq (a:=Value.none) (by first | rfl | (simp only [firstArgMember];rfl)) ?_)
  refine wpAny_newObj_type ?_ (by size_fits)
  simp only [raiseNew]
  refine wpAny_bind (wpAny_handled ?_)
  rw [show A.in1.handled=none from q]
  refine wpAny_bind (wpAny_pure (wpAny_throw ?_))
  refine wpAny_bind (wpAny_isInstance (T:="StopIteration") (b:=true) ⟨_,Heap.get?_push_size _ rfl,rfl⟩ isSubtype_stop ?_)
  exact wpAny_pure (n _ (((Heap.SameBut.update ..).extBut.push _).push _))
end
noncomputable def zkX:HO→Nat
  | .dK a=>a.length
  | .dT a=>a.length
  | _=>0
noncomputable def zbQ (u:HO):Prop:=(∃ a,u=.dK a)∨∃ a,u=.dT a
noncomputable def zlq (H:Hp)(u:HO)(i:Nat)(x:V):Prop:=match u with
  | .dK a=>∃ p,a[i]?=some p∧x=kV p.1
  | .dT a=>∃ p b,a[i]?=some p∧x=.ref b∧H b=some (.tup (p.1.map kV))
  | _=>False
theorem zky {P:Program}{w:World}{k:Key}{v:Value}(h:(yw P w).is k v=true):yk (kV k) v:=by
  rcases yc h with ⟨i,t,rfl,rfl⟩ | ⟨x,t,rfl,rfl⟩
  · exact ⟨t,rfl⟩
  · exact ⟨t,rfl⟩
structure DObj (H:Hp) (a:Addr) (ob:Obj) (u:HO) (es:Array DictEntry) (ep:Nat):Prop where
  sys:(a == sysModules)=false
  exact_:ob.ExactDict
  data:ob.data=.dict es ep
  size:es.size=zkX u
theorem zbG {P:Program}{w:World}{H:Hp}{h:Heap}{a:Addr}{G:Obj}{u:HO}(ok:yb P w H h a (.frz G u))(T:zbQ u):h.get? a=some G∧∃ c n,DObj H a G u c n∧∀ (i:Nat) (e:DictEntry),c[i]?=some e→∃ x,yk x e.key∧zlq H u i x:=by
  obtain ⟨D,ok⟩:=ok
  rcases T with ⟨b,rfl⟩ | ⟨b,rfl⟩
  · obtain ⟨_,d,A,E,o,c,n,y,ex,F,W,B,R⟩:=ok
    rw [D] at y
    cases y
    have J:c.size=A.length:=by rw [←B.length];simp
    refine ⟨D,c,n,⟨d,ex,F,by rw [J,← E.length];rfl⟩,fun i e C=>?_⟩
    have f:i < b.length:=by
      have:=(Array.getElem?_eq_some_iff.mp C).1
      rw [E.length];omega
    have K:i < A.length:=by rw [←E.length];exact f
    have g:=B.get? (i:=i) (e:=e) (k:=A[i].1) (v:=A[i].2) (by simpa using C) (by simp [K])
    have O:b[i].1=A[i].1:=by
      have:=congrArg (fun l=>l[i]?) E.keys
      simp only [List.getElem?_map] at this
      rw [List.getElem?_eq_getElem f,List.getElem?_eq_getElem K] at this
      exact Option.some.inj this
    exact ⟨kV b[i].1,by rw [O];exact zky g.1,b[i],List.getElem?_eq_getElem f,rfl⟩
  · obtain ⟨_,d,z,B,o,c,n,y,ex,F,C,R⟩:=ok
    rw [D] at y
    cases y
    have J:c.size=z.length:=by rw [←Array.length_toList,C,List.length_map]
    have S:=Paired.length B
    refine ⟨D,c,n,⟨d,ex,F,by rw [J,← S];rfl⟩,fun i e s=>?_⟩
    have L:i < z.length:=by
      have:=(Array.getElem?_eq_some_iff.mp s).1
      omega
    have f:i < b.length:=by omega
    have Q:e=entryOfKey (tupleKind (yw P w)) z[i]:=by
      have:c.toList[i]?=some e:=by simpa using s
      rw [C,List.getElem?_map,List.getElem?_eq_getElem L] at this
      exact (Option.some.inj this).symm
    have I:∀ {l:List (List Key × V)} {m:List (List Key × Addr × Value)},Paired (fun p q=>p.1=q.1∧H q.2.1=some (.tup (p.1.map kV))∧yk p.2 q.2.2) l m→∀ (j:Nat) (g:j < l.length) (M:j < m.length),l[j].1=m[j].1∧H m[j].2.1=some (.tup (l[j].1.map kV)):=fun {l m} r=>by
      induction r with
      | nil=>intro j g;simp at g
      | cons h t N =>
        intro j g M
        cases j with
        | zero=>exact ⟨h.1,h.2.1⟩
        | succ j=>exact N j (by simpa using g) (by simpa using M)
    obtain ⟨_,U⟩:=I B i f L
    subst Q
    exact ⟨.ref z[i].2.1,rfl,b[i],z[i].2.1,List.getElem?_eq_getElem f,rfl,U⟩
noncomputable def Itf (a:Addr)(b:Obj)(u:HO):It :=
  ⟨fun i H=>H a=some (.frz b u)∧i < zkX u,fun i H x H'=>H'=H∧zlq H u i x,fun i H=>H a=some (.frz b u)∧zkX u≤i⟩
theorem zef {P:Program}{w:World}{K:PySem.W.Frag}{tg:Expr}{a it:Addr}{ob:Obj}{u:HO}{es:Array DictEntry}{ep:Nat}(hu:zbQ u)(hn:es.size=zkX u)(hd:ob.data=.dict es ep):zhj P w K tg (Itf a ob u) [it] it (fun i h=>h.IsKeyIter it a i es.size ep) where
  mem:=by simp
  obj:=fun i h st b hb=>by
    have e:b=it:=by simpa using hb
    subst e
    obtain ⟨o,e,c,d⟩:=st
    exact ⟨o,e,fun v z=>by rw [d] at z;cases z⟩
  keep:=fun i h h' st k=>by
    obtain ⟨o,e,r⟩:=st
    exact ⟨o,k it (by simp) o e,r⟩
  item:=by
    intro X hP hw hK hc i pins s σ H E I hf st hg
    subst hP hw hK
    obtain ⟨e1,hi⟩:=hg
    obtain ⟨e0,es',ep',D,ky⟩:=zbG (I.hok a _ e1) hu
    have e2:=D.data
    rw [hd] at e2
    cases e2
    obtain ⟨f0,f1,f2,f3,f4,f5⟩:=hf it (by simp)
    have hlt:i < es.size:=by omega
    obtain ⟨x,rx,kx⟩:=ky i es[i] (Array.getElem?_eq_getElem hlt)
    refine zgY st e0 hd (Array.getElem?_eq_getElem hlt) fun h' st' sb=>?_
    have I1:Inv X pins σ H { s with heap:=h' }:=I.turned (t':=s.toks) (fun b o hb e=>(sb.2 b hb).trans e) f0 f1 f3 f4 f5
    obtain ⟨o,e,c,d⟩:=id st'
    exact ⟨_,rfl,zer (s:={ s with heap:=h' }) e c d (by decide) ⟨x,H,I1,rx,⟨rfl,kx⟩,st',fun b hb=>(hf b hb).1⟩⟩
  done:=by
    intro X hP hw hK hc i pins s σ H E I hf st hg
    subst hP hw hK
    obtain ⟨e1,hi⟩:=hg
    obtain ⟨e0,es',ep',D,ky⟩:=zbG (I.hok a _ e1) hu
    obtain ⟨f0,f1,f2,f3,f4,f5⟩:=hf it (by simp)
    exact zi4 (I.ok.hd hc) st e0 hd (by omega) fun h' eb=>⟨rfl,I.turned (t':=s.toks) (fun b o hb e=>eb b o hb e) f0 f1 f3 f4 f5⟩
  self:=fun _ _ _ _ _ st h=>wpAny_pyIter_keyiter st h
section
variable {X:Cx}{tg:Expr}
noncomputable def zmD (tl:TE):TI:=fun σ H R=>tl σ H fun x H1=>∃ a b u,x=.ref a∧H1 a=some (.frz b u)∧zbQ u∧R (Itf a b u) H1
theorem zit {l:Expr}{tl:TE}(g:PE X l tl):PI X tg l (zmD tl):=by
  intro c s σ H R I h
  refine thn (g c s σ H _ I h) fun v d hh9=>?_
  obtain ⟨x,H1,I1,j,m⟩:=hh9
  obtain ⟨a,t,u,e,n,f,q⟩:=m
  subst e
  cases j
  obtain ⟨i,r,p,D,_⟩:=zbG (I1.hok a _ n) f
  refine zgU D.sys i D.exact_ D.data ?_
  refine ⟨d.heap.objs.size,[d.heap.objs.size],_,_,H1,rfl,I1.kept (t':=d.toks) fun b o e=>Heap.get?_push_of_some _ e,zef f D.size D.data,⟨_,Heap.get?_push_size _ rfl,rfl,rfl⟩,fun b k=>?_,q⟩
  have e:b=d.heap.objs.size:=by simpa using k
  subst e
  exact I1.fpOk (Nat.le_refl _) (I1.hok.fresh (Nat.le_refl _))
theorem Inv.frz {a:List (Addr × Obj)}{σ:St}{H:Hp}{s:Shared}{p:Addr}{u:HO}(I:Inv X a σ H s)(e:H p=some u)(j:zbQ u):∃ m,Inv X a σ (upd H p (.frz m u)) s:=by
  have ok:=I.hok p u e
  have i:Mut (H p):=by
    rw [e]
    rcases j with ⟨d,rfl⟩ | ⟨d,rfl⟩ <;> exact True.intro
  rcases j with ⟨d,rfl⟩ | ⟨d,rfl⟩
  · obtain ⟨z,f,q,t,o,h,g,c,r⟩:=ok
    refine ⟨o,I.write (h':=s.heap) (t':=s.toks) i (.inl rfl) (fun b u _ e=>e) ⟨o,c⟩ ⟨c,z,f,q,t,o,h,g,c,r⟩⟩
  · obtain ⟨z,f,n,l,o,h,g,c,r⟩:=ok
    refine ⟨o,I.write (h':=s.heap) (t':=s.toks) i (.inl rfl) (fun b u _ e=>e) ⟨o,c⟩ ⟨c,z,f,n,?_,o,h,g,c,r⟩⟩
    exact KT.keeps l fun b v k=>by
      rw [zm (zjD k e (fun z=>nomatch z))]
      exact k
noncomputable def tFrz (i:Nat)(t:TS):TS:=fun E σ H=>∃ p u,σ[i]?=some (some (.ref p))∧H p=some u∧zbQ u∧∀ a,t E σ (upd H p (.frz a u))
theorem zii {b:List Stmt}{t:TS}(i:Nat)(h:PSs X b t):PSs X b (tFrz i t):=by
  intro a s σ H E I q
  obtain ⟨p,u,_,e,c,q⟩:=q
  obtain ⟨d,I2⟩:=I.frz e c
  exact h a s σ _ E I2 (q d)
noncomputable def zhn (z:Bool)(tk tv:TE):TE:=fun σ H Q=>∀ p,H p=none→tk σ (upd H p (.dT [])) fun x H1=>tv σ H1 fun y H2=>H2 p=some (.dT [])∧∃ b k,x=.ref b∧H2 b=some (.tup (k.map kV)) ∧
  if z=true then ∀ a,Q (.ref p) (upd H2 p (.frz a (.dT [(k,y)]))) else Q (.ref p) (upd H2 p (.dT [(k,y)]))
theorem zgC {z:Bool}{k v:Expr}{j:Pos}{tk tv:TE}(R:X.A.units+1 < cLine)(r:PE X k tk)(B:PE X v tv):PE X (.Dict [some k] [v] j) (zhn z tk tv):=by
  intro d s σ H Q I q
  have N:=I.hok.fresh (Nat.le_refl s.heap.objs.size)
  have I1:=I.laid (a:=s.heap.objs.size) (o:=.dT []) (h':=s.heap.push { cls:=.type "dict",data:=.dict #[] }) (t':=s.toks) (fun _ _ q=>Heap.get?_push_of_some _ q) (Nat.le_refl _) (zct s.heap I.big)
  refine wpAny_Dict_any (by rfl) rfl (by simp) (by simp) ?_
  refine pairTrees_cons_walk (thn (r d _ σ _ _ I1 (q _ N)) fun u t ⟨x,H1,I1,E,O⟩=>thn (B d t σ H1 _ I1 O) fun W C hh9=>?_)
  obtain ⟨y,H2,I2,A,f⟩:=hh9
  obtain ⟨e,b,h,ex,n,f⟩:=f
  subst ex
  obtain rfl:u=Value.ref b:=E
  refine pairTrees_nil_walk ?_
  unfold storeAll
  simp only [List.forIn_cons,List.forIn_nil]
  obtain ⟨U,K,T,i,S⟩:=zlg I2.hok e
  cases i
  refine wpAny_bind (wpAny_bind (wpAny_dictSet_heap (hsz:=Nat.zero_le _) (show (tupleKind (yw X.prog X.w)).room X.A from Nat.lt_of_succ_lt R) (W6 I2.hok n) S fun L g P=>wpAny_pure (wpAny_pure ?_)))
  have dd2:=g
  obtain ⟨q,F,w,hq,G,J,M,_,D⟩:=g
  have I3:=zbK (t':=C.toks+(tupleKind (yw X.prog X.w)).draws h) (ob:=.dT [(h,y)]) I2 (by rw [e];exact True.intro) P ⟨q,hq⟩ ⟨by show 1≤sizeLine;decide,K,_,((show KT H2 [] [] from .nil).put h n A).keeps fun c V m=>by
    rw [zm (zjD m e (fun z=>nomatch z))]
    exact m,q,F,w,hq,G,J,M,D⟩
  cases z with
  | false=>exact ⟨.ref s.heap.objs.size,_,I3,rfl,by rw [if_neg Bool.false_ne_true] at f;exact f⟩
  | true =>
    rw [if_pos rfl] at f
    obtain ⟨l,I4⟩:=I3.frz (p:=s.heap.objs.size) (u:=.dT [(h,y)]) zo (.inr ⟨_,rfl⟩)
    rw [zbh] at I4
    exact ⟨.ref s.heap.objs.size,_,I4,rfl,f l⟩
end
end L2
namespace Dl
open PySem L2
noncomputable def k1D:Key→D
  | .inl i=>.int i
  | .inr x=>.str x
noncomputable def zhM (t:Bool)(k:List Key):D:=if t=true then .tup (k.map k1D) else match k with
  | [a]=>k1D a
  | _=>.non
noncomputable def zhE:D→Option (List D)
  | .dct true t a _=>some (a.map (zhM t))
  | _=>none
section
variable [KK]
theorem zhS {F:Hp}(k:Key):At F (k1D k) (kV k):=by
  cases k with
  | inl i=>exact .int
  | inr x=>exact .str
theorem zfc {F:Hp}:∀ a:List Key,AtL F (a.map k1D) (a.map kV)
  | []=>.nil
  | k::a=>.cons (zhS k) (zfc a)
theorem zbE {u:HO}{t:Bool}{b:List (List Key)}{c:List V}(h:zaA u t b c):zbQ u∧zkX u=b.length:=by
  unfold zaA at h
  cases t with
  | true=>rw [if_pos rfl] at h;obtain ⟨a,rfl,rfl,_⟩:=h;exact ⟨.inr ⟨_,rfl⟩,by rw [List.length_map];rfl⟩
  | false=>rw [if_neg Bool.false_ne_true] at h;obtain ⟨a,rfl,rfl,_⟩:=h;exact ⟨.inl ⟨_,rfl⟩,by rw [List.length_map];rfl⟩
theorem Gr.see {F H:Hp}{b:Addr}{c:List V}(s:zX F H)(h:H b=some (.tup c)):∃ F',Gr F H F' H∧F' b=some (.tup c):=by
  cases e:F b with
  | some o =>
    have:=s _ _ e
    rw [h] at this
    cases this
    exact ⟨F,.refl s,e⟩
  | none =>
    refine ⟨upd F b (.tup c),⟨fun p o z=>?_,fun p o z=>?_,fun p o f d=>⟨?_,d⟩⟩,zo⟩
    · rw [zm (zi z e)];exact z
    · by_cases a:p=b
      · subst a;rw [zo] at z;cases z;exact h
      · rw [zm a] at z;exact s p o z
    · by_cases a:p=b
      · subst a
        rw [h] at d
        cases d
        exact .inr ⟨⟨_,rfl⟩,zo⟩
      · exact .inl (by rw [zm a];exact f)
theorem zkP {F:Hp}{a:Addr}{r:Obj}{u:HO}{t:Bool}{s:List (List Key)}{z:List V}(h:F a=some (.frz r u))(c:zaA u t s z):ziD (Itf a r u) F (s.map (zhM t)):=by
  intro i F2 H2 v m
  have q:=m _ _ (v _ _ h)
  obtain ⟨_,o⟩:=zbE c
  refine ⟨fun w=>⟨q,by rw [o,w,List.length_map];exact Nat.le_refl _⟩,fun d f=>?_⟩
  rw [List.getElem?_map] at f
  obtain ⟨k,e,rfl⟩:=Option.map_eq_some_iff.mp f
  refine ⟨⟨q,by rw [o];exact (List.getElem?_eq_some_iff.mp e).1⟩,fun x H3 j=>?_⟩
  obtain ⟨rfl,j⟩:=j
  unfold zaA at c
  cases t with
  | true =>
    rw [if_pos rfl] at c
    obtain ⟨n,rfl,rfl,_⟩:=c
    obtain ⟨p,b,l,rfl,y⟩:=j
    rw [List.getElem?_map,l] at e
    cases e
    obtain ⟨F3,g,A⟩:=Gr.see m y
    exact ⟨F3,g,.tup A (zfc _)⟩
  | false =>
    rw [if_neg Bool.false_ne_true] at c
    obtain ⟨n,rfl,rfl,_⟩:=c
    obtain ⟨p,l,rfl⟩:=j
    rw [List.getElem?_map,l] at e
    cases e
    exact ⟨F2,.refl m,zhS _⟩
section
variable {X:Cx}{tg a b e k v:Expr}{pos pos':Pos}{sts:List Stmt}
noncomputable def iDct (f:Ev→Option D):Ev→Option (List D):=fun ρ=>(f ρ).bind zhE
theorem zjs {f:Ev→Option D}(m:ED X a f):ID X tg a (iDct f):=by
  obtain ⟨t,p,r⟩:=m
  refine ⟨_,zit p,fun σ ρ F H n R s i e q=>?_⟩
  obtain ⟨d,k,c⟩:=Option.bind_eq_some_iff.mp e
  refine r σ ρ F H d _ s i k fun F1 H1 v g j=>?_
  unfold zhE at c
  split at c
  · cases c
    obtain ⟨p,o,rfl,⟨u,h,b⟩,_⟩:=j.dct_inv
    rw [if_pos rfl] at b
    obtain ⟨l,b⟩:=b
    exact ⟨p,l,u,rfl,g.fh _ _ b,(zbE h).1,q F1 H1 _ g (zkP b h)⟩
  · cases c
noncomputable def zmh (i:Nat)(g:SE→Ctl):SE→Ctl:=fun ρ=>match ρ[i]? with
  | some (.m t ks vs)=>g (ρ.set i (.v (.dct true t ks vs)))
  | _=>.no
theorem Rl.fzM {Fb Hb F H:Hp}{ρ:SE}{σ:St}{i:Nat}{t:Bool}{E:List (List Key)}{B:List D}(r:Rl Fb Hb F H ρ σ)(h:ρ[i]?=some (.m t E B)) :
    ∃ p u,σ[i]?=some (some (.ref p))∧H p=some u∧zbQ u∧∀ c,Rl Fb Hb (upd F p (.frz c u)) (upd H p (.frz c u)) (ρ.set i (.v (.dct true t E B))) σ:=by
  obtain ⟨p,u,m,N,M,Q,P,I,V⟩:=r.ows i _ h rfl
  refine ⟨p,u,m,Q,(zbE I).1,fun c=>?_⟩
  have G:i < ρ.length:=(List.getElem?_eq_some_iff.mp h).1
  have l:zX F (upd F p (.frz c u)):=fun b o e=>by rw [zm (zi e M)];exact e
  have C:∀ {j:Nat} {s:Sl},(ρ.set i (.v (.dct true t E B)))[j]?=some s→s.isO=true→i≠j:=fun {j s} h g e=>by
    subst e
    rw [List.getElem?_set_self G] at h
    cases h
    cases g
  refine ⟨⟨r.gr.ff.trans l,fun b o z=>?_,fun b o T L=>?_⟩,fun j d z=>?_,fun j s z g=>?_,fun j k q s S n A J K O R=>?_,by simp [r.len]⟩
  · by_cases a:b=p
    · subst a;rw [zo] at z ⊢;exact z
    · rw [zm a] at z ⊢;exact r.gr.fh b o z
  · have a:b≠p:=zi L N
    obtain ⟨x,y⟩:=r.gr.kp b o T L
    refine ⟨?_,by rw [zm a];exact y⟩
    unfold Hid
    rw [zm a]
    exact x
  · by_cases f:i=j
    · subst f
      rw [List.getElem?_set_self G] at z
      cases z
      refine ⟨_,m,?_⟩
      unfold At
      exact ⟨p,P,rfl,⟨u,I,by rw [if_pos rfl];exact ⟨c,zo⟩⟩,V.mono l⟩
    · rw [List.getElem?_set_ne f] at z
      obtain ⟨v,f1,f2⟩:=r.vals j d z
      exact ⟨v,f1,f2.mono l⟩
  · have f:=C z g
    rw [List.getElem?_set_ne f] at z
    obtain ⟨q,y,f1,f2,f3,f4,f5⟩:=r.ows j s z g
    have hq:q≠p:=fun w=>f (r.dis i j p _ s h z rfl g m (by rw [←w];exact f1))
    exact ⟨q,y,f1,f2,by rw [zm hq];exact f3,by rw [zm hq];exact f4,f5.mono l⟩
  · have W:=C n J
    have U:=C A K
    rw [List.getElem?_set_ne W] at n
    rw [List.getElem?_set_ne U] at A
    exact r.dis j k q s S n A J K O R
theorem ziL {g:SE→Ctl}(i:Nat)(h:SDs X sts g):SDs X sts (zmh i g):=by
  obtain ⟨t,p,r⟩:=h
  refine ⟨_,zii i p,fun Fb Hb F H ρ σ E c k=>?_⟩
  unfold zmh at k
  split at k
  · rename_i l m n d
    obtain ⟨q,u,e,b,a,j⟩:=c.fzM d
    exact ⟨q,u,e,b,a,fun f=>r Fb Hb _ _ _ σ E (j f) k⟩
  · exact k.elim
theorem zfm {z:Bool}{tk tv:TE}{m j:Ev→Option D}{σ:St}{ρ:Ev}{F H:Hp}{i d:D}{c:List Key}{Q:VK}(v:RE tk m)(u:RE tv j)(s:zX F H)(k:VAt F ρ σ)(A:m ρ=some i)(t:j ρ=some d)(r:zkV i=some c)
    (q:∀ F2 H2 p y,Gr F H F2 H2→H p=none→F2 p=none→H2 p=some (.dT [])→At F2 d y→if z=true then ∀ B,Q (.ref p) (upd H2 p (.frz B (.dT [(c,y)]))) else Q (.ref p) (upd H2 p (.dT [(c,y)]))):zhn z tk tv σ H Q:=by
  intro p h
  have n:=Gr.hide s h (.dT [])
  refine v σ ρ F _ i _ n.fh k A fun F1 H1 x f G=>?_
  refine u σ ρ F1 H1 d _ f.fh (k.mono f.ff) t fun F2 H2 y g E=>?_
  have a:=f.trans g
  obtain ⟨C,l⟩:=a.kl (o:=.dT []) (fun _ e=>by cases e) (s.free h) zo
  obtain ⟨b,rfl,w⟩:=zbj r G
  exact ⟨l,b,c,rfl,g.fh _ _ (g.ff _ _ w),q F2 H2 p y (n.trans a) h C l E⟩
noncomputable def zio (i:Nat)(a b:Ev→Option D):SE→Ctl:=fun ρ=>match (a (visF ρ)).bind fun c=>(b (visF ρ)).bind fun d=>(zkV c).map fun k=>Sl.m true [k] [d] with
  | some s=>.nx (ρ.set i s)
  | none=>.no
theorem zjc {n i:Nat}{x:Str}{l f:Ev→Option D}(N:yL n X.A)(O:X.N.Nodup)(J:X.N[i]?=some x)(I:Loc X.env.scope x)(w:ED X k l)(C:ED X v f){m:Pos}
    (S:swapsWith (.Dict [some k] [v] m) (some (.Name x pos')) pos.line X.env=pure false:=by rfl)
    (K:X.fn x=true∨X.env.scope.names.lookup x=some .local:=by first | exact .inl rfl | exact .inr rfl | assumption):SD X (.Assign [.Name x pos'] (.Dict [some k] [v] m) pos) (zio i l f):=by
  obtain ⟨tk,T,G⟩:=w
  obtain ⟨tv,pv,B⟩:=C
  refine ⟨_,Yk O J I (zgC (z:=false) (zdG N) T pv) S K,fun Fb Hb F H ρ σ E a c=>?_⟩
  unfold zio at c
  cases h:(l (visF ρ)).bind fun r=>(f (visF ρ)).bind fun d=>(zkV r).map fun k=>Sl.m true [k] [d] with
  | none=>rw [h] at c;exact c.elim
  | some s =>
    rw [h] at c
    obtain ⟨r,L,e⟩:=Option.bind_eq_some_iff.mp h
    obtain ⟨d,A,e⟩:=Option.bind_eq_some_iff.mp e
    obtain ⟨P,u,rfl⟩:=Option.map_eq_some_iff.mp e
    refine zfm (z:=false) G B a.gr.fh a.visF L A u fun F2 H2 p y g j q U R=>?_
    rw [if_neg Bool.false_ne_true]
    have M:Gr F H F2 (upd H2 p (.dT [(P,y)])):=by
      refine ⟨g.ff,fun b o z=>?_,fun b o Q t=>?_⟩
      · rw [zm (zi z q)];exact g.fh b o z
      · rw [zm (zi t j)];exact g.kp b o Q t
    refine c F2 _ _ ((a.grow M).setW (a.notbase j) q zo ⟨[y],?_,.cons R .nil⟩ (a.notown j))
    unfold zaA
    rw [if_pos rfl]
    exact ⟨_,rfl,rfl,rfl⟩
end
end
end Dl
namespace OwnRep
open PySem Builtin
theorem zje {α:Type}{M:Model}{A:Around}{E:Value→Shared→Prop}{s:Shared}{c:Bool}{a b:Sem α}{Q:α→Shared→Prop}(d:c=false)(h:wpAny M A b Q E s):wpAny M A (if c=true then a else b) Q E s:=by rw [d,if_neg Bool.false_ne_true];exact h
theorem noFill_tuple_mul:fillsNumberSlot (.type "tuple") "mul"=pure false :=
  fillsNumberSlot_seq (id:="tuple.__mul__") (r:=some (.builtin "tuple.__rmul__")) F.slot_tuple_mul.lookup (by decide +kernel) F.slot_tuple_rmul.lookup (by decide +kernel)
theorem repeat_tuple:seqRepeat? (.type "tuple")=pure (some (.builtin "tuple.__mul__")):=by
  unfold seqRepeat?
  rw [seqSlot_of (T:="tuple") (name:="__mul__") (id:="tuple.__mul__") F.slot_tuple_mul.lookup (by decide +kernel),seqSlot_of (T:="tuple") (name:="__rmul__") (id:="tuple.__rmul__") F.slot_tuple_rmul.lookup (by decide +kernel)]
  rfl
theorem int_rmul_tuple (a:Int)(t:Tok)(l:Addr)(b:Array Value)(n:Nat)(f:Option Addr)(e:Array (Option Value)) :
    Meets (Builtin.«int.__rmul__» ⟨[.int a t,.ref l],[]⟩) (fun _ R s=>s.heap.get? l=some { cls:=.type "tuple",dict:=f,data:=.seq b n,slots:=e }∧R (.ok (.ret Value.notImplemented)) s) :=
  .of_wp fun c w A R s h=>by obtain ⟨i,g,d,tk,os⟩:=s;obtain ⟨j,h⟩:=h;wp_walk;exact ⟨_,rfl,h⟩
theorem tmul_same (l:Addr)(a:Array Value)(n:Nat)(i:Option Addr)(f:Array (Option Value))(x:Int)(u:Tok)(b:(decide (x < -(2 ^ 63))||decide (x ≥ 2 ^ 63))=false)(e:(a.isEmpty||x == 1)=true) :
    Meets (Builtin.«tuple.__mul__» ⟨[.ref l,.int x u],[]⟩) (fun _ R s=>s.heap.get? l=some { cls:=.type "tuple",dict:=i,data:=.seq a n,slots:=f }∧R (.ok (.ret (Value.ref l))) s) :=
  .of_wp fun c w A R s h=>by obtain ⟨j,g,d,tk,os⟩:=s;obtain ⟨k,h⟩:=h;wp_walk;refine zje b ?_;wp_walk;exact ⟨_,rfl,h⟩
theorem tmul_none (l:Addr)(a:Array Value)(n:Nat)(i:Option Addr)(f:Array (Option Value))(x:Int)(u:Tok)(b:(decide (x < -(2 ^ 63))||decide (x ≥ 2 ^ 63))=false)(e:(a.isEmpty||x == 1)=false)(j:(decide (x≤0)||a.isEmpty)=true) :
    Meets (Builtin.«tuple.__mul__» ⟨[.ref l,.int x u],[]⟩) (fun _ R s=>s.heap.get? l=some { cls:=.type "tuple",dict:=i,data:=.seq a n,slots:=f }∧R (.ok (.ret (Value.ref s.heap.objs.size))) { s with heap:=s.heap.push { cls:=.type "tuple",data:=.seq #[] },toks:=s.toks }) :=
  .of_wp fun c w A R s h=>by obtain ⟨k,g,d,tk,os⟩:=s;obtain ⟨m,h⟩:=h;wp_walk;refine zje b ?_;wp_walk;exact ⟨_,rfl,h⟩
theorem tmul_some (l:Addr)(a:Array Value)(n:Nat)(p:Option Addr)(o:Array (Option Value))(x:Int)(u:Tok)(e:(decide (x < -(2 ^ 63))||decide (x ≥ 2 ^ 63))=false)(m:(a.isEmpty||x == 1)=false)(q:(decide (x≤0)||a.isEmpty)=false)(f:¬ (a.size:Int)*x > (2 ^ 63 - 1) / 8)(j:Builtin.Tuple.tupleTooMany ((a.size:Int)*x)=false)(k:(List.foldl (fun c b=>c++b) #[] (List.replicate x.toNat a)).size≤sizeLine) :
    Meets (Builtin.«tuple.__mul__» ⟨[.ref l,.int x u],[]⟩) (fun _ R s=>s.heap.get? l=some { cls:=.type "tuple",dict:=p,data:=.seq a n,slots:=o }∧R (.ok (.ret (Value.ref s.heap.objs.size))) { s with heap:=s.heap.push { cls:=.type "tuple",data:=.seq (List.foldl (fun c b=>c++b) #[] (List.replicate x.toNat a)) },toks:=s.toks }) :=
  .of_wp fun i w A R s h=>by obtain ⟨t,g,d,tk,os⟩:=s;obtain ⟨r,h⟩:=h;wp_walk;refine zje e ?_;wp_walk;refine wpAny_ite_false (decide_eq_false f) ?_;wp_walk;exact ⟨_,rfl,h⟩
end OwnRep
namespace L2
open PySem
section
variable {X:Cx}
noncomputable def zjZ (K:PySem.W.Frag):R2:=fun x y H Q=>∃ a k b,x=.ref a∧y=.int k∧SqT K H a b∧b≠[]∧-(2 ^ 63)≤k∧k < 2 ^ 63∧b.length*k.toNat≤sizeLine ∧
  (k=1→Q (.ref a) H)∧(k≠1→∀ p,H p=none→Q (.ref p) (upd H p (.tup (List.replicate k.toNat b).flatten)))
theorem zjt:OpR X (binaryOp .Mult) (zjZ X.K):=by
  intro g s σ H x y v u Q I L J h
  obtain ⟨a,k,M,rfl,rfl,Y,K,h1,h2,B,V,Z⟩:=h
  cases L
  obtain ⟨t,rfl⟩:=J
  obtain ⟨c,r,⟨⟨cls,A,N,z⟩,e,D,n,E⟩,_⟩:=I.tuple Y
  simp only at D E
  subst D E
  have j:c.toArray.isEmpty=false:=by
    cases c with
    | nil=>exact absurd (r.nil_iff.mp rfl) K
    | cons _ _=>rfl
  have f:(decide (k < -(2 ^ 63))||decide (k ≥ 2 ^ 63))=false:=by
    rw [decide_eq_false (by omega),decide_eq_false (by omega)];rfl
  have d:∀ m:Nat,List.foldl (fun S O=>S++O) #[] (List.replicate m c.toArray)=(List.replicate m c).flatten.toArray:=fun m=>by
    have:=X5 c m []
    rw [List.nil_append] at this
    exact this
  have P:((List.replicate k.toNat c).flatten).length≤sizeLine:=by rw [zbP,← r.length,Nat.mul_comm];exact B
  have C:∀ {Q':Value→Shared→Prop},wpAny (model X.prog X.w) X.A (call (.builtin "tuple.__mul__") [.ref a,.int k t]) Q' X.xe s→wpAny (model X.prog X.w) X.A (binaryOp .Mult (.ref a) (.int k t)) Q' X.xe s:=fun {Q'} w =>
    wpAny_binaryOp_repeat_ref (T:="tuple") (U:="int") (by decide) ⟨_,e,rfl⟩ (fun R=>typeIs_int R k t) OwnRep.noFill_tuple_mul F.fills_int_mul F.slot_int_rmul OwnRep.repeat_tuple F.slot_int_index.lookup
      (call_meets F.slot_int_rmul (typeIs_int s k t) F.entry_int_rmul (F.args_int_rmul_2 _ _) (OwnRep.int_rmul_tuple k t a c.toArray n A z) ⟨e,rfl,⟨_,e,rfl⟩,w⟩)
  by_cases p:k=1
  · exact C (call_meets F.slot_tuple_mul ⟨_,e,rfl⟩ F.entry_tuple_mul (F.args_tuple_mul_2 _ _) (OwnRep.tmul_same a c.toArray n A z k t f (by rw [p];simp)) ⟨e,⟨.ref a,H,I,rfl,V p⟩⟩)
  have i:(c.toArray.isEmpty||k == 1)=false:=by rw [j,Bool.false_or];exact beq_eq_false_iff_ne.mpr p
  have fin:∀ (l:List Value),l=(List.replicate k.toNat c).flatten→EP X g σ Q (.ref s.heap.objs.size) { s with heap:=s.heap.push { cls:=.type "tuple",data:=.seq l.toArray },toks:=s.toks }:=fun l W=>by
    refine ⟨.ref s.heap.objs.size,_,I.laid (t':=s.toks) (o:=.tup (List.replicate k.toNat M).flatten) (fun b ob q=>Heap.get?_push_of_some _ q) (Nat.le_refl _) ?_,rfl,Z p _ (I.hok.fresh (Nat.le_refl _))⟩
    refine ⟨by rw [zbP,Nat.mul_comm];exact B,l,?_,PyProof.Rows.IsTup.new _ _⟩
    rw [W]
    exact r.rep k.toNat
  by_cases G:k≤0
  · refine C (call_meets F.slot_tuple_mul ⟨_,e,rfl⟩ F.entry_tuple_mul (F.args_tuple_mul_2 _ _) (OwnRep.tmul_none a c.toArray n A z k t f i (by rw [decide_eq_true G];rfl)) ⟨e,fin [] ?_⟩)
    rw [show k.toNat=0 by omega]
    rfl
  · have a0:(c.toArray.size:Int)*k≤(sizeLine:Int):=by
      have:((c.length*k.toNat:Nat):Int)≤(sizeLine:Int):=by rw [←r.length];exact Int.ofNat_le.mpr B
      rw [Int.natCast_mul,Int.toNat_of_nonneg (by omega)] at this
      exact this
    refine C (call_meets F.slot_tuple_mul ⟨_,e,rfl⟩ F.entry_tuple_mul (F.args_tuple_mul_2 _ _) (OwnRep.tmul_some a c.toArray n A z k t f i (by rw [j,Bool.or_false];exact decide_eq_false G) ?_ ?_ ?_) ⟨e,?_⟩)
    · have:(sizeLine:Int)≤(2 ^ 63 - 1) / 8:=by decide
      omega
    · unfold Builtin.Tuple.tupleTooMany
      exact decide_eq_false (by omega)
    · rw [d,List.size_toArray]
      exact P
    · rw [d]
      exact fin _ rfl
end
end L2
namespace Dl
open PySem L2
section
variable [KK]
noncomputable def Xi:D→D→Option D
  | .tup a,.int k=>if a≠[]∧-(2 ^ 63)≤k∧k < 2 ^ 63∧lim (a.length*k.toNat)=true then some (.tup (List.replicate k.toNat a).flatten) else none
  | _,_=>none
theorem zgc {K:PySem.W.Frag}:OpD (zjZ K) Xi:=by
  intro F H x y d e z Q s l j a q
  cases d <;> try cases a
  cases e <;> try cases a
  rename_i f k
  unfold Xi at a
  dsimp only at a
  split at a <;> cases a
  rename_i b
  obtain ⟨p,i,rfl,h,c⟩:=l.tup_inv
  refine ⟨p,k,i,rfl,j.int_inv,SqT.of (s _ _ h),fun e=>b.1 ?_,b.2.1,b.2.2.1,by rw [c.length];exact of_decide_eq_true b.2.2.2,fun e=>?_,fun _ r m=>?_⟩
  · subst e
    exact List.length_eq_zero_iff.mp c.length.symm
  · subst e
    refine q F H _ (.refl s) ?_
    show At F (.tup (List.replicate 1 f).flatten) _
    rw [show (List.replicate 1 f).flatten=f by simp]
    exact .tup h c
  · have g:=Gr.alloc s m (.tup (List.replicate k.toNat i).flatten)
    exact q _ _ _ g (.tup zo ((c.rep _).mono g.ff))
section
variable {X:Cx}{a b:Expr}{pos:Pos}
theorem VH {f h:Ev→Option D}(c:ED X a f)(d:ED X b h):ED X (.BinOp a .Mult b pos) (zj Xi f h):=XY zjt zgc c d
end
end
end Dl
namespace L2
open PySem PySem.Spec PyProof.Rows
noncomputable def zdx (X:Cx)(b:Str)(M:List Str)(a:Scope)(c:List (Str × Addr))(s₀:Shared)(H₀:Hp)(ex:List Addr)(pn:List (Addr × Obj)):Cx :=
  { X with N:=[b]++M,s₀:=s₀,H₀:=H₀,env:=compEnvC a ((b,s₀.heap.objs.size+1)::c) s₀.heap.objs.size X.env,outer:=X.stack,stack:=X.stack,ex:=ex,fn:=fun y=>y == b,pn:=pn,xe:=fun _ _=>False }
set_option genInjectivity false in
set_option genSizeOf false in
set_option genCtorIdx false in
structure v8 (X:Cx) (x0:Str) (M:List Str) (scope:Scope) (cl:List (Str × Addr)):Prop where
  clos:closureFor scope X.env=pure cl
  laid:∀ n,cellsFrom n scope.names cl=(x0,n)::cl
  push:∀ h,pushCells h scope.names=h.push { cls:=.type "cell",data:=.cell none }
  kind:scope.kind=.function
  names:∀ y∈scope.names,y.2=.local→scope.names.lookup y.1=some .local
  sub:∀ y c,cl.lookup y=some c→X.env.cells.lookup y=some c
  has:∀ y,((relabel scope X.env).names.lookup y=some .cell∨(relabel scope X.env).names.lookup y=some .free)→y=x0∨∃ c,cl.lookup y=some c
  mlen:M.length=X.N.length
  ne:∀ (i:Nat) y,M[i]?=some y→Vis (relabel scope X.env) y→y≠x0
  msk:∀ (i:Nat) y,M[i]?=some y→Vis (relabel scope X.env) y→X.N[i]?=some y
  vis:∀ (i:Nat) y,M[i]?=some y→Vis (relabel scope X.env) y→((relabel scope X.env).names.lookup y=some .cell∨(relabel scope X.env).names.lookup y=some .free)
  out:∀ (i:Nat) y,M[i]?=some y→Vis (relabel scope X.env) y→Vis X.env.scope y∧X.env.kindOf y≠some .local
theorem YK (b:Str)(a:Addr)(c:List (Str × Addr))(y:Str):((b,a)::c).lookup y=if y=b then some a else c.lookup y:=by
  rw [List.lookup_cons]
  by_cases h:y=b
  · rw [if_pos h,show (y == b)=true from beq_iff_eq.mpr h]
  · rw [if_neg h,show (y == b)=false from beq_eq_false_iff_ne.mpr h]
theorem V4 {M:Model} {A:Around} {E:Value→Shared→Prop} {s:Shared} {a:Scope} {b:Addr} {f:List (Str × Addr)} {c:Str} {env:Env} {k:Str} {Q:Env→Shared→Prop} (e:∀ n,cellsFrom n a.names f=(k,n)::f) (d:∀ h,pushCells h a.names=h.push { cls:=.type "cell",data:=.cell none })
    (l:Q (newEnv a s.heap.objs.size b ((k,s.heap.objs.size+1)::f) c none .none (some env) builtinsNs) { s with heap:=(s.heap.push { cls:=.type "dict",data:=.dict #[] }).push { cls:=.type "cell",data:=.cell none } }) :
    wpAny M A (newFunctionEnv a b f [] c none .none (some env)) Q E s:=by
  simp only [newFunctionEnv,Option.isSome_some,if_true]
  refine wpAny_bind (wpAny_alloc ?_)
  refine wpAny_bind (wpAny_layCells _ (fun j kind i=>by cases g:kind == NameKind.cell <;> simp [g]) _ _ _ _ ?_)
  rw [e,d,show ({ s with heap:=s.heap.push { cls:=.type "dict",data:=.dict #[] } }:Shared).heap.objs.size=s.heap.objs.size+1 from Heap.size_push ..]
  simp only [List.forIn_nil]
  exact wpAny_bind (wpAny_pure (wpAny_pure l))
theorem zgp {use:Option (Value→Sem Unit)}{Qf:Value→Shared→Prop}{X:Cx}{b0 tg A:Expr}{a9:List Expr}{w:Str}{M:List Str}{a:Scope}{B:List (Str × Addr)}{d5:Pos}{wi:TI}{g:TG}{tt:TT}{te:TE}
    (hc:X.calm=true) (S:v8 X w M a B) (hi:PI X tg A wi)
    (e0:∀ (σ:St) (v:V) (H:Hp) (Q:St→Hp→Prop),g v (List.replicate 1 none++σ) H Q→g v (List.replicate 1 none++σ) H (fun σ2 H2=>Ys (List.replicate 1 none++σ) σ2∧Q σ2 H2))
    (hg:∀ s₀ H₀ ex pn,PG (zdx X w M a B s₀ H₀ ex pn) tg g) (ht:∀ s₀ H₀ ex pn,PIf (zdx X w M a B s₀ H₀ ex pn) a9 tt) (he:∀ s₀ H₀ ex pn,PE (zdx X w M a B s₀ H₀ ex pn) b0 te)
    (hs:∀ x,foldedSetIterable A X.env x=pure x:=by intro _;rfl) :
    ∀ (a0:Pos) (j:List (Addr × Obj)) (s:Shared) (σ:St) (H:Hp) (Q:VK),Inv X j σ H s→tLC wi 1 g tt te σ H Q →
      (∀ (D C:Addr) (H':Hp) (P:Shared),Inv X j σ H' P→(∃ m,P.heap.Ns C m)→WG X j H' C→Q (.ref D) H'→compPost (model X.prog X.w) X.A X.xe use Qf (.ref D) C (.ok .next) P) →
      wpAny (model X.prog X.w) X.A (comprehension (.ListComp b0 [⟨tg,A,a9,0⟩] a d5) a X.env a0 (newList []) false (eval A X.env) use) Qf X.xe s:=by
  intro a0 j s σ H Q I h fin
  refine wpAny_comprehension_free (use:=use) rfl hs S.clos S.kind S.names (thn (hi j s σ H _ I h) fun v s1 l=>thn l fun g0 t E=>?_)
  obtain ⟨it,G,tn,J,H2,e,I2,T,d6,f2,q⟩:=E
  subst e
  have hD:H2 t.heap.objs.size=none:=I2.hok.fresh (Nat.le_refl _)
  obtain ⟨W,⟨m0,w0⟩,turn⟩:=q _ hD
  refine wpAny_newObj_type (V4 S.laid S.push ?_)
  have I3:Inv X j σ (upd H2 t.heap.objs.size (.lst [])) { t with heap:=t.heap.push { cls:=.type "list",data:=.seq ([]:List Value).toArray } }:=by
    refine I2.laid (t':=t.toks) (fun b u e=>Heap.get?_push_of_some _ e) (Nat.le_refl _) ?_
    exact ⟨Nat.zero_le _,[],0,.nil,Heap.get?_push_size _ rfl⟩
  generalize d3:({ t with heap:=t.heap.push { cls:=.type "list",data:=.seq ([]:List Value).toArray } }:Shared)=s3 at I3 ⊢
  generalize b5:(s3.heap.push { cls:=.type "dict",data:=.dict #[] }).push { cls:=.type "cell",data:=.cell none }=h₁
  have c7:h₁.Ns s3.heap.objs.size fun _=>none:=by
    rw [←b5]
    exact (Heap.Ns.new s3.heap (.type "dict")).keeps fun b o e=>Heap.get?_push_of_some _ e
  have R:h₁.IsCell (s3.heap.objs.size+1) none:=by
    rw [←b5]
    refine ⟨{ cls:=.type "cell",data:=.cell none },?_,rfl⟩
    rw [←show (s3.heap.push { cls:=.type "dict",data:=.dict #[] }).objs.size=s3.heap.objs.size+1 from Heap.size_push ..]
    exact Heap.get?_push_size _ rfl
  have L:∀ b∈G,b < t.heap.objs.size:=fun b f=>by
    obtain ⟨o,ho,_⟩:=T.obj _ _ d6 b f
    exact Heap.lt_size ho
  have d2:s3.heap.objs.size=t.heap.objs.size+1:=by rw [←d3];exact Heap.size_push ..
  have d9:∀ b o,t.heap.get? b=some o→s3.heap.get? b=some o:=fun b o e=>by rw [←d3];exact Heap.get?_push_of_some _ e
  have F:∀ b o,s3.heap.get? b=some o→h₁.get? b=some o:=fun b o e=>by rw [←b5];exact Heap.get?_push_of_some _ (Heap.get?_push_of_some _ e)
  generalize d8:upd H2 t.heap.objs.size (.lst [])=H3 at I3 w0
  have c0:∀ b∈G,H3 b=none:=fun b f=>by
    rw [←d8,zm (Nat.ne_of_lt (L b f))]
    exact (f2 b f).1
  have c9:∀ b∈G,b∉frs X.stack:=fun b f z=>by
    obtain ⟨_,n1,n2,_⟩:=f2 b f
    rcases List.mem_cons.mp (I3.stkSub b z) with e | e
    · exact n1 e
    · exact n2 e
  let Y:Cx:=zdx X w M a B s3 H3 G (X.pn++j)
  have b8:∀ y c,B.lookup y=some c→c≠s3.heap.objs.size+1:=fun y c e z=>by
    obtain ⟨v,o,ho,_⟩:=I3.cell y c (S.sub y c e)
    have:=Heap.lt_size ho
    rw [z] at this
    exact absurd this (Nat.not_lt.mpr (Nat.le_succ _))
  have OkY:Y.Ok:=by
    refine ⟨I.ok.mod,S.kind,I.ok.glob,I.ok.blt,Nat.le_refl _,?inj,?has,?cab,I.ok.hd,I.ok.frames,.inl rfl,?exf,
      I3.bs,Nat.le_trans I.ok.bsz I3.sz,?noex,c9,I3.stack,I3.stkFree⟩
    case inj =>
      intro x y c l E
      have l:((w,s3.heap.objs.size+1)::B).lookup x=some c:=l
      have E:((w,s3.heap.objs.size+1)::B).lookup y=some c:=E
      rw [YK] at l E
      by_cases ex:x=w
      · by_cases ey:y=w
        · rw [ex,ey]
        · rw [if_pos ex] at l
          rw [if_neg ey] at E
          exact absurd (Option.some.inj l) (b8 y c E).symm
      · rw [if_neg ex] at l
        by_cases ey:y=w
        · rw [if_pos ey] at E
          exact absurd (Option.some.inj E) (b8 x c l).symm
        · rw [if_neg ey] at E
          exact I.ok.inj x y c (S.sub x c l) (S.sub y c E)
    case has =>
      intro x hx
      show ∃ c,((w,s3.heap.objs.size+1)::B).lookup x=some c
      rw [YK]
      rcases S.has x hx with e | ⟨c,e⟩
      · rw [if_pos e];exact ⟨_,rfl⟩
      · split
        · exact ⟨_,rfl⟩
        · exact ⟨c,e⟩
    case cab =>
      intro x c hf l
      have l:((w,s3.heap.objs.size+1)::B).lookup x=some c:=l
      rw [YK,if_pos (beq_iff_eq.mp hf)] at l
      cases l
      exact Nat.le_succ _
    case exf =>
     refine fun b f=>⟨?_,fun x c e z=>?_⟩
     · show b≠s3.heap.objs.size
       exact Nat.ne_of_lt (Nat.lt_of_lt_of_le (L b f) (by rw [d2];exact Nat.le_succ _))
     · have e:((w,s3.heap.objs.size+1)::B).lookup x=some c:=e
       rw [YK] at e
       split at e
       · cases e
         have l:=L b f
         rw [d2] at z
         rw [←z] at l
         exact absurd l (Nat.not_lt.mpr (Nat.le_trans (Nat.le_succ _) (Nat.le_succ _)))
       · exact (f2 b f).2.2.2.2.1 x c (S.sub x c e) z
    case noex =>
      intro b o e f
      rcases (f2 b f).2.2.2.1 with z | z
      · exact I.ok.noex b o e z
      · have l:=Heap.lt_size e
        have E:=I.ok.bsz
        exact absurd (Nat.lt_of_lt_of_le l (Nat.le_trans E z)) (Nat.lt_irrefl _)
  have I4:Inv Y [] (List.replicate 1 none++σ) H3 { s3 with heap:=h₁ }:=by
    refine ⟨OkY,rfl,I3.bare,Un.kept F,⟨_,c7,fun i y v e1 e2 e3=>?_⟩,fun x c e=>?_,I3.hok.fresh (Nat.le_refl _),fun x c e=>?freeC,fun p hp=>?_,I3.hok.kept F,?_⟩
    · have hi:¬ i < 1:=fun e8=>by
        rw [List.getElem?_append_left (by simpa using e8),List.getElem?_replicate] at e2
        split at e2 <;> cases e2
      have O:M[i - 1]?=some y:=by
        have e1:([w]++M)[i]?=some y:=e1
        rw [List.getElem?_append_right (show 1≤i by omega)] at e1
        exact e1
      have e5:σ[i - 1]?=some (some v):=by rw [List.getElem?_append_right (by simpa using Nat.le_of_not_lt hi)] at e2;simpa using e2
      have e9:=S.msk _ y O e3
      obtain ⟨ov,ok⟩:=S.out _ y O e3
      obtain ⟨m,hn,hl⟩:=I3.loc
      obtain ⟨u,ru,lk⟩:=hl _ y v e9 e5 ov
      refine ⟨u,ru,?_⟩
      rcases lk with ⟨hk,_⟩ | ⟨_,c,e6,b4⟩
      · exact absurd hk ok
      · have kn:=S.vis _ y O e3
        obtain ⟨c',c2⟩:=(S.has y kn).resolve_left (S.ne _ y O e3)
        have:=S.sub y c' c2
        rw [e6] at this
        cases this
        refine .inr ⟨kn,c,(show ((w,s3.heap.objs.size+1)::B).lookup y=some c by rw [YK,if_neg (S.ne _ y O e3)];exact c2),?_⟩
        obtain ⟨o,ho,hd⟩:=b4
        exact ⟨o,F _ _ ho,hd⟩
    · have e:((w,s3.heap.objs.size+1)::B).lookup x=some c:=e
      rw [YK] at e
      split at e
      · cases e
        exact ⟨_,R⟩
      · obtain ⟨v,o,ho,hd⟩:=I3.cell x c (S.sub x c e)
        exact ⟨v,o,F _ _ ho,hd⟩
    · have e:((w,s3.heap.objs.size+1)::B).lookup x=some c:=e
      rw [YK] at e
      split at e
      · cases e
        exact I3.hok.fresh (Nat.le_succ _)
      · exact I3.freeC x c (S.sub x c e)
    · have b6:p∈X.pn++j:=by simpa [Y,zdx] using hp
      obtain ⟨a1,a2,a3,a4,a5⟩:=I3.pin p b6
      refine ⟨F _ _ a1,a2,Nat.ne_of_lt (Heap.lt_size a1),fun z=>?_,a5⟩
      rcases List.mem_cons.mp (I3.stkSub p.1 z) with e | e
      · exact a3 e
      · exact a4 e
    · show (List.replicate 1 none++σ).length=([w]++M).length
      rw [List.length_append,List.length_append,List.length_replicate,I.len,S.mlen]
      rfl
  have b7:∀ {H':Hp},(∀ b∈G,H' b=none)→∀ b∈G,WG Y [] H' b:=fun {H'} hn b f=>by
    refine ⟨hn b f,(OkY.exf b f).1,c9 b f,.inl f,(OkY.exf b f).2,fun p hp=>?_⟩
    have b6:p∈X.pn++j:=by simpa [Y,zdx] using hp
    exact (f2 b f).2.2.2.2.2 p b6
  have c3:tn 0 h₁:=T.keep _ _ _ d6 fun b f o e=>F b o (d9 b o e)
  -- behind the K
  have d4:∀ (H':Hp) (P:Shared),Inv Y [] (List.replicate 1 none++σ) H' P→Q (.ref t.heap.objs.size) H'→compPost (model X.prog X.w) X.A X.xe use Qf (.ref t.heap.objs.size) s3.heap.objs.size (.ok .next) P:=fun H' P J' q'=>by
    obtain ⟨m,hn,_⟩:=J'.loc
    refine fin _ _ H' P (I3.call' (ch:=G) J'.os J'.base J'.hok J'.bare fun b f=>?_) ⟨m,hn⟩ (I3.fpOk (Nat.le_refl _) J'.free) q'
    obtain ⟨_,n1,_,n3,n4,n5⟩:=f2 b f
    exact ⟨n3,n1,n4,n5⟩
  have K:codeAny (model X.prog X.w) X.A (.compLoop (.ListComp b0 [⟨tg,A,a9,0⟩] a d5) 0 (.ref it) (.ref t.heap.objs.size) (compEnvC a ((w,s3.heap.objs.size+1)::B) s3.heap.objs.size X.env))
      (compPost (model X.prog X.w) X.A X.xe use Qf (.ref t.heap.objs.size) s3.heap.objs.size) { s3 with heap:=h₁ }:=by
    refine xF (fun n P=>∃ i Z H',Inv Y [] (List.replicate 1 none++σ) H' P∧tn i P.heap∧(∀ b∈G,H' b=none)∧W i n Z H') ?_ m0 ⟨0,[],H3,I4,c3,c0,w0⟩
    rintro n s5 ⟨i,Z,H5,I5,c5,c8,w5⟩
    rcases turn i n Z H5 w5 with ⟨c1,qn⟩ | ⟨go,d1,step⟩
    · refine thn (T.done Y rfl rfl rfl hc i [] s5 _ H5 _ I5 (b7 c8) c5 c1) fun r s6 hh9=>?_
      obtain ⟨hr,I6⟩:=hh9
      subst hr
      exact d4 H5 s6 I6 qn
    · refine thn (T.item Y rfl rfl rfl hc i [] s5 _ H5 _ I5 (b7 c8) c5 go) fun r s6 hh9=>?_
      obtain ⟨u,hr,h6⟩:=hh9
      subst hr
      refine thn h6 fun _ s7 hh9=>?_
      obtain ⟨x,H7,I7,r7,y7,a8,e4⟩:=hh9
      have I7':=I7.pinned (b7 e4) (T.obj _ _ a8)
      have g7:=e0 σ x H7 _ (step x H7 y7)
      refine thn (hg _ _ _ _ _ s7 _ H7 x u _ I7' r7 g7) fun _ s8 hh9=>?_
      obtain ⟨σ8,H8,I8,a6,q8⟩:=hh9
      have again:∀ {σ9:St} {H9:Hp} {s9:Shared} {zs:List V},Inv Y ([]++wv G s7.heap) σ9 H9 s9→Ys (List.replicate 1 none++σ) σ9→(∃ m',m' < n∧W (i+1) m' zs H9) →
          ∃ m,m < n∧∃ i Z H',Inv Y [] (List.replicate 1 none++σ) H' s9∧tn i s9.heap∧(∀ b∈G,H' b=none)∧W i m Z H':=fun {σ9 H9 s9 zs} I9 sub9 w9=>by
        obtain ⟨m',hm,w9⟩:=w9
        refine ⟨m',hm,i+1,zs,H9,(I9.sub sub9).unpinned,T.keep _ _ _ a8 fun b f o e=>(I9.pin (b,o) (List.mem_append_right _ (List.mem_append_right _ (yh f e)))).1,fun b f=>?_,w9⟩
        obtain ⟨o,e,d⟩:=T.obj _ _ a8 b f
        exact (I9.pin (b,o) (List.mem_append_right _ (List.mem_append_right _ (yh f e)))).2.1
      refine thn (ht _ _ _ _ _ s8 σ8 H8 _ I8 q8) fun b s9 hh9=>?_
      obtain ⟨H9,I9,q9⟩:=hh9
      cases b with
      | false =>
        rw [if_neg Bool.false_ne_true] at q9
        rw [if_neg Bool.false_ne_true]
        exact again I9 a6 q9
      | true =>
        rw [if_pos rfl] at q9
        rw [if_pos rfl]
        refine thn (he _ _ _ _ _ s9 σ8 H9 _ I9 q9) fun y U hh9=>?_
        obtain ⟨yv,H10,I10,f9,a7,f0⟩:=hh9
        obtain ⟨e7,N,k,rv,d7⟩:Z.length≤sizeLine∧∃ (N:List Value) (n:Nat),ye Z N∧U.heap.get? t.heap.objs.size=some { cls:=.type "list",data:=.seq N.toArray n }:=I10.hok _ _ a7
        have d0:U.heap.PlainList t.heap.objs.size N.toArray:=⟨k,d7⟩
        refine wpAny_list_append_plain (hsz:=by rw [List.size_toArray,← rv.length];exact e7) d0 fun f8 c4 b9=>?_
        obtain ⟨k',c6⟩:=c4
        have I11:Inv Y ([]++wv G s7.heap) σ8 (upd H10 t.heap.objs.size (.lst (Z++[yv]))) { U with heap:=f8 }:=by
          refine I10.write (x:=t.heap.objs.size) (e:=t.heap.objs.size) (t':=U.toks) (by rw [a7];exact True.intro) (.inl rfl) (fun b u f e=>(b9.2 b f).trans e) ⟨_,c6⟩ ?_
          refine ⟨by rw [List.length_append];show Z.length+1≤sizeLine;exact d1,N++[y],k',rv.append (.cons f9 .nil),?_⟩
          rw [c6]
          simp
        exact again I11 a6 f0
  exact codeAny_compStart_list K (T.self _ 0 _ _ _ c3 K)
theorem zj1 {X:Cx}{d k b:Expr}{c:List Expr}{j:Str}{M:List Str}{a:Scope}{i:List (Str × Addr)}{n:Pos}{p:TI}{g:TG}{o:TT}{t:TE}
    (A:X.calm=true) (S:v8 X j M a i) (w:PI X k b p)
    (l:∀ (σ:St) (v:V) (H:Hp) (Q:St→Hp→Prop),g v (List.replicate 1 none++σ) H Q→g v (List.replicate 1 none++σ) H (fun r H2=>Ys (List.replicate 1 none++σ) r∧Q r H2))
    (y:∀ s₀ H₀ ex pn,PG (zdx X j M a i s₀ H₀ ex pn) k g) (z:∀ s₀ H₀ ex pn,PIf (zdx X j M a i s₀ H₀ ex pn) c o) (E:∀ s₀ H₀ ex pn,PE (zdx X j M a i s₀ H₀ ex pn) d t)
    (F:∀ x,foldedSetIterable b X.env x=pure x:=by intro _;rfl) :
    PE X (.ListComp d [⟨k,b,c,0⟩] a n) (tLC p 1 g o t):=by
  intro e s σ H Q I h
  rw [eval_ListComp]
  refine zgp A S w l y z E F _ e s σ H Q I h fun D C H' G I' ⟨m,B⟩ f q=>⟨m,B,fun J u=>⟨.ref D,_,I'.letGo f u,rfl,q⟩⟩
noncomputable def Vm (names a b:List (Str × NameKind))(c:Str)(N M d:List Str):Bool :=
  names.all (fun y=>decide (y.2=.local→names.lookup y.1=some .local)) &&
  a.all (fun y=>decide ((y.2=.cell∨y.2=.free)→y.1=c∨y.1∈d)) &&
  (M.length == N.length)&&(M.zip N).all (fun p=>decide ((a.lookup p.1=some .local∨a.lookup p.1=some .cell∨a.lookup p.1=some .free)→p.1=p.2)) &&
  M.all (fun y=>decide ((a.lookup y=some .local∨a.lookup y=some .cell∨a.lookup y=some .free) →
    y≠c∧(a.lookup y=some .cell∨a.lookup y=some .free)∧(b.lookup y=some .local∨b.lookup y=some .cell∨b.lookup y=some .free)∧b.lookup y≠some .local))
theorem zlF {X:Cx}{x0:Str}{N M m:List Str}{a:Scope}{d:List (Str × Addr)}{x z:List (Str × NameKind)}(j:(relabel a X.env).names=x)(s:X.env.scope.names=z)(u:X.N=N)
    (g:closureFor a X.env=pure d) (k:∀ n,cellsFrom n a.names d=(x0,n)::d) (f:∀ h,pushCells h a.names=h.push { cls:=.type "cell",data:=.cell none }) (kind:a.kind=.function) (E:d.map Prod.fst=m) (b:Vm a.names x z x0 N M m=true) (o:∀ p∈d,X.env.cells.lookup p.1=some p.2):v8 X x0 M a d:=by
  unfold Vm at b
  simp only [Bool.and_eq_true,List.all_eq_true,decide_eq_true_eq] at b
  obtain ⟨⟨⟨⟨F,w⟩,l⟩,C⟩,r⟩:=b
  have l:M.length=N.length:=by simpa using l
  refine ⟨g,k,f,kind,F,fun y c h=>o (y,c) (PySem.mem_of_lookup h),fun y h=>?_,by rw [u];exact l,fun i y e v=>?_,fun i y e v=>?_,fun i y e v=>?_,fun i y e v=>?_⟩
  · rw [j] at h
    have q:y=x0∨y∈m:=by
      rcases h with h | h
      · exact w _ (PySem.mem_of_lookup h) (.inl rfl)
      · exact w _ (PySem.mem_of_lookup h) (.inr rfl)
    exact q.imp id fun q=>xj (by rw [E];exact q)
  · unfold Vis at v
    rw [j] at v
    exact (r y (List.mem_of_getElem? e) v).1
  · unfold Vis at v
    rw [j] at v
    have D:=(List.getElem?_eq_some_iff.mp e).1
    have t:i < N.length:=by rw [←l];exact D
    have G:(M.zip N)[i]?=some (y,N[i]):=by
      rw [List.getElem?_zip_eq_some]
      exact ⟨e,List.getElem?_eq_getElem t⟩
    have:=C _ (List.mem_of_getElem? G) v
    rw [u,List.getElem?_eq_getElem t]
    exact congrArg some this.symm
  · unfold Vis at v
    rw [j] at v ⊢
    exact (r y (List.mem_of_getElem? e) v).2.1
  · unfold Vis at v
    rw [j] at v
    obtain ⟨_,_,A,B⟩:=r y (List.mem_of_getElem? e) v
    refine ⟨?_,?_⟩
    · unfold Vis;rw [s];exact A
    · show X.env.scope.names.lookup y≠_;rw [s];exact B
end L2
namespace Dl
open PySem L2
variable [KK]
theorem ziH {X:Cx}{e k d c:Expr}{x0:Str}{M:List Str}{a:Scope}{f:List (Str × Addr)}{j:Pos}{l:Ev→Option (List D)}{b:D→Option (List (Option D))}{n:Ev→Option Bool}{o:Ev→Option D}{g:TG}
    (q:X.calm=true) (S:v8 X x0 M a f) (p:ID X k d l)
    (h:∀ (σ:St) (v:V) (H:Hp) (Q:St→Hp→Prop),g v (List.replicate 1 none++σ) H Q→g v (List.replicate 1 none++σ) H (fun m H2=>Ys (List.replicate 1 none++σ) m∧Q m H2))
    (i:RB 1 g b)
    (w:∀ s₀ H₀ ex pn,PG (zdx X x0 M a f s₀ H₀ ex pn) k g) (y:∀ s₀ H₀ ex pn,TD (zdx X x0 M a f s₀ H₀ ex pn) c n) (t:∀ s₀ H₀ ex pn,ED (zdx X x0 M a f s₀ H₀ ex pn) e o)
    (u:∀ x,foldedSetIterable d X.env x=pure x:=by intro _;rfl):FL X (.ListComp e [⟨k,d,[c],0⟩] a j) (fLC l b n o):=by
  obtain ⟨z,r,s⟩:=p
  exact ⟨_,zj1 q S r h w (fun _ _ _ _=>zbr (y _ _ _ _).can) (fun _ _ _ _=>(t _ _ _ _).can) u,zeu s i ze3 Xb⟩
end Dl
namespace Dl
open PySem L2 PySem.Spec PyProof.Rows
variable [KK]{X:Cx}{e:Expr}
noncomputable def revD:D→Option (List D)
  | .lst a=>some a.reverse
  | _=>none
noncomputable def zmj (f:Ev→Option D):Ev→Option (List D):=fun ρ=>(f ρ).bind revD
end Dl
namespace L2
open PySem PySem.Spec PyProof.Rows
theorem zde {b:Array Value}{j:Nat}(h:ItemsOf (fun i v=>∃ t,v=Value.int (0+(i:Int)*1) t) b j):ye ((List.range j).map fun k:Nat=>V.int (k:Int)) b.toList:=by
  have e:∀ (c:List Value) (a:Nat),(∀ i v,c[i]?=some v→∃ t,v=Value.int (0+((a+i:Nat):Int)*1) t)→ye ((List.range' a c.length).map fun k:Nat=>V.int (k:Int)) c:=by
    intro c
    induction c with
    | nil=>intro a _;exact .nil
    | cons v c f =>
      intro a h
      refine .cons ?_ (f (a+1) fun i v d=>?_)
      · obtain ⟨t,rfl⟩:=h 0 v rfl
        exact ⟨t,by rw [show (0:Int)+((a+0:Nat):Int)*1=(a:Int) by omega]⟩
      · have:=h (i+1) v (by simpa using d)
        rwa [show a+(i+1)=a+1+i by omega] at this
  have:=e b.toList 0 fun i v d=>by
    rw [Nat.zero_add]
    exact h.2 i v (by simpa using d)
  rw [Array.length_toList,h.1] at this
  rwa [List.range_eq_range']
end L2
namespace Dl
open PySem L2 PySem.Spec PyProof.Rows
variable [KK]{X:Cx}{e:Expr}
noncomputable def lrD:D→Option (List D)
  | .int j=>if 0≤j∧j≤60 then some ((List.range j.toNat).map fun k:Nat=>.int (k:Int)) else none
  | _=>none
end Dl
namespace L2
open PySem PySem.Spec PyProof.Rows
noncomputable def KD {α:Type}:Sem α→Prop
  | .pure _=>True
  | .raise _=>True
  | .unsupported _=>True
  | .finish _=>True
  | .rule _ k=>KD (k ())
  | .at _ k=>KD (k ())
  | .load _ _ k=>∀ o,KD (k o)
  | .update _ _ f k=>(∀ o,(f o).dict=o.dict)∧KD (k ())
  | .loadIfAlive _ k=>∀ o,KD (k o)
  | .point _ k=>KD (k ())
  | .register _ _=>True
  | .alloc _ k=>∀ a,KD (k a)
  | .fresh k=>∀ t,KD (k t)
  | .ask k=>∀ x,KD (k x)
  | .handled _ k=>∀ x,KD (k x)
  | .stack k=>∀ x,KD (k x)
  | .thread k=>∀ n,KD (k n)
  | .choose _ _ _=>False
  | .os _ _ _=>False
  | .call _ _ _ _ _=>False
  | .newGen _ _=>False
  | .genState _ _=>False
  | .resume _ _ _ _=>False
  | .yield _ _ _ _=>False
  | .fork _ _=>False
  | .await _ _ _ _ _=>False
theorem zic {α β:Type}(f:α→Sem β)(i:∀ a,KD (f a)):∀ (m:Sem α),KD m→KD (m.bind f):=by
  intro m
  induction m with
  | pure a=>intro _;exact i a
  | raise e=>intro _;trivial
  | unsupported w=>intro _;trivial
  | finish e=>intro _;trivial
  | rule t k b=>intro h;exact b () h
  | «at» p k b=>intro h;exact b () h
  | load a p k b=>intro h o;exact b o (h o)
  | update a p g k b=>intro h;exact ⟨h.1,b () h.2⟩
  | loadIfAlive a k b=>intro h o;exact b o (h o)
  | point l k b=>intro h;exact b () h
  | register a k b=>intro h;trivial
  | alloc o k b=>intro h a;exact b a (h a)
  | fresh k b=>intro h a;exact b a (h a)
  | ask k b=>intro h a;exact b a (h a)
  | handled o k b=>intro h a;exact b a (h a)
  | stack k b=>intro h a;exact b a (h a)
  | thread k b=>intro h a;exact b a (h a)
  | choose s n k b=>intro h;exact h.elim
  | os q l k b=>intro h;exact h.elim
  | call c h g l k b=>intro h;exact h.elim
  | newGen c k b=>intro h;exact h.elim
  | genState g k b=>intro h;exact h.elim
  | resume g r l k b=>intro h;exact h.elim
  | yield v g l k b=>intro h;exact h.elim
  | fork c k b=>intro h;exact h.elim
  | await a f d l k b=>intro h;exact h.elim
theorem zV {α β:Type}{m:Sem α}{f:α→Sem β}(b:KD m)(c:∀ a,KD (f a)):KD (m>>=f):=zic f c m b
noncomputable def DK (h c:Heap):Prop:=∀ (b:Nat) (o:Obj),h.objs[b]?=some o→∃ a:Obj,c.objs[b]?=some a∧a.dict=o.dict
theorem DK.refl (h:Heap):DK h h:=fun _ o e=>⟨o,e,rfl⟩
theorem DK.trans {c d f:Heap}(a:DK c d)(b:DK d f):DK c f:=fun p o e=>by
  obtain ⟨g,l,k⟩:=a p o e
  obtain ⟨i,h,j⟩:=b p g l
  exact ⟨i,h,j.trans k⟩
theorem DK.push (h:Heap)(o:Obj):DK h (h.push o):=fun b u e=>by
  refine ⟨u,?_,rfl⟩
  obtain ⟨objs,l⟩:=h
  show (objs.push o)[b]?=some u
  have a:b < objs.size:=(Array.getElem?_eq_some_iff.mp e).1
  rw [Array.getElem?_push_lt a]
  exact (Array.getElem?_eq_some_iff.mp e).2 ▸ rfl
theorem DK.update (h:Heap)(a:Addr){f:Obj→Obj}(d:∀ o,(f o).dict=o.dict):DK h (h.update a f):=fun b u e=>by
  obtain ⟨objs,l⟩:=h
  show ∃ c,(objs.modify a f)[b]?=some c∧_
  rw [Array.getElem?_modify]
  have e:objs[b]?=some u:=e
  split
  · rw [e];exact ⟨f u,rfl,d u⟩
  · rw [e];exact ⟨u,rfl,rfl⟩
theorem zfK {h:Heap}{b:Addr}{o:Obj}(e:h.get? b=some o):h.objs[b]?=some o:=by
  unfold Heap.get? at e
  split at e
  · cases e
  · exact e
theorem DK.of {h c:Heap}{b:Addr}{o f:Obj}(k:DK h c)(e:h.get? b=some o)(g:c.get? b=some f):f.dict=o.dict:=by
  obtain ⟨i,a,d⟩:=k b o (zfK e)
  rw [zfK g] at a
  cases a
  exact d
theorem zmO {α:Type}(M:Model)(Γ:PySem.Ctx):∀ (m:Sem α) (Q:α→Pos→Shared→Prop) (E:Value→Pos→Shared→Prop) (p:Pos) (s b:Shared),KD m→DK b.heap s.heap→Sem.wp M Γ m Q E p s →
    Sem.wp M Γ m (fun a p j=>Q a p j∧DK b.heap j.heap) (fun e p j=>E e p j∧DK b.heap j.heap) p s:=by
  intro m
  induction m with
  | pure a=>intro Q E p s b _ k h;exact ⟨h,k⟩
  | raise e=>intro Q E p s b _ k h;exact ⟨h,k⟩
  | unsupported w=>intro Q E p s b _ k h;exact h
  | finish e=>intro Q E p s b _ k h;exact h
  | rule t k i=>intro Q E p s b c d h;exact i () Q E p s b c d h
  | «at» p k i=>intro Q E p s b c d h;exact i () Q E _ s b c d h
  | load a p k i =>
    intro Q E p s b c d h
    obtain ⟨o,e,h⟩:=h
    exact ⟨o,e,i o Q E p s b (c o) d h⟩
  | update a p g k i =>
    intro Q E p s b c d h
    obtain ⟨e,h⟩:=h
    exact ⟨e,i () Q E p _ b c.2 (d.trans (.update s.heap a c.1)) h⟩
  | loadIfAlive a k i=>intro Q E p s b c d h;exact i _ Q E p s b (c _) d h
  | point l k i=>intro Q E p s b c d h;exact i () Q E p s b c d h
  | register a k i=>intro Q E p s b c d h;exact h
  | alloc o k i=>intro Q E p s b c d h;exact i _ Q E p _ b (c _) (d.trans (.push s.heap o)) h
  | fresh k i=>intro Q E p s b c d h;exact i _ Q E p _ b (c _) d h
  | ask k i=>intro Q E p s b c d h;exact i _ Q E p s b (c _) d h
  | handled o k i=>intro Q E p s b c d h;exact i _ Q E p s b (c _) d h
  | stack k i=>intro Q E p s b c d h;exact i _ Q E p s b (c _) d h
  | thread k i=>intro Q E p s b c d h;exact i _ Q E p s b (c _) d h
  | choose s n k i=>intro Q E p s b c;exact c.elim
  | os q l k i=>intro Q E p s b c;exact c.elim
  | call c h g l k i=>intro Q E p s b c;exact c.elim
  | newGen c k i=>intro Q E p s b c;exact c.elim
  | genState g k i=>intro Q E p s b c;exact c.elim
  | resume g r l k i=>intro Q E p s b c;exact c.elim
  | yield v g l k i=>intro Q E p s b c;exact c.elim
  | fork c k i=>intro Q E p s b c;exact c.elim
  | await a f d l k i=>intro Q E p s b c;exact c.elim
theorem zkj {α:Type}{M:Model}{A:Around}{t:Sem α}{Q:α→Shared→Prop}{E:Value→Shared→Prop}{s:Shared}(c:KD t)(h:wpAny M A t Q E s) :
    wpAny M A t (fun a b=>Q a b∧DK s.heap b.heap) (fun e b=>E e b∧DK s.heap b.heap) s:=fun Γ p d=>zmO M Γ t _ _ p s s c (.refl _) (h Γ p d)
theorem ZK {α:Type}{M:Model}{A:Around}{t:Sem α}{Q Q':α→Shared→Prop}{E:Value→Shared→Prop}{s:Shared}(c:KD t)(h:wpAny M A t Q E s)(k:∀ a b,Q a b→DK s.heap b.heap→Q' a b):wpAny M A t Q' E s :=
  wpAny_mono (zkj c h) (fun a b x=>k a b x.1 x.2) fun _ _ x=>x.1
theorem zb2 (v:Value):KD (fieldsOf v):=by
  unfold fieldsOf
  split
  · refine zV (fun _=>trivial) fun o=>?_
    split <;> trivial
  · trivial
theorem Xr (v:Value)(i:Nat):KD (field v i):=by
  unfold field
  refine zV (zb2 v) fun a=>?_
  split <;> trivial
theorem WI (f:Array Value→Array Value)(o:Obj):(Obj.mapFields f o).dict=o.dict:=by
  obtain ⟨c,d,x,s⟩:=o
  cases x <;> rfl
theorem Yz (v:Value)(i:Nat)(x:Value):KD (setField v i x):=by
  unfold setField
  split
  · unfold updateField
    refine zV (fun _=>trivial) fun o=>?_
    split
    · split
      · exact ⟨WI _,trivial⟩
      · trivial
    · trivial
  · trivial
theorem vq (e:Value)(f:Option Addr):KD (setFlight e f):=by
  unfold setFlight
  refine zV (Xr e 1) fun a=>?_
  split
  · exact Yz _ _ _
  · trivial
theorem zaT (ty:String)(b:List Value):KD (newFields ty b):=by
  have a:KD (newObjAsIs (Value.type ty) (Data.fields b.toArray)):=zV (fun _=>trivial) fun _=>trivial
  unfold newFields newObj
  show KD (if b.toArray.size > sizeLine+2 then _ else _)
  by_cases h:b.toArray.size > sizeLine+2
  · rw [if_pos h]
    exact zV (show KD (unsupported (α:=Unit) _) from trivial) fun _=>a
  · rw [if_neg h]
    exact a
theorem zbk (a b c d e:Value)(f:List Value):KD (EntryCells.newEntry a b c d e f):=zaT _ _
theorem zfR (f:Addr)(b:Bool):KD (entryPlaceOf f b):=by
  unfold entryPlaceOf
  refine zV (fun _=>trivial) fun a=>?_
  split <;> trivial
theorem zar:KD frameEnvs:=by
  unfold frameEnvs
  exact zV (fun _=>trivial) fun _=>trivial
theorem zf1:∀ l:List Env,KD (readyFrames l):=by
  intro l
  induction l with
  | nil=>trivial
  | cons env outer a =>
    unfold readyFrames
    split
    · refine zV (fun _=>trivial) fun o=>?_
      split
      · trivial
      · refine zV ?_ fun b=>zV ?_ fun bk=>zV ⟨fun o=>rfl,trivial⟩ fun _=>a
        · unfold behindIsImport
          split
          · trivial
          · split
            · trivial
            · exact zV (Xr _ _) fun _=>trivial
        · unfold keptBack
          split
          · split
            · trivial
            · unfold underTheClaimsCaller
              exact zV (fun _=>trivial) fun _=>trivial
          · trivial
    · trivial
theorem zdh (env:Env):KD (PySem.frameOf env):=by
  unfold PySem.frameOf
  refine zV zar fun l=>zV ?_ fun o=>?_
  · unfold frameObject
    split
    · trivial
    · exact zV (zf1 _) fun _=>trivial
  · split <;> trivial
theorem Xe (e:Value)(env:Env):KD (noteFrame e env):=by
  unfold noteFrame
  split
  · rename_i f c
    refine zV (Xr e 1) fun a=>?_
    have b:KD (do setField e 1 (← EntryCells.newEntry a (← PySem.frameOf env) .none (rawInt f) .none (← entryPlaceOf f (a != .none)))):=zV (zdh env) fun _=>zV (zfR _ _) fun _=>zV (zbk _ _ _ _ _ _) fun _=>Yz _ _ _
    by_cases h:(a != Value.none)=true
    · dsimp only
      rw [if_pos h]
      refine zV (Xr a 3) fun x=>?_
      split
      · trivial
      · exact zV (Yz _ _ _) fun _=>b
    · dsimp only
      rw [if_neg h]
      exact b
  · trivial
theorem ZH (env:Env)(e:Value):KD (leaving env e):=zV (Xe e env) fun _=>vq e none
end L2
namespace L2
open PySem PySem.Spec PyProof.Rows
open Sem (wp)
noncomputable abbrev exH (h:Heap) (C:Addr) (a:List Value):Heap:=(h.push { cls:=.type "tuple",data:=.seq a.toArray }).push { cls:=.ref C,data:=.fields #[.ref h.objs.size,.none,.none,.none,.bool false,.none] }
theorem xS {h:Heap}{C:Addr}{us:List Value}{b:Addr}{o:Obj}(e:h.get? b=some o):(exH h C us).get? b=some o:=Heap.get?_push_of_some _ (Heap.get?_push_of_some _ e)
theorem zhu (h:Heap)(C:Addr)(a:List Value):(exH h C a).get? (h.objs.size+1)=some { cls:=.ref C,data:=.fields #[.ref h.objs.size,.none,.none,.none,.bool false,.none] }:=by heap_get
section
variable {prog:Program}{w:World}{A:Around}{E:Value→Shared→Prop}{h:Heap}{g:Array GenState}{d:Drawn}{t:Nat}{os:OsState}
  {nm q:Str} {C N fI:Addr} {bs bm:List Value} {hdct:Bool} {sn:List Str} {sub:List Value} {ab:Bool} {col:Option Bool} {dd:Option Addr} {k0 k1 k2 k3 k5:Option Value} {mN:Str→Option Value} {us:List Value} {oI:Obj}
theorem zcQ {R:Fin→Shared→Prop} (T:OwnTail h [.type "ValueError",.type "Exception",.type "BaseException",.type "object"] bm) (a:h.get? C=some (excClassObj nm q C N bs bm hdct sn sub ab col dd k0 k1 k2 k3 k5 "ValueError.__new__")) (y:h.Ns N mN) (m:mN "__init__"=some (.ref fI)) (n:h.get? fI=some oI) (s:oI.cls=.type "function")
    (k:wpAny (model prog w) A (call (.ref fI) (.ref (h.objs.size+1)::us)) (fun r i=>r=.none∧R (.done (.ret (.ref (h.objs.size+1)))) i) E ⟨exH h C us,g,d,t,os⟩) (u:us.length≤sizeLine) :
    wpAny (model prog w) A (Builtin.«type.__call__» ⟨.ref C::us,[]⟩) R E ⟨h,g,d,t,os⟩:=by
  have FV:=PySem.F.excBase_ValueError
  repeat (first | with_reducible refine wpAny_madeBy_exc a ?_ | with_reducible refine wpAny_loadPart_at a ?_ | wp_step)
  refine codeAny_call_builtin_code (Code.quiet_builtin _ FV.quiet) (wpAny_check_new_subU FV (by decide) T a (codeAny_exc_new_subU FV (by decide) FV T a ?_ u))
  show wpAny _ _ _ _ _ _
  have j:=xS (us:=us) (C:=C) a
  have p:=xS (us:=us) (C:=C) n
  have v:(exH h C us).Ns N mN:=let ⟨ob,ens,epo,e1,r1⟩:=y;⟨ob,ens,epo,xS e1,r1⟩
  have l:=T.keeps (h':=exH h C us) fun b o e=>xS e
  have x:=zhu h C us
  have c:(Value.ref C::bm).contains (.ref C)=true:=by simp
  unfold isInstance
  repeat (first | (with_reducible refine wpAny_isSubtype_exc j ?_;rw [c]) | with_reducible refine wpAny_loadPart_at x ?_ | wp_step)
  show wpAny _ _ (typeLookup (.ref C) _) _ _ _
  refine wpAny_typeLookup_tail j v l FV.mroIs FV.init.lookup ?_
  rw [m]
  refine wpAny_holding (wpAny_bind ?_)
  unfold bindSpecial
  refine wpAny_bind (wpAny_typeOf (T:="function") ⟨_,p,s⟩ ?_)
  rw [if_pos (by decide)]
  refine wpAny_pure (wpAny_bind (wpAny_mono k (fun r i f=>?_) fun _ _ z=>z))
  obtain ⟨rfl,f⟩:=f
  wp_walk
  exact f
theorem zfd {R:Value→Shared→Prop} (T:OwnTail h [.type "ValueError",.type "Exception",.type "BaseException",.type "object"] bm) (a:h.get? C=some (excClassObj nm q C N bs bm hdct sn sub ab col dd k0 k1 k2 k3 k5 "ValueError.__new__")) (f:h.Ns N mN) (i:mN "__init__"=some (.ref fI)) (j:h.get? fI=some oI) (b:oI.cls=.type "function")
    (k:wpAny (model prog w) (A.under (.builtin "type.__call__" ⟨.ref C::us,[]⟩)) (call (.ref fI) (.ref (h.objs.size+1)::us)) (fun r e=>r=.none∧R (.ref (h.objs.size+1)) e) E ⟨exH h C us,g,d,t,os⟩) (c:us.length≤sizeLine) :
    wpAny (model prog w) A (call (.ref C) us) R E ⟨h,g,d,t,os⟩:=by
  have n:=tc_lookup
  have l:=tc_bind (.ref C)
  have m:(⟨h,g,d,t,os⟩:Shared).TypeIs (.ref C) "type":=⟨_,a,rfl⟩
  refine wpAny_call (codeAny_of_tree ?_)
  show wpAny _ _ (callAny (.ref C) _) _ _ _
  repeat (any_goals (first | with_reducible refine wpAny_loadPart_at a ?_ | assumption | wp_step))
  refine ⟨rfl,codeAny_call_builtin_at (Code.quiet_builtin _ (by decide +kernel)) entry_typeCall (wpAny_check_type_call_sub a (zcQ T a f i j b ?_ c))⟩
  exact k
end
theorem zdb {M:Model}{A:Around}{E:Value→Shared→Prop}{env:Env}{s:Shared}{x:Sem Value}{Q:Flow→Shared→Prop}{nm q:Str}{C N:Addr}{bs bm:List Value}{hdct:Bool}{sn:List Str}{sub:List Value}{ab:Bool}{col:Option Bool}{dd:Option Addr}{k0 k1 k2 k3 k5:Option Value}{newId:String}
    (i:bm.contains (.type "BaseException")=true) (k:A.handled=none) (h:wpAny M A x (fun v a=>∃ e t c f,v=.ref e∧a.heap.get? C=some (excClassObj nm q C N bs bm hdct sn sub ab col dd k0 k1 k2 k3 k5 newId) ∧
      a.heap.get? e=some { cls:=.ref C,dict:=c,data:=.fields #[.ref t,.none,.none,.none,.bool false,.none],slots:=f }∧E (.ref e) a) E s):wpAny M A (raiseStmt env (some x) none) Q E s:=by
  have b:(Value.ref C::bm).contains (.type "BaseException")=true:=by rw [List.contains_cons,i,Bool.or_true]
  unfold raiseStmt
  refine wpAny_bind (wpAny_mono h (fun v a z=>?_) fun _ _ z=>z)
  obtain ⟨e,t,c,f,rfl,d,l,g⟩:=z
  obtain ⟨n,m,j,tk,os⟩:=a
  repeat (first | with_reducible refine wpAny_loadPart_at d ?_ | with_reducible refine wpAny_loadPart_at l ?_ | (with_reducible refine wpAny_isSubtype_exc d ?_;rw [b]) | wp_step)
  exact wpAny_raiseNew_none k g
end L2
namespace L2
open PySem PySem.Spec PyProof.Rows
section
variable {prog:Program}{w:World}{A:Around}{E:Value→Shared→Prop}{s:Shared}{env:Env}
  {nm q:Str} {C N fI:Addr} {bs bm:List Value} {hdct:Bool} {sn:List Str} {sub:List Value} {ab:Bool} {col:Option Bool} {dd:Option Addr} {k0 k1 k2 k3 k5:Option Value} {mN:Str→Option Value} {oI:Obj}
theorem zdc {x:Str} {D c n:Pos} {args:List Expr} {Q:Flow→Shared→Prop} (H:bm.contains (.type "BaseException")=true) (M:A.handled=none) (k:(backTo c (starEach args env)).any (·.1)=false) (I:mN "__init__"=some (.ref fI)) (J:oI.cls=.type "function")
    (h:wpAny (model prog w) A (eval (.Name x D) env) (fun f B=>f=.ref C∧wpAny (model prog w) A (evalArgs (.ref C) true (backTo c (starEach args env)) []) (fun a b=>a.kw=[]∧a.pos.length≤sizeLine ∧
      b.heap.get? C=some (excClassObj nm q C N bs bm hdct sn sub ab col dd k0 k1 k2 k3 k5 "ValueError.__new__")∧b.heap.Ns N mN∧OwnTail b.heap [.type "ValueError",.type "Exception",.type "BaseException",.type "object"] bm∧b.heap.get? fI=some oI ∧
      wpAny (model prog w) (A.under (.builtin "type.__call__" ⟨.ref C::a.pos,[]⟩)) (call (.ref fI) (.ref (b.heap.objs.size+1)::a.pos)) (fun r i=>r=.none∧∃ t j u,i.heap.get? C=some (excClassObj nm q C N bs bm hdct sn sub ab col dd k0 k1 k2 k3 k5 "ValueError.__new__") ∧
        i.heap.get? (b.heap.objs.size+1)=some { cls:=.ref C,dict:=j,data:=.fields #[.ref t,.none,.none,.none,.bool false,.none],slots:=u }∧E (.ref (b.heap.objs.size+1)) i) E { b with heap:=exH b.heap C a.pos }) E B) E s) :
    wpAny (model prog w) A (exec (.Raise (some (.Call (.Name x D) args [] c)) none n) env) Q E s:=by
  rw [arm_exec_Raise]
  refine wpAny_bind (wpAny_standAt (zdb (C:=C) (nm:=nm) (q:=q) (N:=N) (bs:=bs) (bm:=bm) (hdct:=hdct) (sn:=sn) (sub:=sub) (ab:=ab) (col:=col) (dd:=dd) (k0:=k0) (k1:=k1) (k2:=k2) (k3:=k3) (k5:=k5) (newId:="ValueError.__new__") H M (wpAny_bind (wpAny_mono (wpAny_Call_ofName (wpAny_mono h (fun f B z=>?_) fun _ _ z=>z)) (fun v i z=>wpAny_bind (wpAny_standAt (wpAny_pure z))) fun _ _ z=>z))))
  obtain ⟨rfl,z⟩:=z
  unfold callWith
  refine wpAny_bind (wpAny_holding (wpAny_mono z (fun a b y=>wpAny_bind (wpAny_standAt ?_)) fun _ _ z=>z))
  obtain ⟨R,P⟩:=a
  obtain ⟨p,e,F,O,K,L,o⟩:=y
  obtain rfl:P=[]:=p
  obtain ⟨S,g,d,tk,os⟩:=b
  simp only [k]
  refine wpAny_bind (wpAny_keeperOf_exc F (wpAny_bind (zfd K F O I L J (wpAny_mono o (fun r i y=>?_) fun _ _ z=>z) e)))
  obtain ⟨rfl,t,j,u,l,m,G⟩:=y
  exact ⟨rfl,wpAny_bind (wpAny_holding (wpAny_point (wpAny_pure ⟨_,t,j,u,rfl,l,m,G⟩)))⟩
end
noncomputable def zj4 (K:PySem.W.Frag)(C f:Addr):Bool:=match K.lookup C with
  | some ⟨.type "type",_,.cls cd,sl⟩=>(match cd.mro,sl.toList with
    | .ref C'::bm,[_,_,_,_,some (.builtin n),_]=>(C' == C)&&(n == "ValueError.__new__"&&(!cd.hasDel&&(cd.hasDict&&(PySem.W.tailIn K [.type "ValueError",.type "Exception",.type "BaseException",.type "object"] bm&&(PySem.W.nsOkIn K cd.ns&&(PySem.W.nsIn K cd.ns "__init__" == some (some (.ref f))&&(match K.lookup f with | some of=>of.cls == .type "function" | none=>false)))))))
    | _,_=>false)
  | _=>false
theorem ziv {K:PySem.W.Frag}{h:Heap}{N:Addr}{m:Str→Option Value}{n:Str}{v:Value}(X:K.In h)(G:h.Ns N m)(e:PySem.W.nsIn K N n=some (some v)):m n=some v:=by
  obtain ⟨j,b,i,f,g,_,d⟩:=G
  unfold PySem.W.nsIn at e
  split at e
  · rename_i a
    have z:=(X _ _ a).symm.trans f
    cases z
    cases g
    split at e
    · rename_i k c
      cases e
      rw [←d]
      unfold nsFind findBy
      rw [←Array.find?_toList,c]
      rfl
    · split at e <;> cases e
  · cases e
theorem zgZ {K:PySem.W.Frag}{h:Heap}{C f:Addr}(X:K.In h)(e:zj4 K C f=true) :
    ∃ p N x q t z g v d y m i j o k F r,h.get? C=some (excClassObj x q C N t p true z g v d y m i j o k "ValueError.__new__")∧h.Ns N F∧F "__init__"=some (.ref f)∧OwnTail h [.type "ValueError",.type "Exception",.type "BaseException",.type "object"] p∧h.get? f=some r∧r.cls=.type "function":=by
  unfold zj4 at e
  split at e
  · rename_i y J G M
    split at e
    · rename_i C' p m i j o n k A E
      simp only [Bool.and_eq_true,beq_iff_eq,Bool.not_eq_true'] at e
      obtain ⟨rfl,rfl,b,a,O,c,B,s⟩:=e
      obtain ⟨x,t,I,D,L,P,z,g,v,d,H⟩:=J
      dsimp only at A b a c B
      subst A b a
      have w:G=#[m,i,j,o,some (.builtin "ValueError.__new__"),k]:=by
        obtain ⟨l⟩:=G
        simp only at E
        rw [E]
      subst w
      split at s
      · rename_i r u
        exact ⟨p,D,x,L,t,z,g,v,d,y,m,i,j,o,k,h.nsMap D,r,X _ _ M,.of_isNs (PySem.W.isNs_of_in X c),ziv X (.of_isNs (PySem.W.isNs_of_in X c)) B,PySem.W.tail_of_in X O,X _ _ u,beq_iff_eq.mp s⟩
      · cases s
    · cases e
  · cases e
end L2
namespace L2
open PySem PySem.Spec PyProof.Rows PySem.Builtin PySem.Builtin.ObjectAttr
noncomputable abbrev veV:List Value:=[.type "ValueError",.type "Exception",.type "BaseException",.type "object"]
noncomputable def ze0:List Value→Bool
  | .ref _::r=>ze0 r
  | l=>l == veV
theorem zep (a:Value):∀ {l:List Value},ze0 l=true→refuseLoop a "__setattr__" l=pure ():=by
  intro l
  induction l with
  | nil=>intro e;cases e
  | cons v r b =>
    intro e
    cases v with
    | ref c=>rw [refuseLoop_ref];exact b e
    | _=>exact beq_iff_eq.mp (show ((_:List Value) == veV)=true from e) ▸ PySem.F.store_ValueError.passes a
theorem zft:∀ {l:List Value},ze0 l=true→l.contains (.type "object")=true∧l.isEmpty=false:=by
  intro l
  induction l with
  | nil=>intro e;cases e
  | cons v r a =>
    intro e
    refine ⟨?_,rfl⟩
    cases v with
    | ref c=>rw [List.contains_cons,(a e).1,Bool.or_true]
    | _=>rw [beq_iff_eq.mp (show ((_:List Value) == veV)=true from e)];decide +kernel
noncomputable def zaz (K:PySem.W.Frag) (C:Addr):Bool:=(PySem.W.clsIn K C).any (fun a=>ze0 a.mro&&a.hasDict)&&PySem.W.findIn K (.ref C) "__setattr__" == some (some (.builtin "object.__setattr__"))&&PySem.W.findIn K (.ref C) "__getattribute__" == some (some (.builtin "BaseException.__getattribute__"))&&PySem.W.findIn K (.ref C) "__getattr__" == some none&&PySem.W.subIn K (.ref C) (.type "BaseException") == some true
set_option genInjectivity false in
set_option genSizeOf false in
set_option genCtorIdx false in
structure vb (K:PySem.W.Frag) (C:Addr):Prop where
  cls:∃ cd,PySem.W.clsIn K C=some cd∧ze0 cd.mro=true∧cd.hasDict=true
  sa:PySem.W.findIn K (.ref C) "__setattr__"=some (some (.builtin "object.__setattr__"))
  ga:PySem.W.findIn K (.ref C) "__getattribute__"=some (some (.builtin "BaseException.__getattribute__"))
  gt:PySem.W.findIn K (.ref C) "__getattr__"=some none
  sb:PySem.W.subIn K (.ref C) (.type "BaseException")=some true
theorem vb.of {K:PySem.W.Frag}{C:Addr}(h:zaz K C=true):vb K C:=by
  unfold zaz at h
  simp only [Bool.and_eq_true,beq_iff_eq] at h
  obtain ⟨b,e,a⟩:=PySem.W.any_some h.1.1.1.1
  rw [Bool.and_eq_true] at a
  exact ⟨⟨b,e,a.1,a.2⟩,h.1.1.1.2,h.1.1.2,h.1.2,h.2⟩
section
variable {prog:Program}{w:World}{A:Around}{E:Value→Shared→Prop}{s:Shared}{K:PySem.W.Frag}{x C:Addr}{ox:Obj}{od:Option Obj}{name:Str}{v:Value}
theorem zjF {tk:Tok}{R:Result→Shared→Prop}(X:K.In s.heap)(I:PySem.W.InstAt s.heap x ox C od)(k:vb K C)(m:PySem.W.findIn K (.ref C) name=some none)
    (h:wpAny (model prog w) A.in1 (storeInOwnDict (.ref x) (.ref C) (.str name tk) name v false) (fun fin a=>match fin with | .done f=>R (.ok f) a | .again j=>j.quiet=true∧codeAny (model prog w) A j R a) (fun e a=>R (.error e) a) s) :
    codeAny (model prog w) A (.call (.builtin "object.__setattr__") ⟨[.ref x,.str name tk,v],[]⟩) R s:=by
  have SO:=PySem.F.store_object
  obtain ⟨o,g,i,_⟩:=k.cls
  obtain ⟨d,b⟩:=zft i
  have c:PySem.W.Looks (model prog w) s.heap (isInstance (.ref x) (.type "object")) true:=I.type.andThen (PySem.W.looks_mroIn X (by unfold PySem.W.mroIn;rw [g,Option.bind_some,if_neg (by rw [b];decide),d]))
  refine codeAny_call_builtin SO.slot.plain SO.entry (@PySem.W.check_slot (model prog w) _ _ s "object.__setattr__" "object" "__setattr__" (.ref x) [.str name tk,v] [] _ SO.kind SO.split c (SO.args (.ref x) (.str name tk) v) ?_)
  have n:PySem.W.Looks (model prog w) s.heap (mroOf (.ref C)) o.mro:=(PySem.W.looks_clsIn X g).andThen .now
  have l:PySem.W.Looks (model prog w) s.heap (storeTaker? none) none:=.now
  rw [PySem.W.osa_eq,refuse_eq]
  refine wpAny_bind (wpAny_bind (I.type.here (wpAny_bind (n.here ?_))))
  rw [zep _ i]
  exact wpAny_pure (wpAny_bind (I.type.here (wpAny_bind ((PySem.W.looks_findIn X m).here (wpAny_bind (l.here h))))))
theorem zia {Q:Unit→Shared→Prop}(X:K.In s.heap)(I:PySem.W.InstAt s.heap x ox C od)(a:vb K C)(d:PySem.W.findIn K (.ref C) name=some none)
    (h:wpAny (model prog w) A.in1 (storeInOwnDict (.ref x) (.ref C) (.str name s.toks) name v false) (fun fin b=>match fin with | .done (.ret _)=>Q () b | _=>False) E { s with toks:=s.toks+1 }) :
    wpAny (model prog w) A (setAttr (.ref x) name v) Q E s:=by
  refine PySem.W.set_plain X I a.sa (zjF (s:={ s with toks:=s.toks+1 }) X I a d (wpAny_mono h (fun fin b z=>?_) fun _ _ z=>z))
  cases fin with
  | again c=>exact z.elim
  | done f=>cases f <;> first | exact z | exact z.elim
theorem zdj {M:Model} {a:Value} {Q:Unit→Shared→Prop} (X:K.In s.heap) (I:PySem.W.InstAt s.heap x ox C od) (d:PySem.W.subIn K (.ref C) (.type "BaseException")=some true) (hq:Q () s):wpAny M A (checkBuiltinCall "BaseException.__getattribute__" ⟨[.ref x,a],[]⟩) Q E s:=by
  have c:builtinKind "BaseException.__getattribute__"=some .slot:=by decide +kernel
  have b:splitId "BaseException.__getattribute__"=some ("BaseException","__getattribute__"):=by decide +kernel
  have e:=PySem.F.args_bexc_ga (.ref x) a
  have L0:=I.type (M:=M)
  have L1:PySem.W.Looks M s.heap (isSubtype (.ref C) (.type "BaseException")) true:=PySem.W.looks_subIn X d
  simp only [checkBuiltinCall,c,b]
  refine wpAny_bind ?_
  unfold isInstance
  refine wpAny_bind (L0.here (L1.here ?_))
  repeat (first | assumption | wp_step)
theorem zgD {Q:Unit→Shared→Prop}(X:K.In s.heap)(i:s.heap.get? x=some ox)(d:ox.cls=.ref C)(a:PySem.W.notCls ox=true)(l:ox.dict=none)(u:vb K C)(S:PySem.W.findIn K (.ref C) name=some none)
    (h:∀ g:Heap,g.get? x=some { ox with dict:=some s.heap.objs.size }→g.Ns1 s.heap.objs.size (fun y=>if y=name then some v else none)→(∀ b o,b≠x→s.heap.get? b=some o→g.get? b=some o)→Q () { s with heap:=g,toks:=s.toks+2 }) :
    wpAny (model prog w) A (setAttr (.ref x) name v) Q E s:=by
  have I:PySem.W.InstAt s.heap x ox C none:=⟨i,d,a,by rw [l];trivial⟩
  refine zia X I u S ?_
  obtain ⟨Y,G,_,R⟩:=u.cls
  have J:=PySem.W.looks_clsIn (M:=model prog w) X G
  unfold storeInOwnDict
  refine wpAny_bind (wpAny_pure ?_)
  have k:(Value.ref C == Value.type "module")=false:=rfl
  simp only [k]
  unfold ownDictForStores instanceDict
  refine wpAny_bind ?_
  refine wpAny_bind (wpAny_loadPart i ?_)
  obtain ⟨U,P,f,m⟩:=ox
  dsimp only at d l
  subst d l
  dsimp only
  refine wpAny_bind (J.here (s:={ s with toks:=s.toks+1 }) ?_)
  rw [R]
  rw [if_neg (by decide),if_neg (by simp [typeHasDict])]
  have L:∀ c,f≠.cls c:=fun c e=>by rw [e] at a;cases a
  split
  · rename_i c;exact absurd rfl (L c)
  have z:(s.heap.push { cls:=.type "dict",data:=.dict #[] }).get? x=some ⟨.ref C,none,f,m⟩:=Heap.get?_push_of_some _ i
  have t:x≠s.heap.objs.size:=Nat.ne_of_lt (Heap.lt_size i)
  refine wpAny_bind (wpAny_alloc' (wpAny_bind (wpAny_update' z (wpAny_pure ?_))))
  generalize q:((s.heap.push { cls:=Value.type "dict",data:=Data.dict #[] }).update x fun o=>{ cls:=o.cls,dict:=some s.heap.objs.size,data:=o.data,slots:=o.slots })=h1
  have N:h1.get? s.heap.objs.size=some { cls:=.type "dict",data:=.dict #[] }:=by rw [←q];exact (Heap.get?_update_ne _ _ _ _ t.symm).trans (Heap.get?_push_at rfl rfl)
  have H:h1.Ns s.heap.objs.size (fun _=>none):=⟨_,#[],_,N,rfl,fun e O=>absurd O (by simp),fun _=>rfl⟩
  show wpAny _ _ (storeInDict s.heap.objs.size (.str name s.toks) name v) _ _ _
  unfold storeInDict newKeyGuard
  refine wpAny_bind (wpAny_pure (wpAny_bind (wpAny_nsSet1 (Heap.Ns1.of_empty H) fun g j B=>?_)))
  obtain ⟨V,W,T,p,r,n⟩:=j.count (Within.cons name v Within.nil)
  refine wpAny_bind (wpAny_lookBehind p (by rw [r];exact pastItsLine_dict (Nat.le_trans n (by rw [List.length_cons,List.length_nil,sizeLine_eq];omega))) (wpAny_pure (h g ?_ j fun b o F e=>?_)))
  · refine (B.2 x t).trans ?_
    rw [←q]
    refine Heap.get?_update_self _ z ?_
    have D:=(Heap.get?_some_iff.mp i).2
    cases f <;> first | rfl | exact D
  · refine (B.2 b (Nat.ne_of_lt (Heap.lt_size e))).trans ?_
    rw [←q]
    exact (Heap.get?_update_ne _ _ _ _ F).trans (Heap.get?_push_of_some _ e)
theorem zju {f:Str}{b:Bool}{Q:Value→Shared→Prop}(X:K.In s.heap)(I:PySem.W.InstAt s.heap x ox C od)(a:vb K C)(j:PySem.W.findObj K C od f=some (.value v))(i:PySem.W.handedIn v=true)
    (h:Q v { s with toks:=s.toks+1 }):wpAny (model prog w) A (getAttr (.ref x) f b) Q E s:=by
  obtain ⟨l,g,d,t,os⟩:=s
  have L0:=I.type (M:=model prog w)
  have L1:=PySem.W.looks_findIn (M:=model prog w) X a.ga
  have L2:=PySem.W.looks_findIn (M:=model prog w) X a.gt
  have L3:=PySem.W.looks_find (M:=model prog w) X I j
  have k:=PySem.F.attrBase_ValueError.ga.bind (.ref x)
  have e:(Value.builtin "BaseException.__getattribute__" == Value.builtin "object.__getattribute__")=false:=by decide +kernel
  have c:(b&&onTheHeap (Value.builtin "BaseException.__getattribute__"))=false:=by cases b <;> rfl
  unfold getAttr getAttrBy
  refine wpAny_bind (wpAny_mkText (wpAny_holding (wpAny_bind (L0.at (wpAny_bind (L1.at ?_))))))
  dsimp only
  rw [e,Bool.and_false,if_neg Bool.false_ne_true]
  unfold getAttrByItsOwn
  refine wpAny_bind ?_
  show wpAny _ _ (typeLookup (.ref C) "__getattr__") _ _ _
  refine L2.at (wpAny_bind (wpAny_attempt (wpAny_holding ?_)))
  unfold callGetattribute
  rw [c,if_neg Bool.false_ne_true]
  unfold boundAndCalled
  rw [k]
  refine wpAny_bind (wpAny_pure ?_)
  refine wpAny_call (codeAny_call_builtin PySem.F.attrBase_ValueError.ga.plain PySem.F.entry_bexc_ga ?_)
  refine zdj X I a.sb ?_
  refine wpAny_bind (wpAny_pure (wpAny_bind (wpAny_pure (wpAny_bind (L0.at (wpAny_bind (L3.at ?_)))))))
  refine wpAny_pure ?_
  show wpAny _ _ (handedOut v) _ _ _
  rw [PySem.W.handedOut_of i];exact wpAny_pure h
end
end L2
namespace L2
open PySem PySem.Spec PyProof.Rows
section
variable {P:Program}{w:World}{H H':Hp}{h h':Heap}{a:Addr}{o:HO}
theorem yb.ex (x:yb P w H h a o):∃ u,h.get? a=some u:=by
  cases o with
  | lst g=>obtain ⟨_,_,_,_,e⟩:=x;exact ⟨_,e⟩
  | tup g=>obtain ⟨_,_,_,d,e,_⟩:=x;exact ⟨_,e⟩
  | dK b=>obtain ⟨_,_,_,_,o,_,_,e,_⟩:=x;exact ⟨_,e⟩
  | dT b=>obtain ⟨_,_,_,_,o,_,_,e,_⟩:=x;exact ⟨_,e⟩
  | set S n=>obtain ⟨o,_,_,_,e,_⟩:=x;exact ⟨_,e⟩
  | ins C j c=>obtain ⟨_,_,_,e,_⟩:=x;exact ⟨_,e⟩
  | own y=>exact x
  | xd c=>obtain ⟨_,⟨_,_,_,e,_⟩,_⟩:=x;exact ⟨_,e⟩
  | rng i k=>obtain ⟨_,_,_,e⟩:=x;exact ⟨_,e⟩
  | frz d u=>obtain ⟨e,_⟩:=x;exact ⟨_,e⟩
  | tbl l=>obtain ⟨_,e,_⟩:=x;exact ⟨_,e⟩
  | met f y=>exact ⟨_,(show h.get? a=some _ from x)⟩
  | ext φ=>obtain ⟨_,⟨_,e⟩,_⟩:=x;exact ⟨_,e⟩
theorem HOk.stays (x:HOk P w H h)(k:∀ b u,H b≠none→h.get? b=some u→h'.get? b=some u):HOk P w H h':=fun a o e =>
  (x a o e).stay (fun b u c q=>k b u (by
    rcases c with rfl | c
    · rw [e];intro z;cases z
    · rw [c];intro z;cases z) q) (fun _ q=>q) fun _ _ q=>q
end
structure Cov (outer:List Env) (H:Hp) (h:Heap) (H':Hp) (h' B:Heap):Prop where
  old:∀ b o,h.get? b=some o→H b=none→b∉frs outer→B.get? b=some o
  there:∀ b o,h.get? b=some o→b∉frs outer→∃ o',B.get? b=some o'
  new:∀ b o,H' b≠none→h'.get? b=some o→B.get? b=some o
noncomputable def Zf (h:Heap)(a:Addr)(c:Option Addr):Prop:=∃ b,h.get? a=some b∧b.dict=c
theorem Zf.stay {h b:Heap}{a:Addr}{g:Option Addr}(d:Zf h a g)(k:DK h b)(e:∃ i,b.get? a=some i):Zf b a g:=by
  obtain ⟨i,j,l⟩:=d
  obtain ⟨c,f⟩:=e
  exact ⟨c,f,(k.of j f).trans l⟩
noncomputable def Air (P:Program)(w:World):CXT:=fun outer H s E e a =>
  ∃ (b C t:Addr) (c:Option Addr) (H':Hp) (B:Heap),e=.ref b∧a.os=s.os∧AllBare a.gens∧Un (frs outer) [] H H' s.heap a.heap∧HOk P w H' a.heap ∧
    Heap.FlyingW B outer b (.ref C) (.ref t) a.heap∧Cov outer H s.heap H' a.heap B∧Zf a.heap b c∧E (.ref C) c H'
section
variable {X:Cx}{pins:List (Addr × Obj)}{σ:St}{H H':Hp}{s s':Shared}{E:XK}{e:Value}{M:Model}{E2:Value→Shared→Prop}
theorem Inv.airUn (k:X.ex=[])(I:Inv X pins σ H s){g B:Heap}(J:Inv X pins σ H' s')(f:Cov X.stack H s.heap H' s'.heap B)(i:B.StaysIn g)(l:g.FunFrames B X.outer)(x:s'.heap.UpToSlots g) :
    Un X.fs [] X.H₀ H' X.s₀.heap g∧HOk X.prog X.w H' g∧Cov X.outer X.H₀ X.s₀.heap H' g B:=by
  have r:∀ b o,X.s₀.heap.get? b=some o→b≠X.env.locals:=fun b o e=>Nat.ne_of_lt (Nat.lt_of_lt_of_le (Heap.lt_size e) I.ok.above)
  have h:∀ b o,X.s₀.heap.get? b=some o→b∉X.fs→b∉frs X.stack:=fun b o e n z=>(List.mem_cons.mp (I.stkSub b z)).elim (r b o e) n
  have nx:∀ b:Addr,b∉X.ex:=by rw [k];simp
  have c:Cov X.outer X.H₀ X.s₀.heap H' g B:=by
    refine ⟨fun b o e n a=>f.old b o (I.base.keep b o e n a (nx b)) (I.base.free b o e n (nx b)) (h b o e a),fun b o e a=>?_,fun b o a e=>?_⟩
    · obtain ⟨j,p⟩:=I.base.there b o e (nx b)
      exact f.there b j p (h b o e a)
    · cases q:H' b with
      | none=>exact absurd q a
      | some u =>
        obtain ⟨t,D⟩:=(J.hok b u q).ex
        have z:=f.new b t a D
        have w:=i b t z
        rw [e] at w
        cases w
        exact z
  refine ⟨⟨fun b o e n a _=>i b o (c.old b o e n a),fun b o e n a _=>?_,fun b o e n _=>J.base.free b o e n (nx b),fun b o e _=>?_,J.base.tups,J.base.frzs,J.base.tbls⟩,J.hok.stays fun b u a C=>i b u (f.new b u a C),c⟩
  · obtain ⟨F,A⟩:=J.base.slot b o e n a (nx b)
    obtain ⟨_,v,d,E⟩:=I.ok.funs.mem a
    rw [e] at d
    cases d
    obtain ⟨m,y⟩:=x b _ A E
    exact ⟨m,y⟩
  · by_cases a:b∈X.fs
    · obtain ⟨_,v,d,_⟩:=l.mem a
      exact ⟨v,d⟩
    · obtain ⟨j,p⟩:=c.there b o e a
      exact ⟨j,i b j p⟩
theorem zj9 (h:X.stack=X.env::X.outer)(v:X.env.frame=some X.env.locals)(j:X.ex=[])(I:Inv X pins σ H s)(a:Air X.prog X.w X.stack H s E e s') :
    wpAny M X.A (leaving X.env e) (fun _ d=>Air X.prog X.w X.outer X.H₀ X.s₀ E e d) E2 s':=by
  obtain ⟨o,C,t,r,H',B,rfl,os,c,y,i,n,l,D,p⟩:=a
  have J:Inv X pins σ H' s':=I.call' (ch:=[]) os y i c (fun b z=>nomatch z)
  rw [h] at n
  refine ZK (ZH _ _) (wpAny_leaves_onW (Q:=fun _ d=>∃ g,d={ s' with heap:=g }∧Heap.FlyingW B X.outer o (.ref C) (.ref t) g∧s'.heap.UpToSlots g) (by rw [I.ok.frames,h]) v n fun g f m=>⟨g,rfl,f,m⟩) ?_
  rintro _ _ ⟨g,rfl,f,m⟩ A
  obtain ⟨u,x,q⟩:=I.airUn j J l f.1 f.2.2.1 m
  obtain ⟨w,k,_⟩:=f.there
  exact ⟨o,C,t,r,H',B,rfl,os.trans I.os,c,u,x,f,q,D.stay A ⟨w,k⟩,p⟩
end
theorem zk {P:Program}{w:World}{K:PySem.W.Frag}{i:Str→Option Value}{d:Heap}{N:List Str}{c:Str}{b:Scope}{f:Addr}{h:Value}{A:Around}{outer:List Env}{s:Shared}{H:Hp}{E:XK} :
    Yw (Air P w) (wS (Air P w) P w K i d N c b f h A outer s H E) E:=fun g σ H1 j e k I a =>
  zj9 (X:=wS (Air P w) P w K i d N c b f h A outer s H E) rfl rfl rfl I a
theorem zeE {P:Program}{w:World}{K:PySem.W.Frag}{R:Str→Option Value}{g:Heap}{N:List Str}{j:Str}{c:Scope}{f:Addr}{O:Value}{A:Around}{outer:List Env}{s:Shared}{H:Hp}{E:XK}
    {k:List (Addr × Obj)} {σ:St} {H1:Hp} {i:Shared} {l:Heap} {m C:Addr} {args:List Value}
    (I:Inv (wS (Air P w) P w K R g N j c f O A outer s H E) k σ H1 i) (F:Heap.MadeExcOf i.heap l m (.ref C) args) (V:E (.ref C) none H1) :
    (wS (Air P w) P w K R g N j c f O A outer s H E).xe (.ref m) { i with heap:=l }:=by
  let X:=wS (Air P w) P w K R g N j c f O A outer s H E
  have I:Inv X k σ H1 i:=I
  have d:∀ b o,i.heap.get? b=some o→l.get? b=some o:=F.keeps
  have D:∀ env∈X.stack,∀ a,env.frame=some a→a∈frs X.stack:=fun env he a ha=>List.mem_filterMap.mpr ⟨env,he,ha⟩
  have J:Inv X k σ H1 { i with heap:=l }:=by
    have:=I.un (t':=i.toks) (H':=H1) (h':=l) (Un.kept d) (I.hok.kept d)
    exact this
  show wpAny (model P w) X.A (leaving X.env (.ref m)) (fun _ n=>Air P w outer H s E (.ref m) n) _ { i with heap:=l }
  refine ZK (ZH _ _) (wpAny_leaves_madeW (Q:=fun _ n=>∃ p t,n={ i with heap:=p }∧Heap.FlyingW (PySem.W.hideAll i.heap (frs X.stack)) outer m (.ref C) (.ref t) p∧l.UpToSlots p) (base:=PySem.W.hideAll i.heap (frs X.stack)) (h:=i.heap) (L:=X.env.locals) (outer:=outer) (I.ok.frames) rfl (fun b o q=>PySem.W.of_hideAll _ q) (PySem.W.funFrames_hide I.stack D) F fun p t v x2 x3 x=>⟨p,t,rfl,v,x⟩) ?_
  rintro _ _ ⟨p,t,rfl,v,x⟩ Z
  obtain ⟨G,y,_⟩:=v.there
  have di:Zf p m none:=by
    obtain ⟨U,B,_⟩:=F.there
    exact Zf.stay (h:=l) ⟨_,B,rfl⟩ Z ⟨G,y⟩
  have M:Cov X.stack H1 i.heap H1 l (PySem.W.hideAll i.heap (frs X.stack)):=by
    refine ⟨fun b o e _ r=>PySem.W.hideAll_get _ e r,fun b o e r=>⟨o,PySem.W.hideAll_get _ e r⟩,fun b o r e=>?_⟩
    cases q:H1 b with
    | none=>exact absurd q r
    | some u =>
      obtain ⟨G,S⟩:=(I.hok b u q).ex
      have z:=d b G S
      rw [e] at z
      cases z
      exact PySem.W.hideAll_get _ S fun z=>r (I.stkFree b z)
  obtain ⟨W,Y,T⟩:=I.airUn (X:=X) rfl J M v.1 v.2.2.1 x
  exact ⟨m,C,t,none,H1,_,rfl,I.os,I.bare,W,Y,v,T,di,V⟩
noncomputable abbrev bmV:List Value:=[.type "ValueError",.type "Exception",.type "BaseException",.type "object"]
structure XCls (K:PySem.W.Frag) (mg:Str→Option Value) (C:Addr) (x:Str):Prop where
  bound:mg x=some (.ref C)
  exc:PySem.W.excIn K C bmV "ValueError.__new__"=true
theorem zjB {K:PySem.W.Frag}{m:Heap}{C:Addr}{h:List Value}{a:String}(X:K.In m)(q:PySem.W.excIn K C h a=true) :
    ∃ r N v q s g x e t d w o i j p k A,m.get? C=some (excClassObj v q C N s r g x e t d w o i j p k a)∧m.Ns N A∧A "__init__"=none∧OwnTail m h r:=by
  unfold PySem.W.excIn at q
  split at q
  · rename_i w H B J
    split at q
    · rename_i C' r o i j p n k y z
      simp only [Bool.and_eq_true,beq_iff_eq,Bool.not_eq_true'] at q
      obtain ⟨⟨⟨⟨⟨rfl,rfl⟩,b⟩,L⟩,c⟩,f⟩:=q
      obtain ⟨v,s,E,G,I,F,x,e,t,d,D⟩:=H
      dsimp only at y b c f
      subst y b
      have u:B=#[o,i,j,p,some (.builtin n),k]:=by
        obtain ⟨l⟩:=B
        simp only at z
        rw [z]
      subst u
      exact ⟨r,G,v,I,s,F,x,e,t,d,w,o,i,j,p,k,_,X _ _ J,.of_isNs (PySem.W.isNs_of_in X c),PySem.W.nsMap_none_of_in X c f,PySem.W.tail_of_in X L⟩
    · cases q
  · cases q
theorem zhh {P:Program}{w:World}{K:PySem.W.Frag}{k:Str→Option Value}{b:Heap}{N:List Str}{c:Str}{a:Scope}{f:Addr}{y:Value}{A:Around}{outer:List Env}{s:Shared}{H:Hp}{E:XK}{C:Addr}{x:Str}{O g l:Pos}
    (r:XCls K k C x) (U:Gl (wS (Air P w) P w K k b N c a f y A outer s H E) x) (R:(x == ("__debug__":Str))=false:=by decide) :
    PS (wS (Air P w) P w K k b N c a f y A outer s H E) (.Raise (some (.Call (.Name x O) [] [] g)) none l) (fun _ _ H1=>E (.ref C) none H1):=by
  intro t V σ H1 D I h
  obtain ⟨tl,N',G,q,z,d,L,j,B,i,J,u,n,o,v,p,F,Q,S,m,T⟩:=zjB I.ok.mod.kin r.exc
  refine wpAny_Raise_call_subU (C:=C) (nm:=G) (q:=q) (N:=N') (bs:=z) (bm:=tl) (hdct:=d) (sn:=L) (sub:=j) (ab:=B) (col:=i) (dd:=J) (k0:=u) (k1:=n) (k2:=o) (k3:=v) (k5:=p)
    PySem.F.excBase_ValueError (by decide) PySem.F.excBase_ValueError (mN:=F) (T.hasType PySem.F.excBase_ValueError.hasBase) (I.ok.hd rfl) rfl m (ZI I U r.bound ⟨rfl,?_⟩ R)
  exact evalArgs_empty ⟨rfl,Nat.zero_le _,I.bk _ _ Q,S.keeps I.bk,T.keeps I.bk,fun W e M=>zeE I M h⟩
theorem zgi {X:Cx}{a:List Expr}:PA X a (fun _ _ _=>False):=fun _ _ _ _ _ _ _ h=>h.elim
end L2
namespace Dl
open PySem L2
noncomputable def pay (j:Nat):Option (List (Str × V)):=match j / 16 % 4 with
  | 0=>none
  | 1=>some [("at",.int ((j / 64:Nat) - 1))]
  | 2=>some [("row",.int ((j / 64:Nat) - 1))]
  | _=>some [("many",.int ((j / 64 / 1024:Nat):Int)),("most",.int ((j / 64 % 1024:Nat):Int))]
variable [KK]
section
variable (E:XK)(cl:Nat→Addr)
noncomputable def EJ (j:Nat)(H:Hp):Prop:=match pay j with
  | none=>E (.ref (cl j)) none H
  | some b=>∀ a,H a=none→E (.ref (cl j)) (some a) (upd H a (.xd b))
noncomputable def Wi (F H:Hp)(j:Nat):Prop:=∀ F' H',Gr F H F' H'→EJ E cl j H'
noncomputable def RXE (t:TE)(a:Ev→Option Nat):Prop:=∀ (σ:St) (ρ:Ev) (F H:Hp) (j:Nat) (Q:VK),zX F H→VAt F ρ σ→a ρ=some j→Wi E cl F H j→t σ H Q
noncomputable def RXA (t:TA)(a:Ev→Option Nat):Prop:=∀ (σ:St) (ρ:Ev) (F H:Hp) (j:Nat) (Q:List V→Hp→Prop),zX F H→VAt F ρ σ→a ρ=some j→Wi E cl F H j→t σ H Q
noncomputable def RXS (t:TS)(a:SE→Option Nat):Prop:=∀ (Fb Hb F H:Hp) (ρ:SE) (σ:St) (D':zaB) (j:Nat),Rl Fb Hb F H ρ σ→a ρ=some j→Wi E cl Fb Hb j→t D' σ H
noncomputable def XE (X:Cx)(e:Expr)(a:Ev→Option Nat):Prop:=∃ t,PE X e t∧RXE E cl t a
noncomputable def XA (X:Cx)(b:List Expr)(a:Ev→Option Nat):Prop:=∃ t,PA X b t∧RXA E cl t a
noncomputable def XS (X:Cx)(a:Stmt)(b:SE→Option Nat):Prop:=∃ t,PS X a t∧RXS E cl t b
noncomputable def XSs (X:Cx)(a:List Stmt)(b:SE→Option Nat):Prop:=∃ t,PSs X a t∧RXS E cl t b
end
section
variable {E:XK}{cl:Nat→Addr}{X:Cx}{a b c e:Expr}{es:List Expr}{st:Stmt}{sts:List Stmt}{pos pos':Pos}
theorem Wi.grow {F H F1 H1:Hp}{j:Nat}(w:Wi E cl F H j)(g:Gr F H F1 H1):Wi E cl F1 H1 j:=fun F' H' a=>w F' H' (g.trans a)
theorem Wi.out {Fb Hb F H:Hp}{ρ:SE}{σ:St}{j:Nat}(w:Wi E cl Fb Hb j)(a:Rl Fb Hb F H ρ σ):Wi E cl (gOf ρ σ F H) H j:=fun F' H' g=>w F' H' (a.out g)
noncomputable def spX (cl:Nat→Addr)(m:Nat)(r:List D→Option Nat):Sp:=fun b H _ E=>∃ a j F,a.length=m∧zX F H∧AtL F a b∧r a=some j∧Wi E cl F H j
noncomputable def yd (m:Nat)(r:List D→Option Nat)(f:Ev→Option (List D)):Ev→Option Nat:=fun ρ=>(f ρ).bind fun a=>if a.length=m then r a else none
theorem zB {x:Str}{k m:Nat}{f:Addr}{h:FuncData}{l:List Str}{r:List D→Option Nat}{J:Pos}{d:Ev→Option (List D)}(F:zJ X.prog X.w X.K X.mg X.base (Air X.prog X.w) k f h l (spX cl m r))(v:Yw (Air X.prog X.w) X E)(A:yL k X.A)(K:Gl X x)(p:X.mg x=some (.ref f))(n:PySem.W.keepIn X.K (.ref f)=true)(u:vH X.K h l [])
    (I:AD X (e::es) d) (c:(x == ("__debug__":Str))=false:=by decide) (C:starEach (e::es) X.env=(false,eval e X.env)::starEach es X.env:=by rfl) (b:(backTo pos (starEach es X.env)).any (·.1)=false:=by rfl) :
    XE E cl X (.Call (.Name x J) (e::es) [] pos) (yd m r d):=by
  obtain ⟨t,y,o⟩:=I
  refine ⟨_,ze2 F A K p n u .nil v y c C b,fun σ ρ F0 H j Q s q e w=>?_⟩
  obtain ⟨i,z,a⟩:=Option.bind_eq_some_iff.mp e
  split at a <;> try cases a
  rename_i B
  refine o σ ρ F0 H i _ s q z fun F1 H1 L g G=>?_
  exact ⟨i,j,F1,B,g.fh,by rw [List.append_nil];exact G,a,w.grow g⟩
theorem zbL {b:Ev→Option Nat}(h:XE E cl X a b)(d:starEach (a::es) X.env=(false,eval a X.env)::starEach es X.env:=by rfl):XA E cl X (a::es) b:=by
  obtain ⟨t,p,r⟩:=h
  exact ⟨_,zr p zgi d,fun σ ρ F H j Q s c e w=>r σ ρ F H j _ s c e w⟩
theorem zH {b:Ev→Option Nat}(h:XE E cl X e b)(c:swapsWith e none pos.line X.env=pure false:=by rfl):XS E cl X (.Expr e pos) (fun ρ=>b (visG ρ)):=by
  obtain ⟨t,p,r⟩:=h
  exact ⟨_,Vy p c,fun Fb Hb F H ρ σ D' j a e w=>r σ _ _ H j _ a.gh a.visG e (w.out a)⟩
theorem vd {b:Ev→Option Nat}(h:XE E cl X e b):XS E cl X (.Return (some e) pos) (fun ρ=>b (visG ρ)):=by
  obtain ⟨t,p,r⟩:=h
  exact ⟨_,Vf p,fun Fb Hb F H ρ σ D' j a e w=>r σ _ _ H j _ a.gh a.visG e (w.out a)⟩
theorem zj5 {i:Nat}{x:Str}{b:Ev→Option Nat}(g:X.N.Nodup)(d:X.N[i]?=some x)(c:Loc X.env.scope x)(h:XE E cl X e b)(k:swapsWith e (some (.Name x pos')) pos.line X.env=pure false:=by rfl)
    (f:X.fn x=true∨X.env.scope.names.lookup x=some .local:=by first | exact .inl rfl | exact .inr rfl | assumption):XS E cl X (.Assign [.Name x pos'] e pos) (fun ρ=>b (visG ρ)):=by
  obtain ⟨t,p,r⟩:=h
  exact ⟨_,Yk g d c p k f,fun Fb Hb F H ρ σ D' j a e w=>r σ _ _ H j _ a.gh a.visG e (w.out a)⟩
noncomputable def xIf (t:Ev→Option Bool)(g h:SE→Option Nat):SE→Option Nat:=fun ρ=>match t (visG ρ) with
  | some true=>g ρ
  | some false=>h ρ
  | none=>none
theorem X9 {f e:List Stmt}{t:Ev→Option Bool}{g h:SE→Option Nat}(q:TD X c t)(s:XSs E cl X f g)(l:XSs E cl X e h):XS E cl X (.If c f e pos) (xIf t g h):=by
  obtain ⟨tc,p,r⟩:=q
  obtain ⟨ta,m,i⟩:=s
  obtain ⟨u,o,n⟩:=l
  refine ⟨_,zgK p m o,fun Fb Hb F H ρ σ D' j b k w=>?_⟩
  unfold xIf at k
  cases h:t (visG ρ) with
  | none=>rw [h] at k;cases k
  | some d =>
    rw [h] at k
    refine r σ _ _ H d _ b.gh b.visG h fun F' H' g=>?_
    have a:=b.grow (b.back g).1
    cases d with
    | true=>rw [if_pos rfl];exact i Fb Hb _ H' ρ σ D' j a k w
    | false=>rw [if_neg Bool.false_ne_true];exact n Fb Hb _ H' ρ σ D' j a k w
noncomputable def xNo:SE→Option Nat:=fun _=>none
theorem z0 {g:SE→Option Nat}(h:XS E cl X st g):XSs E cl X [st] g:=let ⟨_,p,r⟩:=h;⟨_,YQ p,r⟩
noncomputable def Xu (b:SE→Option Nat)(g:SE→Ctl)(c:SE→Option Nat):SE→Option Nat:=fun ρ=>match b ρ with
  | some j=>some j
  | none=>match g ρ with
    | .nx a=>c a
    | _=>none
theorem zQ {d i:SE→Option Nat}{g:SE→Ctl}(o:XS E cl X st d)(p:SD X st g)(r:XSs E cl X sts i):XSs E cl X (st::sts) (Xu d g i):=by
  obtain ⟨m,y,x⟩:=o
  obtain ⟨t,n,A⟩:=p
  obtain ⟨u,q,v⟩:=r
  have f:PS X st (fun D σ H=>m D σ H∨t D σ H):=fun a s σ H D I h=>h.elim (y a s σ H D I) (n a s σ H D I)
  refine ⟨_,xI f q,fun Fb Hb F H ρ σ D' j l k w=>?_⟩
  unfold Xu at k
  cases c:d ρ with
  | some C =>
    rw [c] at k
    cases k
    exact .inl (x Fb Hb F H ρ σ _ j l c w)
  | none =>
    rw [c] at k
    dsimp only at k
    cases b:g ρ with
    | nx B =>
      rw [b] at k
      refine .inr (A Fb Hb F H ρ σ _ l ?_)
      rw [b]
      exact fun F' H' z e=>v Fb Hb F' H' B z D' j e k w
    | rt _=>rw [b] at k;cases k
    | bk _=>rw [b] at k;cases k
    | ct _=>rw [b] at k;cases k
    | no=>rw [b] at k;cases k
theorem zR {g:SE→Option Nat}(h:XS E cl X st g):XSs E cl X (st::sts) g:=by
  obtain ⟨t,p,r⟩:=h
  exact ⟨_,xI p (fun _ _ _ _ _ _ h=>(h:False).elim),fun Fb Hb F H ρ σ D' j a k w=>r Fb Hb F H ρ σ _ j a k w⟩
end
noncomputable def zea (j:Nat):SE→Option Nat:=fun _=>some j
theorem zcs {P:Program}{w:World}{K:PySem.W.Frag}{h:Str→Option Value}{b:Heap}{N:List Str}{c:Str}{a:Scope}{f:Addr}{i:Value}{A:Around}{outer:List Env}{s:Shared}{H:Hp}{E:XK}{cl:Nat→Addr}{j:Nat}{x:Str}{m d g:Pos}
    (n:XCls K h (cl j) x) (p:Gl (wS (Air P w) P w K h b N c a f i A outer s H E) x) (o:(x == ("__debug__":Str))=false:=by decide) (k:pay j=none:=by rfl) :
    XS E cl (wS (Air P w) P w K h b N c a f i A outer s H E) (.Raise (some (.Call (.Name x m) [] [] d)) none g) (zea j) :=
  ⟨_,zhh n p o,fun Fb Hb F H ρ σ D' q l e w=>by
    cases e
    have z:=w F H l.gr
    unfold EJ at z
    rw [k] at z
    exact z⟩
noncomputable def fnX (n:Nat)(b:SE→Option Nat)(a:List D):Option Nat:=b (a.map .v++List.replicate (n - a.length) .no)
theorem yf {P:Program}{w:World}{K:PySem.W.Frag}{o:Str→Option Value}{g:Heap}{x b:Str}{i:Stmt}{f:Addr}{n:FuncData}{N ps:List Str}{k:Nat}{cl:Nat→Addr}{gx:SE→Option Nat}(Fu:Fun K x b i f n)(S:xr N ps (zw i))
    (y:∀ (c:Value) (A:Around) (outer:List Env) (s:Shared) (H:Hp) (E:XK),yL k (A.deeper (PyProof.Rows.envOfC b (zw i) s.heap.objs.size f c))→XSs E cl (wS (Air P w) P w K o g N b (zw i) f c A outer s H E) (yC i) gx) :
    zJ P w K o g (Air P w) (k+1) f n ps (spX cl ps.length (fnX N.length gx)):=by
  obtain ⟨L,J,kV,G,M,O,c,ct,D,rfl,z,m⟩:=Fu.ex
  refine zil z m S (fun C H Q E h=>?_) fun A outer s H C Q E B l=>?_
  · obtain ⟨I,d,F,u,_,a,_⟩:=h
    rw [a.length];exact u
  · obtain ⟨I,j,F,u,v,a,e,q⟩:=l
    obtain ⟨t,p,r⟩:=y c A outer s H E B
    exact ⟨t,p,r F H F H _ _ _ j (zab v a) e q⟩
end Dl
namespace L2
open PySem PySem.Spec PyProof.Rows
section
variable {X:Cx}{pins:List (Addr × Obj)}{σ:St}{H H':Hp}{s s':Shared}{E:XK}{e:Value}{E2:Value→Shared→Prop}{B h3:Heap}
theorem Inv.caught (I:Inv X pins σ H s)(os:s'.os=s.os)(g:AllBare s'.gens)(f:Un (frs X.stack) [] H H' s.heap s'.heap)(i:HOk X.prog X.w H' s'.heap)(d:Cov X.stack H s.heap H' s'.heap B)
    (t:B.StaysIn h3) (j:h3.FunFrames B X.stack) (x:s'.heap.UpToSlots h3):Inv X pins σ H' { s' with heap:=h3 }:=by
  obtain ⟨N,v,l,w,h⟩:=s'
  have G:h=s.os:=os
  subst G
  have nil:∀ b:Addr,b∉([]:List Addr):=fun b z=>nomatch z
  show Inv X pins σ H' { s with heap:=h3,gens:=v,drawn:=l,toks:=w }
  refine I.step (s:=s) (g':=v) (d':=l) (t':=w) (ch:=[]) (fun b z=>nomatch z) (fun b o y c _ e n=>t b o (d.old b o e n fun z=>(List.mem_cons.mp (I.stkSub b z)).elim y c)) (fun b o y c _ e n=>?_) (fun b o _ e n=>f.free b o e n (nil b)) (fun b o _ e=>?_) f.tups f.frzs f.tbls (fun m E=>?_) (i.stays fun b u c J=>t b u (d.new b u c J)) g
  · obtain ⟨L,p⟩:=f.any e n (nil b)
    obtain ⟨_,A,a,q⟩:=I.funs.mem c
    rw [e] at a
    cases a
    obtain ⟨k,C⟩:=x b _ p q
    exact ⟨k,C⟩
  · by_cases c:b∈frs X.stack
    · obtain ⟨_,A,a,_⟩:=j.mem c
      exact ⟨A,a⟩
    · obtain ⟨h,M⟩:=d.there b o e c
      exact ⟨h,t b h M⟩
  · obtain ⟨o,F,D,K,q,r⟩:=E
    obtain ⟨L,p⟩:=f.any K I.free (nil _)
    exact x.ns ⟨_,F,D,p,q,r⟩
theorem zdd {M:Model}(j:X.stack=X.env::X.outer)(Y:X.env.frame=some X.env.locals)(O:X.ex=[])(I:Inv X pins σ H s)(a:Air X.prog X.w X.stack H s E e s'){U:List ExceptHandler}{Q:Flow→Shared→Prop}
    (k:∀ (b C t:Addr) (v:Option Addr) (H':Hp) (B h3:Heap),E (.ref C) v H'→Zf h3 b v→H' b=none→(∀ m,X.s₀.heap.get? b=some m→False)→(∀ p∈X.pn++pins,p.1≠b)→Heap.FlyingW B X.stack b (.ref C) (.ref t) h3→(∀ x:Heap,B.StaysIn x→x.FunFrames B X.stack→h3.UpToSlots x→Inv X pins σ H' { s' with heap:=x }) →
      e=.ref b→wpAny M X.A (handleBy (.ref b) X.env U) Q E2 { s' with heap:=h3 }) :
    wpAny M X.A (noteFrame e X.env) (fun _ s₂=>wpAny M X.A (setFlight e none) (fun _ W=>wpAny M X.A (handleBy e X.env U) Q E2 W) E2 s₂) E2 s':=by
  obtain ⟨b,C,t,v,H',B,rfl,os,y,Z,o,F,h,di,V⟩:=a
  have G:X.A.frames=some (X.env::X.outer):=by rw [I.ok.frames,j]
  have w:=F
  rw [j] at w
  refine ZK (Xe _ _) (wpAny_looks_onW (Q:=fun _ n=>∃ f,n={ s' with heap:=f }∧Heap.HeldW B (X.env::X.outer) b (.ref C) (.ref t) X.env.locals f∧s'.heap.UpToSlots f) G Y w fun f c i=>⟨f,rfl,c,i⟩) ?_
  rintro _ _ ⟨f,rfl,c,i⟩ T
  refine ZK (vq _ _) (wpAny_landsW (Q:=fun _ n=>∃ h3,n={ s' with heap:=h3 }∧Heap.FlyingW B (X.env::X.outer) b (.ref C) (.ref t) h3∧f.UpToSlots h3) (s:={ s' with heap:=f }) c fun h3 d l=>⟨h3,rfl,d,l⟩) ?_
  rintro _ _ ⟨h3,rfl,d,l⟩ N
  have P:Zf h3 b v:=by
    obtain ⟨L,J,_⟩:=d.there
    exact di.stay (DK.trans T N) ⟨L,J⟩
  rw [←j] at d
  have A:B.get? b=none:=F.2.1
  have R:b∉frs X.stack:=fun z=>by
    obtain ⟨_,S,r,K⟩:=F.2.2.1.mem z
    obtain ⟨oe,vs,_,_,_,he,_,hd,_⟩:=F.2.2.2
    rw [he] at r
    cases r
    exact K vs hd
  have g:∀ m,s.heap.get? b=some m→False:=fun m z=>by
    obtain ⟨S,D⟩:=h.there b m z R
    rw [A] at D
    cases D
  refine k b C t v H' B h3 V P ?_ (fun m z=>?_) (fun p hp z=>?_) d (fun x b1 b2 b3=>I.caught os y Z o h b1 b2 ((i.trans l).trans b3)) rfl
  · cases q:H' b with
    | none=>rfl
    | some u =>
      obtain ⟨L,ho⟩:=(o b u q).ex
      have z:=h.new b L (by rw [q];intro z;cases z) ho
      rw [A] at z
      cases z
  · obtain ⟨S,D⟩:=I.base.there b m z (by rw [O];intro z;cases z)
    exact g S D
  · exact g p.2 (z ▸ (I.pin p hp).1)
end
noncomputable abbrev Cx.held (X:Cx)(e:Value):Cx:={ X with A:=X.A.mark (some e),calm:=false }
section
variable {X:Cx}{pins:List (Addr × Obj)}{σ:St}{H H':Hp}{s s':Shared}{E:Value→Shared→Prop}{e:Value}{M:Model}{A:Around}
theorem Cx.Ok.held (ok:X.Ok)(e:Value):(X.held e).Ok :=
  ⟨ok.mod,ok.kind,ok.glob,ok.blt,ok.above,ok.inj,ok.has,ok.cab,(fun z=>by cases z),ok.frames,ok.stk,ok.exf,ok.bs,ok.bsz,ok.noex,ok.exfs,ok.funs,ok.frf⟩
theorem Inv.held (I:Inv X pins σ H s)(e:Value):Inv (X.held e) pins σ H s:=⟨I.ok.held e,I.os,I.bare,I.base,I.loc,I.cell,I.free,I.freeC,I.pin,I.hok,I.len⟩
theorem Inv.unheld (ok:X.Ok)(I:Inv (X.held e) pins σ H s):Inv X pins σ H s:=⟨ok,I.os,I.bare,I.base,I.loc,I.cell,I.free,I.freeC,I.pin,I.hok,I.len⟩
theorem Y3 {i:Nat}{x:Str}{J:Pos}{Q:Unit→Shared→Prop}(I:Inv X pins σ H s)(Y:X.N.Nodup)(K:X.N[i]?=some x)(R:X.env.scope.names.lookup x=some .local)
    (h:∀ s',Inv X pins (σ.set i none) H s'→Q () s'):wpAny M A (do bindName X.env x .none;unbindBehindTheSuite X.env x J) Q E s:=by
  obtain ⟨m,L,Z⟩:=id I.loc
  have u:(X.env.scope.kind == .class||(X.env.scope.kind == .module&&X.env.locals != X.env.globals))=false:=by rw [I.ok.kind];rfl
  have F:i < σ.length:=by rw [I.len];exact (List.getElem?_eq_some_iff.mp K).1
  have t:=I.cne
  refine wpAny_nameGoes_keeps R L u fun W v G f=>?_
  obtain ⟨oL,_,_,S,_⟩:=id L
  have a:HOk X.prog X.w H W:=fun b U e=>by
    refine (I.hok b U e).stay (fun c O B q=>(f.2 c ?_).trans q) (fun _ q=>q) fun _ _ q=>q
    rintro rfl
    rcases B with rfl | B
    · rw [I.free] at e;cases e
    · rw [I.free] at B;cases B
  have g:∀ b o,X.s₀.heap.get? b=some o→b≠X.env.locals:=fun b o e=>Nat.ne_of_lt (Nat.lt_of_lt_of_le (Heap.lt_size e) I.ok.above)
  refine h _ ⟨I.ok,I.os,I.bare,⟨fun b o e n C r=>?_,fun b o e n C r=>?_,I.base.free,fun b o e r=>?_,I.base.tups,I.base.frzs,I.base.tbls⟩,⟨_,G,fun j y v' l w P=>?_⟩,fun y c e=>?_,I.free,I.freeC,fun p hp=>?_,a,by simpa using I.len⟩
  · exact (f.2 b (g b o e)).trans (I.base.keep b o e n C r)
  · obtain ⟨sl,l⟩:=I.base.slot b o e n C r
    exact ⟨sl,(f.2 b (g b o e)).trans l⟩
  · obtain ⟨o',l⟩:=I.base.there b o e r
    exact ⟨o',(f.2 b (g b o e)).trans l⟩
  · by_cases D:j=i
    · subst D
      rw [List.getElem?_set_self F] at w
      cases w
    · rw [List.getElem?_set_ne (Ne.symm D)] at w
      obtain ⟨T,r',q⟩:=Z j y v' l w P
      refine ⟨T,r',?_⟩
      rcases q with ⟨k,e⟩ | ⟨k,c,e,z⟩
      · refine .inl ⟨k,?_⟩
        have:y≠x:=fun e=>D (VX Y l (e ▸ K))
        simp [this,e]
      · exact .inr ⟨k,c,e,z.sameBut f (t y c e)⟩
  · obtain ⟨O,z⟩:=I.cell y c e
    exact ⟨O,z.sameBut f (t y c e)⟩
  · obtain ⟨e,n,N,V,d⟩:=I.pin p hp
    exact ⟨(f.2 p.1 N).trans e,n,N,V,d⟩
noncomputable def zdw (a C:Addr)(c:Option Addr):HO:=.ext fun h=>∃ b,h.get? a=some b∧b.cls=.ref C∧b.dict=c∧PySem.W.notCls b=true
theorem Inv.track {a:Addr}{o:HO}{y:Obj}{G:Array Value}(I:Inv X pins σ H s)(l:H a=none)(C:s.heap.get? a=some y)(B:y.data=.fields G)(E:∀ M,X.s₀.heap.get? a=some M→False)(K:∀ p∈X.pn++pins,p.1≠a)
    (w:yb X.prog X.w (upd H a o) s.heap a o):Inv X pins σ (upd H a o) s:=by
  have r:X.env.locals≠a:=by
    rintro rfl
    obtain ⟨m,⟨Q,O,N,h,j,_⟩,_⟩:=I.loc
    rw [C] at h
    cases h
    rw [B] at j
    cases j
  have t:∀ x c,X.env.cells.lookup x=some c→c≠a:=fun x c e=>by
    rintro rfl
    obtain ⟨v,P,g,k⟩:=I.cell x c e
    rw [C] at g
    cases g
    rw [B] at k
    cases k
  refine ⟨I.ok,I.os,I.bare,⟨I.base.keep,I.base.slot,fun b u e n D=>?_,I.base.there,fun b A e=>?_,fun b u v e=>?_,fun b L e=>?_⟩,I.loc,I.cell,?_,fun x c e=>?_,fun p hq=>?_,fun b u e=>?_,I.len⟩
  · rw [zm (fun z:b=a=>E u (z ▸ e))]
    exact I.base.free b u e n D
  · have f:=I.base.tups b A e
    rw [zm (zi f l)]
    exact f
  · have f:=I.base.frzs b u v e
    rw [zm (zi f l)]
    exact f
  · have f:=I.base.tbls b L e
    rw [zm (zi f l)]
    exact f
  · rw [zm r]
    exact I.free
  · rw [zm (t x c e)]
    exact I.freeC x c e
  · obtain ⟨e,n,J,F,d⟩:=I.pin p hq
    exact ⟨e,by rw [zm (K p hq)];exact n,J,F,d⟩
  · by_cases c:b=a
    · subst c
      rw [zo] at e
      cases e
      exact w
    · rw [zm c] at e
      refine (I.hok b u e).stay (fun _ _ _ q=>q) (fun c i=>?_) fun c A i=>?_
      · rw [zm (zi i l)];exact i
      · rw [zm (zi i l)];exact i
end
noncomputable abbrev Cx.pinned (X:Cx)(a:List (Addr × Obj)):Cx:={ X with pn:=X.pn++a }
section
variable {X:Cx}{pins ps:List (Addr × Obj)}{σ:St}{H H':Hp}{s s':Shared}
theorem Cx.Ok.pinned (ok:X.Ok)(ps:List (Addr × Obj)):(X.pinned ps).Ok :=
  ⟨ok.mod,ok.kind,ok.glob,ok.blt,ok.above,ok.inj,ok.has,ok.cab,ok.hd,ok.frames,ok.stk,ok.exf,ok.bs,ok.bsz,ok.noex,ok.exfs,ok.funs,ok.frf⟩
theorem Inv.pinAll (I:Inv X pins σ H s):Inv (X.pinned pins) [] σ H s:=⟨I.ok.pinned pins,I.os,I.bare,I.base,I.loc,I.cell,I.free,I.freeC,fun p a=>I.pin p (by rw [List.append_nil] at a;exact a),I.hok,I.len⟩
theorem Inv.unpin (ok:X.Ok)(I:Inv (X.pinned pins) ps σ H s):Inv X pins σ H s:=⟨ok,I.os,I.bare,I.base,I.loc,I.cell,I.free,I.freeC,fun p a=>I.pin p (List.mem_append_left _ a),I.hok,I.len⟩
end
noncomputable abbrev gone (i:Nat)(D:zaB):zaB:={ nx:=fun σ H=>D.nx (σ.set i none) H,rt:=D.rt,bk:=fun σ H=>D.bk (σ.set i none) H,ct:=fun σ H=>D.ct (σ.set i none) H }
noncomputable def exW (K:PySem.W.Frag)(CS:Addr)(i n:Nat)(u:TS)(D:zaB):XK:=fun cls b H'=>∃ C,cls=.ref C∧PySem.W.exmOne K (.ref C) (.ref CS)=some true∧∀ (a:Addr) (σ:St),σ.length=n→H' a=none→u (gone i D) (σ.set i (some (.ref a))) (upd H' a (zdw a C b))
theorem zlt {Y:Cx}{CS:Addr}{x n:Str}{i:Nat}{body k:List Stmt}{b₀:Stmt}{a5 y np:Pos}{tb:XK→TS}{u:TS}(a3:Y.stack=Y.env::Y.outer)(hf:Y.env.frame=some Y.env.locals)(Z:Y.ex=[])
    (E:Y.N.Nodup) (A:Y.N[i]?=some n) (w:Y.env.scope.names.lookup n=some .local) (hg:Gl Y x) (hm:Y.mg x=some (.ref CS))
    (p:∀ (ps:List (Addr × Obj)) (W:Value→Shared→Prop) (E0:XK),Yw (Air Y.prog Y.w) ((Y.pinned ps).wish W) E0→PSs ((Y.pinned ps).wish W) body (tb E0))
    (l:∀ d,PSs (Y.held (.ref d)).nox (b₀::k) u) (hd:(x == ("__debug__":Str))=false:=by decide) :
    PS Y.nox (.Try body [.ExceptHandler (some (.Name x np)) (some n) (b₀::k) y] [] [] a5) (fun D σ H=>tb (exW Y.K CS i Y.N.length u D) D σ H):=by
  intro c s σ H D I h
  have ok:Y.Ok:=I.ok.unwish
  have IY:Inv Y c σ H s:=I.unwish
  refine wpAny_Try_except ?_
  refine wpAny_mono (p c _ (exW Y.K CS i Y.N.length u D) ?_ [] s σ H D (IY.pinAll.wish _) h) ?_ fun e s₁ h=>h
  · intro a4 O H1 s1 e z I1 a
    have I1':Inv Y c O H1 s1:=I1.unwish.unpin ok
    refine zdd (X:=Y) a3 hf Z I1' a fun d C t od H' B G hE a2 F h0 a6 r m ee=>?_
    obtain ⟨C',ec,P,hu⟩:=hE
    cases ec
    have I3:Inv Y c O H' { z with heap:=G }:=m G r.1 r.2.2.1 (.refl _)
    obtain ⟨ob,V,K⟩:=r.there
    have ty:PySem.W.Looks (model Y.prog Y.w) G (typeOf (.ref d)) (.ref C):=K ▸ (PySem.W.Looks.ld V).andThen .now
    refine wpAny_handleBy_cons (codeAny_handlers_test (ZI (X:=Y.held (.ref d)) (I3.held (.ref d)) hg hm ?_ hd)) (by intro q;cases q)
    refine (PySem.W.exm_one (M:=model Y.prog Y.w) I3.kIn ty P).here ?_
    refine codeAny_handlers_suite_as ?_
    refine ZK (vq _ _) (wpAny_setFlight_noneW (Q:=fun _ a1=>∃ j,a1={ z with heap:=j }∧B.StaysIn j∧j.FunFrames B Y.stack∧j.TracedW B d (.ref C) (.ref t)∧∀ b o,G.get? b=some o→(∀ vs,o.data≠.fields vs)→j.get? b=some o) (s:={ z with heap:=G }) r.1 r.2.2.1 r.2.2.2.at fun j k1 S k3 k4=>⟨j,rfl,k1,S,k3,k4⟩) ?_
    rintro _ _ ⟨j,rfl,k1,S,k3,k4⟩ a7
    have I4:Inv Y c O H' { z with heap:=j }:=m j k1 S fun b o hb hn=>⟨o.slots,k4 b o hb hn⟩
    obtain ⟨R,vs,_,_,_,L,a0,N,_⟩:=k3
    obtain ⟨a8,J,U⟩:=a2.stay a7 ⟨R,L⟩
    rw [L] at J
    cases J
    have T:PySem.W.notCls R=true:=by unfold PySem.W.notCls;rw [N]
    have I5:Inv Y c O (upd H' d (zdw d C od)) { z with heap:=j }:=I4.track F L N h0 a6 ⟨⟨R,L,a0.1,U,T⟩,⟨R,L⟩,fun h1 h2 ⟨o1,e1,e2⟩ kk=>⟨o1,kk o1 e1,e2⟩⟩
    refine Vt (X:=Y.held (.ref d)) (v:=.ref d) (I5.held (.ref d)) E A (.inl w) rfl (fun s6 I6=>?_) (.inr w)
    refine wpAny_mono (l d c s6 _ _ (gone i D) (I6.wish _) (hu d O I4.len F)) (fun f s7 q=>?_) fun x s7 q=>q.elim
    cases f with
    | ret uv =>
      obtain ⟨v,g,H7,I7,rv,q⟩:=q
      exact Y3 ((Inv.unheld (X:=Y) ok I7.unwish)) E A w fun s8 I8=>⟨v,_,H7,I8.wish _,rv,q⟩
    | next =>
      obtain ⟨g,H7,I7,q⟩:=q
      exact Y3 ((Inv.unheld (X:=Y) ok I7.unwish)) E A w fun s8 I8=>⟨_,H7,I8.wish _,q⟩
    | brk =>
      obtain ⟨g,H7,I7,q⟩:=q
      exact Y3 ((Inv.unheld (X:=Y) ok I7.unwish)) E A w fun s8 I8=>⟨_,H7,I8.wish _,q⟩
    | cont =>
      obtain ⟨g,H7,I7,q⟩:=q
      exact Y3 ((Inv.unheld (X:=Y) ok I7.unwish)) E A w fun s8 I8=>⟨_,H7,I8.wish _,q⟩
  · intro f s₁ q
    cases f with
    | ret uv =>
      obtain ⟨v,g,H7,I7,rv,q⟩:=q
      exact ⟨v,g,H7,(Inv.unpin (X:=Y) ok I7.unwish).wish _,rv,q⟩
    | next =>
      obtain ⟨g,H7,I7,q⟩:=q
      exact wpAny_execs_nil ⟨g,H7,(Inv.unpin (X:=Y) ok I7.unwish).wish _,q⟩
    | brk =>
      obtain ⟨g,H7,I7,q⟩:=q
      exact ⟨g,H7,(Inv.unpin (X:=Y) ok I7.unwish).wish _,q⟩
    | cont =>
      obtain ⟨g,H7,I7,q⟩:=q
      exact ⟨g,H7,(Inv.unpin (X:=Y) ok I7.unwish).wish _,q⟩
end L2
namespace L2
open PySem PySem.Spec PyProof.Rows PySem.W PySem.Calls PySem.Builtin PySem.Builtin.Getset_descriptor
section
variable {prog:Program}{w:World}{A:Around}{E:Value→Shared→Prop}{K:PySem.W.Frag}{h:Heap}{g:Array GenState}{d:Drawn}{t:Nat}{os:OsState}{a C:Addr}{o:Obj}
noncomputable def Of (h:Heap)(a:Addr)(o:Obj)(C:Addr):Prop:=h.get? a=some o∧o.cls=.ref C
theorem Of.type {M:Model}(I:Of h a o C):Looks M h (typeOf (.ref a)) (.ref C):=I.2 ▸ (Looks.ld I.1).andThen .now
theorem zeW {M:Model} {b:Str} {x c:Value} (X:K.In h) (d:findIn K (.ref C) b=some (some x)) (e:specialIn K x "__get__"=some (some c)) (f:takesIn K x=some true):Looks M h (Builtin.ObjectAttr.find (.ref a) (.ref C) b) (.bind c x):=by
  have L1:=looks_findIn (M:=M) X d
  have L2:Looks M h (Builtin.ObjectAttr.getOf (some x)) (some c):=looks_specialIn X e
  have L3:=looks_takesIn (M:=M) X f
  exact L1.andThen (L2.andThen ((show Looks M h (Builtin.ObjectAttr.dataDescriptor? (some x) (some c)) (some (c,x)) from L3.andThen .now).andThen (Looks.tag .now)))
theorem zjA {R:Result→Shared→Prop} {b:Value} (X:K.In h) (I:Of h a o C) (c:mroIn K C (.type "object")=some true) (hq:R (.ok (.ret (.ref C))) ⟨h,g,d,t,os⟩) :
    codeAny (model prog w) A (.call (.builtin "getset_descriptor.__get__") ⟨[.builtin "object.__class__",.ref a,b],[]⟩) R ⟨h,g,d,t,os⟩:=by
  have L0:=I.type (M:=model prog w)
  have L1:=looks_mroIn (M:=model prog w) X c
  refine codeAny_call_builtin KF.slot_gs.plain KF.entry_gs (KF.slot_gs.check _ _ _ _ _ _ _ _ KF.type_class (KF.args_gs _ _ _) ?_)
  unfold Builtin.«getset_descriptor.__get__» descrGet
  rw [dga_obj]
  refine wpAny_bind (wpAny_pure ?_)
  unfold descrGetter descrCheckInstance descrNameAndClass isInstance
  simp only [KF.owner_class]
  repeat lk
  refine ⟨Code.quiet_builtin _ (by decide +kernel),codeAny_builtin KF.entry_class ?_⟩
  unfold Builtin.«object.__class__» shownTypeOf
  repeat lk
  exact hq
theorem zdS {tk:Tok} {Q:Fin→Shared→Prop} (X:K.In h) (I:Of h a o C) (b:findIn K (.ref C) "__class__"=some (some (.builtin "object.__class__"))) (e:specialIn K (.builtin "object.__class__") "__get__"=some (some (.builtin "getset_descriptor.__get__"))) (f:takesIn K (.builtin "object.__class__")=some true) (c:mroIn K C (.type "object")=some true)
    (hq:Q (.done (.ret (.ref C))) ⟨h,g,d,t,os⟩):wpAny (model prog w) A (Builtin.«object.__getattribute__» ⟨[.ref a,.str "__class__" tk],[]⟩) Q E ⟨h,g,d,t,os⟩:=by
  have L0:=I.type (M:=model prog w)
  have L1:=zeW (M:=model prog w) (a:=a) X b e f
  refine wpAny_bind (wpAny_pure (wpAny_bind ?_))
  refine wpAny_pure (wpAny_bind (L0.at (wpAny_bind (L1.at ?_))))
  show wpAny _ _ (holding [.builtin "object.__class__"] (call (.builtin "getset_descriptor.__get__") [.builtin "object.__class__",.ref a,.ref C])>>=ret) _ _ _
  exact wpAny_bind (wpAny_holding (wpAny_call (zjA X I c (wpAny_pure hq))))
theorem zfn {M:Model} {b:Value} {Q:Unit→Shared→Prop} (X:K.In h) (I:Of h a o C) (f:subIn K (.ref C) (.type "BaseException")=some true) (hq:Q () ⟨h,g,d,t,os⟩):wpAny M A (checkBuiltinCall "BaseException.__getattribute__" ⟨[.ref a,b],[]⟩) Q E ⟨h,g,d,t,os⟩:=by
  have e:builtinKind "BaseException.__getattribute__"=some .slot:=by decide +kernel
  have c:splitId "BaseException.__getattribute__"=some ("BaseException","__getattribute__"):=by decide +kernel
  have i:=F.args_bexc_ga (.ref a) b
  have L0:=I.type (M:=M)
  have L1:Looks M h (isSubtype (.ref C) (.type "BaseException")) true:=looks_subIn X f
  simp only [checkBuiltinCall,e,c]
  refine wpAny_bind ?_
  unfold isInstance
  refine wpAny_bind (L0.at (L1.at ?_))
  repeat (first | assumption | wp_step)
theorem zkG {tk:Tok} {Q:Value→Shared→Prop} (X:K.In h) (I:Of h a o C) (b:findIn K (.ref C) "__getattribute__"=some (some (.builtin "BaseException.__getattribute__"))) (c:findIn K (.ref C) "__getattr__"=some none)
    (f:findIn K (.ref C) "__class__"=some (some (.builtin "object.__class__"))) (k:specialIn K (.builtin "object.__class__") "__get__"=some (some (.builtin "getset_descriptor.__get__"))) (l:takesIn K (.builtin "object.__class__")=some true) (i:mroIn K C (.type "object")=some true) (j:subIn K (.ref C) (.type "BaseException")=some true) (hq:Q (.ref C) ⟨h,g,d,t,os⟩) :
    wpAny (model prog w) A (getAttrBy (.ref a) (.str "__class__" tk) false) Q E ⟨h,g,d,t,os⟩:=by
  have L0:=I.type (M:=model prog w)
  have L1:=looks_findIn (M:=model prog w) X b
  have L2:=looks_findIn (M:=model prog w) X c
  have f3:=F.attrBase_ValueError.ga.bind (.ref a)
  have e:(Value.builtin "BaseException.__getattribute__" == Value.builtin "object.__getattribute__")=false:=by decide +kernel
  unfold getAttrBy
  refine wpAny_holding (wpAny_bind (L0.at (wpAny_bind (L1.at ?_))))
  dsimp only
  rw [e,Bool.and_false,if_neg Bool.false_ne_true]
  unfold getAttrByItsOwn
  refine wpAny_bind ?_
  show wpAny _ _ (typeLookup (.ref C) "__getattr__") _ _ _
  refine L2.at (wpAny_bind (wpAny_attempt (wpAny_holding ?_)))
  show wpAny _ _ (boundAndCalled (.builtin "BaseException.__getattribute__") (.ref a) (.str "__class__" tk)) _ _ _
  unfold boundAndCalled
  rw [f3]
  refine wpAny_bind (wpAny_pure ?_)
  refine wpAny_call (codeAny_call_builtin F.attrBase_ValueError.ga.plain F.entry_bexc_ga (zfn X I j (zdS X I f k l i ?_)))
  exact handed_on rfl hq
theorem ze4 {Q:Option Value→Shared→Prop} {s:Shared} (X:K.In s.heap) (I:Of s.heap a o C) (b:findIn K (.ref C) "__getattribute__"=some (some (.builtin "BaseException.__getattribute__"))) (c:findIn K (.ref C) "__getattr__"=some none)
    (e:findIn K (.ref C) "__class__"=some (some (.builtin "object.__class__"))) (i:specialIn K (.builtin "object.__class__") "__get__"=some (some (.builtin "getset_descriptor.__get__"))) (j:takesIn K (.builtin "object.__class__")=some true) (f:mroIn K C (.type "object")=some true) (h:subIn K (.ref C) (.type "BaseException")=some true)
    (hq:Q (some (.ref C)) { s with toks:=s.toks+1 }):wpAny (model prog w) A (getAttr? (.ref a) "__class__") Q E s:=by
  obtain ⟨k,g,d,t,os⟩:=s
  unfold getAttr? getAttrBy?
  exact wpAny_bind (wpAny_mkText (wpAny_bind (wpAny_attempt (zkG X I b c e i j f h (wpAny_pure hq)))))
noncomputable def xN (K:PySem.W.Frag) (C:Addr):Bool:=(clsIn K C).isSome&&findIn K (.ref C) "__getattribute__" == some (some (.builtin "BaseException.__getattribute__"))&&findIn K (.ref C) "__getattr__" == some none&&findIn K (.ref C) "__class__" == some (some (.builtin "object.__class__"))
  && specialIn K (.builtin "object.__class__") "__get__" == some (some (.builtin "getset_descriptor.__get__"))&&takesIn K (.builtin "object.__class__") == some true&&mroIn K C (.type "object") == some true&&subIn K (.ref C) (.type "BaseException") == some true
theorem zgQ (q:xN K C=true):KitX K (.ref a) (.ref C) (fun h=>∃ o,Of h a o C):=by
  unfold xN at q
  simp only [Bool.and_eq_true,beq_iff_eq] at q
  obtain ⟨⟨⟨⟨⟨⟨⟨c,i⟩,f⟩,t⟩,w⟩,x⟩,m⟩,r⟩:=q
  obtain ⟨D,b⟩:=Option.isSome_iff_exists.mp c
  unfold clsIn at b
  refine ⟨fun _ _ _ ⟨_,I⟩=>I.type,fun _ _ X _=>?_,fun h v B s n A X l=>?_,fun X ⟨_,I⟩ k=>ze4 X I i f t w x m r k⟩
  · split at b
    · rename_i u p g d j
      intro A' Q' E' y k q
      unfold isType loadHead
      exact wpAny_bind (wpAny_loadPart (k _ _ (X _ _ j)) (wpAny_pure q))
    · cases b
  · refine Bool.eq_false_iff.mpr fun q=>?_
    have e:C=v:=Value.ref.inj (beq_iff_eq.mp q)
    subst e
    split at b
    · rename_i u p g d j
      have z:=(X _ _ j).symm.trans l
      cases z
    · cases b
theorem WH {c:Value}{b:Bool}{s:Shared}{Q:Value→Shared→Prop}(q:xN K C=true)(X:K.In s.heap)(I:∃ o,Of s.heap a o C)(e:kitOne K (.ref C) c=some b)(hq:∀ tk,Q (.bool b) { s with toks:=tk }) :
    wpAny (model prog w) A (call (.builtin "isinstance") [.ref a,c]) Q E s:=kia_one (zgQ q) X I e (by intro z;cases z) hq
end
end L2
namespace L2
open PySem PySem.Spec PyProof.Rows
section
variable {P:Program}{w:World}{K:PySem.W.Frag}{mg:Str→Option Value}{base:Heap}
noncomputable def zfi (P:Program)(w:World)(K:PySem.W.Frag)(mg:Str→Option Value)(base:Heap)(k:Nat)(f:Addr)(g:FuncData)(b:List Str)(c:Sp):Prop :=
  (∀ a H Q E,c a H Q E→a.length=b.length)∧∀ (A:Around) (outer:List Env) (s:Shared) (H:Hp) (args:Args) (d:List Value) (a:List V) (Q:VK) (E:XK) (e:Value),yL k A→zh8 P w K mg base A outer s H→BindsTo s g args (b.zip d)→ye a d→c a H Q E →
    codeAny (model P w) (A.mark (some e)) (.call (.ref f) args) (CR CX0 outer P w H s Q E) s
theorem zjv {x c:Str}{i:Stmt}{f:Addr}{G:FuncData}{N ps:List Str}{k:Nat}{z:Sp}(F:Fun K x c i f G)(S:xr N ps (zw i))(p:∀ g H Q E,z g H Q E→g.length=ps.length)
    (h:∀ (d:Value) (A:Around) (outer:List Env) (s:Shared) (H:Hp) (g:List V) (Q:VK) (E:XK) (m:Value),yL k (A.deeper (envOfC c (zw i) s.heap.objs.size f d))→z g H Q E →
      ∃ t,PSs ((wS CX0 P w K mg base N c (zw i) f d A outer s H E).held m).nox (yC i) t∧t { nx:=fun _ H'=>Q .non H',rt:=Q } (start N g) H):zfi P w K mg base (k+1) f G ps z:=by
  obtain ⟨oc,od,kV,Y,pm,an,d,ct,L,rfl,X,B⟩:=F.ex
  refine ⟨p,fun A outer s H args us g Q E m C n W r l=>?_⟩
  have KX:K.In s.heap:=n.mod.kin.keeps fun b o e=>(n.bs.1 b o e).1
  have lim:s.heap.NoLimit:=n.mod.nolimit.keeps fun b o e=>(n.bs.1 b o e).1
  refine codeAny_call_function (A:=A.mark (some m)) C.depth (KX _ _ X) rfl S.co S.gen rfl (PySem.W.codeRec_of KX B) (W _ _ _ _ ?_)
  refine wpAny_newFunctionEnv_cells S.kind (fun y O=>?_) fun env Z D x=>?_
  · rcases S.par y.1 (List.of_mem_zip (a:=y.1) (b:=y.2) O).1 with q | q
    · exact .inl q
    · exact .inr ⟨q,PySem.W.cellsFrom_some _ _ _ (.inl q)⟩
  subst Z
  refine ⟨lim.keeps x.toInCall.keep,codeAny_func ?_⟩
  obtain ⟨t,T,hq⟩:=h d A outer s H g Q E m (C.deeper _) l
  have I:Inv (wS CX0 P w K mg base N c (zw i) f d A outer s H E) [] (start N g) H D:=za3 S C.hd n (p _ _ _ _ l) r x
  refine wpAny_mono (T [] D (start N g) H _ ((I.held m).wish _) hq) (fun R M j=>?_) fun e M j=>j.elim
  cases R with
  | ret u =>
    obtain ⟨v,σ',H',J,U,q⟩:=j
    exact ⟨v,H',J.os,J.bare,J.base,J.hok,U,q⟩
  | next =>
    obtain ⟨σ',H',J,q⟩:=j
    exact ⟨V.non,H',J.os,J.bare,J.base,J.hok,rfl,q⟩
  | brk =>
    obtain ⟨_,_,_,q⟩:=j
    exact False.elim q
  | cont =>
    obtain ⟨_,_,_,q⟩:=j
    exact False.elim q
end
theorem zcz {Y:Cx}{i:Value}{k:Nat}{f:Addr}{o:FuncData}{w:List Str}{n:Sp}{x:Str}{p b:Pos}{e:Expr}{c:List Expr}{t:TA}{E:XK}(F:zfi Y.prog Y.w Y.K Y.mg Y.base k f o w n)(B:yL k Y.A)(J:Gl Y x)(z:Y.mg x=some (.ref f))(y:PySem.W.keepIn Y.K (.ref f)=true)(A:vH Y.K o w [])(d:Y.Ok)
    (D:PA (Y.held i).nox (e::c) t) (m:(x == ("__debug__":Str))=false:=by decide) (C:starEach (e::c) Y.env=(false,eval e Y.env)::starEach c Y.env:=by rfl) (l:(backTo b (starEach c Y.env)).any (·.1)=false:=by rfl) :
    PE (Y.held i).nox (.Call (.Name x p) (e::c) [] b) (zjo n [] E t):=by
  intro a s σ H Q I h
  refine wpAny_Call_Name_kw (ZI I J z ?_ m)
  refine PySem.W.callWith_K (h₀:=Y.base) I.ok.mod.kin y (thn (D b a s σ H _ I h) fun j g ⟨v,H1,I1,r,q⟩=>⟨I1.kIn,?_⟩) C l
  have q:n (v++[]) H1 Q E:=q
  rw [List.append_nil] at q
  have I2:Inv Y a σ H1 g:=Inv.unheld (X:=Y) d I1.unwish
  refine wpAny_call (codeAny_mono (F.2 Y.A Y.stack g H1 ⟨j,[]⟩ j v Q E i B I2.env0 ?_ r q) fun r K hq=>?_)
  · have:=A g j I2.kIn (by rw [List.append_nil,← r.length];exact F.1 _ _ _ _ q)
    rwa [List.append_nil] at this
  · cases r with
    | error e=>exact False.elim hq
    | ok G =>
      cases G with
      | ret u=>exact I1.after hq
      | next=>exact False.elim hq
      | brk=>exact False.elim hq
      | cont=>exact False.elim hq
end L2
namespace L2
open PySem PySem.Spec PyProof.Rows PySem.SeqAt
theorem VY:∀ {c:List Bool} {a:List Value},ye (c.map V.bl) a→a=c.map Value.bool
  | [],a,r=>by
    have:=r.length
    exact List.eq_nil_of_length_eq_zero (by rw [←this];rfl)
  | b::c,a,r=>by
    cases r with
    | cons d e =>
      rw [VY e]
      cases d
      rfl
theorem zcE {A:Around}{s:Shared}{a:List Bool}{y:Value}(h:y∈(a.map Value.bool).toArray):EqAt A s y (.bool true) (isBoolOf true y):=by
  obtain ⟨b,_,rfl⟩:=List.mem_map.mp (List.mem_toArray.mp h)
  exact EqAt.bool_bool b true
noncomputable def zdD:V→List V→Hp→VK→Prop:=fun x b H Q=>∃ (l:Addr) (a:List Bool),x=.ref l∧b=[.bl true]∧H l=some (.lst (a.map V.bl))∧Q (.int ((a.countP (· == true):Nat):Int)) H
theorem zeI {X:Cx}:MtR X "list.count" zdD:=by
  intro d s σ H x B v z Q I k g h
  obtain ⟨l,a,rfl,rfl,o,q⟩:=h
  cases k
  obtain ⟨u,rfl,p⟩:=g.one
  cases p
  obtain ⟨m,r,i,A⟩:=I.list (SqL.of (K:=X.K) o)
  have e:=VY r
  subst e
  obtain ⟨⟨cls,w,data,t⟩,c,b,n,f⟩:=i.isList
  simp only at b f
  subst b f
  refine call_meets PySem.F.slot_list_count ⟨_,c,rfl⟩ PySem.F.entry_list_count (PySem.F.args_list_count_2 _ _) (list_countAt l (a.map Value.bool).toArray n w t (.bool true) (isBoolOf true)) ⟨c,fun y j=>zcE j,?_⟩
  refine ⟨.int (((a.map Value.bool).toArray.toList.countP (isBoolOf true):Nat):Int),H,I.tok _,⟨_,rfl⟩,?_⟩
  rw [show (a.map Value.bool).toArray.toList=a.map Value.bool from rfl,List.countP_map]
  exact q
noncomputable def zeJ:V→List V→Hp→VK→Prop:=fun x b H Q=>∃ (l:Addr) (a:List Bool),x=.ref l∧b=[.bl true]∧H l=some (.lst (a.map V.bl))∧true∈a∧Q (.int ((a.idxOf true:Nat):Int)) H
theorem zdP {X:Cx}:MtR X "list.index" zeJ:=by
  intro f s σ H x M v L Q I w k h
  obtain ⟨l,a,rfl,rfl,D,t,q⟩:=h
  cases w
  obtain ⟨u,rfl,F⟩:=k.one
  cases F
  obtain ⟨C,r,o,z⟩:=I.list (SqL.of (K:=X.K) D)
  have e:=VY r
  subst e
  obtain ⟨⟨cls,G,data,E⟩,j,d,n,g⟩:=o.isList
  simp only at d g
  subst d g
  have i:a.idxOf true < a.length:=List.idxOf_lt_length_iff.mpr t
  have c:=Vb
  have J:a.length≤sizeLine:=by simpa using z
  refine call_meets PySem.F.slot_list_index ⟨_,j,rfl⟩ PySem.F.entry_list_index (PySem.F.args_list_index_2 _ _) (list_indexAt l (a.map Value.bool).toArray n G E (.bool true) (isBoolOf true) (a.idxOf true) (by simpa using i) (by omega) ?_ ?_) ⟨j,fun y B=>zcE B,⟨.int ((a.idxOf true:Nat):Int),H,I.tok _,⟨_,rfl⟩,q⟩⟩
  · simp only [List.getElem_toArray,List.getElem_map]
    rw [List.getElem_idxOf i]
    rfl
  · intro m A b
    simp only [List.getElem_toArray,List.getElem_map]
    exact List.not_of_lt_findIdx (p:=(· == true)) (xs:=a) b
end L2
namespace L2
open PySem PySem.Spec PyProof.Rows
noncomputable def clsV:V→Option Value
  | .ref C=>some (.ref C)
  | .ty T=>some (.type T)
  | _=>none
noncomputable def zl4 (K:PySem.W.Frag):List V→Hp→VK→Prop:=fun e H Q=>∃ (a C:Addr) (d:Option Addr) (v:V) (c:Value) (b:Bool),e=[.ref a,v]∧H a=some (zdw a C d)∧xN K C=true∧clsV v=some c∧PySem.W.kitOne K (.ref C) c=some b∧Q (.bl b) H
theorem yt {X:Cx}:vO X (.builtin "isinstance") (zl4 X.K):=by
  intro i s σ H y u Q I m h
  obtain ⟨a,C,x,v,c,b,rfl,t,j,o,k,q⟩:=h
  obtain ⟨g,d,rfl,f,e⟩:∃ g d,u=[g,d]∧yk (.ref a) g∧yk v d:=by
    cases m with
    | cons f r=>cases r with
      | cons e r=>cases r;exact ⟨_,_,rfl,f,e⟩
  cases f
  have l:d=c:=by
    cases v <;> try cases o
    · cases e;rfl
    · cases e;rfl
  subst l
  obtain ⟨⟨w,n,p,_⟩,_⟩:=I.hok a _ t
  exact WH j I.kIn ⟨w,n,p⟩ k fun tk=>⟨.bl b,H,I.tok tk,rfl,q⟩
theorem zci {K:PySem.W.Frag}{σ:St}{H:Hp}{a C:Addr}{d:Option Addr}{v:V}{c:Value}{b:Bool}{Q:VK}(h:σ[0]?=some (some (.ref a)))(i:H a=some (zdw a C d))(e:xN K C=true)(g:clsV v=some c)(f:PySem.W.kitOne K (.ref C) c=some b)(q:Q (.bl b) H) :
    tCB (zl4 K) (Xh (zaD 0) (Xh (tC v) zhd)) σ H Q:=⟨.ref a,h,⟨a,C,d,v,c,b,rfl,i,e,g,f,q⟩⟩
noncomputable def zc3 (n j:Nat):List Bool:=(List.range n).map fun i=>i == j
noncomputable def ZY (K:PySem.W.Frag) (a:List Addr) (CS C:Addr) (j:Nat):Bool:=xN K C&&(PySem.W.kitOne K (.ref C) (.type "ValueError") == some true)&&(PySem.W.exmOne K (.ref C) (.ref CS) == some true)&&(a.map (fun c=>PySem.W.kitOne K (.ref C) (.ref c)) == (zc3 a.length j).map some)
set_option genInjectivity false in
set_option genSizeOf false in
set_option genCtorIdx false in
structure zcm (K:PySem.W.Frag) (cs:List Addr) (CS C:Addr) (j:Nat):Prop where
  look:xN K C=true
  val:PySem.W.kitOne K (.ref C) (.type "ValueError")=some true
  exm:PySem.W.exmOne K (.ref C) (.ref CS)=some true
  hot:cs.map (fun c=>PySem.W.kitOne K (.ref C) (.ref c))=(zc3 cs.length j).map some
theorem zcm.of {K:PySem.W.Frag}{a:List Addr}{CS C:Addr}{j:Nat}(h:ZY K a CS C j=true):zcm K a CS C j:=by
  unfold ZY at h
  simp only [Bool.and_eq_true,beq_iff_eq] at h
  exact ⟨h.1.1.1,h.1.1.2,h.1.2,h.2⟩
section
variable {K:PySem.W.Frag}{σ:St}{H H0:Hp}{a C:Addr}{od:Option Addr}
noncomputable def tIs (K:PySem.W.Frag):List Addr→TA
  | []=>zhd
  | c::r=>Xh (tCB (zl4 K) (Xh (zaD 0) (Xh (tC (.ref c)) zhd))) (tIs K r)
theorem zhz (h:σ[0]?=some (some (.ref a)))(k:H a=some (zdw a C od))(i:xN K C=true):∀ (f:List Addr) (d:List Bool) (Q:List V→Hp→Prop),f.map (fun c=>PySem.W.kitOne K (.ref C) (.ref c))=d.map some→Q (d.map V.bl) H→tIs K f σ H Q:=by
  intro f
  induction f with
  | nil =>
    intro d Q e q
    cases d with
    | nil=>exact q
    | cons b r=>cases e
  | cons c r g =>
    intro d Q e q
    cases d with
    | nil=>cases e
    | cons b d =>
      obtain ⟨l,j⟩:=List.cons.inj e
      exact zci h k i rfl l (g d _ j q)
structure KSt (H0:Hp) (a C:Addr) (od:Option Addr) (bs:List Bool) (σ:St) (H:Hp):Prop where
  same:zX H0 H
  len:σ.length=2
  e0:σ[0]?=some (some (.ref a))
  he:H a=some (zdw a C od)
  lst:∃ p,σ[1]?=some (some (.ref p))∧H p=some (.lst (bs.map V.bl))
theorem zfo {f:List Bool}{p:Addr}(s:zX H0 H)(g:σ.length=2)(h:σ[0]?=some (some (.ref a)))(d:H a=some (zdw a C od))(c:H p=none):KSt H0 a C od f (σ.set 1 (some (.ref p))) (upd H p (.lst (f.map V.bl))):=by
  refine ⟨fun b o e=>?_,by rw [List.length_set];exact g,?_,?_,p,?_,zo⟩
  · have:=s b o e
    rw [zm (zi this c)];exact this
  · rw [List.getElem?_set_ne (by decide)];exact h
  · rw [zm (zi d c)];exact d
  · rw [List.getElem?_set_self (by omega)]
theorem zfB {cs:List Addr}{bs:List Bool}{D:zaB}(h:xN K C=true)(e:cs.map (fun c=>PySem.W.kitOne K (.ref C) (.ref c))=bs.map some)(j:bs.length≤sizeLine)(g:σ.length=2)(b:σ[0]?=some (some (.ref a)))(f:H a=some (zdw a C od))(k:∀ d H',KSt H a C od bs d H'→D.nx d H') :
    zjM (zj8 (tIs K cs)) (Yb 1) D σ H :=
  zhz b f h cs bs _ e ⟨by rw [List.length_map];exact j,fun p i=>k _ _ (zfo (.refl _) g b f i)⟩
theorem Vv {cs:List Addr}{d bs:List Bool}{D:zaB}(h:xN K C=true)(e:cs.map (fun c=>PySem.W.kitOne K (.ref C) (.ref c))=bs.map some)(i:d.length+bs.length≤sizeLine)(S:KSt H0 a C od d σ H)(k:∀ g H',KSt H0 a C od (d++bs) g H'→D.nx g H') :
    zjM (tOp zmF (zaD 1) (zj8 (tIs K cs))) (Yb 1) D σ H:=by
  obtain ⟨p,j,f⟩:=S.lst
  refine ⟨.ref p,j,zhz S.e0 S.he h cs bs _ e ⟨by rw [List.length_map];omega,fun q hq=>?_⟩⟩
  refine ⟨p,q,d.map V.bl,bs.map V.bl,rfl,rfl,by rw [zm (zi f hq)];exact f,zo,by rw [List.length_map,List.length_map];exact i,fun r l=>?_⟩
  rw [←List.map_append]
  refine k _ _ (zfo (fun b o e=>?_) S.len S.e0 ?_ l)
  · have:=S.same b o e
    rw [zm (zi this hq)];exact this
  · rw [zm (zi S.he hq)];exact S.he
theorem zdT:∀ j:Nat,j < 13→(zc3 13 j).countP (· == true)=1∧(zc3 13 j).idxOf true=j∧true∈zc3 13 j:=by decide +kernel
theorem ziy {j:Nat} {D:zaB} {h:TS} (l:PySem.W.kitOne K (.ref C) (.type "ValueError")=some true) (f:xN K C=true) (i:j < 13) (S:KSt H0 a C od (zc3 13 j) σ H) (k:D.rt (.int j) H) :
    zmZ (zmp (tOr (tNot (tB (tCB (zl4 K) (Xh (zaD 0) (Xh (tC (.ty "ValueError")) zhd))))) (zgH (tOp rNe (tBM K "list" zdD (zaD 1) (Xh (tC (.bl true)) zhd)) (tC (.int 1))))) h zi9) (zmd (tBM K "list" zeJ (zaD 1) (Xh (tC (.bl true)) zhd))) D σ H:=by
  obtain ⟨d,e,g⟩:=zdT j i
  obtain ⟨p,c,b⟩:=S.lst
  refine zci S.e0 S.he f rfl l ⟨true,rfl,?_⟩
  show (if (!true)=true then _ else _)
  rw [if_neg (by decide)]
  refine ⟨.ref p,c,.inl ⟨rfl,_,SqL.of b⟩,p,_,rfl,rfl,b,?_⟩
  rw [d]
  refine ⟨rfl,false,by rw [VM];rfl,?_⟩
  show (if false=true then _ else _)
  rw [if_neg (by decide)]
  refine ⟨.ref p,c,.inl ⟨rfl,_,SqL.of b⟩,p,_,rfl,rfl,b,g,?_⟩
  rw [e]
  exact k
end
noncomputable def zet (c:Nat→Addr)(ok:Nat→Prop):Sp:=fun d H Q _=>∃ a j b,d=[.ref a]∧H a=some (zdw a (c j) b)∧ok j∧∀ H',zX H H'→Q (.int (j:Nat)) H'
noncomputable def tXA (K:PySem.W.Frag)(ta:TE)(f:Str):TE:=fun σ H Q=>ta σ H fun x H1=>∃ a C c b v,x=.ref a∧H1 a=some (zdw a C (some c))∧H1 c=some (.xd b)∧vb K C∧WZ K C f∧b.lookup f=some v∧Q v H1
theorem zmQ {X:Cx}{e:Expr}{ta:TE}{f:Str}{d:Pos}(L:PE X e ta)(p:attributeBase e f X.env (eval e X.env)=eval e X.env):PE X (.Attribute e f d) (tXA X.K ta f):=by
  intro b s σ H Q I h
  refine ziZ p (thn (L b s σ H _ I h) fun u j hh9=>?_)
  obtain ⟨x,H1,I1,t,a,C,k,R,v,ex,G,B,g,n,l,q⟩:=hh9
  subst ex
  obtain rfl:u=Value.ref a:=t
  obtain ⟨⟨O,w,y,D,J⟩,_⟩:=I1.hok a _ G
  obtain ⟨P,K,E⟩:=I1.hok k _ B
  obtain ⟨c,m,z⟩:=zaZ K
  obtain ⟨u,N,i⟩:=zc8.some_of (v:=v) (o:=P f) (by rw [←l];exact E f)
  have II:PySem.W.InstAt j.heap a O C (some c):=⟨w,y,J,by rw [D];exact m⟩
  obtain ⟨F,A,_,M⟩:=g.cls
  have r:PySem.W.findObj X.K C (some c) f=some (.value u):=by
    unfold PySem.W.findObj
    rw [A,Option.bind_some,show PySem.W.findIn X.K (.ref C) f=some none from n]
    show ((PySem.W.ownOf F (some c) f).bind _)=_
    unfold PySem.W.ownOf
    rw [M,if_pos rfl]
    dsimp only
    rw [z,N]
    rfl
  exact zju I1.kIn II g r (zd1 i) ⟨v,H1,I1.tok _,i,q⟩
theorem PS.nox {X:Cx}{b:Stmt}{t:TS}(h:PS X.nox b t):PS X b t:=fun a s σ H D I hw =>
  wpAny_mono (h a s σ H D (I.wish _) hw) (fun _ _ q=>q.unwish) fun _ _ z=>False.elim z
end L2
namespace Dl
open PySem L2
variable [KK]
theorem SD.nox {X:Cx}{a:Stmt}{g:SE→Ctl}(h:SD X.nox a g):SD X a g:=let ⟨t,p,r⟩:=h;⟨t,p.nox,r⟩
noncomputable def xEx (a:Ev→Option Nat):SE→Option Nat:=fun ρ=>a (visG ρ)
theorem yW {E:XK}{cl:Nat→Addr}{X:Cx}{a:List Stmt}:XSs E cl X a xNo:=⟨fun _ _ _=>False,fun _ _ _ _ _ _ h=>h.elim,fun _ _ _ _ _ _ _ _ _ h _=>by cases h⟩
theorem Gr.more {F H H':Hp}(s:zX F H)(k:zX H H'):Gr F H F H':=⟨zX.refl _,s.trans k,fun p o b a=>⟨.inl b,k p o a⟩⟩
noncomputable def zmN (a:SE→Option Nat)(g:SE→Ctl)(h:Nat→Option D):SE→Ctl:=fun ρ=>match a ρ with
  | some j=>match h j with
    | some d=>.rt d
    | none=>.no
  | none=>g ρ
noncomputable def zac (H:Hp)(j:Nat)(b:Option Addr):Prop:=match pay j with
  | none=>b=none
  | some c=>∃ a,b=some a∧H a=some (.xd c)
theorem zac.mono {H H':Hp}{j:Nat}{a:Option Addr}(h:zac H j a)(s:zX H H'):zac H' j a:=by
  unfold zac at h ⊢
  cases e:pay j with
  | none=>rw [e] at h;exact h
  | some f=>rw [e] at h;obtain ⟨c,d,b⟩:=h;exact ⟨c,d,s _ _ b⟩
structure Est (cl:Nat→Addr) (i j:Nat) (σ:St) (H:Hp) (a:Addr) (od:Option Addr):Prop where
  sl:σ[i]?=some (some (.ref a))
  he:H a=some (zdw a (cl j) od)
  pa:zac H j od
theorem Est.mono {cl:Nat→Addr}{i j:Nat}{σ:St}{H H':Hp}{a:Addr}{b:Option Addr}(h:Est cl i j σ H a b)(s:zX H H'):Est cl i j σ H' a b:=⟨h.sl,s _ _ h.he,h.pa.mono s⟩
noncomputable def RU (c:Nat→Addr)(i:Nat)(u:TS)(h:Nat→Option D):Prop:=∀ (j:Nat) (d:D) (σ:St) (H:Hp) (a:Addr) (b:Option Addr) (D':zaB),h j=some d→Est c i j σ H a b→(∀ H' v,(∀ F,zX F H→∃ F',Gr F H F' H'∧At F' d v)→D'.rt v H')→u D' σ H
theorem zlN {Y:Cx}{CS:Addr}{x n:Str}{i:Nat}{body c:List Stmt}{V:Stmt}{N w np:Pos}{B:Nat→Addr}{g:SE→Ctl}{G:SE→Option Nat}{u:TS}{h:Nat→Option D}(M:Y.stack=Y.env::Y.outer)(hf:Y.env.frame=some Y.env.locals)(E:Y.ex=[])
    (hN:Y.N.Nodup) (S:Y.N[i]?=some n) (hk:Y.env.scope.names.lookup n=some .local) (hg:Gl Y x) (hm:Y.mg x=some (.ref CS))
    (K:∀ (a:List (Addr × Obj)) (W:Value→Shared→Prop) (E0:XK),Yw (Air Y.prog Y.w) ((Y.pinned a).wish W) E0→XSs E0 B ((Y.pinned a).wish W) body G)
    (hb:∀ (a:List (Addr × Obj)) (W:Value→Shared→Prop),SDs ((Y.pinned a).wish W) body g)
    (A:∀ j d,h j=some d→PySem.W.exmOne Y.K (.ref (B j)) (.ref CS)=some true)
    (l:Y.Ok→∀ z,PSs (Y.held (.ref z)).nox (V::c) u) (hu:RU B i u h) (hd:(x == ("__debug__":Str))=false:=by decide) :
    SD Y.nox (.Try body [.ExceptHandler (some (.Name x np)) (some n) (V::c) w] [] [] N) (zmN G g h):=by
  let L:XK→TS:=fun E0 D σ H=>∀ (a:List (Addr × Obj)) (W:Value→Shared→Prop),Yw (Air Y.prog Y.w) ((Y.pinned a).wish W) E0→∃ t,PSs ((Y.pinned a).wish W) body t∧t D σ H
  refine ⟨fun D σ H=>L (exW Y.K CS i Y.N.length u D) D σ H,fun f s σ H D I hq=>?_,fun Fb Hb F H ρ σ D Z k=>?_⟩
  · refine zlt (tb:=L) M hf E hN S hk hg hm (fun a W E0 J f s σ H D I hq=>?_) (l I.ok.unwish) hd f s σ H D I hq
    obtain ⟨t,p,ht⟩:=hq a W J
    exact p f s σ H D I ht
  · intro a W J
    unfold zmN at k
    cases e:G ρ with
    | none =>
      rw [e] at k
      obtain ⟨t,p,r⟩:=hb a W
      exact ⟨t,p,r Fb Hb F H ρ σ D Z k⟩
    | some j =>
      rw [e] at k
      dsimp only at k
      cases C:h j with
      | none=>rw [C] at k;exact k.elim
      | some d =>
        rw [C] at k
        obtain ⟨t,p,r⟩:=K a W _ J
        refine ⟨t,p,r Fb Hb F H ρ σ D j Z e fun F' H' O=>?_⟩
        have X:∀ (y:Option Addr) (H0:Hp),zX H' H0→zac H0 j y→exW Y.K CS i Y.N.length u D (.ref (B j)) y H0:=fun y H0 T pa=>⟨_,rfl,A j d C,fun z σ' hl hn=>by
          have Q:i < σ'.length:=by
            rw [hl]
            exact (List.getElem?_eq_some_iff.mp S).1
          have m:zX H0 (upd H0 z (zdw z (B j) y)):=fun b o q=>by rw [zm (zi q hn)];exact q
          refine hu j d _ _ z y _ C ⟨by rw [List.getElem?_set_self Q],zo,pa.mono m⟩ fun H'' v av=>?_
          obtain ⟨F2,g2,a2⟩:=av F' (O.fh.trans (T.trans m))
          exact k F2 H'' v ((O.trans (Gr.more O.fh (T.trans m))).trans g2) a2⟩
        unfold EJ
        cases R:pay j with
        | none=>exact X none H' (zX.refl _) (by unfold zac;rw [R])
        | some fs=>exact fun U P=>X (some U) _ (fun b o q=>by rw [zm (zi q P)];exact q) (by unfold zac;rw [R];exact ⟨U,rfl,zo⟩)
noncomputable def SX (c:Nat→Addr)(i:Nat)(t:TE)(f:Nat→Option D):Prop:=∀ (j:Nat) (d:D) (σ:St) (H:Hp) (a:Addr) (b:Option Addr) (Q:VK),f j=some d→Est c i j σ H a b→(∀ H' v,zX H H'→(∀ F,At F d v)→Q v H')→t σ H Q
noncomputable def SXA (e:Nat→Addr)(i:Nat)(t:TA)(f:Nat→Option (List D)):Prop:=∀ (j:Nat) (c:List D) (σ:St) (H:Hp) (a:Addr) (d:Option Addr) (Q:List V→Hp→Prop),f j=some c→Est e i j σ H a d→(∀ H' b,zX H H'→(∀ F,AtL F c b)→Q b H')→t σ H Q
section
variable {cl:Nat→Addr}{i:Nat}
noncomputable def fK (a:List Nat):Nat→Option D:=fun j=>if j % 16∈a then some (.int (j % 16:Nat)) else none
theorem zcA {f:List Nat}{E:XK}{ok:Nat→Prop}(c:∀ j,cl j=cl (j % 16))(b:∀ j,j∈f→ok j):SX cl i (zjo (zet cl ok) [] E (Xh (zaD i) zhd)) (fK f):=by
  intro j d σ H a h Q e g k
  unfold fK at e
  split at e <;> try cases e
  rename_i l
  refine ⟨.ref a,g.sl,a,j % 16,h,rfl,?_,b _ l,fun H' m=>k H' _ m fun F=>.int⟩
  rw [←c j]
  exact g.he
theorem zkv {c:Int}:SX cl i (tC (.int c)) (fun _=>some (.int c)):=fun j d σ H a b Q e f k=>by
  cases e
  exact k H _ (zX.refl _) fun F=>.int
noncomputable def fA (f:Str)(a:List Nat):Nat→Option D:=fun j=>if j % 16∈a then (pay j).bind fun b=>match b.lookup f with
  | some (.int n)=>some (.int n)
  | _=>none
  else none
theorem zir {K:PySem.W.Frag}{f:Str}{m:List Nat}(l:∀ j,j % 16∈m→vb K (cl j)∧WZ K (cl j) f):SX cl i (tXA K (zaD i) f) (fA f m):=by
  intro j d σ H a t Q e c k
  unfold fA at e
  split at e <;> try cases e
  rename_i o
  obtain ⟨q,s,h⟩:=Option.bind_eq_some_iff.mp e
  have b:=c.pa
  unfold zac at b
  rw [s] at b
  obtain ⟨r,rfl,g⟩:=b
  split at h <;> cases h
  rename_i n p
  exact ⟨.ref a,c.sl,a,_,r,q,.int n,rfl,c.he,g,(l j o).1,(l j o).2,p,k H _ (zX.refl _) fun F=>.int⟩
theorem zdE:SXA cl i zhd (fun _=>some []):=fun j d σ H a b Q e c k=>by
  cases e
  exact k H _ (zX.refl _) fun F=>.nil
noncomputable def zgB (f:Nat→Option D)(g:Nat→Option (List D)):Nat→Option (List D):=fun j=>(f j).bind fun d=>(g j).bind fun a=>some (d::a)
theorem VZ {t:TE}{u:TA}{f:Nat→Option D}{g:Nat→Option (List D)}(h:SX cl i t f)(s:SXA cl i u g):SXA cl i (Xh t u) (zgB f g):=fun j d σ H a c Q e l k=>by
  obtain ⟨x,r,n⟩:=Option.bind_eq_some_iff.mp e
  obtain ⟨y,m,w⟩:=Option.bind_eq_some_iff.mp n
  cases w
  exact h j x σ H a c _ r l fun H1 v b q=>s j y σ H1 a c _ m (l.mono b) fun H2 z p o=>k H2 _ (b.trans p) fun F=>.cons (q F) (o F)
noncomputable def zmm (f:Nat→Option (List D)):Nat→Option D:=fun j=>(f j).bind fun a=>if a.length≤1000 then some (.lst a) else none
theorem zhV {t:TA}{f:Nat→Option (List D)}(h:SXA cl i t f):RU cl i (zmd (zj8 t)) (zmm f):=fun j d σ H a l D' e o k=>by
  obtain ⟨u,n,c⟩:=Option.bind_eq_some_iff.mp e
  split at c <;> cases c
  rename_i q
  refine h j u σ H a l _ n o fun H' v g b=>⟨?_,fun p r=>k _ _ fun F s=>?_⟩
  · rw [(b H).length]
    exact Nat.le_of_lt (XT q)
  · have m:=s.trans g
    exact ⟨_,(Gr.more s g).trans (Gr.alloc m r _),At.lst zo (b _)⟩
noncomputable def zjz (f:Nat→Option D)(c:Int)(a b:Nat→Option D):Nat→Option D:=fun j=>match f j with
  | some (.int n)=>if n=c then a j else b j
  | _=>none
theorem zmw {t:TE}{f:Nat→Option D}{c:Int}{r y:TS}{u x:Nat→Option D}(h:SX cl i t f)(z:RU cl i r u)(A:RU cl i y x):RU cl i (zmZ (zmp (zgH (tOp rEq t (tC (.int c)))) r zi9) y) (zjz f c u x):=fun j d σ H a o D' e p k=>by
  unfold zjz at e
  split at e <;> try cases e
  rename_i n E
  refine h j _ σ H a o _ E p fun H' v l B=>?_
  cases (B H).int_inv
  have b:∀ H2 w,(∀ F,zX F H'→∃ F',Gr F H' F' H2∧At F' d w)→D'.rt w H2:=fun H2 w q=>k H2 w fun F s=>by
    obtain ⟨F',g,C⟩:=q F (s.trans l)
    exact ⟨F',(Gr.more s l).trans g,C⟩
  refine ⟨rfl,decide (n=c),by rw [VM];rfl,?_⟩
  by_cases m:n=c
  · rw [if_pos m] at e
    rw [if_pos (by rw [decide_eq_true m])]
    exact z j d σ H' a o _ e (p.mono l) b
  · rw [if_neg m] at e
    rw [if_neg (by rw [decide_eq_false m];decide)]
    exact A j d σ H' a o _ e (p.mono l) b
end
end Dl
namespace L2
open PySem PySem.Spec PyProof.Rows
noncomputable def zdt (a C t:Addr)(c:Option Addr):HO:=.ext fun h=>∃ b,h.get? a=some { cls:=.ref C,dict:=c,data:=.fields #[.ref t,.none,.none,.none,.bool false,.none],slots:=b }
section
variable {X:Cx}{pins:List (Addr × Obj)}{σ:St}{H:Hp}{s:Shared}{h':Heap}{a C t dx:Addr}{f:Str}
theorem zej {P:Program}{w:World}{H:Hp}{h:Heap}{b:Option Addr}{sl:Array (Option Value)}(e:h.get? a=some { cls:=.ref C,dict:=b,data:=.fields #[.ref t,.none,.none,.none,.bool false,.none],slots:=sl }):yb P w H h a (zdt a C t b) :=
  ⟨⟨sl,e⟩,⟨_,e⟩,fun c d ⟨sl,z⟩ k=>⟨sl,k _ z⟩⟩
theorem Inv.two {φ:Heap→Prop}{m p:HO}{A:Nat}(I:Inv X pins σ H s)(x:H a=some (.ext φ))(h:∀ o,H dx=some o→∃ l,o=.xd l)(w:∀ o,s.heap.get? dx=some o→H dx≠none)(C:a≠dx)(k:∀ b o,b≠a→b≠dx→s.heap.get? b=some o→h'.get? b=some o)
    (t:yb X.prog X.w (upd (upd H dx p) a m) h' a m) (r:yb X.prog X.w (upd (upd H dx p) a m) h' dx p):Inv X pins σ (upd (upd H dx p) a m) { s with heap:=h',toks:=A }:=by
  have d:∀ b u,H b=some u→(∀ ψ,u≠.ext ψ)→(∀ l,u≠.xd l)→upd (upd H dx p) a m b=some u:=fun b u e t r=>by
    have j:b≠a:=fun z=>by subst z;rw [x] at e;cases e;exact t _ rfl
    have i:b≠dx:=fun z=>by subst z;obtain ⟨l,rfl⟩:=h u e;exact r _ rfl
    rw [zm j,zm i];exact e
  have f:∀ b o,s.heap.get? b=some o→H b=none→b≠a∧b≠dx:=fun b o e n=>⟨fun z=>by (subst z;rw [x] at n;cases n),fun z=>by (subst z;exact w o e n)⟩
  refine I.un ⟨fun b o e n _ _=>k b o (f b o e n).1 (f b o e n).2 e,fun b o e n _ _=>⟨o.slots,k b o (f b o e n).1 (f b o e n).2 e⟩,fun b o e n _=>by rw [zm (f b o e n).1,zm (f b o e n).2];exact n,fun b o e _=>?_,
    fun b y e=>d b _ e (fun _ z=>by cases z) (fun _ z=>by cases z),fun b o u e=>d b _ e (fun _ z=>by cases z) (fun _ z=>by cases z),fun b D e=>d b _ e (fun _ z=>by cases z) (fun _ z=>by cases z)⟩ fun b u e=>?_
  · by_cases j:b=a
    · subst j;exact t.ex
    · by_cases i:b=dx
      · subst i;exact r.ex
      · exact ⟨o,k b o j i e⟩
  · by_cases j:b=a
    · subst j;rw [zo] at e;cases e;exact t
    · rw [zm j] at e
      by_cases i:b=dx
      · subst i;rw [zo] at e;cases e;exact r
      · rw [zm i] at e
        refine (I.hok b u e).stay (fun c v g q=>?_) (fun c g=>d c _ g (fun _ z=>by cases z) fun _ z=>by cases z) (fun c y g=>d c _ g (fun _ z=>by cases z) fun _ z=>by cases z) fun c B v g=>d c _ g (fun _ z=>by cases z) fun _ z=>by cases z
        rcases g with rfl | g
        · exact k _ v j i q
        · refine k c v (fun z=>?_) (fun z=>?_) q
          · subst z;rw [x] at g;cases g
          · subst z;obtain ⟨l,z⟩:=h _ g;cases z
theorem zmi {A:Around}{E:Value→Shared→Prop}{y:V}{u:Value}{Q:Unit→Shared→Prop}(I:Inv X pins σ H s)(e:H a=some (zdt a C t none))(m:vb X.K C)(n:WZ X.K C f)(l:yk y u)
    (h:∀ dx d,H dx=none→Inv X pins σ (upd (upd H dx (.xd [(f,y)])) a (zdt a C t (some dx))) d→Q () d):wpAny (model X.prog X.w) A (setAttr (.ref a) f u) Q E s:=by
  obtain ⟨⟨i,c⟩,_⟩:=I.hok a _ e
  refine zgD I.kIn c rfl rfl rfl m n fun h' r k j=>h s.heap.objs.size _ (I.hok.fresh (Nat.le_refl _)) ?_
  have v:a≠s.heap.objs.size:=Nat.ne_of_lt (Heap.lt_size c)
  refine I.two e (fun o z=>by rw [I.hok.fresh (Nat.le_refl _)] at z;cases z) (fun o z=>absurd (Heap.lt_size z) (Nat.lt_irrefl _)) v (fun b o p _ z=>j b o p z) (zej (sl:=i) r) ⟨_,k,fun g=>?_⟩
  show zc8 (List.lookup g [(f,y)]) _
  by_cases q:g=f
  · subst q
    rw [if_pos rfl]
    simp only [List.lookup,beq_self_eq_true]
    exact l
  · rw [if_neg q]
    simp only [List.lookup,beq_eq_false_iff_ne.mpr q]
    trivial
end
noncomputable def sX1 (K:PySem.W.Frag)(ta tv:TE)(f:Str):TS:=fun D σ H=>tv σ H fun y H1=>ta σ H1 fun x H2=>∃ a C t,x=.ref a∧H2 a=some (zdt a C t none)∧vb K C∧WZ K C f∧∀ b,H2 b=none→D.nx σ (upd (upd H2 b (.xd [(f,y)])) a (zdt a C t (some b)))
section
variable {X:Cx}{o e value:Expr}{f:Str}{pos pos':Pos}{ta tv:TE}
theorem zmq (l:PE X o ta)(g:PE X value tv)(j:swapsWith value (some (.Attribute o f pos')) pos.line X.env=pure false):PS X (.Assign [.Attribute o f pos'] value pos) (sX1 X.K ta tv f):=by
  intro b s σ H D I h
  refine plainObj_wpAny_Assign_Attribute (thn (g b s σ H _ I h) fun u c ⟨y,H1,I1,e,q⟩=>thn (l b c σ H1 _ I1 q) fun p w hh9=>?_) j
  obtain ⟨x,H2,I2,k,a,C,t,ex,v,i,n,m⟩:=hh9
  subst ex
  obtain rfl:p=Value.ref a:=k
  exact zmi I2 v i n e fun d z r I3=>⟨σ,_,I3,m d r⟩
end
noncomputable def spI (K:PySem.W.Frag)(m:Nat)(d:List Str)(g:List V→List (Str × V)):Sp:=fun e H Q _=>∃ a C t c,e=.ref a::c∧c.length=m∧H a=some (zdt a C t none)∧vb K C∧(∀ f,f∈d→WZ K C f)∧∀ b,H b=none→Q .non (upd (upd H b (.xd (g c))) a (zdt a C t (some b)))
noncomputable def gI1 (f:Str):List V→List (Str × V):=fun a=>[(f,a.getD 0 .non)]
theorem ziQ {K:PySem.W.Frag}{m:Nat}{d:List Str}{g:List V→List (Str × V)}(b:List V)(H:Hp)(Q:VK)(E:XK)(h:spI K m d g b H Q E):b.length=m+1:=by
  obtain ⟨a,C,t,e,rfl,c,_⟩:=h
  rw [List.length_cons,c]
theorem zix {K:PySem.W.Frag} {f:Str} {c:List V} {H:Hp} {Q:VK} {E:XK} {rt:VK} (h:spI K 1 [f] (gI1 f) c H Q E):sX1 K (zaD 0) (zaD 1) f { nx:=fun _ H'=>Q .non H',rt:=rt } (start ["self",f] c) H:=by
  obtain ⟨a,C,t,d,rfl,b,i,g,k,q⟩:=h
  obtain ⟨y,rfl⟩:∃ y,d=[y]:=by
    cases d with
    | nil=>cases b
    | cons y r=>cases r with
      | nil=>exact ⟨y,rfl⟩
      | cons _ _=>cases b
  exact ⟨y,rfl,.ref a,rfl,a,C,t,rfl,i,g,k f (List.mem_singleton.mpr rfl),fun e j=>q e j⟩
section
variable {X:Cx}{pins:List (Addr × Obj)}{σ:St}{H:Hp}{s:Shared}{ea dx:Addr}{φ:Heap→Prop}
theorem Inv.untrack {H':Hp}(I:Inv X pins σ H s)(g:H ea=some (.ext φ))(l:H' ea=none)(f:∀ b,b≠ea→H' b=H b):Inv X pins σ H' s:=by
  have no:∀ b,H b=none→H' b=none:=fun b e=>by
    have:b≠ea:=fun z=>by (subst z;rw [g] at e;cases e)
    rw [f b this];exact e
  have a:∀ b u,H b=some u→(∀ ψ,u≠.ext ψ)→H' b=some u:=fun b u e n=>by
    have:b≠ea:=fun z=>by (subst z;rw [g] at e;cases e;exact n _ rfl)
    rw [f b this];exact e
  refine ⟨I.ok,I.os,I.bare,⟨I.base.keep,I.base.slot,fun b o e n j=>no b (I.base.free b o e n j),I.base.there,fun b h e=>a b _ (I.base.tups b h e) (fun _ z=>by cases z),fun b o u e=>a b _ (I.base.frzs b o u e) (fun _ z=>by cases z),fun b k e=>?_⟩,I.loc,I.cell,no _ I.free,fun x c e=>no _ (I.freeC x c e),fun p i=>?_,fun b u e=>?_,I.len⟩
  · exact a b _ (I.base.tbls b k e) fun _ y=>by cases y
  · obtain ⟨e,n,r⟩:=I.pin p i
    exact ⟨e,no _ n,r⟩
  · have m:b≠ea:=fun z=>by (subst z;rw [l] at e;cases e)
    rw [f b m] at e
    exact (I.hok b u e).stay (fun _ _ _ q=>q) (fun c d=>a c _ d fun _ z=>by cases z) (fun c h d=>a c _ d fun _ z=>by cases z) fun c t v d=>a c _ d fun _ z=>by cases z
end
structure zkH (K:PySem.W.Frag) (mg:Str→Option Value) (C:Addr) (x:Str) (f:Addr) (ns:List Str):Prop where
  bound:mg x=some (.ref C)
  exc:zj4 K C f=true
  attr:zaz K C=true
  no:∀ n,n∈ns→PySem.W.findIn K (.ref C) n=some none
theorem zfD {P:Program}{w:World}{K:PySem.W.Frag}{S:Str→Option Value}{i:Heap}{N:List Str}{j:Str}{d:Scope}{f:Addr}{Y:Value}{A:Around}{outer:List Env}{s:Shared}{H:Hp}{E:XK}{C fI:Addr}{fd:FuncData}{x:Str}{np G c4:Pos}{ns ps:List Str}{m k:Nat}{g:List V→List (Str × V)}{e:Expr}{es:List Expr}{t:TA}
    (hc:zkH K S C x fI ns) (F:zJ P w K S i CX0 k fI fd ps (spI K m ns g)) (O:vH K fd ps []) (hr:yL (k+1) (wS (Air P w) P w K S i N j d f Y A outer s H E).A) (hg:Gl (wS (Air P w) P w K S i N j d f Y A outer s H E) x) (ha:PA (wS (Air P w) P w K S i N j d f Y A outer s H E) (e::es) t) (hd:(x == ("__debug__":Str))=false:=by decide)
    (a9:starEach (e::es) (wS (Air P w) P w K S i N j d f Y A outer s H E).env=(false,eval e (wS (Air P w) P w K S i N j d f Y A outer s H E).env)::starEach es (wS (Air P w) P w K S i N j d f Y A outer s H E).env:=by rfl) (b8:(backTo G (starEach es (wS (Air P w) P w K S i N j d f Y A outer s H E).env)).any (·.1)=false:=by rfl) :
    PS (wS (Air P w) P w K S i N j d f Y A outer s H E) (.Raise (some (.Call (.Name x np) (e::es) [] G)) none c4) (fun _ σ H0=>t σ H0 fun W H1=>W.length=m∧m≤1000∧∀ p,H1 p=none→E (.ref C) (some p) (upd H1 p (.xd (g W)))):=by
  let X:=wS (Air P w) P w K S i N j d f Y A outer s H E
  intro l s1 σ H0 D I h
  have I:Inv X l σ H0 s1:=I
  obtain ⟨bm,NN,nm,q,bs,sn,b0,ab,a6,dd,k0,k1,k2,k3,k5,mN,oI,hC,hN,hi,T,hf,b6⟩:=zgZ I.ok.mod.kin hc.exc
  refine zdc (C:=C) (nm:=nm) (q:=q) (N:=NN) (bs:=bs) (bm:=bm) (hdct:=true) (sn:=sn) (sub:=b0) (ab:=ab) (col:=a6) (dd:=dd) (k0:=k0) (k1:=k1) (k2:=k2) (k3:=k3) (k5:=k5) (mN:=mN) (fI:=fI) (oI:=oI) (T.hasType PySem.F.excBase_ValueError.hasBase) (I.ok.hd rfl) (by rw [a9];show ((false||(backTo G (starEach es _)).any (·.1)))=false;rw [b8];rfl) hi b6 (ZI I hg hc.bound ⟨rfl,?_⟩ hd)
  have hs:=ha G l s1 σ H0 _ I h
  rw [a9] at hs ⊢
  refine PySem.Calls.evalArgs_plain (wpAny_mono hs (fun U c z=>?_) fun _ _ z=>z)
  obtain ⟨W,H1,I2,r,hl,hm,hE⟩:=z
  have I2:Inv X l σ H1 c:=I2
  have c1:U.length≤sizeLine:=by rw [←r.length,hl];exact Nat.le_of_lt (XT hm)
  refine ⟨rfl,c1,I2.bk _ _ hC,hN.keeps I2.bk,T.keeps I2.bk,I2.bk _ _ hf,?_⟩
  have I3:Inv X l σ (upd H1 (c.heap.objs.size+1) (zdt (c.heap.objs.size+1) C c.heap.objs.size none)) { c with heap:=exH c.heap C U }:=I2.laid (t':=c.toks) (fun b o z=>xS z) (Nat.le_succ _) (zej (zhu _ _ _))
  have b4:H1 (c.heap.objs.size+1)=none:=I2.hok.fresh (Nat.le_succ _)
  let R:VK:=fun v H'=>v=.non∧∃ p,upd H1 (c.heap.objs.size+1) (zdt (c.heap.objs.size+1) C c.heap.objs.size none) p=none∧H'=upd (upd (upd H1 (c.heap.objs.size+1) (zdt (c.heap.objs.size+1) C c.heap.objs.size none)) p (.xd (g W))) (c.heap.objs.size+1) (zdt (c.heap.objs.size+1) C c.heap.objs.size (some p))
  have a8:spI K m ns g (.ref (c.heap.objs.size+1)::W) (upd H1 (c.heap.objs.size+1) (zdt (c.heap.objs.size+1) C c.heap.objs.size none)) R E0:=⟨_,C,_,W,rfl,hl,zo,.of hc.attr,hc.no,fun p M=>⟨rfl,p,M,rfl⟩⟩
  have r3:ye (V.ref (c.heap.objs.size+1)::W) (Value.ref (c.heap.objs.size+1)::U):=.cons rfl r
  have b5:(Value.ref (c.heap.objs.size+1)::U++[]).length=ps.length:=by rw [List.append_nil,← r3.length];exact F.len _ _ _ _ a8
  have bd:=O { c with heap:=exH c.heap C U } (Value.ref (c.heap.objs.size+1)::U) I3.kIn b5
  rw [List.append_nil] at bd
  refine wpAny_call (codeAny_mono (F.run _ X.stack _ _ ⟨Value.ref (c.heap.objs.size+1)::U,[]⟩ _ _ R E0 (hr.make C U []) (I3.env0.make C U []) bd r3 a8) fun res Z z=>?_)
  cases res with
  | error e=>exact z.elim
  | ok fl =>
    cases fl with
    | next=>exact False.elim z
    | brk=>exact False.elim z
    | cont=>exact False.elim z
    | ret u =>
      obtain ⟨v,H4,b9,a1,a0,a7,rv,rfl,p,M,rfl⟩:=id z
      have J4:Inv X l σ _ Z:=I3.call' (ch:=[]) b9 a0 a7 a1 (fun b z=>nomatch z)
      obtain rfl:u=Value.none:=rv
      have a3:c.heap.objs.size+1≠p:=fun z=>by (subst z;rw [zo] at M;cases M)
      have c3:H1 p=none:=by rw [zm a3.symm] at M;exact M
      have J5:Inv X l σ (upd H1 p (.xd (g W))) Z:=J4.untrack (ea:=c.heap.objs.size+1) zo (by rw [zm a3];exact b4) fun b O=>by
        rw [zm O]
        unfold upd
        by_cases J:b=p
        · rw [if_pos J,if_pos J]
        · rw [if_neg J,if_neg J,if_neg O]
      obtain ⟨⟨sl,a4⟩,_⟩:=J4.hok _ _ zo
      refine ⟨rfl,_,some p,sl,J4.bk _ _ hC,a4,?_⟩
      show wpAny (model P w) X.A (leaving X.env (.ref (c.heap.objs.size+1))) (fun _ a2=>Air P w outer H s E (.ref (c.heap.objs.size+1)) a2) _ Z
      let B:=PySem.W.hideAll Z.heap ((c.heap.objs.size+1)::frs X.stack)
      have c0:∀ env∈X.stack,∀ a,env.frame=some a→a∈(c.heap.objs.size+1)::frs X.stack:=fun env he a ha=>.tail _ (List.mem_filterMap.mpr ⟨env,he,ha⟩)
      refine ZK (ZH _ _) (wpAny_leaving_firstW (Q:=fun _ a2=>∃ J,a2={ Z with heap:=J }∧Heap.LeftW B (X.env::outer) (c.heap.objs.size+1) (.ref C) (.ref c.heap.objs.size) Z.heap J) (base:=B) (L:=X.env.locals) (outer:=outer) (J4.ok.frames) (PySem.W.funFrames_hide J4.stack c0) rfl a4 (fun b o q=>PySem.W.of_hideAll _ q) (PySem.W.hideAll_none _ (.head _)) rfl rfl rfl fun J y=>⟨J,rfl,y⟩) ?_
      rintro _ _ ⟨J,rfl,y1,⟨_,_,y2⟩,y3,y4⟩ dk
      have x1:Heap.FlyingW B outer (c.heap.objs.size+1) (.ref C) (.ref c.heap.objs.size) J:=⟨y1,PySem.W.hideAll_none _ (.head _),y2,y3⟩
      have a5:∀ b,b∉frs X.stack→b≠c.heap.objs.size+1→b∉(c.heap.objs.size+1)::frs X.stack:=fun b h1 J z=>(List.mem_cons.mp z).elim J h1
      have c2:Cov X.stack H1 c.heap (upd H1 p (.xd (g W))) Z.heap B:=by
        refine ⟨fun b o e n O=>?_,fun b o e O=>?_,fun b o O e=>?_⟩
        · have ne:b≠c.heap.objs.size+1:=Nat.ne_of_lt (Nat.lt_succ_of_lt (Heap.lt_size e))
          exact PySem.W.hideAll_get _ (a0.keep b o (xS e) (by rw [zm ne];exact n) O (by simp)) (a5 b O ne)
        · have ne:b≠c.heap.objs.size+1:=Nat.ne_of_lt (Nat.lt_succ_of_lt (Heap.lt_size e))
          obtain ⟨o',e'⟩:=a0.there b o (xS e) (by simp)
          exact ⟨o',PySem.W.hideAll_get _ e' (a5 b O ne)⟩
        · refine PySem.W.hideAll_get _ e (a5 b (fun z=>O (J5.stkFree b z)) fun z=>?_)
          subst z
          exact O (by rw [zm a3];exact b4)
      obtain ⟨u1,u2,u3⟩:=I2.airUn (X:=X) rfl J5 c2 x1.1 x1.2.2.1 y4
      obtain ⟨ob,b7,_⟩:=x1.there
      exact ⟨_,C,_,some p,_,B,rfl,J5.os,J5.bare,u1,u2,x1,u3,Zf.stay (h:=Z.heap) ⟨_,a4,rfl⟩ dk ⟨ob,b7⟩,hE p c3⟩
end L2
namespace Dl
open PySem L2
variable [KK]
noncomputable def xRI (a:List D→Option Nat)(b:Ev→Option (List D)):SE→Option Nat:=fun ρ=>(b (visG ρ)).bind a
noncomputable def zmH (c a:Nat):List D→Option Nat
  | [.int i]=>if -1≤i then some (c+16*a+64*(i+1).toNat) else none
  | _=>none
noncomputable def zk8 (d:Nat→Addr)(C:Addr)(m:Nat)(g:List V→List (Str × V))(b:List D→Option Nat):Prop:=∀ a j,b a=some j→d j=C∧a.length=m∧∀ F c,AtL F a c→pay j=some (g c)
theorem zih {cl:Nat→Addr} {c:Nat} (b:∀ j,cl j=cl (j % 16)) (m:c < 16):zk8 cl (cl c) 1 (gI1 "at") (zmH c 1):=by
  intro k j e
  unfold zmH at e
  split at e <;> try cases e
  rename_i i
  split at e <;> cases e
  rename_i l
  refine ⟨by rw [b (c+16*1+64*(i+1).toNat)];congr 1;omega,rfl,fun F n a=>?_⟩
  obtain ⟨v,r,rfl,g,f⟩:=a.cons_inv
  cases g.int_inv
  cases f.nil_inv
  have h:(c+16*1+64*(i+1).toNat) / 16 % 4=1:=by omega
  have d:(((c+16*1+64*(i+1).toNat) / 64:Nat):Int) - 1=i:=by omega
  unfold pay
  rw [h]
  show some [(_,V.int _)]=_
  rw [d]
  rfl
theorem zeg {P:Program}{w:World}{K:PySem.W.Frag}{h:Str→Option Value}{c:Heap}{N:List Str}{d:Str}{b:Scope}{f:Addr}{l:Value}{A:Around}{outer:List Env}{s:Shared}{H:Hp}{E:XK}{cl:Nat→Addr}{C M:Addr}{G:FuncData}{x:Str}{T i v:Pos}{I L:List Str}{m k:Nat}{g:List V→List (Str × V)}{e:Expr}{n:List Expr}{o:List D→Option Nat}{B:Ev→Option (List D)}
    (hc:zkH K h C x M I) (F:zJ P w K h c CX0 k M G L (spI K m I g)) (W:vH K G L []) (p:zk8 cl C m g o) (hr:yL (k+1) (wS (Air P w) P w K h c N d b f l A outer s H E).A) (hg:Gl (wS (Air P w) P w K h c N d b f l A outer s H E) x) (ha:AD (wS (Air P w) P w K h c N d b f l A outer s H E) (e::n) B) (U:m≤1000:=by decide) (hd:(x == ("__debug__":Str))=false:=by decide)
    (q:starEach (e::n) (wS (Air P w) P w K h c N d b f l A outer s H E).env=(false,eval e (wS (Air P w) P w K h c N d b f l A outer s H E).env)::starEach n (wS (Air P w) P w K h c N d b f l A outer s H E).env:=by rfl) (r:(backTo i (starEach n (wS (Air P w) P w K h c N d b f l A outer s H E).env)).any (·.1)=false:=by rfl) :
    XS E cl (wS (Air P w) P w K h c N d b f l A outer s H E) (.Raise (some (.Call (.Name x T) (e::n) [] i)) none v) (xRI o B):=by
  obtain ⟨t,X,Q⟩:=ha
  refine ⟨_,zfD hc F W hr hg X hd q r,fun Fb Hb F H ρ σ D' j u e w=>?_⟩
  obtain ⟨J,Y,O⟩:=Option.bind_eq_some_iff.mp e
  obtain ⟨ec,Z,S⟩:=p J j O
  refine Q σ _ _ H J _ u.gh u.visG Y fun F' H' vs gr a=>⟨by rw [a.length];exact Z,U,fun R y=>?_⟩
  have z:=w F' H' (u.out gr)
  unfold EJ at z
  rw [S F' vs a,ec] at z
  exact z R y
end Dl
namespace L2
open PySem PySem.Spec PyProof.Rows
noncomputable def zj2 (s:Stmt)(k:Nat):Stmt:=match s with
  | .ClassDef _ _ _ body _ _ _ _ _ _ _=>body.getD k s
  | _=>s
noncomputable def zmb (K:PySem.W.Frag)(C:Addr)(a:List Str):Bool:=a.all fun n=>PySem.W.findIn K (.ref C) n == some none
theorem zeP {K:PySem.W.Frag}{C:Addr}{a:List Str}(h:zmb K C a=true):∀ n,n∈a→PySem.W.findIn K (.ref C) n=some none:=fun n b=>beq_iff_eq.mp (List.all_eq_true.mp h n b)
end L2
namespace Dl
open PySem L2
noncomputable def zjJ (a:List Nat)(h:Nat→Option D):Nat→Option D:=fun j=>if j % 16∈a then h j else none
theorem zjy {a:List Nat}{h:Nat→Option D}{j:Nat}{d:D}(e:zjJ a h j=some d):j % 16∈a:=by
  unfold zjJ at e
  split at e
  · assumption
  · cases e
theorem zlv {b:Nat→Addr}{i:Nat}{f:List Nat}{u:TS}{h:Nat→Option D}[KK](r:RU b i u h):RU b i u (zjJ f h):=fun j d σ H a c D' e g k=>by
  unfold zjJ at e
  split at e
  · exact r j d σ H a c D' e g k
  · cases e
end Dl
namespace PySem
section
variable {prog:Program}{w:World}{A:Around}{R:Result→Shared→Prop}{it S:Addr}{fp wr:List Addr}{n:Nat}{P:Nat→Value→Prop}{St:Nat→Heap→Prop}{kw:List (Str × Value)}
theorem ww:(toString "max"++toString ".loop":String)="max.loop":=by decide
theorem XU {s:Shared}(k:wpAny (model prog w) A.in1 (Builtin.«max.loop» ⟨[.ref it,.none,.ref S],kw⟩) (fun fin a=>match fin with | .done f=>R (.ok f) a | .again b=>b.quiet=true∧codeAny (model prog w) A b R a) (fun e a=>R (.error e) a) s) :
    codeAny (model prog w) A (.builtin "max.loop" ⟨[.ref it,.none,.ref S],kw⟩) R s:=codeAny_builtin F.entry_max_loop (by rw [Around.under_plainId F.plain_max_loop _];exact k)
theorem zeT (W:Walks prog w A.in1 it fp wr n P St)(i:Nat→Nat→Bool)(H:CmpOf prog w A.in1 .Gt P i)(E:S∉fp):∀ (left j:Nat) (s:Shared) (a:Value) (c:Nat),j+1+left=n→St (j+1) s.heap→P (argBest i j) a →
      s.heap.get? S=some { cls:=.type "list",dict:=none,data:=.seq #[a,a] c,slots:=#[] } →
      (∀ v g tk,P (argBest i (n - 1)) v→(∀ b o,b∉wr→b≠S→s.heap.get? b=some o→g.get? b=some o)→R (.ok (.ret v)) { s with heap:=g,toks:=tk }) →
    codeAny (model prog w) A (.builtin "max.loop" ⟨[.ref it,.none,.ref S],kw⟩) R s:=by
  have C:S∉wr:=fun z=>E (W.sub _ z)
  intro left
  induction left with
  | zero =>
    intro j s a c e x r m k
    have G:j+1=n:=e
    refine XU ?_
    show wpAny _ A.in1 (seqItems? (.ref S)>>=_) _ _ s;refine wpAny_bind (wpAny_seqItems m rfl ?_)
    show wpAny _ A.in1 (tryCatch (pyNext (.ref it)) _>>=_) _ _ s;refine wpAny_bind (wpAny_tryCatch (W.done s _ _ (G ▸ x) fun g tk l=>?_))
    show wpAny _ A.in1 (updateSeq S (fun _=>#[])>>=_) _ _ _;refine wpAny_bind (wpAny_updateSeq (l S _ C m) rfl (wpAny_bind (wpAny_letGo (wpAny_pure (k a _ tk (G ▸ r) fun b o b1 b2 q=>?_)))))
    exact (Heap.get?_update_other _ _ (Ne.symm b2)).trans (l b o b1 q)
  | succ left B =>
    intro j s a c e x r m k
    refine XU ?_
    show wpAny _ A.in1 (seqItems? (.ref S)>>=_) _ _ s;refine wpAny_bind (wpAny_seqItems m rfl ?_)
    show wpAny _ A.in1 (tryCatch (pyNext (.ref it)) _>>=_) _ _ s;refine wpAny_bind (wpAny_tryCatch (W.item (j+1) s _ _ (by omega) x fun v g tk pv p l=>?_))
    have d:=l S _ C m
    show wpAny _ A.in1 (tryCatch (holding [v,v] (richCompare .Gt v a>>=_)) _>>=_) _ _ _;refine wpAny_bind (wpAny_tryCatch (wpAny_holding (wpAny_bind (H (j+1) (argBest i j) v a _ _ _ pv r (wpAny_bind (wpAny_holding (wpAny_truthy_bool (wpAny_bind (wpAny_letGo (wpAny_pure ?_))))))))))
    cases D:i (j+1) (argBest i j) with
    | true =>
      simp only [if_true];refine wpAny_bind (wpAny_updateSeq d rfl (wpAny_bind (wpAny_letGo ?_)))
      rw [ww];refine wpAny_pure ⟨plainId_quiet F.plain_max_loop _,B (j+1) _ v _ (by omega) (W.frame _ _ _ p fun b I o q=>?_) (by rw [argBest,if_pos D];exact pv) (Heap.get?_update_self _ d rfl) fun t u f y h=>?_⟩
      · exact (Heap.get?_update_other _ _ (fun z:S=b=>E (z ▸ I))).trans q
      · exact k t u f y fun b o b1 b2 q=>h b o b1 b2 ((Heap.get?_update_other _ _ (Ne.symm b2)).trans (l b o b1 q))
    | false =>
      simp only [Bool.false_eq_true,if_false];refine wpAny_bind (wpAny_letGo ?_)
      rw [ww];exact wpAny_pure ⟨plainId_quiet F.plain_max_loop _,B (j+1) _ a c (by omega) p (by rw [argBest,if_neg (by rw [D];exact Bool.false_ne_true)];exact r) d fun t u f y h=>k t u f y fun b o b1 b2 q=>h b o b1 b2 (l b o b1 q)⟩
theorem zgT {s:Shared}{c:Nat}{d:Value}(W:Walks prog w A.in1 it fp wr n P St)(h:Nat→Nat→Bool)(y:CmpOf prog w A.in1 .Gt P h)(i:S∉fp)(r:St 0 s.heap)
    (p:s.heap.get? S=some { cls:=.type "list",dict:=none,data:=.seq #[] c,slots:=#[] })
    (k:∀ v g tk,(if n=0 then v=d else P (argBest h (n - 1)) v)→(∀ b o,b∉wr→b≠S→s.heap.get? b=some o→g.get? b=some o)→R (.ok (.ret v)) { s with heap:=g,toks:=tk }) :
    codeAny (model prog w) A (.builtin "max.loop" ⟨[.ref it,.none,.ref S],[("default",d)]⟩) R s:=by
  have t:S∉wr:=fun z=>i (W.sub _ z)
  refine XU ?_
  show wpAny _ A.in1 (seqItems? (.ref S)>>=_) _ _ s;refine wpAny_bind (wpAny_seqItems p rfl ?_)
  show wpAny _ A.in1 (tryCatch (pyNext (.ref it)) _>>=_) _ _ s
  by_cases e:n=0
  · refine wpAny_bind (wpAny_tryCatch (W.done s _ _ (e ▸ r) fun g tk f=>?_))
    show wpAny _ A.in1 (rule _>>=_) _ _ _;exact wpAny_bind (wpAny_rule (wpAny_pure (k d g tk (by rw [if_pos e]) fun b o b1 _ q=>f b o b1 q)))
  · refine wpAny_bind (wpAny_tryCatch (W.item 0 s _ _ (Nat.pos_of_ne_zero e) r fun v g tk pv l f=>?_))
    have a:=f S _ t p
    show wpAny _ A.in1 (updateSeq S (fun _=>#[v,v])>>=_) _ _ _;refine wpAny_bind (wpAny_updateSeq a rfl ?_)
    rw [ww];refine wpAny_pure ⟨plainId_quiet F.plain_max_loop _,zeT W h y i (n - 1) 0 _ v _ (by omega) (W.frame _ _ _ l fun b C o q=>?_) pv (Heap.get?_update_self _ a rfl) fun u x j B m=>?_⟩
    · exact (Heap.get?_update_other _ _ (fun z:S=b=>i (z ▸ C))).trans q
    · exact k u x j (by rw [if_neg e];exact B) fun b o b1 b2 q=>m b o b1 b2 ((Heap.get?_update_other _ _ (Ne.symm b2)).trans (f b o b1 q))
end
theorem zbb (x d:Value):argsOk "max" ⟨[x],[(Str.ofString "default",d)]⟩:=by unfold argsOk;kernel_rfl
theorem VS {a:Program}{w:World}{A:Around}{E:Value→Shared→Prop}{s:Shared}{x d:Value}{Q:Value→Shared→Prop}
    (h:wpAny (model a w) A.in1 (pyIter x) (fun i c=>∃ q j m n P St f,i=.ref q∧Walks a w A.in1 q j m n P St∧St 0 c.heap∧(∀ b∈j,b < c.heap.objs.size)∧CmpOf a w A.in1 .Gt P f ∧
      ∀ v g tk,(if n=0 then v=d else P (argBest f (n - 1)) v)→(∀ b o,b∉m→c.heap.get? b=some o→g.get? b=some o)→Q v { c with heap:=g,toks:=tk }) E s) :
    wpAny (model a w) A (call (.builtin "max") [x] [(Str.ofString "default",d)]) Q E s:=by
  refine PyProof.Rows.kmk_tree F.kind_max F.plain_max F.entry_max (zbb x d) ?_
  show wpAny _ A.in1 (Builtin.Builtins.bindParams "max" ["key","default"] 0 ⟨[],[(Str.ofString "default",d)]⟩>>=_) _ _ s
  refine wpAny_bind (wpAny_of_eq (show Builtin.Builtins.bindParams "max" ["key","default"] 0 ⟨[],[(Str.ofString "default",d)]⟩=pure [none,some d] from rfl) (wpAny_bind (wpAny_pure ?_)))
  refine wpAny_bind (wpAny_mono h (fun i c r=>?_) fun _ _ e=>e)
  obtain ⟨q,j,m,n,P,St,f,rfl,W,B,l,u,k⟩:=r
  refine wpAny_bind (wpAny_newObj_type ?_)
  have t:c.heap.objs.size∉j:=fun z=>Nat.lt_irrefl _ (l _ z)
  rw [ww]
  refine wpAny_pure ⟨plainId_quiet F.plain_max_loop _,zgT W f u t (W.frame _ _ _ B fun b _ o e=>Heap.get?_push_of_some _ e) (Heap.get?_push_size _ rfl) fun v g tk p y=>?_⟩
  exact k v g tk p fun b o b1 e=>y b o b1 (Nat.ne_of_lt (Heap.lt_size e)) (Heap.get?_push_of_some _ e)
end PySem
namespace L2
open PySem PySem.Spec PyProof.Rows
section
variable {X:Cx}{e de:Expr}{p pos kp:Pos}{t:TA}{td:TE}
noncomputable def zmS (K:PySem.W.Frag)(t:TA)(td:TE):TE:=fun σ H Q=>t σ H fun c H1=>td σ H1 fun y H2=>∃ (a:Addr) (b:List Int) (k:Int),c=[.ref a]∧y=.int k∧SqL K H2 a (b.map V.int)∧Q (.int (if b=[] then k else Dl.maxL b)) H2
theorem zjC (Z:X.calm=true) (T:Gl X "max") (J:X.mg "max"=none) (g:bootBuiltins "max"=some (.builtin "max")) (ha:PA X [e] t) (N:PE X de td) (he:backTo pos (starEach [e] X.env)=(false,eval e X.env)::backTo pos (starEach [] X.env):=by rfl) (r:(backTo pos (starEach [e] X.env)).any (·.1)=false:=by rfl) :
    PE X (.Call (.Name "max" p) [e] [⟨some "default",de,kp⟩] pos) (zmS X.K t td):=by
  intro d s σ H Q I h
  refine wpAny_Call_Name_kw (vp I T J g ?_ (by decide) (by decide))
  refine PyProof.Rows.callWith_kw (thn (ha pos d s σ H _ I h) fun us U ⟨vs,H1,I1,r1,O⟩=>PyProof.Rows.kws_cons (thn (N d U σ H1 _ I1 O) fun ud s2 ⟨y,H2,I2,R,P⟩=>PyProof.Rows.kws_nil ?_)) he r
  obtain ⟨a,b,k,rfl,rfl,hq,q⟩:=P
  obtain ⟨u,rfl,S⟩:=Wh r1
  cases S
  obtain ⟨A,rfl⟩:=R
  letI:Dl.KK:=⟨X.K⟩
  refine VS (Dl.seq_walk I2 (I2.ok.hd Z) (.inl hq) fun it c M wr St s₂ n W st w f=>?_)
  have C:=n.length
  rw [List.length_map] at C
  refine ⟨it,M,wr,_,_,St,fun i j=>decide (b.getD j 0 < b.getD i 0),rfl,W,st,w,fun i j vi vj s Q E K o G=>?_,fun v D tk g F=>?_⟩
  · obtain ⟨t1,rfl⟩:=Dl.vals_int n K
    obtain ⟨t2,rfl⟩:=Dl.vals_int n o
    exact PyProof.Rows.gt_int G
  · by_cases z:b=[]
    · subst z
      have L:c.length=0:=C.symm
      rw [if_pos L] at g
      subst g
      exact ⟨.int k,H2,f D tk F,⟨A,rfl⟩,by rw [if_pos rfl] at q;exact q⟩
    · have B:0 < b.length:=List.length_pos_iff.mpr z
      rw [if_neg (by omega)] at g
      obtain ⟨t,rfl⟩:=Dl.vals_int n g
      rw [if_neg z] at q
      refine ⟨.int (Dl.maxL b),H2,f D tk F,⟨t,?_⟩,q⟩
      have l:=Dl.best_ge (fun i=>b.getD i 0) (c.length - 1)
      have Y:argBest (fun i j=>decide (b.getD j 0 < b.getD i 0)) (c.length - 1) < b.length:=by
        have:=(l 0 (Nat.zero_le _)).2
        omega
      rw [Dl.max_is (m:=b.getD (argBest (fun i j=>decide (b.getD j 0 < b.getD i 0)) (c.length - 1)) 0) (Dl.getD_mem Y)]
      intro x V
      obtain ⟨j,o,rfl⟩:=List.getElem_of_mem V
      have:=(l j (by omega)).1
      rw [←Dl.getD_at o]
      exact this
end
end L2
namespace Dl
open PySem L2
variable [KK]
section
variable {X:Cx}{e de:Expr}{p pos kp:Pos}
noncomputable def zjw:D→D→Option D
  | .lst ds,.int k=>(zfL ds).map fun a=>.int (if a=[] then k else maxL a)
  | _,_=>none
theorem zif {f h:Ev→Option D} (u:X.calm=true) (M:Gl X "max") (n:X.mg "max"=none) (L:ED X e f) (w:ED X de h) (I:starEach [e] X.env=(false,eval e X.env)::starEach [] X.env:=by rfl) (E:backTo pos (starEach [e] X.env)=(false,eval e X.env)::backTo pos (starEach [] X.env):=by rfl) (i:(backTo pos (starEach [e] X.env)).any (·.1)=false:=by rfl) :
    ED X (.Call (.Name "max" p) [e] [⟨some "default",de,kp⟩] pos) (zj zjw f h):=by
  obtain ⟨ta,o,m⟩:=L
  obtain ⟨N,K,B⟩:=w
  refine ⟨_,zjC u M n zhL (zr o z5 I) K E i,fun σ ρ F H z Q s j e q=>?_⟩
  obtain ⟨d,t,e⟩:=Option.bind_eq_some_iff.mp e
  obtain ⟨k,l,b⟩:=Option.bind_eq_some_iff.mp e
  refine m σ ρ F H d _ s j t fun F1 H1 v c G=>?_
  refine B σ ρ F1 H1 k _ c.fh (j.mono c.ff) l fun F2 H2 y g C=>?_
  unfold zjw at b
  split at b <;> try cases b
  obtain ⟨x,A,rfl⟩:=Option.map_eq_some_iff.mp b
  cases vx A
  obtain ⟨a,O,rfl,r,J⟩:=(G.mono g.ff).lst_inv
  cases J.of_ints
  exact ⟨a,x,_,rfl,C.int_inv,SqL.of (g.fh _ _ r),q F2 H2 _ (c.trans g) .int⟩
end
end Dl
namespace Dl
open PySem L2
noncomputable def zjK (t:List Int):List (List Int)→List (List Int)
  | []=>[t]
  | u::us=>if HT.lexLt u t=true then u::zjK t us else t::u::us
noncomputable def Vk:List (List Int)→List (List Int)
  | []=>[]
  | t::ts=>zjK t (Vk ts)
theorem zaL (t:List Int):∀ a:List (List Int),(zjK t a).Perm (t::a):=by
  intro a
  induction a with
  | nil=>exact List.Perm.refl _
  | cons u a b =>
    unfold zjK
    split
    · exact (b.cons u).trans (List.Perm.swap _ _ _)
    · exact List.Perm.refl _
theorem zbq:∀ a:List (List Int),(Vk a).Perm a:=by
  intro a
  induction a with
  | nil=>exact List.Perm.refl _
  | cons t a b=>exact (zaL t _).trans (b.cons t)
theorem zex (t:List Int):∀ f:List (List Int),f.Pairwise (fun a b=>HT.lexLt b a=false)→(zjK t f).Pairwise fun a b=>HT.lexLt b a=false:=by
  intro f
  induction f with
  | nil=>intro _;exact List.pairwise_singleton _ _
  | cons u f g =>
    intro h
    rw [List.pairwise_cons] at h
    unfold zjK
    by_cases c:HT.lexLt u t=true
    · rw [if_pos c]
      refine List.pairwise_cons.mpr ⟨fun v d=>?_,g h.2⟩
      rcases List.mem_cons.mp ((zaL t f).mem_iff.mp d) with rfl | d
      · cases e:HT.lexLt v u with
        | false=>rfl
        | true =>
          have:=OwnSortT.lex_trans _ _ _ c e
          rw [OwnSortT.lex_irr] at this
          cases this
      · exact h.1 v d
    · rw [if_neg c]
      have c:HT.lexLt u t=false:=by cases e:HT.lexLt u t with
        | false=>rfl
        | true=>exact absurd e c
      refine List.pairwise_cons.mpr ⟨fun v d=>?_,List.pairwise_cons.mpr h⟩
      rcases List.mem_cons.mp d with rfl | d
      · exact c
      · cases e:HT.lexLt v t with
        | false=>rfl
        | true =>
          rcases OwnSortT.lex_neg v u t e with z | z
          · rw [h.1 v d] at z;cases z
          · rw [c] at z;cases z
theorem zbs:∀ c:List (List Int),(Vk c).Pairwise fun a b=>HT.lexLt b a=false:=by
  intro c
  induction c with
  | nil=>exact List.Pairwise.nil
  | cons t c d=>exact zex t _ d
theorem zbM {c d:List (List Int)}(p:d.Perm c)(h:d.Pairwise fun a b=>HT.lexLt b a=false):d=Vk c :=
  List.Perm.eq_of_pairwise (le:=fun a b=>HT.lexLt b a=false) (fun a b _ _ e f=>OwnSortT.lex_total _ _ f e) h (zbs c) (p.trans (zbq c).symm)
variable [KK]
end Dl
namespace Dl
open PySem L2
noncomputable def b3:D→Option (List (Option D))
  | .tup [x,y,z]=>some [some x,some y,some z]
  | _=>none
end Dl
namespace Dl
open PySem L2
variable [KK]
section
variable {E:XK}{cl:Nat→Addr}{X:Cx}{a b e:Expr}{es:List Expr}{pos:Pos}
theorem ziA {x:Str} {id:String} {p:Pos} {c:Ev→Option Nat} (o:Gl X x) (f:X.mg x=none) (i:bootBuiltins x=some (.builtin id)) (n:XA E cl X (e::es) c) (l:x≠"__name__":=by decide) (b:(x == ("__debug__":Str))=false:=by decide)
    (m:starEach (e::es) X.env=(false,eval e X.env)::starEach es X.env:=by rfl) (a:(backTo pos (starEach es X.env)).any (·.1)=false:=by rfl):XE E cl X (.Call (.Name x p) (e::es) [] pos) c:=by
  obtain ⟨t,k,d⟩:=n
  exact ⟨_,z9 (r:=fun _ _ _=>False) (fun _ _ _ _ _ _ _ _ _ h=>h.elim) o f i k l b m a,fun σ ρ F0 H j Q s g e w=>d σ ρ F0 H j _ s g e w⟩
theorem zlw {c:CmpOp}{d:Ev→Option Nat}{f:Ev→Option D}(h:XE E cl X a d)(l:ED X b f)(i:behindInMarks c b=false):XE E cl X (.Compare a [c] [b] pos) d:=by
  obtain ⟨t,p,r⟩:=h
  obtain ⟨u,g,_⟩:=l
  exact ⟨_,zfh (r:=fun _ _ _ _=>False) (fun _ _ _ _ _ _ _ _ _ _ _ _ h=>h.elim) p g i,fun σ ρ F H j Q s k e w=>r σ ρ F H j _ s k e w⟩
end
end Dl
namespace Dl
open PySem L2
variable [KK]
theorem edv {X:Cx} (i:Nat) {x:Str} {a:Pos} (d:X.N[i]?=some x:=by rfl) (e:Vis X.env.scope x:=by first | exact Or.inl rfl | exact Or.inr (Or.inl rfl) | exact Or.inr (Or.inr rfl)) (c:(x == ("__debug__":Str))=false:=by decide)
    (b:(x == ("__classdict__":Str))=false:=by decide):ED X (.Name x a) (zc i):=zkW i (pv i d e c b)
theorem zt {X:Cx}{x:Str}{j k m:Nat}{f:Addr}{l:FuncData}{i:List Str}{n:Stmt}{p:List D→Option D}{e:Expr}{b:List Expr}{t a:Pos}{h:Ev→Option (List D)}(F:zJ X.prog X.w X.K X.mg X.base CX0 j f l i (spD m p))(s:yL k X.A)(u:Gl X x)(d:Def X.K X.mg x n i f l)
    (q:AD X (e::b) h) (r:j≤k:=by decide) (c:(x == ("__debug__":Str))=false:=by decide) (o:starEach (e::b) X.env=(false,eval e X.env)::starEach b X.env:=by rfl) (g:(backTo a (starEach b X.env)).any (·.1)=false:=by rfl) :
    ED X (.Call (.Name x t) (e::b) [] a) (zh m p h):=zdN (F.mono r) s u d.at_ d.kp d.bd q c o g
end Dl
namespace L2
open PySem PySem.Spec PyProof.Rows PySem.W
structure YH (base:Heap) (mg:Str→Option Value) (c P:Addr) (q:Str):Prop where
  hd:CodeHd base c P
  mt:base.objs[P]?=some (vv q)
  bm:base.BuiltinsAt mg P
noncomputable def zah (H:Hp)(c:Addr)(q:Str):Prop:=∃ a b t P,H c=some (.frz a (.own P))∧a.data=.fields b∧b[1]?=some (.str q t)
theorem zah.at {P:Program}{w:World}{H:Hp}{h:Heap}{a:Addr}{q:Str}(x:zah H a q)(ok:HOk P w H h):h.CodeRec (.ref a) q:=by
  obtain ⟨b,c,t,P',e,d,g⟩:=x
  exact ⟨a,b,c,t,rfl,(ok a _ e).1,d,g⟩
theorem zah.mono {H H':Hp}{a:Addr}{q:Str}(x:zah H a q)(k:∀ b o,H b=some o→H' b=some o):zah H' a q:=by
  obtain ⟨c,d,t,P',e,r⟩:=x
  exact ⟨c,d,t,P',k _ _ e,r⟩
theorem zei {a:Heap}{P:Addr}{q:Str}(h:a.objs[P]?=some (vv q)):a.get? P=none:=by
  unfold Heap.get?
  rw [h]
  rfl
theorem zc7 {e g:Pos}{c x:Value}(l:List Value)(h:TriplesOk l)(d:codeAmong e (l++[rawInt g.line,rawInt g.col,x])=some c):codeAmong e l=some c∨c=x:=by
  fun_induction TriplesOk l with
  | case1 =>
    simp only [List.nil_append,codeAmong,rawInt] at d
    split at d
    · cases d;exact .inr rfl
    · cases d
  | case2 a t b u y rest i =>
    simp only [List.cons_append,codeAmong] at d ⊢
    split at d
    · rename_i f;rw [if_pos f];exact .inl d
    · rename_i f;rw [if_neg f];exact i h d
  | case3 l j k=>exact h.elim
section
variable {X:Cx}{pins:List (Addr × Obj)}{σ:St}{H:Hp}{s:Shared}{c P:Addr}{q:Str}{params:Arguments}{body:Expr}{scope:Scope}{pos:Pos}{clos:List (Str × Addr)}{A:Around}{E:Value→Shared→Prop}
noncomputable abbrev zax (X:Cx) (q:Str) (params:Arguments) (body:Expr) (scope:Scope) (clos:List (Str × Addr)) (b:Addr) (a:Value):Obj:=kla_obj "<lambda>" q params body scope clos ((X.mg "__name__").getD .none) b a
theorem Inv.pushed {a:Heap}{tk:Nat}{o:Obj}(I:Inv X pins σ H { s with heap:=a,toks:=tk })(e:∀ v,o.data≠.cell v)(f:o.data≠.freed)(d:(a.push o).get? a.objs.size=some o) :
    Inv X (pins++wv [a.objs.size] (a.push o)) σ H { s with heap:=a.push o,toks:=tk }:=by
  have I2:=I.un (t':=tk) (H':=H) (h':=a.push o) (Un.kept fun _ _ q=>Heap.get?_push_of_some _ q) (I.hok.kept fun _ _ q=>Heap.get?_push_of_some _ q)
  exact I2.pinned (fp:=[a.objs.size]) (fun b c=>by rw [List.mem_singleton.mp c];exact I.fpOk (Nat.le_refl _) (I.hok.fresh (Nat.le_refl _))) (fun b c=>by rw [List.mem_singleton.mp c];exact ⟨o,d,e⟩)
theorem zcu {Q:Value→Shared→Prop} (L:YH X.base X.mg c P q) (D:X.env.code=.ref c) (B:closureFor scope X.env=pure clos) (K:defaultsOf params X.env=([],[])) (hq:X.env.qual++"<lambda>"=q) (I:Inv X pins σ H s)
    (h:∀ (f m:Addr) (i:Value) (H':Hp) (U:Shared),(∀ b o,H b=some o→H' b=some o)→Inv X (pins++wv [f] U.heap) σ H' U→U.heap.get? f=some (zax X q params body scope clos m i)→zah H' m q→Q (.ref f) U) :
    wpAny (model X.prog X.w) A (eval (.Lambda params body scope pos) X.env) Q E s:=by
  refine kla_eval K ?_
  rw [hq]
  have G:H P=some (.tbl #[.str q 0]):=I.bs.2 P q L.mt
  obtain ⟨qs,eP,W,F⟩:=(show yb X.prog X.w H s.heap P (.tbl #[.str q 0]) from I.hok P _ G)
  have C:=L.hd.keeps I.bk
  have hg:s.heap.Ns mainGlobals X.mg:=I.ok.mod.glob.keeps I.bk
  have Z:mainGlobals≠P:=fun z=>by
    obtain ⟨o,es,ep,e,hd,_⟩:=I.ok.mod.glob
    rw [z,zei L.mt] at e
    cases e
  have w:=L.bm.keeps I.bk
  cases d:codeAmong pos qs.toList with
  | some cv =>
    obtain ⟨m,l,T,S,t,t2,rfl,Y,od,ov,ep⟩:=F pos cv d
    obtain rfl:S=q:=by
      have:some (Value.str q 0)=some (.str S t2):=ep
      cases this
      rfl
    refine kla_makeFunctionHit (mg:=X.mg) B I.ok.glob hg D C eP W d w fun i N tk hk a2=>?_
    have I1:=I.un (t':=tk) (H':=H) (h':=N) (Un.kept hk) (I.hok.kept hk)
    refine h _ m i H _ (fun _ _ e=>e) (I1.pushed (o:=zax X S params body scope clos m i) (fun v z=>by cases z) (fun z=>by cases z) (Heap.get?_push_size _ rfl)) (Heap.get?_push_size _ rfl) ⟨l,T,t,P,Y,od,ov⟩
  | none =>
    refine kla_makeFunction (mg:=X.mg) B I.ok.glob hg D C eP W d Z w fun k i N tk V J a1 R O=>?_
    have p:H k=none:=I.hok.fresh J
    have cP:k≠P:=fun z=>by rw [z,G] at p;cases p
    obtain ⟨c2,l,T,t,e2,x,y,hv⟩:=id R
    cases e2
    have ext:∀ b o,H b=some o→upd H k (.frz l (.own P)) b=some o:=fun b o e=>by rw [zm (zi e p)];exact e
    have M:∀ b,H b=none→b≠P:=fun b e z=>by rw [z,G] at e;cases e
    have a0:HOk X.prog X.w (upd H k (.frz l (.own P))) N:=fun a o e=>by
      by_cases ha:a=k
      · subst ha
        rw [zo] at e
        cases e
        exact ⟨x,l,x⟩
      · rw [zm ha] at e
        by_cases hp:a=P
        · subst hp
          rw [G] at e
          cases e
          refine ⟨_,O,?_,fun p2 cc j=>?_⟩
          · rw [Array.toList_append];exact TriplesOk_snoc _ _ _ _ W
          · rw [Array.toList_append] at j
            rcases zc7 _ W j with j | rfl
            · obtain ⟨m,o3,v3,S,t3,t4,ec,Y,r⟩:=F p2 cc j
              exact ⟨m,o3,v3,S,t3,t4,ec,ext _ _ Y,r⟩
            · exact ⟨k,l,T,q,t,0,rfl,zo,y,hv,rfl⟩
        · refine (I.hok a o e).stay (fun b u w g=>V b u ?_ g) (fun b g=>ext _ _ g) (fun b xs g=>ext _ _ g) fun b o u g=>ext _ _ g
          rcases w with rfl | w
          · exact hp
          · intro z
            rw [z,G] at w
            cases w
    have I1:Inv X pins σ (upd H k (.frz l (.own P))) { s with heap:=N,toks:=tk }:=I.un (t':=tk)
      ⟨fun b o e n _ _=>V b o (M b n) e,fun b o e n _ _=>⟨o.slots,V b o (M b n) e⟩,fun b o e n _=>by rw [zm (Nat.ne_of_lt (Nat.lt_of_lt_of_le (Heap.lt_size e) J))];exact n,fun b o e _=>(by
        by_cases z:b=P
        · exact ⟨_,z ▸ O⟩
        · exact ⟨o,V b o z e⟩),fun b xs e=>ext _ _ e,fun b o u e=>ext _ _ e,fun b ps e=>ext _ _ e⟩ a0
    refine h _ k i _ _ ext (I1.pushed (o:=zax X q params body scope clos k i) (fun v z=>by cases z) (fun z=>by cases z) (Heap.get?_push_size _ rfl)) (Heap.get?_push_size _ rfl) ⟨l,T,t,P,zo,y,hv⟩
end
structure x9 (X:Cx) (x:Str) (M:List Str) (scope:Scope) (cl:List (Str × Addr)):Prop where
  clos:closureFor scope X.env=pure cl
  cell:∀ y∈scope.names,y.2≠.cell
  kind:scope.kind=.function
  par:scope.names.lookup x=some .local
  co:scope.isCoroutine=false
  gen:scope.isGenerator=false
  sub:∀ y c,cl.lookup y=some c→X.env.cells.lookup y=some c
  has:∀ y,(scope.names.lookup y=some .cell∨scope.names.lookup y=some .free)→∃ c,cl.lookup y=some c
  mlen:M.length=X.N.length
  msk:∀ (i:Nat) y,M[i]?=some y→Vis scope y→X.N[i]?=some y
  vis:∀ (i:Nat) y,M[i]?=some y→Vis scope y→(scope.names.lookup y=some .cell∨scope.names.lookup y=some .free)
  out:∀ (i:Nat) y,M[i]?=some y→Vis scope y→Vis X.env.scope y∧X.env.kindOf y≠some .local
noncomputable def zaE (X:Cx)(x:Str)(M:List Str)(q:Str)(a:Scope)(c:List (Str × Addr))(f b:Addr)(A:Around)(s:Shared)(H:Hp):Cx :=
  { X with A:=A.deeper (envX q a s.heap.objs.size f (.ref b) c),N:=x::M,s₀:=s,H₀:=H,env:=envX q a s.heap.objs.size f (.ref b) c,outer:=X.stack,stack:=envX q a s.heap.objs.size f (.ref b) c::X.stack,ex:=[],calm:=true,fn:=fun _=>false,pn:=[],xe:=fun _ _=>False }
section
variable {X:Cx}{pins:List (Addr × Obj)}{σ:St}{H:Hp}{s:Shared}{q x:Str}{params:Arguments}{body:Expr}{scope:Scope}{cl:List (Str × Addr)}{M:List Str}{A:Around}{f ca:Addr}{ctv:Value}{v:V}{u:Value}{te:TE}{Q:VK}{k:Nat}
theorem zgx (S:x9 X x M scope cl)(V:yL k A)(E:A.frames=some X.stack)(I:Inv X pins σ H s)(n:s.heap.get? f=some (zax X q params body scope cl ca ctv))(rc:zah H ca q)
    (d:bindArgs (kla_fn "<lambda>" q params body scope cl ((X.mg "__name__").getD .none) (.ref ca) ctv) ⟨[u],[]⟩=pure [(x,u)]) (he:PE (zaE X x M q scope cl f ca A s H) body te) (rv:yk v u) (ht:te (some v::σ) H Q) :
    codeAny (model X.prog X.w) A (.call (.ref f) ⟨[u],[]⟩) (fun r P=>∃ y,r=.ok (.ret y)∧EP X pins σ Q y P) s:=by
  refine kla_callFunE V.depth n rfl S.co S.gen rfl (rc.at I.hok) ?_
  rw [d]
  refine wpAny_pure (wpAny_newFunctionEnv S.cell (fun y T=>by rw [List.mem_singleton.mp T];exact S.par) (fun U K R=>?_) S.kind)
  have a:∀ b o,s.heap.get? b=some o→U.get? b=some o:=fun b o e=>R.extBut b o (Nat.ne_of_lt (Heap.lt_size e)) (Heap.get?_push_of_some _ e)
  refine ⟨I.nolimit.keeps a,?_⟩
  show codeAny _ _ (.expr body (envX q scope s.heap.objs.size f (.ref ca) cl)) _ _
  let Y:Cx:=zaE X x M q scope cl f ca A s H
  have l:∀ b:Addr,b∉Y.ex:=fun b z=>absurd (show b∈([]:List Addr) from z) (by simp)
  have OkY:Y.Ok:=⟨I.ok.mod,S.kind,rfl,rfl,Nat.le_refl _,fun y z c h1 h2=>I.ok.inj y z c (S.sub y c h1) (S.sub z c h2),fun y T=>S.has y T,(fun y c h _=>absurd h Bool.false_ne_true),fun _=>V.hd,Around.frames_deeper E,.inr ⟨rfl,rfl⟩,fun b z=>absurd z (l b),I.bs,Nat.le_trans I.ok.bsz I.sz,fun b _ _=>l b,fun b z=>absurd z (l b),I.stack,I.stkFree⟩
  have IY:Inv Y [] (some v::σ) H { s with heap:=U,toks:=s.toks+[(x,u)].length }:=by
    refine ⟨OkY,rfl,I.bare,Un.kept a,⟨_,K,fun i y w C B D=>?_⟩,fun y c e=>?_,I.hok.fresh (Nat.le_refl _),fun y c e=>I.freeC y c (S.sub y c e),fun p hp=>absurd (show p∈([]:List (Addr × Obj)) from hp) (by simp),I.hok.kept a,?_⟩
    · cases i with
      | zero =>
        have C:some x=some y:=C
        have B:some (some v)=some (some w):=B
        cases C
        cases B
        refine ⟨u,rv,.inl ⟨S.par,?_⟩⟩
        show List.lookup x ([(x,u)].reverse)=some u
        simp
      | succ i =>
        have g:M[i]?=some y:=C
        have L:σ[i]?=some (some w):=B
        have F:=S.msk _ y g D
        obtain ⟨ov,ok⟩:=S.out _ y g D
        obtain ⟨m,hn,hl⟩:=I.loc
        obtain ⟨u2,ru,lk⟩:=hl _ y w F L ov
        refine ⟨u2,ru,?_⟩
        rcases lk with ⟨Z,_⟩ | ⟨_,c,O,j⟩
        · exact absurd Z ok
        · have W:=S.vis _ y g D
          obtain ⟨c',t⟩:=S.has y W
          have:=S.sub y c' t
          rw [O] at this
          cases this
          refine .inr ⟨W,c,t,?_⟩
          obtain ⟨o,n,G⟩:=j
          exact ⟨o,a _ _ n,G⟩
    · obtain ⟨w,o,n,G⟩:=I.cell y c (S.sub y c e)
      exact ⟨w,o,a _ _ n,G⟩
    · show σ.length+1=M.length+1
      rw [I.len,S.mlen]
  refine kla_codeExpr (wpAny_mono (he [] _ _ H Q IY ht) (fun y P h=>?_) fun e P z=>z.elim)
  obtain ⟨w,H',J,N,q'⟩:=h
  exact ⟨y,rfl,I.after ⟨w,H',J.os,J.bare,J.base,J.hok,N,q'⟩⟩
end
section
variable {X:Cx}{pins:List (Addr × Obj)}{σ:St}{H:Hp}{s:Shared}
theorem Inv.own2 {b:Addr}{g:Heap}{tk:Nat}(I:Inv X pins σ H s)(f:WG X pins H b)(k:∀ c o,c≠b→s.heap.get? c=some o→g.get? c=some o)(m:∃ o,g.get? b=some o):Inv X pins σ H { s with heap:=g,toks:=tk }:=by
  obtain ⟨i,f1,f2,f3,f4,f5⟩:=f
  have h:∀ c o,c∉[b]→s.heap.get? c=some o→g.get? c=some o:=fun c o d e=>k c o (fun z=>d (List.mem_singleton.mpr z)) e
  refine I.call' (s':={ s with heap:=g,toks:=tk }) (ch:=[b]) rfl ⟨fun c o e _ _ a=>h c o a e,fun c o e _ _ a=>⟨o.slots,h c o a e⟩,fun _ _ _ n _=>n,fun c o e a=>⟨o,h c o a e⟩,fun _ _ q=>q,fun _ _ _ q=>q,fun _ _ q=>q⟩ ?_ I.bare fun c d=>?_
  · intro c j e
    refine (I.hok c j e).stay (fun l v d q=>k l v (fun z=>?_) q) (fun _ q=>q) fun _ _ q=>q
    subst z
    rcases d with z | z
    · rw [←z,i] at e;cases e
    · rw [i] at z;cases z
  · rw [List.mem_singleton.mp d]
    exact ⟨f3,f1,f4,f5⟩
noncomputable def zfO (d:Bool)(H:Hp)(b:Addr)(t:List Int):Prop:=match d with
  | false=>H b=some (.tup (t.map V.int))
  | true=>∃ i c a,t=i::a∧H b=some (.tup [.int i,.ref c])∧H c=some (.tup (a.map V.int))
theorem zfO.mono {a:Bool}{H H':Hp}{b:Addr}{t:List Int}(x:zfO a H b t)(k:∀ b o,H b=some o→H' b=some o):zfO a H' b t:=by
  cases a with
  | false=>exact k _ _ x
  | true =>
    obtain ⟨i,c,g,e,d,f⟩:=x
    exact ⟨i,c,g,e,k _ _ d,k _ _ f⟩
structure ziI (md:Bool) (X:Cx) (pins:List (Addr × Obj)) (σ:St) (H0:Hp) (a kS:Addr) (e1:Nat) (ts:List (List Int)) (keys:Array Value) (H:Hp) (s:Shared):Prop where
  inv:Inv X pins σ H s
  up:∀ b o,H0 b=some o→H b=some o
  ha:s.heap.get? a=some (seqObj "list" #[] e1)
  hk:∃ e,s.heap.get? kS=some (seqObj "list" keys e)
  fa:WG X pins H a
  fk:WG X pins H kS
  ks:keys.size≤ts.length∧∀ (j:Nat) (v:Value),keys[j]?=some v→∃ b t,v=.ref b∧ts[j]?=some t∧zfO md H b t
theorem zga {md:Bool}{H0:Hp}{a g f:Addr}{r:Nat}{m:List Value}{ts:List (List Int)}{P:PySem.Fin→Shared→Prop}{E:Value→Shared→Prop}{A:Around}(K:a≠g)(U:ts.length=m.length)(hz:m.length < sizeLine)
    (turn:∀ (i:Nat) (v:Value) (t:List Int),m[i]?=some v→ts[i]?=some t→∀ (k:List (Addr × Obj)) (H1:Hp) (B:Shared),(∀ b o,H0 b=some o→H1 b=some o)→Inv X (pins++k) σ H1 B →
      wpAny (model X.prog X.w) A (call (.ref f) [v]) (fun y u=>∃ b H2,y=.ref b∧(∀ b o,H1 b=some o→H2 b=some o)∧zfO md H2 b t∧Inv X (pins++k) σ H2 u) (fun _ _=>False) B)
    (S:ziI md X pins σ H0 a g r ts #[] H s)
    (fin:∀ d H' p,ziI md X pins σ H0 a g r ts d H' p→d.size=m.length→wpAny (model X.prog X.w) A (ksk_end a false m.toArray r (.ref g) d) P E p) :
    wpAny (model X.prog X.w) A (ksk_rest a (.ref f) false m.toArray r (.ref g)) P E s:=by
  unfold ksk_rest
  refine wpAny_bind (wpAny_rule ?_)
  first
    | rw [List.forIn_toArray]
    | (rw [←Array.forIn_toList];simp only [List.toList_toArray])
    | rw [←Array.forIn_toList]
  refine wpAny_bind (ksk_fold (fun i p=>∃ d H',ziI md X pins σ H0 a g r ts d H' p∧d.size=i) m 0 s ⟨#[],H,S,rfl⟩ ?step ?done)
  case step =>
    rintro j x p V ⟨d,H1,S1,l⟩
    rw [Nat.zero_add] at l ⊢
    have W:j < m.length:=(List.getElem?_eq_some_iff.mp V).1
    obtain ⟨R,D⟩:∃ t,ts[j]?=some t:=⟨_,List.getElem?_eq_getElem (by omega)⟩
    obtain ⟨e,G⟩:=S1.hk
    have Q:∀ {o:Obj} {N:Array Value} {n:Nat},o=seqObj "list" N n→∀ v,o.data≠.cell v:=fun h v z=>by rw [h] at z;cases z
    have I1:=S1.inv.pinned (fp:=[a,g]) (fun b q=>by
      rcases List.mem_cons.mp q with rfl | q
      · exact S1.fa
      · rw [List.mem_singleton.mp q];exact S1.fk) (fun b q=>by
      rcases List.mem_cons.mp q with rfl | q
      · exact ⟨_,S1.ha,Q rfl⟩
      · rw [List.mem_singleton.mp q];exact ⟨_,G,Q rfl⟩)
    refine wpAny_bind (wpAny_attempt (wpAny_mono (turn j x R V D _ H1 p S1.up I1) (fun y u he=>?_) fun _ _ Z=>Z.elim))
    obtain ⟨b,H2,rfl,C,hb2,I2⟩:=he
    have T:=I2.pin (a,seqObj "list" #[] r) (List.mem_append_right _ (List.mem_append_right _ (yh (.head _) S1.ha)))
    have I:=I2.pin (g,seqObj "list" d e) (List.mem_append_right _ (List.mem_append_right _ (yh (.tail _ (.head _)) G)))
    have I3:=I2.unpinned
    try dsimp only
    obtain ⟨M,w⟩:∃ M,(u.heap.update g (Obj.mapSeq (·.push (.ref b)))).get? g=some (seqObj "list" (d.push (.ref b)) M):=⟨_,get?_update_seq I.1 (·.push (.ref b))⟩
    have B:=Heap.SameBut.update u.heap g (Obj.mapSeq (·.push (.ref b)))
    refine wpAny_bind (listUpdate_at I.1 rfl ?_ (by rw [l];omega) (Nat.le_trans (Nat.le_of_eq (Array.size_push ..)) (by rw [l];omega)))
    refine wpAny_pure ⟨rfl,d.push (.ref b),H2,⟨?_,fun c o z=>C _ _ (S1.up _ _ z),(B.2 a K).trans T.1,⟨M,w⟩,⟨T.2.1,S1.fa.2⟩,⟨I.2.1,S1.fk.2⟩,?_,fun i v F=>?_⟩,by rw [Array.size_push,l]⟩
    · exact I3.own2 (b:=g) (tk:=u.toks) ⟨I.2.1,S1.fk.2⟩ (fun c o hc z=>(B.2 c hc).trans z) ⟨_,w⟩
    · rw [Array.size_push,l];omega
    · rw [Array.getElem?_push] at F
      split at F
      · rename_i Y
        cases F
        refine ⟨b,R,rfl,?_,hb2⟩
        rw [Y,l]
        exact D
      · obtain ⟨b2,t2,J,L,O⟩:=S1.ks.2 i v F
        exact ⟨b2,t2,J,L,O.mono C⟩
  case done =>
    rintro p ⟨d,H1,S1,l⟩
    obtain ⟨e,G⟩:=S1.hk
    refine wpAny_bind (listItems_at G rfl (fin d H1 p S1 (by rw [l,Nat.zero_add])))
end
end L2
namespace OwnSortT
open PySem PyProof.Rows OwnSort
noncomputable def NT (h:Heap) (v:Value) (t:List Int):Prop:=∃ a o n i tk c e,v=.ref a∧h.get? a=some o∧o.cls=.type "tuple"∧o.data=.seq [Value.int i tk,.ref c].toArray n∧t=i::e∧∃ d f b,h.get? c=some d∧d.cls=.type "tuple"∧d.data=.seq b.toArray f∧IntsAre b e
theorem NT.uniq {h:Heap}{v:Value}{s t:List Int}(x:NT h v s)(y:NT h v t):s=t:=by
  obtain ⟨a,o,n,i,tk,c,F,rfl,z,_,D,rfl,J,H,k,f1,_,w,u⟩:=x
  obtain ⟨b,p,m,j,C,d,I,e,l,_,r,rfl,E,G,f,f2,_,q,A⟩:=y
  cases e
  rw [z] at l
  cases l
  rw [D] at r
  have g:[Value.int i tk,.ref c].toArray=[Value.int j C,.ref d].toArray:=by injection r
  have g:=List.toArray_inj g
  cases g
  rw [f1] at f2
  cases f2
  rw [w] at q
  have B:k.toArray=f.toArray:=by injection q
  cases List.toArray_inj B
  rw [XF u A]
noncomputable def TN (a:Bool)(h:Heap)(v:Value)(t:List Int):Prop:=match a with
  | false=>TT h v t
  | true=>NT h v t
theorem TN.uniq {a:Bool}{h:Heap}{v:Value}{s t:List Int}(x:TN a h v s)(y:TN a h v t):s=t:=by
  cases a with
  | false=>exact TT.uniq x y
  | true=>exact NT.uniq x y
open Classical in
noncomputable def zat (a:Bool)(h:Heap)(v:Value):Option (List Int):=if x:∃ t,TN a h v t then some x.choose else none
theorem keyTN_of {a:Bool}{h:Heap}{v:Value}{t:List Int}(x:TN a h v t):zat a h v=some t:=by
  unfold zat
  have y:∃ t,TN a h v t:=⟨t,x⟩
  rw [dif_pos y,y.choose_spec.uniq x]
@[reducible] noncomputable def zcD (md:Bool) (h:Heap):KeyKind where
  α:=List Int
  blt:=HT.lexLt
  irrefl:=lex_irr
  trans:=lex_trans
  negTrans:=lex_neg
  total:=lex_total
  keyOf:=zat md h
  dflt:=[]
section
variable {prog:Program}{w:World}{A:Around}{E:Value→Shared→Prop}{s:Shared}
theorem ze5:∀ {a:List Value} {b:List Int},IntsAre a b→∀ {j:Nat} (h:j < a.length),∃ t,a[j]=.int (b.getD j 0) t:=by
  intro a b h
  induction h with
  | nil=>intro j h;simp at h
  | cons n t h c =>
    intro j d
    cases j with
    | zero=>exact ⟨t,rfl⟩
    | succ j=>exact c (by simpa using d)
theorem zjj:∀ (b a:List Int),((List.range (min b.length a.length)).all (fun j=>b.getD j 0 == a.getD j 0)&&b.length == a.length)=decide (b=a):=by
  intro b a
  rw [Bool.eq_iff_iff,Bool.and_eq_true,List.all_eq_true,beq_iff_eq,decide_eq_true_eq]
  constructor
  · rintro ⟨d,e⟩
    refine List.ext_getElem e fun i f c=>?_
    have:=d i (List.mem_range.mpr (by omega))
    rw [beq_iff_eq,List.getD_eq_getElem?_getD,List.getD_eq_getElem?_getD,List.getElem?_eq_getElem f,List.getElem?_eq_getElem c] at this
    exact this
  · rintro rfl
    exact ⟨fun j _=>beq_self_eq_true _,rfl⟩
theorem ziW {c d:Addr} {o f:Obj} {n w:Nat} {a g:List Value} {q m:List Int} (p:A.units < cLine) (x:s.heap.get? c=some o) (B:o.cls=.type "tuple") (y:o.data=.seq a.toArray n) (k:IntsAre a q) (i:s.heap.get? d=some f) (F:f.cls=.type "tuple") (r:f.data=.seq g.toArray w) (v:IntsAre g m) :
    SeqAt.EqAt A s (.ref c) (.ref d) (decide (q=m)):=by
  by_cases h:c=d
  · subst h
    rw [x] at i
    cases i
    rw [y] at r
    have z:a.toArray=g.toArray:=by injection r
    cases List.toArray_inj z
    rw [XF k v,decide_eq_true rfl]
    exact .same _
  · have G:=k.length
    have E:=v.length
    have:=SeqAt.RcAt.tuples (A:=A) (s:=s) (l:=c) (b:=d) (items:=a.toArray) (items2:=g.toArray) (e:=fun j=>q.getD j 0 == m.getD j 0) ⟨o,x,B,n,y⟩ ⟨f,i,F,w,r⟩ p fun j C D=>by
      obtain ⟨t,H⟩:=ze5 k (j:=j) (by simpa using C)
      obtain ⟨u,p⟩:=ze5 v (j:=j) (by simpa using D)
      simp only [List.getElem_toArray,H,p]
      exact .int_int _ _ _ _
    rw [List.size_toArray,List.size_toArray,G,E,zjj] at this
    exact SeqAt.EqAt.of_refs h this
theorem zji {c d:Addr} {o a:Obj} {n f:Nat} {b e:List Value} {i g:List Int} {Q:Bool→Shared→Prop} (p:A.units < cLine) (m:s.heap.get? c=some o) (k:o.cls=.type "tuple") (u:o.data=.seq b.toArray n) (l:IntsAre b i) (j:s.heap.get? d=some a) (q:a.cls=.type "tuple") (r:a.data=.seq e.toArray f) (t:IntsAre e g) (h:Q (HT.lexLt i g) s) :
    wpAny (model prog w) A (oneLt' false (.ref c) (.ref d)) Q E s:=by
  rw [oneLt'_eq]
  rw [if_neg Bool.false_ne_true]
  exact wpAny_bind (HT.lt_tupInts (items:=b.toArray) (items2:=e.toArray) ⟨o,m,k,n,u⟩ ⟨a,j,q,f,r⟩ l t p (wpAny_truthy_bool h))
theorem ziC {g:Bool}{x y:Value}{a b:List Int}{Q:Bool→Shared→Prop}(B:A.units < cLine)(m:TN g s.heap x a)(z:TN g s.heap y b)(h:Q (HT.lexLt a b) s):wpAny (model prog w) A (keyLt' (tuples' true) x y) Q E s:=by
  cases g with
  | false=>exact zjh m z h
  | true =>
    obtain ⟨p,o,n,i,tk,c,F,rfl,D,_,J,rfl,P,O,K,f1,v,l,k⟩:=m
    obtain ⟨q,R,M,j,H,d,G,rfl,C,_,I,rfl,L,N,S,f2,t,r,u⟩:=z
    rw [zau]
    refine wpAny_bind (listItems_at D J (wpAny_bind (listItems_at C I ?_)))
    simp only [List.zip_cons_cons,List.zip_nil_right,List.zipIdx_cons,List.zipIdx_nil,List.forIn_cons,List.forIn_nil]
    refine wpAny_bind (wpAny_bind (wpAny_bind (SeqAt.EqAt.int_int i tk j H prog w E _ ?_)))
    rw [HT.lexLt_cons] at h
    by_cases e:i=j
    · rw [if_pos e] at h
      rw [show (i == j)=true by rw [e];exact beq_self_eq_true _]
      refine wpAny_pure (wpAny_bind (wpAny_bind (ziW B f1 v l k f2 t r u prog w E _ ?_)))
      by_cases f:F=G
      · rw [decide_eq_true f]
        refine wpAny_pure (wpAny_pure (wpAny_pure ?_))
        rw [f,lex_irr] at h
        exact h
      · rw [decide_eq_false f]
        exact wpAny_bind (zji B f1 v l k f2 t r u (wpAny_pure (wpAny_pure (wpAny_pure h))))
    · rw [if_neg e] at h
      rw [show (i == j)=false by simpa using e]
      exact wpAny_bind (oneLt_int (wpAny_pure (wpAny_pure (wpAny_pure h))))
theorem zg4 {k:Bool} {h:Heap} {v:Value} {t:List Int} (x:TN k h v t):∃ a o n b tk zs,v=.ref a∧h.get? a=some o∧o.cls=.type "tuple"∧o.data=.seq (Value.int b tk::zs).toArray n:=by
  cases k with
  | false =>
    obtain ⟨a,o,n,l,rfl,g,d,f,j,e⟩:=(show TT h v t from x)
    cases j with
    | nil=>exact absurd rfl e
    | cons b tk j=>exact ⟨a,o,n,b,tk,_,rfl,g,d,f⟩
  | true =>
    obtain ⟨a,o,n,i,tk,c,m,rfl,g,d,f,_⟩:=(show NT h v t from x)
    exact ⟨a,o,n,i,tk,_,rfl,g,d,f⟩
theorem WX {p:Bool}:∀ {d:List Value} {Q:List (Option Value)→Shared→Prop},(∀ v∈d,∃ t,TN p s.heap v t)→(∀ c:List Value,c.length=d.length→(∀ f∈c,∃ i t,f=.int i t)→Q (c.map some) s)→wpAny (model prog w) A (d.mapM firstOfTuple') Q E s
  | [],Q,_,h=>by rw [List.mapM_nil];exact wpAny_pure (h [] rfl (by simp))
  | v::d,Q,hT,h=>by
    obtain ⟨t,r⟩:=hT v List.mem_cons_self
    obtain ⟨a,o,n,j,tk,zs,rfl,e,k,q⟩:=zg4 r
    rw [List.mapM_cons,zfe]
    refine wpAny_bind (wpAny_bind (wpAny_typeOf (T:="tuple") ⟨o,e,k⟩ ?_))
    rw [if_neg (by simp)]
    refine wpAny_bind (listItems_at e q (wpAny_pure (wpAny_bind (WX (fun u m=>hT u (List.mem_cons_of_mem _ m)) fun c g l=>wpAny_pure ?_))))
    exact h (.int j tk::c) (by simp [g]) fun f b=>by
      rcases List.mem_cons.mp b with rfl | b
      · exact ⟨_,_,rfl⟩
      · exact l f b
theorem zjl {k:Bool}{b:Value}{c:List Value}{Q:SortKind→Shared→Prop}(e:∀ v∈b::c,∃ t,TN k s.heap v t)(h:Q (tuples' true) s):wpAny (model prog w) A (keyKind' (b::c).toArray) Q E s:=by
  rw [keyKind'_eq,List.mapM_toArray,← bind_pure_comp,bind_assoc]
  refine wpAny_bind (WX e fun a d g=>wpAny_bind (wpAny_pure ?_))
  cases a with
  | nil=>simp at d
  | cons f a =>
    rw [if_pos (by simp)]
    have j:((f::a).map some).toArray.filterMap id=(f::a).toArray:=by simp
    refine wpAny_bind (wpAny_rule ?_)
    rw [j,oneTypeOnly'_eq,List.mapM_toArray,zb8 g]
    simp only [map_pure,pure_bind]
    rw [show (List.map (fun _=>Value.type "int") (f::a)).toArray[0]?=some (Value.type "int") by simp]
    have i:((List.map (fun _=>Value.type "int") (f::a)).toArray.all fun x=>x == Value.type "int")=true:=by
      simp only [List.all_toArray,List.all_map,List.all_eq_true]
      intro _ _
      rfl
    simp only [i,if_true,pure_bind,Option.any_some]
    rw [show (Value.type "int" != Value.type "tuple")=true by decide +kernel]
    exact wpAny_pure h
end
end OwnSortT
namespace OwnKey
open PySem PyProof.Rows OwnSort OwnSortT
section
variable {prog:Program}{w:World}{A:Around}{E:Value→Shared→Prop}{s:Shared}
theorem zgh {a:Array Value}{b:List Value}{x:Keyed}(h:x∈(a.zip b.toArray).toList):x.1∈a.toList:=by
  rw [ksk_zip] at h
  obtain ⟨c,d⟩:=x
  exact (List.of_mem_zip h).1
theorem zfz {e:Bool}{c:Array Value}{f:List Value}(o:A.units < cLine)(j:∀ v∈c.toList,∃ t,TN e s.heap v t):OwnTim.LtE prog w A E s (zcD e s.heap) (tuples' true) (·∈(c.zip f.toArray).toList):=by
  intro q x y Q i n m h
  have d:∀ {x:Keyed},x∈(c.zip f.toArray).toList→∃ t,TN e s.heap x.1 t∧OwnTim.ky (zcD e s.heap) x=t:=fun {x} hm=>by
    obtain ⟨t,g⟩:=j _ (zgh hm)
    refine ⟨t,g,?_⟩
    unfold OwnTim.ky
    show (zat e s.heap x.1).getD _=t
    rw [keyTN_of g]
    rfl
  obtain ⟨a,ta,l⟩:=d n
  obtain ⟨b,k,p⟩:=d m
  rw [l,p] at h
  rw [lt'_eq]
  refine wpS_bind (wpS_get ?_)
  rw [i]
  exact wpS_bind (wpS_lift (wpAny_attempt (ziC o ta k ⟨rfl,wpS_pure h⟩)))
noncomputable def zdU (a:Bool)(h:Heap)(b:Array Keyed):Prop:=b.toList.Pairwise fun p q=>HT.lexLt ((zat a h q.1).getD ([]:List Int)) ((zat a h p.1).getD ([]:List Int))=false
theorem zgA {c:Bool}{h:Heap}{a:Array Keyed}{n:Nat}(l:a.size=n)(k:SortedToK (zcD c h) a n):zdU c h a:=by
  unfold zdU
  rw [List.pairwise_iff_getElem]
  intro i j g f d
  have e:i < a.size:=by simpa using g
  have b:j < a.size:=by simpa using f
  have:=k i j (Nat.le_of_lt d) (by rw [←l];exact b)
  unfold KK at this
  rw [getElem?_pos a i e,getElem?_pos a j b] at this
  have this:HT.lexLt ((zat c h a[j].1).getD ([]:List Int)) ((zat c h a[i].1).getD ([]:List Int))=false:=this
  simpa using this
theorem zeU {a d:Addr} {e k:Nat} {b:Array Value} {i:List Value} {st:SortSt} {P:PySem.Fin→Shared→Prop} (c:b.size=i.length) (n:i.length < 64) (l:s.heap.get? d=some (seqObj "list" b e)) (p:s.heap.get? a=some (seqObj "list" #[] k)) (j:a≠d)
    (o:(arrOf st).Perm (b.zip i.toArray)) (q:failedOf st=none)
    (h:P (.done (.ret .none)) { s with heap:=(s.heap.update d (Obj.mapSeq fun _=>#[])).update a (Obj.mapSeq fun _=>(arrOf st).map (·.2)) }):wpAny (model prog w) A (ksk_tail a false k (.ref d) st) P E s:=by
  have m:=Heap.SameBut.update s.heap d (Obj.mapSeq fun _=>(#[]:Array Value))
  have g:(s.heap.update d (Obj.mapSeq fun _=>(#[]:Array Value))).get? a=some (seqObj "list" #[] k):=(m.2 a j).trans p
  have f:(arrOf st).size=i.length:=by rw [o.size_eq,Array.size_zip,c,List.size_toArray,Nat.min_self]
  unfold ksk_tail
  try dsimp only
  refine wpAny_bind (listUpdate_at l rfl ?_ (by rw [c,sizeLine_eq];omega) (Nat.zero_le _))
  refine wpAny_bind (wpAny_letGo ?_)
  refine wpAny_bind (seqEpoch_at g rfl ?_)
  refine wpAny_bind (listUpdate_at g rfl ?_ (Nat.zero_le _) (by rw [if_neg Bool.false_ne_true,Array.size_map,f,sizeLine_eq];omega))
  rw [q]
  simp only [bne_self_eq_false,Bool.false_eq_true,if_false]
  exact wpAny_pure h
theorem zko {md:Bool} {a u:Addr} {e J:Nat} {b:Array Value} {c:List Value} {P:PySem.Fin→Shared→Prop} (d:b.size=c.length) (g:c.length < 64) (O:A.units < cLine) (I:∀ v∈b.toList,∃ t,TN md s.heap v t) (H:s.heap.get? u=some (seqObj "list" b e)) (M:s.heap.get? a=some (seqObj "list" #[] J)) (n:a≠u)
    (h:∀ B:Array Keyed,B.Perm (b.zip c.toArray)→zdU md s.heap B→P (.done (.ret .none)) { s with heap:=(s.heap.update u (Obj.mapSeq fun _=>#[])).update a (Obj.mapSeq fun _=>B.map (·.2)) }) :
    wpAny (model prog w) A (ksk_end a false c.toArray J (.ref u) b) P E s:=by
  have f:(b.zip c.toArray).size=c.length:=by rw [Array.size_zip,d,List.size_toArray,Nat.min_self]
  unfold ksk_end
  try dsimp only
  rw [if_neg Bool.false_ne_true]
  by_cases l:c.toArray.size < 2
  · rw [if_pos l,if_pos l]
    refine wpAny_bind (wpAny_pure ?_)
    rw [StateT.run_pure]
    refine wpAny_bind (wpAny_pure ?_)
    try dsimp only
    refine zeU (st:=SortSt.mk' general' (b.zip c.toArray) #[] 7 none) d g H M n (Array.Perm.refl _) rfl (h _ (Array.Perm.refl _) ?_)
    unfold zdU
    rw [List.pairwise_iff_getElem]
    intro i j S K R
    have C:j < (b.zip c.toArray).size:=by rw [Array.length_toList] at K;exact K
    rw [List.size_toArray] at l
    rw [f] at C
    omega
  · rw [if_neg l,if_neg l]
    rw [List.size_toArray] at l
    obtain ⟨m,r,L⟩:∃ m r,b.toList=m::r:=by
      cases q:b.toList with
      | nil =>
        have:=congrArg List.length q
        rw [Array.length_toList,List.length_nil] at this
        omega
      | cons m r=>exact ⟨m,r,rfl⟩
    have F:b=(m::r).toArray:=by rw [←L,Array.toArray_toList]
    have p:=I
    rw [L] at p
    have N:wpAny (model prog w) A (keyKind' b) (fun k D=>k=tuples' true∧D=s) E s:=by
      rw [F]
      exact zjl p ⟨rfl,rfl⟩
    refine wpAny_bind (wpAny_mono N (fun k D G=>?_) fun _ _ z=>z)
    obtain ⟨rfl,rfl⟩:=G
    refine wpAny_bind (wpAny_mono (OwnTim.own_runsE (a₀:=b.zip c.toArray) (st:=SortSt.mk' (tuples' true) (b.zip c.toArray) #[] 7 none) (Q:=fun _ t=>(arrOf t).Perm (b.zip c.toArray)∧failedOf t=none∧SortedToK (zcD md _) (arrOf t) (b.zip c.toArray).size)
      (zfz O I) (Array.Perm.refl _) rfl rfl rfl (fun t o x y=>⟨o,x,y⟩) (by rw [f];omega) (by rw [f];exact g)) ?_ fun _ _ z=>z)
    rintro ⟨⟨⟩,t⟩ D ⟨rfl,o,x,y⟩
    exact zeU d g H M n o x (h _ o (zgA o.size_eq y))
end
end OwnKey
namespace L2
open PySem PySem.Spec PyProof.Rows PySem.W OwnKey
theorem ze8 {α β:Type}{f:α→β}{l m:List β}(p:l.Perm m):∀ Z:List α,m=Z.map f→∃ Z':List α,Z'.Perm Z∧l=Z'.map f:=by
  induction p with
  | nil=>intro Z e;exact ⟨Z,.refl _,e⟩
  | cons x p h =>
    intro Z e
    cases Z with
    | nil=>cases e
    | cons z Z =>
      rw [List.map_cons] at e
      obtain ⟨c,a⟩:=List.cons.inj e
      obtain ⟨Z',i,rfl⟩:=h Z a
      exact ⟨z::Z',i.cons z,by rw [List.map_cons,c]⟩
  | swap x y l =>
    intro Z e
    cases Z with
    | nil=>cases e
    | cons z Z =>
      cases Z with
      | nil=>cases e
      | cons n Z =>
        rw [List.map_cons,List.map_cons] at e
        obtain ⟨c,a⟩:=List.cons.inj e
        obtain ⟨a,b⟩:=List.cons.inj a
        exact ⟨n::z::Z,.swap _ _ _,by rw [List.map_cons,List.map_cons,c,a,b]⟩
  | trans q o g d =>
    intro Z e
    obtain ⟨Z2,j,a⟩:=d Z e
    obtain ⟨Z3,k,b⟩:=g Z2 a
    exact ⟨Z3,k.trans j,b⟩
theorem zbn:∀ {t:List Int} {a:List Value},ye (t.map V.int) a→IntsAre a t
  | [],_,.nil=>.nil
  | n::t,_,.cons h r=>by
    obtain ⟨tk,rfl⟩:=h
    exact .cons n tk (zbn r)
section
variable {X:Cx}{pins:List (Addr × Obj)}{σ:St}{H:Hp}{s:Shared}
theorem Inv.trackF {a:Addr}{o:HO}(I:Inv X pins σ H s)(f:WG X pins H a)(w:X.s₀.heap.objs.size≤a)(h:yb X.prog X.w (upd H a o) s.heap a o):Inv X pins σ (upd H a o) s:=by
  obtain ⟨y,i,_,_,g,k⟩:=f
  have l:∀ b u,X.s₀.heap.get? b=some u→b≠a:=fun b u e z=>absurd (Nat.lt_of_lt_of_le (Heap.lt_size e) (z ▸ w)) (Nat.lt_irrefl _)
  have ext:∀ b u,H b=some u→upd H a o b=some u:=fun b u e=>by rw [zm (zi e y)];exact e
  refine ⟨I.ok,I.os,I.bare,⟨I.base.keep,I.base.slot,fun b u e n m=>?_,I.base.there,fun b j e=>ext _ _ (I.base.tups b j e),fun b u v e=>ext _ _ (I.base.frzs b u v e),fun b t e=>ext _ _ (I.base.tbls b t e)⟩,I.loc,I.cell,?_,fun x c e=>?_,fun p hq=>?_,fun b u e=>?_,I.len⟩
  · rw [zm (l b u e)]
    exact I.base.free b u e n m
  · rw [zm (Ne.symm i)]
    exact I.free
  · rw [zm (g x c e)]
    exact I.freeC x c e
  · obtain ⟨e,n,r⟩:=I.pin p hq
    exact ⟨e,by rw [zm (k p hq)];exact n,r⟩
  · by_cases c:b=a
    · subst c
      rw [zo] at e
      cases e
      exact h
    · rw [zm c] at e
      exact (I.hok b u e).stay (fun _ _ _ q=>q) (fun c d=>ext _ _ d) (fun c j d=>ext _ _ d) fun c A v d=>ext _ _ d
theorem zmL {k:Bool}{P:Program}{w:World}{h:Heap}{b:Addr}{t:List Int}(ok:HOk P w H h)(e:zfO k H b t)(g:t≠[]):OwnSortT.TN k h (.ref b) t:=by
  cases k with
  | false =>
    obtain ⟨_,f,r,o,j,c,n,d⟩:=(show yb P w H h b (.tup (t.map V.int)) from ok b _ e)
    exact ⟨b,o,n,f,rfl,j,c,d,zbn r,g⟩
  | true =>
    obtain ⟨i,c,l,rfl,u,v⟩:=e
    obtain ⟨_,f,r,o,j,s,n,d⟩:=(show yb P w H h b (.tup [.int i,.ref c]) from ok b _ u)
    obtain ⟨_,a,y,z,m,A,p,B⟩:=(show yb P w H h c (.tup (l.map V.int)) from ok c _ v)
    cases r with
    | cons q r =>
      cases r with
      | cons x r =>
        cases r
        obtain ⟨tk,rfl⟩:=q
        cases x
        exact ⟨b,o,n,i,tk,c,l,rfl,j,s,d,rfl,z,p,a,m,A,B,zbn y⟩
theorem zfE:∀ {b:List V} {a:List Value},b.length=a.length→(∀ p∈b.zip a,yk p.1 p.2)→ye b a
  | [],[],_,_=>.nil
  | x::b,v::a,hl,h=>.cons (h (x,v) (.head _)) (zfE (by simpa using hl) fun p c=>h p (.tail _ c))
theorem zg9 {md:Bool}{f a:Addr}{n:Nat}{g:List Value}{F:List V}{ts:List (List Int)}{P:PySem.Fin→Shared→Prop}{E:Value→Shared→Prop}{A:Around}(rv:ye F g)(K:ts.length=g.length)(a2:g.length < 64)(a1:∀ t∈ts,t≠[])(R:A.units < cLine)
    (I:Inv X pins σ H s) (T:s.heap.get? a=some (seqObj "list" g.toArray n)) (fa:WG X pins H a) (h0:X.s₀.heap.objs.size≤a)
    (turn:∀ (i:Nat) (v:Value) (t:List Int),g[i]?=some v→ts[i]?=some t→∀ (l:List (Addr × Obj)) (H1:Hp) (U:Shared),(∀ b o,H b=some o→H1 b=some o)→Inv X (pins++l) σ H1 U →
      wpAny (model X.prog X.w) A (call (.ref f) [v]) (fun y s2=>∃ b H2,y=.ref b∧(∀ b o,H1 b=some o→H2 b=some o)∧zfO md H2 b t∧Inv X (pins++l) σ H2 s2) (fun _ _=>False) U)
    (fin:∀ (zs:List (List Int × V)) (H':Hp) (h:Shared),zs.Perm (ts.zip F)→zs.Pairwise (fun p q=>HT.lexLt q.1 p.1=false)→(∀ b o,H b=some o→H' b=some o)→H' a=none→Inv X pins σ (upd H' a (.lst (zs.map (·.2)))) h→P (.done (.ret .none)) h) :
    wpAny (model X.prog X.w) A (ksk_tree a (.ref f) false) P E s:=by
  have sl:g.length < sizeLine:=by rw [sizeLine_eq];omega
  have ha:a < s.heap.objs.size:=Heap.lt_size T
  have U:=Heap.SameBut.update s.heap a (Obj.mapSeq fun _=>(#[]:Array Value))
  obtain ⟨e1,B⟩:∃ e1,(s.heap.update a (Obj.mapSeq fun _=>(#[]:Array Value))).get? a=some (seqObj "list" #[] e1):=⟨_,get?_update_seq T fun _=>#[]⟩
  have I1:=I.own2 (b:=a) (tk:=s.toks) fa (fun c o M z=>(U.2 c M).trans z) ⟨_,B⟩
  unfold ksk_tree
  refine wpAny_bind (listItems_at T rfl ?_)
  refine wpAny_bind (listUpdate_at T rfl ?_ (by rw [List.size_toArray];omega) (Nat.zero_le _))
  refine wpAny_bind (seqEpoch_at B rfl ?_)
  refine wpAny_bind (wpAny_newTuple ?_ (by show g.length≤_;omega))
  refine wpAny_bind (wpAny_newList ?_ (Nat.zero_le _))
  refine wpAny_holding ?_
  have I2:=I1.un (t':=s.toks) (H':=H) (h':=(s.heap.update a (Obj.mapSeq fun _=>(#[]:Array Value))).push (seqObj "tuple" g.toArray 0)) (Un.kept fun _ _ q=>Heap.get?_push_of_some _ q) (I1.hok.kept fun _ _ q=>Heap.get?_push_of_some _ q)
  have I3:=I2.un (t':=s.toks) (H':=H) (h':=((s.heap.update a (Obj.mapSeq fun _=>(#[]:Array Value))).push (seqObj "tuple" g.toArray 0)).push (seqObj "list" #[] 0)) (Un.kept fun _ _ q=>Heap.get?_push_of_some _ q) (I2.hok.kept fun _ _ q=>Heap.get?_push_of_some _ q)
  have Y:((s.heap.update a (Obj.mapSeq fun _=>(#[]:Array Value))).push (seqObj "tuple" g.toArray 0)).objs.size=s.heap.objs.size+1:=by rw [size_push',Heap.size_update]
  have C:a≠((s.heap.update a (Obj.mapSeq fun _=>(#[]:Array Value))).push (seqObj "tuple" g.toArray 0)).objs.size:=by rw [Y];exact Nat.ne_of_lt (Nat.lt_succ_of_lt ha)
  refine zga (md:=md) (X:=X) (pins:=pins) (σ:=σ) (H0:=H) (H:=H) (ts:=ts) C K sl turn ⟨I3,fun _ _ z=>z,Heap.get?_push_of_some _ (Heap.get?_push_of_some _ B),⟨0,Heap.get?_push_size _ rfl⟩,fa,I2.fpOk (Nat.le_refl _) (I2.hok.fresh (Nat.le_refl _)),⟨Nat.zero_le _,fun j v J=>by simp at J⟩⟩ fun d H' h S O=>?_
  obtain ⟨e,hk⟩:=S.hk
  have k:∀ (j:Nat) (v:Value),d[j]?=some v→∃ t,ts[j]?=some t∧OwnSortT.TN md h.heap v t:=fun j v J=>by
    obtain ⟨b,t,rfl,L,N⟩:=S.ks.2 j v J
    exact ⟨t,L,zmL S.inv.hok N (a1 t (List.mem_of_getElem? L))⟩
  refine zko (md:=md) O a2 R (fun v J=>?_) hk S.ha C fun x pm m=>?_
  · obtain ⟨j,hj,rfl⟩:=List.getElem_of_mem J
    obtain ⟨t,_,N⟩:=k j d.toList[j] (by rw [←Array.getElem?_toList,List.getElem?_eq_getElem hj])
    exact ⟨t,N⟩
  · have kl:d.toList.length=g.length:=by rw [Array.length_toList];exact O
    have xl:F.length=g.length:=rv.length
    obtain ⟨Z,Q⟩:∃ Z:List (Keyed × (List Int × V)),(d.toList.zip g).zip (ts.zip F)=Z:=⟨_,rfl⟩
    have z1:Z.map (·.1)=d.toList.zip g:=by rw [←Q];exact List.map_fst_zip (by rw [List.length_zip,List.length_zip];omega)
    have z2:Z.map (·.2)=ts.zip F:=by rw [←Q];exact List.map_snd_zip (by rw [List.length_zip,List.length_zip];omega)
    have zf:∀ z∈Z,OwnSortT.TN md h.heap z.1.1 z.2.1∧yk z.2.2 z.1.2:=fun z G=>by
      rw [←Q] at G
      obtain ⟨i,hi,rfl⟩:=List.getElem_of_mem G
      rw [List.length_zip,List.length_zip,List.length_zip] at hi
      have i1:i < d.toList.length:=by omega
      have i2:i < g.length:=by omega
      have i3:i < ts.length:=by omega
      have i4:i < F.length:=by omega
      rw [List.getElem_zip,List.getElem_zip,List.getElem_zip]
      obtain ⟨t,L,N⟩:=k i d.toList[i] (by rw [←Array.getElem?_toList,List.getElem?_eq_getElem i1])
      rw [List.getElem?_eq_getElem i3] at L
      cases L
      refine ⟨N,?_⟩
      obtain ⟨u,R,r⟩:=rv.get (List.getElem?_eq_getElem i4)
      rw [List.getElem?_eq_getElem i2] at R
      cases R
      exact r
    have pl:x.toList.Perm (d.toList.zip g):=by rw [←ksk_zip];exact Array.perm_iff_toList_perm.mp pm
    obtain ⟨Z',p',ey⟩:=ze8 pl Z z1.symm
    have D:∀ z∈Z',OwnSortT.TN md h.heap z.1.1 z.2.1∧yk z.2.2 z.1.2:=fun z G=>zf z (p'.mem_iff.mp G)
    have w:(Z'.map (·.2)).Pairwise (fun p q=>HT.lexLt q.1 p.1=false):=by
      unfold zdU at m
      rw [ey,List.pairwise_map] at m
      rw [List.pairwise_map]
      refine m.imp_of_mem fun {p q} W hq hr=>?_
      rw [OwnSortT.keyTN_of (D p W).1,OwnSortT.keyTN_of (D q hq).1] at hr
      exact hr
    have eo:(x.map (·.2)).toList=Z'.map (fun z=>z.1.2):=by rw [Array.toList_map,ey,List.map_map];rfl
    have vo:ye ((Z'.map (·.2)).map (·.2)) (x.map (·.2)).toList:=by
      rw [eo,List.map_map]
      refine zfE (by rw [List.length_map,List.length_map]) fun p W=>?_
      rw [List.zip_map'] at W
      obtain ⟨z,G,rfl⟩:=List.mem_map.mp W
      exact (D z G).2
    have zl:Z'.length=g.length:=by rw [p'.length_eq,← Q,List.length_zip,List.length_zip,List.length_zip];omega
    have t1:=Heap.SameBut.update h.heap ((s.heap.update a (Obj.mapSeq fun _=>(#[]:Array Value))).push (seqObj "tuple" g.toArray 0)).objs.size (Obj.mapSeq fun _=>(#[]:Array Value))
    obtain ⟨c1,g1⟩:∃ c1,(h.heap.update ((s.heap.update a (Obj.mapSeq fun _=>(#[]:Array Value))).push (seqObj "tuple" g.toArray 0)).objs.size (Obj.mapSeq fun _=>(#[]:Array Value))).get? ((s.heap.update a (Obj.mapSeq fun _=>(#[]:Array Value))).push (seqObj "tuple" g.toArray 0)).objs.size=some (seqObj "list" #[] c1):=⟨_,get?_update_seq hk fun _=>#[]⟩
    have J1:=S.inv.own2 (tk:=h.toks) S.fk (fun c o M z=>(t1.2 c M).trans z) ⟨_,g1⟩
    have a0:=(t1.2 a C).trans S.ha
    have t2:=Heap.SameBut.update (h.heap.update ((s.heap.update a (Obj.mapSeq fun _=>(#[]:Array Value))).push (seqObj "tuple" g.toArray 0)).objs.size (Obj.mapSeq fun _=>(#[]:Array Value))) a (Obj.mapSeq fun _=>x.map (·.2))
    obtain ⟨c2,g2⟩:∃ c2,((h.heap.update ((s.heap.update a (Obj.mapSeq fun _=>(#[]:Array Value))).push (seqObj "tuple" g.toArray 0)).objs.size (Obj.mapSeq fun _=>(#[]:Array Value))).update a (Obj.mapSeq fun _=>x.map (·.2))).get? a=some (seqObj "list" (x.map (·.2)) c2):=⟨_,get?_update_seq a0 fun _=>x.map (·.2)⟩
    have J2:=J1.own2 (b:=a) (tk:=h.toks) S.fa (fun c o M z=>(t2.2 c M).trans z) ⟨_,g2⟩
    refine fin (Z'.map (·.2)) H' _ (by rw [←z2];exact p'.map _) w S.up S.fa.1 (J2.trackF S.fa h0 ⟨by rw [List.length_map,List.length_map,zl];omega,(x.map (·.2)).toList,c2,vo,?_⟩)
    rw [g2]
end
section
variable {X:Cx}{e body:Expr}{params:Arguments}{scope:Scope}{p pos kp lp:Pos}{t:TA}{te:TE}{q x:Str}{M:List Str}{cl:List (Str × Addr)}{c P:Addr}{k:Nat}
noncomputable def zlj (d:Bool)(t:TA)(te:TE):TE:=fun σ H Q=>t σ H fun e H1=>∃ (l:Addr) (a:List V) (c:List (List Int)),e=[.ref l]∧H1 l=some (.lst a)∧c.length=a.length∧a.length < 64∧(∀ t∈c,t≠[]) ∧
  (∀ (i:Nat) (y:V) (t:List Int),a[i]?=some y→c[i]?=some t→∀ H2:Hp,(∀ b o,H1 b=some o→H2 b=some o)→te (some y::σ) H2 fun z H3=>∃ b,z=.ref b∧(∀ b o,H2 b=some o→H3 b=some o)∧zfO d H3 b t) ∧
  ∀ (zs:List (List Int × V)) (D:Addr) (H':Hp),zs.Perm (c.zip a)→zs.Pairwise (fun p q=>HT.lexLt q.1 p.1=false)→(∀ b o,H1 b=some o→H' b=some o)→H' D=none→H1 D=none→Q (.ref D) (upd H' D (.lst (zs.map (·.2))))
theorem Vi {md:Bool}{a:List (Addr × Obj)}{σ:St}{H1 H2:Hp}{J:Shared}{G:Heap}{u:Value}{f B:Addr}{l:Value}{xs:List V}{n:List (List Int)}{Q:VK}(hr:yL (k+4) X.A)(S:x9 X x M scope cl)
    (h:∀ (pm P l u:Value),bindArgs (kla_fn "<lambda>" q params body scope cl pm P l) ⟨[u],[]⟩=pure [(x,u)])
    (hb:∀ f B A s H,PE (zaE X x M q scope cl f B A s H) body te) (j:∀ b o,H1 b=some o→H2 b=some o) (I2:Inv X (a++wv [f] G) σ H2 J) (hf:G.get? f=some (zax X q params body scope cl B l)) (cx:zah H2 B q)
    (F:∀ (Q':List Value→Shared→Prop) (E':Value→Shared→Prop),(∀ c d,ye xs c→Inv X (a++wv [f] G) σ H2 d→Q' c d)→wpAny (model X.prog X.w) X.A.in1 (collect u) Q' E' J)
    (a0:n.length=xs.length) (a1:xs.length < 64) (T:∀ t∈n,t≠[])
    (turn:∀ (i:Nat) (y:V) (t:List Int),xs[i]?=some y→n[i]?=some t→∀ H2:Hp,(∀ b o,H1 b=some o→H2 b=some o)→te (some y::σ) H2 fun z H3=>∃ b,z=.ref b∧(∀ b o,H2 b=some o→H3 b=some o)∧zfO md H3 b t)
    (fin:∀ (zs:List (List Int × V)) (D:Addr) (H':Hp),zs.Perm (n.zip xs)→zs.Pairwise (fun p q=>HT.lexLt q.1 p.1=false)→(∀ b o,H1 b=some o→H' b=some o)→H' D=none→H1 D=none→Q (.ref D) (upd H' D (.lst (zs.map (·.2))))) :
    wpAny (model X.prog X.w) X.A (call (.builtin "sorted") [u] [(Str.ofString "key",.ref f)]) (EP X a σ Q) X.xe J:=by
  have I:X.A.in1.in1.frames=some X.stack:=I2.ok.frames
  have hr2:yL k X.A.in1.in1:=(hr.mono (by omega:k+2≤k+4)).in1.in1
  refine call_function_entry_kw kind_sorted plain_sorted entry_sorted (ksk_s1 _ _) ?_
  unfold Builtin.«sorted»
  refine wpAny_bind (m:=checkCount "sorted" 1 1 _) (wpAny_pure ?_)
  refine wpAny_bind (F _ _ fun c d N I3=>?_)
  have Y:=N.length
  have g:H2 d.heap.objs.size=none:=I3.hok.fresh (Nat.le_refl _)
  refine wpAny_bind (wpAny_newList ?_ (by rw [sizeLine_eq];omega))
  have E:(d.heap.push (seqObj "list" c.toArray 0)).get? d.heap.objs.size=some (seqObj "list" c.toArray 0):=Heap.get?_push_size _ rfl
  have I4:=I3.un (t':=d.toks) (H':=H2) (h':=d.heap.push (seqObj "list" c.toArray 0)) (Un.kept fun _ _ e=>Heap.get?_push_of_some _ e) (I3.hok.kept fun _ _ e=>Heap.get?_push_of_some _ e)
  show wpAny _ _ _ _ _ { d with heap:=d.heap.push (seqObj "list" c.toArray 0) }
  refine wpAny_bind (wpAny_holding (wpAny_call_entry_kw slot_list_sort ⟨_,E,rfl⟩ entry_list_sort ?body (ksk_l1 _ _)))
  case body =>
    show wpAny (model X.prog X.w) X.A.in1.in1 (Builtin.«list.sort» ⟨[.ref d.heap.objs.size],[(Str.ofString "key",.ref f)]⟩) _ _ _
    rw [ksk_t1]
    refine zg9 (md:=md) (X:=X) (pins:=a++wv [f] G) (σ:=σ) (H:=H2) (ts:=n) N (by omega) (by omega) T (Nat.lt_of_le_of_lt (Nat.le_add_right _ _) hr2.units) I4 E (I3.fpOk (Nat.le_refl _) g) I3.sz (fun i v t Z ht K H3 s4 C I5=>?_) fun zs H' s' pz sz up ha I5=>⟨_,rfl,wpAny_pure ⟨_,rfl,?_⟩⟩
    · have hi:i < xs.length:=by rw [Y];exact (List.getElem?_eq_some_iff.mp Z).1
      obtain ⟨y,hy⟩:∃ y,xs[i]?=some y:=⟨_,List.getElem?_eq_getElem hi⟩
      obtain ⟨u,hu,ry⟩:=N.get hy
      rw [Z] at hu
      cases hu
      have W:=(I5.pin (f,_) (List.mem_append_right _ (List.mem_append_left _ (List.mem_append_right _ (yh (List.mem_singleton.mpr rfl) hf))))).1
      refine wpAny_call (codeAny_mono (zgx S hr2 I I5 W (cx.mono C) (h _ _ _ _) (hb f B _ s4 H3) ry (turn i y t hy ht H3 fun b o z=>C _ _ (j _ _ z))) fun r s' U=>?_)
      obtain ⟨w,rfl,v,H5,I6,R,b,rfl,L,O⟩:=U
      exact ⟨b,H5,R,L,O,I6⟩
    · refine ⟨.ref d.heap.objs.size,_,I5.unpinned,rfl,fin zs _ H' pz sz (fun b o z=>up _ _ (j _ _ z)) ha ?_⟩
      cases z:H1 d.heap.objs.size with
      | none=>rfl
      | some o=>rw [j _ _ z] at g;cases g
theorem zcw {md:Bool} (W:yL (k+4) X.A) (hg:Gl X "sorted") (N:X.mg "sorted"=none) (O:bootBuiltins "sorted"=some (.builtin "sorted")) (ha:PA X [e] t)
    (L:YH X.base X.mg c P q) (E:X.env.code=.ref c) (S:x9 X x M scope cl) (j:defaultsOf params X.env=([],[])) (hq:X.env.qual++"<lambda>"=q)
    (d:∀ (V y v u:Value),bindArgs (kla_fn "<lambda>" q params body scope cl V y v) ⟨[u],[]⟩=pure [(x,u)])
    (R:∀ f F A s H,PE (zaE X x M q scope cl f F A s H) body te)
    (he:backTo pos (starEach [e] X.env)=(false,eval e X.env)::backTo pos (starEach [] X.env):=by rfl) (z:(backTo pos (starEach [e] X.env)).any (·.1)=false:=by rfl) :
    PE X (.Call (.Name "sorted" p) [e] [⟨some "key",.Lambda params body scope lp,kp⟩] pos) (zlj md t te):=by
  intro m s σ H Q I h
  refine wpAny_Call_Name_kw (vp I hg N O ?_ (by decide) (by decide))
  refine PyProof.Rows.callWith_kw (thn (ha pos m s σ H _ I h) fun us s1 ⟨vs,H1,I1,r1,q1⟩=>PyProof.Rows.kws_cons ?_) he z
  obtain ⟨l,J,ts,rfl,Y,g,C,B,turn,fin⟩:=q1
  obtain ⟨u,rfl,ru⟩:=Wh r1
  cases ru
  refine zcu (body:=body) (scope:=scope) (clos:=cl) L E S.clos j hq I1 fun f F v H2 w r I2 T Z=>PyProof.Rows.kws_nil ?_
  obtain ⟨_,a,n,G,U⟩:J.length≤sizeLine∧∃ (a:List Value) (n:Nat),ye J a∧w.heap.get? l=some { cls:=.type "list",data:=.seq a.toArray n }:=I2.hok _ _ (r _ _ Y)
  have a0:=G.length
  have D:w.heap.IsList l a.toArray:=⟨_,U,rfl,n,rfl⟩
  refine Vi (md:=md) (H1:=H1) W S d R r I2 T Z (fun Q' E' K=>?_) g C B turn fin
  refine collect_list D (K a _ G (I2.un (t':=w.toks) (H':=H2) (Un.kept ?_) (I2.hok.kept ?_))) (by rw [sizeLine_eq];omega)
  all_goals
    intro b o q
    have i:b < w.heap.objs.size:=Heap.lt_size q
    rw [Heap.get?_update_ne _ _ _ _ (Nat.ne_of_lt i),Heap.get?_push_ne _ _ _ (Nat.ne_of_lt i)]
    exact q
end
end L2
namespace OwnKey
open PySem
section
variable {prog:Program}{w:World}{A:Around}{E:Value→Shared→Prop}{s:Shared}
theorem zaa {r:Addr}{a b c:Int}{t u v:Tok}{n:Nat}{Q:List Value→Shared→Prop}(I:A.handled=none)(G:IsRange s.heap r a b c t u v)(p:Builtin.Range.small a b c=true)(H:Builtin.Range.rangeSize a b c=n)(y:n≤2 ^ 24)
    (h:∀ (g:Heap) (tk:Nat) (d:Array Value),(∀ b o,s.heap.get? b=some o→g.get? b=some o)→ItemsOf (fun i v=>∃ t,v=.int (a+i*c) t) d n→Q d.toList { s with heap:=g,toks:=tk }):wpAny (model prog w) A (collect (.ref r)) Q E s:=by
  unfold collect
  refine wpAny_bind (wpAny_runValue (codeAny_builtin F.entry_proto_collect ?_))
  rw [Around.under_plainId F.plain_proto_collect _]
  show wpAny _ A.in1 (newList []>>=fun l=>again (.builtin "list.__iadd__" ⟨[l,.ref r],[]⟩)) _ _ s
  refine wpAny_bind (wpAny_newObj_type ?_)
  refine wpAny_pure ⟨plainId_quiet F.plain_list_iadd _,codeAny_builtin F.entry_list_iadd ?_⟩
  rw [Around.under_plainId F.plain_list_iadd _]
  show wpAny _ A.in1 (Builtin.List.listExtendWith (.ref s.heap.objs.size) (.ref r) (.ref s.heap.objs.size)) _ _ _
  have j:∀ (z:Result) (q:Shared),(∃ g tk d x,z=.ok (.ret (.ref s.heap.objs.size))∧q={ s with heap:=g,toks:=tk }∧(∀ b o,s.heap.get? b=some o→g.get? b=some o)∧g.get? s.heap.objs.size=some { cls:=.type "list",dict:=none,data:=.seq d x,slots:=#[] }∧ItemsOf (fun i v=>∃ t,v=.int (a+i*c) t) d n) →
      wants (fun v q=>wpAny (model prog w) A (match v with
        | .ref a=>do
          let o←load a
          match o.data with
          | .seq D _=>pure D.toList
          | _=>unsupported "internal:collect"
        | _=>unsupported "internal:collect") Q E q) E z q:=by
    rintro _ _ ⟨g,tk,d,x,rfl,rfl,k,C,m⟩
    show wpAny _ A (load s.heap.objs.size>>=_) _ _ _
    refine wpAny_bind (wpAny_load C ?_)
    exact wpAny_pure (h g tk d k m)
  refine wpAny_mono (wpAny_extend_range (A:=A) (R:=fun z q=>∃ g tk d x,z=.ok (.ret (.ref s.heap.objs.size))∧q={ s with heap:=g,toks:=tk }∧(∀ b o,s.heap.get? b=some o→g.get? b=some o)∧g.get? s.heap.objs.size=some { cls:=.type "list",dict:=none,data:=.seq d x,slots:=#[] }∧ItemsOf (fun i v=>∃ t,v=.int (a+i*c) t) d n)
    (s:={ s with heap:=s.heap.push { cls:=.type "list",data:=.seq ([]:List Value).toArray } }) I (Heap.get?_push_of_some _ G) p H y s.heap.objs.size _ 0 (Heap.get?_push_size _ rfl) fun g tk d x k C m=>⟨g,tk,d,x,rfl,rfl,fun b o e=>k b o (Nat.ne_of_lt (Heap.lt_size e)) (Heap.get?_push_of_some _ e),C,m⟩) (fun fin q hq=>?_) fun e q hq=>?_
  · cases fin with
    | done f=>exact j _ _ hq
    | again x=>exact ⟨hq.1,codeAny_mono hq.2 fun z J B=>j _ _ B⟩
  · exact j _ _ hq
end
end OwnKey
namespace L2
open PySem PySem.Spec PyProof.Rows PySem.W OwnKey
section
variable {X:Cx}{a body:Expr}{params:Arguments}{scope:Scope}{p p2 pos pos2 kp lp:Pos}{ta te:TE}{q x:Str}{M:List Str}{cl:List (Str × Addr)}{c P:Addr}{k:Nat}
noncomputable def zjS (ta te:TE):TE:=fun σ H Q=>ta σ H fun y H1=>∃ (j:Nat) (a:List (List Int)),y=.int (j:Int)∧j≤60∧a.length=j∧(∀ t∈a,t≠[]) ∧
  (∀ (i:Nat) (z:V) (t:List Int),((List.range j).map fun k:Nat=>V.int (k:Int))[i]?=some z→a[i]?=some t→∀ H2:Hp,(∀ b o,H1 b=some o→H2 b=some o)→te (some z::σ) H2 fun z H3=>∃ b,z=.ref b∧(∀ b o,H2 b=some o→H3 b=some o)∧zfO false H3 b t) ∧
  ∀ (zs:List (List Int × V)) (D:Addr) (H':Hp),zs.Perm (a.zip ((List.range j).map fun k:Nat=>V.int (k:Int)))→zs.Pairwise (fun p q=>HT.lexLt q.1 p.1=false)→(∀ b o,H1 b=some o→H' b=some o)→H' D=none→H1 D=none→Q (.ref D) (upd H' D (.lst (zs.map (·.2))))
theorem zgm (hr:yL (k+4) X.A) (hg:Gl X "sorted") (hm:X.mg "sorted"=none) (hv:bootBuiltins "sorted"=some (.builtin "sorted")) (G:Gl X "range") (W:X.mg "range"=none) (ha:PE X a ta)
    (L:YH X.base X.mg c P q) (O:X.env.code=.ref c) (S:x9 X x M scope cl) (D:defaultsOf params X.env=([],[])) (hq:X.env.qual++"<lambda>"=q)
    (l:∀ (pm R E u:Value),bindArgs (kla_fn "<lambda>" q params body scope cl pm R E) ⟨[u],[]⟩=pure [(x,u)])
    (C:∀ f Z A s H,PE (zaE X x M q scope cl f Z A s H) body te) (hs:starEach [a] X.env=[(false,eval a X.env)]:=by rfl)
    (he:backTo pos (starEach [.Call (.Name "range" p2) [a] [] pos2] X.env)=(false,eval (.Call (.Name "range" p2) [a] [] pos2) X.env)::backTo pos (starEach [] X.env):=by rfl) (K:(backTo pos (starEach [.Call (.Name "range" p2) [a] [] pos2] X.env)).any (·.1)=false:=by rfl) :
    PE X (.Call (.Name "sorted" p) [.Call (.Name "range" p2) [a] [] pos2] [⟨some "key",.Lambda params body scope lp,kp⟩] pos) (zjS ta te):=by
  intro i s σ H Q I h
  refine wpAny_Call_Name_kw (vp I hg hm hv ?_ (by decide) (by decide))
  refine PyProof.Rows.callWith_kw ?_ he K
  rw [he]
  show wpAny _ _ (spliced ((false,eval (.Call (.Name "range" p2) [a] [] pos2) X.env)::[])) _ _ _
  refine Calls.spliced_cons ?_
  refine Call_ (vp I G W boot_range (PyProof.Rows.callWith_type1 ?_ hs rfl))
  rw [hs]
  show wpAny _ _ (spliced ((false,eval a X.env)::[])) _ _ _
  refine Calls.spliced_cons (thn (ha i s σ H _ I h) fun v d hh9=>?_)
  obtain ⟨y,H1,I1,r1,q1⟩:=hh9
  obtain ⟨j,ts,rfl,hj,B,Y,turn,fin⟩:=q1
  obtain ⟨t,rfl⟩:=r1
  refine Calls.spliced_nil ?_
  refine call_range_1 ?_
  refine Calls.spliced_nil ?_
  have I2:Inv X i σ H1 { d with heap:=d.heap.push { cls:=.type "range",data:=.fields #[.int 0 d.toks,.int (j:Int) t,.int 1 (d.toks+1)] },toks:=d.toks+1+1 }:=I1.kept fun b o e=>Heap.get?_push_of_some _ e
  obtain ⟨r,g⟩:∃ r,d.heap.objs.size=r:=⟨_,rfl⟩
  have m:(d.heap.push { cls:=.type "range",data:=.fields #[.int 0 d.toks,.int (j:Int) t,.int 1 (d.toks+1)] }).get? r=some { cls:=.type "range",data:=.fields #[.int 0 d.toks,.int (j:Int) t,.int 1 (d.toks+1)] }:=by rw [←g];exact Heap.get?_push_size _ rfl
  have I2p:=I2.pinned (fp:=[r]) (fun b C=>by rw [List.mem_singleton.mp C];exact I1.fpOk (Nat.le_of_eq g) (I1.hok.fresh (Nat.le_of_eq g))) (fun b C=>by rw [List.mem_singleton.mp C];exact ⟨_,m,fun v z=>by cases z⟩)
  rw [g]
  refine PyProof.Rows.kws_cons ?_
  refine zcu (body:=body) (scope:=scope) (clos:=cl) L O S.clos D hq I2p fun f Z E H2 s2 U I3 hf cx=>PyProof.Rows.kws_nil ?_
  have hr2:=(I3.pin (r,_) (List.mem_append_right _ (List.mem_append_left _ (List.mem_append_right _ (yh (List.mem_singleton.mpr rfl) m))))).1
  refine wpAny_mono (Vi (md:=false) (H1:=H1) (xs:=(List.range j).map fun k:Nat=>V.int (k:Int)) (Q:=Q) hr S l C U I3 hf cx (fun Q' E' hQ=>?_) (by rw [List.length_map,List.length_range];exact B) (by rw [List.length_map,List.length_range];omega) Y turn fin) (fun v s' ⟨w,H',J,T,q'⟩=>⟨w,H',J.unpinned,T,q'⟩) fun _ _ z=>z
  refine zaa (n:=j) (by simp [hr.hd]) hr2 (small_one (by decide) (by decide) (by omega) (by omega)) (by rw [rangeSize_one];split <;> omega) (by omega) fun h' tk N kk F=>?_
  exact hQ N.toList _ (zde F) (I3.un (t':=tk) (H':=H2) (Un.kept kk) (I3.hok.kept kk))
end
end L2
namespace Dl
open PySem L2
variable [KK]
theorem AtL.map2 {F:Hp}{α:Type}{f:α→D}{g:α→V}:∀ (l:List α),(∀ z∈l,At F (f z) (g z))→AtL F (l.map f) (l.map g)
  | [],_=>.nil
  | z::l,h=>.cons (h z (.head _)) (AtL.map2 l fun y a=>h y (.tail _ a))
noncomputable def zaQ (a:List (List Int))(b:List D):List D:=(Vk a).map fun t=>b.getD (a.idxOf t) .non
theorem Vs {F:Hp}{c:List D}{b:List V}{a:List (List Int)}{zs:List (List Int × V)}(g:AtL F c b)(d:a.length=b.length)(m:a.Nodup)(p:zs.Perm (a.zip b))(s:zs.Pairwise fun p q=>HT.lexLt q.1 p.1=false) :
    AtL F (zaQ a c) (zs.map (·.2)):=by
  have e:zs.map (·.1)=Vk a:=zbM (by
    have:=p.map (·.1)
    rwa [show (a.zip b).map (·.1)=a from List.map_fst_zip (Nat.le_of_eq d)] at this) (List.pairwise_map.mpr s)
  unfold zaQ
  rw [←e,List.map_map]
  refine AtL.map2 zs fun z o=>?_
  obtain ⟨i,l,rfl⟩:=List.getElem_of_mem (p.mem_iff.mp o)
  rw [List.length_zip] at l
  have j:i < a.length:=by omega
  have r:i < b.length:=by omega
  rw [List.getElem_zip]
  show At F (c.getD (a.idxOf a[i]) .non) b[i]
  have k:a.idxOf a[i]=i:=m.idxOf_getElem i j
  rw [k]
  have t:c.length=b.length:=g.length.symm
  have h:c[i]?=some c[i]:=List.getElem?_eq_getElem (by omega)
  obtain ⟨x,f,n⟩:=g.get h
  rw [List.getElem?_eq_getElem r] at f
  cases f
  rw [List.getD_eq_getElem?_getD,h]
  exact n
end Dl
namespace Dl
open PySem L2
variable [KK]
noncomputable def zhf (g:Ev→Option D)(ρ:Ev):List D→Option (List (List Int))
  | []=>some []
  | d::ds=>(g (some d::ρ)).bind fun a=>match a with
    | .tup b=>(zfL b).bind fun t=>if t=[] then none else (zhf g ρ ds).map (t::·)
    | _=>none
theorem XO {g:Ev→Option D}{ρ:Ev}:∀ {b:List D} {a:List (List Int)},zhf g ρ b=some a→a.length=b.length∧(∀ t∈a,t≠[])∧∀ (i:Nat) (d:D) (t:List Int),b[i]?=some d→a[i]?=some t→∃ c,g (some d::ρ)=some (.tup c)∧zfL c=some t
  | [],a,h=>by
    cases h
    exact ⟨rfl,fun t e=>by (cases e),fun i d t h=>by (simp at h)⟩
  | d::b,a,h=>by
    obtain ⟨q,p,h⟩:=Option.bind_eq_some_iff.mp h
    cases q with
    | tup c =>
      obtain ⟨t,m,h⟩:=Option.bind_eq_some_iff.mp h
      split at h
      · cases h
      · rename_i f
        obtain ⟨r,l,rfl⟩:=Option.map_eq_some_iff.mp h
        obtain ⟨v,s,n⟩:=XO l
        refine ⟨by rw [List.length_cons,List.length_cons,v],fun u j=>?_,fun i o w k e=>?_⟩
        · rcases List.mem_cons.mp j with rfl | j
          · exact f
          · exact s u j
        · cases i with
          | zero=>cases k;cases e;exact ⟨c,p,m⟩
          | succ i=>exact n i o w k e
    | _=>cases h
theorem Gr.upH {F H F' H':Hp}(g:Gr F H F' H')(s:zX F H):∀ b o,H b=some o→H' b=some o:=fun b o e=>by
  cases h:F b with
  | none=>exact (g.kp b o h e).2
  | some u =>
    have:=s b u h
    rw [e] at this
    cases this
    exact g.fh _ _ (g.ff _ _ h)
noncomputable def zeZ (f g:Ev→Option D):Ev→Option (List D):=fun ρ=>(f ρ).bind fun d=>(lrD d).bind fun a=>(zhf g ρ a).bind fun b=>if b.Nodup then some (zaQ b a) else none
end Dl
namespace Dl
open PySem L2 PySem.Spec PyProof.Rows PySem.W
variable [KK]
theorem x5 {F:Hp}:∀ {t:List Int} {b:List V},AtL F (t.map D.int) b→b=t.map V.int
  | [],_,h=>by rw [h.nil_inv];rfl
  | n::t,_,h=>by
    obtain ⟨x,r,rfl,a,l⟩:=h.cons_inv
    rw [a.int_inv,x5 l]
    rfl
section
variable {X:Cx}{a body:Expr}{params:Arguments}{scope:Scope}{p p2 pos pos2 kp lp:Pos}{q x:Str}{M:List Str}{cl:List (Str × Addr)}{c P:Addr}{k:Nat}{f g:Ev→Option D}
theorem zcd (hr:yL (k+4) X.A) (hg:Gl X "sorted") (hm:X.mg "sorted"=none) (G:Gl X "range") (R:X.mg "range"=none) (ha:ED X a f)
    (L:YH X.base X.mg c P q) (N:X.env.code=.ref c) (S:x9 X x M scope cl) (B:defaultsOf params X.env=([],[])) (hq:X.env.qual++"<lambda>"=q)
    (l:∀ (pm O T u:Value),bindArgs (kla_fn "<lambda>" q params body scope cl pm O T) ⟨[u],[]⟩=pure [(x,u)])
    (hb:∀ f ca A s H,ED (zaE X x M q scope cl f ca A s H) body g) (hs:starEach [a] X.env=[(false,eval a X.env)]:=by rfl)
    (he:backTo pos (starEach [.Call (.Name "range" p2) [a] [] pos2] X.env)=(false,eval (.Call (.Name "range" p2) [a] [] pos2) X.env)::backTo pos (starEach [] X.env):=by rfl) (I:(backTo pos (starEach [.Call (.Name "range" p2) [a] [] pos2] X.env)).any (·.1)=false:=by rfl) :
    FL X (.Call (.Name "sorted" p) [.Call (.Name "range" p2) [a] [] pos2] [⟨some "key",.Lambda params body scope lp,kp⟩] pos) (zeZ f g):=by
  obtain ⟨ta,pa,ra⟩:=ha
  refine ⟨_,zgm hr hg hm Wy G R pa L N S B hq l (fun _ _ _ _ _=>(hb _ _ _ _ _).can) hs he I,fun σ ρ F H z Q s va e qq=>?_⟩
  obtain ⟨d,e1,e⟩:=Option.bind_eq_some_iff.mp e
  obtain ⟨ds,m,e⟩:=Option.bind_eq_some_iff.mp e
  obtain ⟨ts,e3,e⟩:=Option.bind_eq_some_iff.mp e
  split at e
  · rename_i nd
    cases e
    refine ra σ ρ F H d _ s va e1 fun F1 H1 v r a1=>?_
    cases d with
    | int j =>
      have m:(if 0≤j∧j≤60 then some ((List.range j.toNat).map fun k:Nat=>D.int (k:Int)) else none)=some ds:=m
      split at m
      · rename_i hj
        cases m
        have ev:=a1.int_inv
        subst ev
        obtain ⟨J,l2,l3⟩:=XO e3
        rw [List.length_map,List.length_range] at J
        have K:=va.mono r.ff
        have al:∀ F':Hp,AtL F' ((List.range j.toNat).map fun k:Nat=>D.int (k:Int)) ((List.range j.toNat).map fun k:Nat=>V.int (k:Int)):=fun F'=>AtL.map2 _ fun z _=>.int
        refine ⟨j.toNat,ts,by rw [Int.toNat_of_nonneg hj.1],by omega,J,l2,fun i y t Z ht H2 E=>?_,fun zs D H' pz sz E hD h=>?_⟩
        · rw [List.getElem?_map] at Z
          obtain ⟨i',U,rfl⟩:=Option.map_eq_some_iff.mp Z
          obtain ⟨es,eg,et⟩:=l3 i (.int (i':Int)) t (by rw [List.getElem?_map,U];rfl) ht
          have W:zX F1 H2:=fun b o z=>E _ _ (r.fh _ _ z)
          refine Xb _ (some (.int (i':Int))::ρ) F1 H2 _ _ W (fun n d' Y=>?_) eg fun F' H3 v g3 a3=>?_
          · cases n with
            | zero=>cases Y;exact ⟨_,rfl,.int⟩
            | succ n=>exact K n d' Y
          · obtain ⟨b,ys,rfl,C,w⟩:=a3.tup_inv
            rw [vx et] at w
            rw [x5 w] at C
            exact ⟨b,rfl,g3.upH W,g3.fh _ _ C⟩
        · have fD:F1 D=none:=by
            cases z:F1 D with
            | none=>rfl
            | some o=>rw [r.fh _ _ z] at h;cases h
          have g2:Gr F1 H1 F1 (upd H' D (.lst (zs.map (·.2)))):=⟨zX.refl _,fun b o z=>by rw [zm (zi z fD)];exact E _ _ (r.fh _ _ z),fun b o z1 z2=>⟨.inl z1,by rw [zm (zi z2 h)];exact E _ _ z2⟩⟩
          exact qq F1 _ D _ (r.trans g2) (zbJ r h) fD zo (Vs (al F1) (by rw [J,List.length_map,List.length_range]) nd pz sz)
      · cases m
    | _=>cases m
  · cases e
end
end Dl
namespace Dl
open PySem L2 PySem.Spec PyProof.Rows PySem.W
variable [KK]
section
variable {X:Cx}{e body:Expr}{params:Arguments}{scope:Scope}{p pos kp lp:Pos}{q x:Str}{M:List Str}{cl:List (Str × Addr)}{c P:Addr}{k:Nat}{g:Ev→Option D}{fa:Ev→Option (List D)}
noncomputable def zhr (g:Ev→Option D)(ρ:Ev)(b:List D):Option (List D):=match b with
  | [.lst ds]=>(zhf g ρ ds).bind fun a=>if a.Nodup∧ds.length < 64 then some (zaQ a ds) else none
  | _=>none
noncomputable def zhG (fa:Ev→Option (List D))(g:Ev→Option D):Ev→Option (List D):=fun ρ=>(fa ρ).bind (zhr g ρ)
theorem zgo (hr:yL (k+4) X.A) (hg:Gl X "sorted") (hm:X.mg "sorted"=none) (ha:AD X [e] fa)
    (L:YH X.base X.mg c P q) (N:X.env.code=.ref c) (S:x9 X x M scope cl) (w:defaultsOf params X.env=([],[])) (hq:X.env.qual++"<lambda>"=q)
    (h:∀ (pm R U u:Value),bindArgs (kla_fn "<lambda>" q params body scope cl pm R U) ⟨[u],[]⟩=pure [(x,u)])
    (hb:∀ f ca A s H,ED (zaE X x M q scope cl f ca A s H) body g)
    (he:backTo pos (starEach [e] X.env)=(false,eval e X.env)::backTo pos (starEach [] X.env):=by rfl) (J:(backTo pos (starEach [e] X.env)).any (·.1)=false:=by rfl) :
    FL X (.Call (.Name "sorted" p) [e] [⟨some "key",.Lambda params body scope lp,kp⟩] pos) (zhG fa g):=by
  obtain ⟨ta,pa,ra⟩:=ha
  refine ⟨_,zcw (md:=false) hr hg hm Wy pa L N S w hq h (fun _ _ _ _ _=>(hb _ _ _ _ _).can) he J,fun σ ρ F H z Q s va e qq=>?_⟩
  obtain ⟨as,e1,E⟩:=Option.bind_eq_some_iff.mp e
  unfold zhr at E
  split at E
  · rename_i G
    obtain ⟨ts,e3,e⟩:=Option.bind_eq_some_iff.mp E
    split at e
    · rename_i nd
      cases e
      refine ra σ ρ F H _ _ s va e1 fun F1 H1 vs d a1=>?_
      obtain ⟨v,r,rfl,ax,ar⟩:=a1.cons_inv
      cases ar.nil_inv
      obtain ⟨l,xs,rfl,hl,T⟩:=ax.lst_inv
      obtain ⟨l1,l2,l3⟩:=XO e3
      have O:=T.length
      have K:=va.mono d.ff
      refine ⟨l,xs,ts,rfl,d.fh _ _ hl,by omega,by omega,l2,fun i y t Y ht H2 I=>?_,fun zs D H' pz sz I hD a=>?_⟩
      · have hi:i < G.length:=by rw [←O];exact (List.getElem?_eq_some_iff.mp Y).1
        have W:G[i]?=some G[i]:=List.getElem?_eq_getElem hi
        obtain ⟨y',C,ay⟩:=T.get W
        rw [Y] at C
        cases C
        obtain ⟨es,eg,et⟩:=l3 i _ t W ht
        have V:zX F1 H2:=fun b o z=>I _ _ (d.fh _ _ z)
        refine Xb _ (some G[i]::ρ) F1 H2 _ _ V (fun n d' j=>?_) eg fun F' H3 v g3 a3=>?_
        · cases n with
          | zero=>cases j;exact ⟨_,rfl,ay⟩
          | succ n=>exact K n d' j
        · obtain ⟨b,ys,rfl,B,m⟩:=a3.tup_inv
          rw [vx et] at m
          rw [x5 m] at B
          exact ⟨b,rfl,g3.upH V,g3.fh _ _ B⟩
      · have Z:F1 D=none:=by
          cases z:F1 D with
          | none=>rfl
          | some o=>rw [d.fh _ _ z] at a;cases a
        have g2:Gr F1 H1 F1 (upd H' D (.lst (zs.map (·.2)))):=⟨zX.refl _,fun b o z=>by rw [zm (zi z Z)];exact I _ _ (d.fh _ _ z),fun b o z1 z2=>⟨.inl z1,by rw [zm (zi z2 a)];exact I _ _ z2⟩⟩
        exact qq F1 _ D _ (d.trans g2) (zbJ d a) Z zo (Vs T (by omega) nd.1 pz sz)
    · cases e
  · cases E
end
end Dl
namespace Dl
open PySem L2 PySem.Spec PyProof.Rows PySem.W
variable [KK]
noncomputable def zjk (g:Ev→Option D)(ρ:Ev):List D→Option (List (List Int))
  | []=>some []
  | d::ds=>(g (some d::ρ)).bind fun a=>match a with
    | .tup [.int i,.tup es]=>(zfL es).bind fun t=>(zjk g ρ ds).map ((i::t)::·)
    | _=>none
theorem zdL {g:Ev→Option D}{ρ:Ev}:∀ {a:List D} {b:List (List Int)},zjk g ρ a=some b→b.length=a.length∧(∀ t∈b,t≠[])∧∀ (i:Nat) (d:D) (t:List Int),a[i]?=some d→b[i]?=some t→∃ j c k,g (some d::ρ)=some (.tup [.int j,.tup c])∧zfL c=some k∧t=j::k:=by
  intro a
  induction a with
  | nil =>
    intro b h
    cases h
    exact ⟨rfl,fun t e=>by (cases e),fun i d t h=>by (simp at h)⟩
  | cons d a n =>
    intro b h
    obtain ⟨y,r,h⟩:=Option.bind_eq_some_iff.mp h
    split at h
    · rename_i j c
      obtain ⟨t,o,h⟩:=Option.bind_eq_some_iff.mp h
      obtain ⟨s,m,rfl⟩:=Option.map_eq_some_iff.mp h
      obtain ⟨w,v,p⟩:=n m
      refine ⟨by rw [List.length_cons,List.length_cons,w],fun u f=>?_,fun i q x l e=>?_⟩
      · rcases List.mem_cons.mp f with rfl | f
        · simp
        · exact v u f
      · cases i with
        | zero=>cases l;cases e;exact ⟨j,c,t,r,o,rfl⟩
        | succ i=>exact p i q x l e
    · cases h
section
variable {X:Cx}{e body:Expr}{params:Arguments}{scope:Scope}{p pos kp lp:Pos}{q x:Str}{M:List Str}{cl:List (Str × Addr)}{c P:Addr}{k:Nat}{g:Ev→Option D}{fa:Ev→Option (List D)}
noncomputable def zhp (g:Ev→Option D)(ρ:Ev)(b:List D):Option (List D):=match b with
  | [.lst ds]=>(zjk g ρ ds).bind fun a=>if a.Nodup∧ds.length < 64 then some (zaQ a ds) else none
  | _=>none
noncomputable def zhY (fa:Ev→Option (List D))(g:Ev→Option D):Ev→Option (List D):=fun ρ=>(fa ρ).bind (zhp g ρ)
theorem zhi (hr:yL (k+4) X.A) (hg:Gl X "sorted") (hm:X.mg "sorted"=none) (ha:AD X [e] fa)
    (L:YH X.base X.mg c P q) (O:X.env.code=.ref c) (S:x9 X x M scope cl) (w:defaultsOf params X.env=([],[])) (hq:X.env.qual++"<lambda>"=q)
    (h:∀ (pm U Z u:Value),bindArgs (kla_fn "<lambda>" q params body scope cl pm U Z) ⟨[u],[]⟩=pure [(x,u)])
    (hb:∀ f ca A s H,ED (zaE X x M q scope cl f ca A s H) body g)
    (he:backTo pos (starEach [e] X.env)=(false,eval e X.env)::backTo pos (starEach [] X.env):=by rfl) (K:(backTo pos (starEach [e] X.env)).any (·.1)=false:=by rfl) :
    FL X (.Call (.Name "sorted" p) [e] [⟨some "key",.Lambda params body scope lp,kp⟩] pos) (zhY fa g):=by
  obtain ⟨ta,pa,ra⟩:=ha
  refine ⟨_,zcw (md:=true) hr hg hm Wy pa L O S w hq h (fun _ _ _ _ _=>(hb _ _ _ _ _).can) he K,fun σ ρ F H z Q s va e qq=>?_⟩
  obtain ⟨as,e1,G⟩:=Option.bind_eq_some_iff.mp e
  unfold zhp at G
  split at G
  · rename_i I
    obtain ⟨ts,e3,e⟩:=Option.bind_eq_some_iff.mp G
    split at e
    · rename_i nd
      cases e
      refine ra σ ρ F H _ _ s va e1 fun F1 H1 vs d a1=>?_
      obtain ⟨v,r,rfl,ax,ar⟩:=a1.cons_inv
      cases ar.nil_inv
      obtain ⟨l,xs,rfl,hl,Y⟩:=ax.lst_inv
      obtain ⟨l1,l2,l3⟩:=zdL e3
      have R:=Y.length
      have N:=va.mono d.ff
      refine ⟨l,xs,ts,rfl,d.fh _ _ hl,by omega,by omega,l2,fun i y t hy ht H2 J=>?_,fun zs D H' pz sz J hD a=>?_⟩
      · have hi:i < I.length:=by rw [←R];exact (List.getElem?_eq_some_iff.mp hy).1
        have hd:I[i]?=some I[i]:=List.getElem?_eq_getElem hi
        obtain ⟨y',C,ay⟩:=Y.get hd
        rw [hy] at C
        cases C
        obtain ⟨j,es,us,eg,et,rfl⟩:=l3 i _ t hd ht
        have s2:zX F1 H2:=fun b o z=>J _ _ (d.fh _ _ z)
        refine Xb _ (some I[i]::ρ) F1 H2 _ _ s2 (fun n d' m=>?_) eg fun F' H3 v V a3=>?_
        · cases n with
          | zero=>cases m;exact ⟨_,rfl,ay⟩
          | succ n=>exact N n d' m
        · obtain ⟨b,ys,rfl,W,T⟩:=a3.tup_inv
          obtain ⟨v1,r1,rfl,b1,c1⟩:=T.cons_inv
          obtain ⟨v2,r2,rfl,b2,c2⟩:=c1.cons_inv
          cases c2.nil_inv
          cases b1.int_inv
          obtain ⟨c,ws,rfl,B,E⟩:=b2.tup_inv
          rw [vx et] at E
          rw [x5 E] at B
          exact ⟨b,rfl,V.upH s2,j,c,us,rfl,V.fh _ _ W,V.fh _ _ B⟩
      · have fD:F1 D=none:=by
          cases z:F1 D with
          | none=>rfl
          | some o=>rw [d.fh _ _ z] at a;cases a
        have g2:Gr F1 H1 F1 (upd H' D (.lst (zs.map (·.2)))):=⟨zX.refl _,fun b o z=>by rw [zm (zi z fD)];exact J _ _ (d.fh _ _ z),fun b o z1 z2=>⟨.inl z1,by rw [zm (zi z2 a)];exact J _ _ z2⟩⟩
        exact qq F1 _ D _ (d.trans g2) (zbJ d a) fD zo (Vs Y (by omega) nd.1 pz sz)
    · cases e
  · cases G
end
end Dl
namespace L2
open PySem PySem.Spec PyProof.Rows
theorem zb9 {X:Cx}{x:Str}{N M k:List Str}{a:Scope}{f:List (Str × Addr)}{u w:List (Str × NameKind)}(g:a.names=u)(o:X.env.scope.names=w)(r:X.N=N)
    (d:closureFor a X.env=pure f) (kind:a.kind=.function) (l:a.names.lookup x=some .local) (H:a.isCoroutine=false) (n:a.isGenerator=false) (E:f.map Prod.fst=k) (b:yM a.names u w N M k=true) (m:∀ p∈f,X.env.cells.lookup p.1=some p.2):x9 X x M a f:=by
  unfold yM at b
  simp only [Bool.and_eq_true,List.all_eq_true,decide_eq_true_eq] at b
  obtain ⟨⟨⟨⟨⟨C,I⟩,s⟩,j⟩,B⟩,t⟩:=b
  have j:M.length=N.length:=by simpa using j
  refine ⟨d,C,kind,l,H,n,fun y c h=>m (y,c) (PySem.mem_of_lookup h),fun y h=>?_,by rw [r];exact j,fun i y e v=>?_,fun i y e v=>?_,fun i y e v=>?_⟩
  · rw [g] at h
    have G:y∈k:=by
      rcases h with h | h
      · exact s _ (PySem.mem_of_lookup h) (.inl rfl)
      · exact s _ (PySem.mem_of_lookup h) (.inr rfl)
    exact xj (by rw [E];exact G)
  · unfold Vis at v
    rw [g] at v
    have D:=(List.getElem?_eq_some_iff.mp e).1
    have q:i < N.length:=by rw [←j];exact D
    have F:(M.zip N)[i]?=some (y,N[i]):=by
      rw [List.getElem?_zip_eq_some]
      exact ⟨e,List.getElem?_eq_getElem q⟩
    have:=B _ (List.mem_of_getElem? F) v
    rw [r,List.getElem?_eq_getElem q]
    exact congrArg some this.symm
  · unfold Vis at v
    rw [g] at v ⊢
    exact (t y (List.mem_of_getElem? e) v).1
  · unfold Vis at v
    rw [g] at v
    obtain ⟨_,z,A⟩:=t y (List.mem_of_getElem? e) v
    refine ⟨?_,?_⟩
    · unfold Vis;rw [o];exact z
    · show X.env.scope.names.lookup y≠_;rw [o];exact A
end L2
namespace L2
open PySem
noncomputable def zcr (o:Obj):Obj:=match o.data with
  | .freed=>{ cls:=.none,data:=.freed }
  | _=>o
theorem zbV (o:Obj)(q:Str):zcr o≠vv q:=by
  unfold zcr vv
  intro h
  split at h
  · have:=congrArg Obj.cls h
    cases this
  · rename_i a
    exact a (by rw [h])
noncomputable def xR (h:Heap)(a:List (Addr × Str)):Heap:={ h with objs:=h.objs.mapIdx fun i o=>match a.lookup i with
  | some q=>vv q
  | none=>zcr o }
theorem zbx (h:Heap)(a:List (Addr × Str)):(xR h a).objs.size=h.objs.size:=by
  unfold xR
  simp
theorem wK (h:Heap)(a:List (Addr × Str))(b:Addr):(xR h a).objs[b]?=(h.objs[b]?).map fun o=>match a.lookup b with
  | some q=>vv q
  | none=>zcr o:=by
  unfold xR
  simp
theorem zbl {h:Heap}{a:List (Addr × Str)}{P:Addr}{q:Str}(e:(xR h a).objs[P]?=some (vv q)):a.lookup P=some q:=by
  rw [wK] at e
  obtain ⟨o,_,e⟩:=Option.map_eq_some_iff.mp e
  cases z:a.lookup P with
  | none=>rw [z] at e;exact absurd e (zbV o q)
  | some b =>
    rw [z] at e
    have:=congrArg Obj.cls e
    have:Value.str b 0=Value.str q 0:=this
    cases this
    rfl
theorem zaU {h:Heap}{a:List (Addr × Str)}{b:Addr}(f:a.lookup b=none):(xR h a).get? b=h.get? b:=by
  unfold Heap.get?
  rw [wK,f]
  cases z:h.objs[b]? with
  | none=>rfl
  | some o =>
    obtain ⟨c,d,e,g⟩:=o
    cases e <;> rfl
theorem zel {h:Heap}{a:List (Addr × Str)}{b:Addr}{q:Str}(c:a.lookup b=some q):(xR h a).get? b=none:=by
  unfold Heap.get?
  rw [wK,c]
  cases z:h.objs[b]? with
  | none=>rfl
  | some o=>rfl
theorem zdk {h:Heap}{a:List (Addr × Str)}{b:Addr}{o:Obj}(e:(xR h a).get? b=some o):a.lookup b=none∧h.get? b=some o:=by
  cases z:a.lookup b with
  | none=>exact ⟨rfl,by rw [←zaU z];exact e⟩
  | some q=>rw [zel z] at e;cases e
end L2
namespace L2
open PySem PySem.Spec PyProof.Rows PySem.W
noncomputable abbrev TL:=List (Addr × Addr × Str)
noncomputable def yq (tl:TL):List (Addr × Str):=tl.map fun t=>(t.2.1,t.2.2)
theorem Vd {tl:TL}{P:Addr}{q:Str}(h:(yq tl).lookup P=some q):∃ c,(c,P,q)∈tl:=by
  unfold yq at h
  induction tl with
  | nil=>cases h
  | cons t r a =>
    rw [List.map_cons,List.lookup_cons] at h
    cases z:P == t.2.1 with
    | true =>
      rw [z] at h
      cases h
      rw [eq_of_beq z]
      exact ⟨t.1,.head _⟩
    | false =>
      rw [z] at h
      obtain ⟨c,b⟩:=a h
      exact ⟨c,.tail _ b⟩
noncomputable def xH (tl:TL)(H:Hp):Hp:=fun b=>match (yq tl).lookup b with
  | some q=>some (.tbl #[.str q 0])
  | none=>H b
theorem yB {tl:TL}{H:Hp}{b:Addr}(h:(yq tl).lookup b=none):xH tl H b=H b:=by unfold xH;rw [h]
theorem wJ {tl:TL}{H:Hp}{b:Addr}{q:Str}(h:(yq tl).lookup b=some q):xH tl H b=some (.tbl #[.str q 0]):=by unfold xH;rw [h]
theorem zd4 {P:Program}{w:World}{K:PySem.W.Frag}{L mb:Str→Option Value}{CX:CXT}{k:Nat}{fa a:Addr}{fd:FuncData}{x:Str}{sp:Sp}{f:Shared}{S:List Value}{U:List Int}{tl:TL}
    (hq:tl.all (fun t=>(yq tl).lookup t.2.1 == some t.2.2)=true) (hT:∀ t∈tl,CodeHd f.heap t.1 t.2.1∧f.heap.get? t.2.1=some (tabObj #[])) (hnK:noTabs K=true)
    (a9:∃ bm B,L "__builtins__"=some (.ref bm)∧bm≠builtinsNs∧f.heap.get? bm=some B∧B.cls=.type "module"∧B.dict=some builtinsNs∧B.data=.plain)
    (KX:K.In f.heap) (O:f.heap.Ns mainGlobals L) (l:f.heap.Ns builtinsNs mb) (b7:∀ x:Str,x≠"__name__"→mb x=bootBuiltins x) (a5:f.heap.NoLimit) (hg:f.gens=#[])
    (ha:f.heap.get? a=some { cls:=.type "list",data:=.seq S.toArray }) (hi:IntsAre S U) (hl:U.length≤sizeLine) (hr:yL k callerA)
    (F:∀ i:Heap,K.In i→i.Ns mainGlobals L→(∀ t∈tl,YH i L t.1 t.2.1 t.2.2)→zJ P w K L i CX k fa fd [x] sp) (N:∀ (s:Shared) (u:Value),BindsTo s fd ⟨[u],[]⟩ [(x,u)])
    (c5:∀ H:Hp,SqL K H a (U.map V.int)→sp [.ref a] H (fun v _=>v=.bl true) fun _ _ _=>False)
    (c0:∀ H e j,CX [] H f (fun _ _ _=>False) e j→False) :
    codeAny (model P w) callerA (.call (.ref fa) ⟨[.ref a],[]⟩) (fun r j=>r=.ok (.ret (.bool true))∧OldK f.heap j.heap∧j.os=f.os∧AllBare j.gens) f:=by
  have rv:=zee hi
  have a4:=hi.length
  -- a table is no other thing
  have I:∀ {b:Addr} {q:Str},(yq tl).lookup b=some q→f.heap.get? b=some (tabObj #[]):=fun {b q} h=>by
    obtain ⟨c,hc⟩:=Vd h
    exact (hT _ hc).2
  have M:∀ {b:Addr} {o:Obj},f.heap.get? b=some o→o≠tabObj #[]→(yq tl).lookup b=none:=fun {b o} e n=>by
    cases z:(yq tl).lookup b with
    | none=>rfl
    | some q=>rw [I z] at e;cases e;exact absurd rfl n
  have aT:(yq tl).lookup a=none:=M ha (fun z=>by cases z)
  have G:∀ H:Hp,(∀ b,H b=none∨∃ o xs,H b=some (.frz o (.lst xs)))→SqL K H a (U.map V.int)→HOk P w H f.heap→(∀ b,H b≠none→b=a)→(H a≠none→K.lookup a=none) →
      codeAny (model P w) callerA (.call (.ref fa) ⟨[.ref a],[]⟩) (fun r j=>r=.ok (.ret (.bool true))∧OldK f.heap j.heap∧j.os=f.os∧AllBare j.gens) f:=by
    intro H hO hS Y hA hK
    have g:∀ {b:Addr} {o:Obj},f.heap.get? b=some o→o≠tabObj #[]→H b=none→(xR (zdr f.heap H) (yq tl)).get? b=some o:=fun e n1 n=>by
      rw [zaU (M e n1)]
      exact zgN e n
    have Q:∀ {b:Addr} {o:Obj},f.heap.get? b=some o→(∀ ys st,o.data≠.seq ys st)→H b=none:=fun {b o} e d=>by
      cases q:H b with
      | none=>rfl
      | some u =>
        have R:b=a:=hA b (by rw [q];simp)
        subst R
        rw [ha] at e;cases e
        exact absurd rfl (d _ _)
    have A:∀ {b:Addr} {m:Str→Option Value},f.heap.Ns b m→(xR (zdr f.heap H) (yq tl)).Ns b m:=fun {b m} ⟨o,es,ep,e,d,r⟩=>⟨o,es,ep,g e (fun z=>by rw [z] at d;cases d) (Q e (fun ys st z=>by rw [d] at z;cases z)),d,r⟩
    have a0:K.In (xR (zdr f.heap H) (yq tl)):=fun b o e=>g (KX b o e) (fun z=>by
      have J:=List.all_eq_true.mp hnK (b,o) (mem_of_lookupK e)
      subst z
      exact absurd (show false=true from J) Bool.false_ne_true) (by
      cases q:H b with
      | none=>rfl
      | some u =>
        have R:b=a:=hA b (by rw [q];simp)
        subst R
        rw [hK (by rw [q];simp)] at e;cases e)
    have hM:Mod K L (xR (zdr f.heap H) (yq tl)):=⟨a0,A O,⟨mb,A l,b7⟩,let ⟨mc,h1,J⟩:=a5;⟨mc,A h1,J⟩⟩
    have X:HOk P w (xH tl H) f.heap:=fun b o e=>by
      cases z:(yq tl).lookup b with
      | some q =>
        rw [wJ z] at e
        cases e
        exact ⟨#[],I z,trivial,fun c6 c hc=>by cases hc⟩
      | none =>
        rw [yB z] at e
        rcases hO b with y | ⟨B,xs,y⟩
        · rw [y] at e;cases e
        · rw [y] at e
          cases e
          exact Y b _ y
    have b8:Bs (xR (zdr f.heap H) (yq tl)) f.heap (xH tl H):=by
      refine ⟨fun b o e=>?_,fun P q e=>wJ (zbl e)⟩
      obtain ⟨e1,e2⟩:=zdk e
      have:=ziN e2
      rw [yB e1]
      exact this
    have a6:∀ t∈tl,YH (xR (zdr f.heap H) (yq tl)) L t.1 t.2.1 t.2.2:=fun t ht=>by
      have a8:=beq_iff_eq.mp (List.all_eq_true.mp hq t ht)
      obtain ⟨h1,J⟩:=hT t ht
      refine ⟨?_,?_,?_⟩
      · obtain ⟨o,us,C,tf,p,tg,a7,E,tt,e,r1,r2,r⟩:=h1
        exact ⟨o,us,C,tf,p,tg,a7,E,tt,g e (fun z=>by rw [z] at r1;cases r1) (Q e (fun ys st z=>by rw [r2] at z;cases z)),r1,r2,r⟩
      · rw [wK]
        have b0:=Heap.lt_size J
        have a1:t.2.1 < (zdr f.heap H).objs.size:=by rw [zaW];exact b0
        rw [Array.getElem?_eq_getElem a1,a8]
        rfl
      · obtain ⟨bm,B,b1,b2,b3,b4,b5,T⟩:=a9
        refine ⟨bm,B,b1,b2,?_,?_,g b3 (fun z=>by rw [z] at T;cases T) (Q b3 (fun ys st z=>by rw [T] at z;cases z)),b4,b5,T⟩
        · intro z
          obtain ⟨o,es,ep,e,d,_⟩:=O
          rw [z,e] at b3
          cases b3
          rw [T] at d
          cases d
        · intro z
          rw [z,J] at b3
          cases b3
          cases T
    have b9:SqL K (xH tl H) a (U.map V.int):=by
      rcases hS with (h | ⟨o,h⟩) | h
      · exact .inl (.inl (by rw [yB aT];exact h))
      · exact .inl (.inr ⟨o,by rw [yB aT];exact h⟩)
      · exact .inr h
    have e0:zh8 P w K L (xR (zdr f.heap H) (yq tl)) callerA [] f (xH tl H):=⟨rfl,hM,b8,Nat.le_of_eq ((zbx _ _).trans (zaW _ _)),trivial,fun b l=>absurd (show b∈([]:List Addr) from l) (by simp),X,.of_eq hg⟩
    refine codeAny_mono ((F _ a0 (A O) a6).run callerA [] f (xH tl H) ⟨[.ref a],[]⟩ [.ref a] [.ref a] _ _ hr e0 (N f (.ref a)) (.cons rfl .nil) (c5 _ b9)) fun r j h=>?_
    cases r with
    | error e=>exact (c0 _ e j h).elim
    | ok fl =>
      cases fl with
      | next=>exact False.elim h
      | brk=>exact False.elim h
      | cont=>exact False.elim h
      | ret u =>
        obtain ⟨v,H',os,a3,un,D,r',q⟩:=h
        have q':v=.bl true:=q
        subst q'
        obtain rfl:u=Value.bool true:=r'
        refine ⟨rfl,?_,os,a3⟩
        have a2:∀ b o,f.heap.get? b=some o→(yq tl).lookup b=none→j.heap.get? b=some o:=fun b o e z=>by
          cases q:H b with
          | none=>exact un.keep b o e (by rw [yB z];exact q) (by intro z;exact absurd (show b∈([]:List Addr) from z) (by simp)) (by simp)
          | some u =>
            rcases hO b with y | ⟨B,xs,y⟩
            · rw [q] at y;cases y
            · have z2:=un.frzs b B _ (by rw [yB z];exact y)
              obtain ⟨e1,_⟩:=Y b _ y
              obtain ⟨e2,_⟩:=D b _ z2
              rw [e] at e1;cases e1
              exact e2
        have Z:∀ b q,(yq tl).lookup b=some q→∃ W:Array Value,j.heap.get? b=some { cls:=.none,data:=.fields W }:=fun b q z=>by
          obtain ⟨W,e,_⟩:=D b _ (un.tbls b _ (wJ z))
          exact ⟨W,e⟩
        refine ⟨fun b o e=>?_,fun b o e=>?_⟩
        · cases z:(yq tl).lookup b with
          | none=>exact .inl (a2 b o e z)
          | some q =>
            obtain ⟨W,R⟩:=Z b q z
            obtain ⟨c,hc⟩:=Vd z
            obtain ⟨⟨oc,us,C,tf,p,tg,a7,E,tt,c1,c2,c3,c4,_⟩,J⟩:=hT _ hc
            rw [J] at e
            cases e
            exact .inr (.inl ⟨⟨c,oc,us,c1,c2,c3,c4⟩,rfl,#[],W,rfl,by rw [R];simp⟩)
        · cases z:(yq tl).lookup b with
          | none=>exact ⟨o,a2 b o e z⟩
          | some q =>
            obtain ⟨W,R⟩:=Z b q z
            exact ⟨_,R⟩
  cases hk:K.lookup a with
  | some o =>
    have e:=KX a o hk
    rw [ha] at e
    cases e
    refine G (fun _=>none) (fun _=>.inl rfl) (.inr ⟨_,S.toArray,_,hk,rfl,rfl,rfl,by rw [List.size_toArray,a4];exact hl,by simpa using rv⟩) (fun b u z=>by have z':(none:Option HO)=some u:=z;cases z') (fun b z=>absurd rfl z) fun z=>absurd rfl z
  | none =>
    refine G (fun b=>if b=a then some (.frz { cls:=.type "list",data:=.seq S.toArray } (.lst (U.map V.int))) else none) (fun b=>?_) (.inl (.inr ⟨{ cls:=.type "list",data:=.seq S.toArray },if_pos rfl⟩)) (fun b u z=>?_) (fun b z=>?_) fun _=>hk
    · by_cases l:b=a
      · exact .inr ⟨_,_,if_pos l⟩
      · exact .inl (if_neg l)
    · by_cases l:b=a
      · have z':=(if_pos l).symm.trans z
        cases z'
        subst l
        exact ⟨ha,by rw [List.length_map];exact hl,S,_,rv,ha⟩
      · have z':=(if_neg l).symm.trans z
        cases z'
    · by_cases l:b=a
      · exact l
      · exact absurd (if_neg l) z
theorem walk_ofL {l:PySem.W.OpenLaw}{n k:Nat}{q:Program}{c:List Str}{XP:(Str→Option Value)→Heap→Prop}{YP:World→Heap→Prop}{d:DefRec}{K:Params→PySem.W.Frag}{CX:World→CXT}{sp:World→Sp}{x:Str}{tl:TL}
    (S:l.most=some n) (B:n≤sizeLine) (E:d.params.defaults=[]) (R:yL k callerA)
    (O:∀ (w:World) (h:Heap),YP w h→(K w.params).In h)
    (hq:tl.all (fun t=>(yq tl).lookup t.2.1 == some t.2.2)=true) (hnK:∀ w:World,noTabs (K w.params)=true)
    (M:∀ (w:World) (p:ExcName→Option Value) (g z:Str→Option Value) (h:Heap),(K w.params).In h→Top q (PySem.W.looseW q c) p g z h→∀ t∈tl,CodeHd h t.1 t.2.1∧h.get? t.2.1=some (tabObj #[]))
    (F:∀ (w:World) (g:Str→Option Value) (r:Addr) (h:Heap),(K w.params).In h→h.Ns mainGlobals g→g d.name=some (.ref r) →
      ∃ A:FuncData,(∀ (s:Shared) (u:Value),BindsTo s A ⟨[u],[]⟩ [(x,u)]) ∧
        ∀ b:Heap,(K w.params).In b→b.Ns mainGlobals g→(∀ t∈tl,YH b g t.1 t.2.1 t.2.2)→zJ l.prog w (K w.params) g b (CX w) k r A [x] (sp w))
    (J:∀ (w:World) (H:Hp) (a:Addr) (y:List Int),y.length≤n→SqL (K w.params) H a (y.map V.int)→sp w [.ref a] H (fun v _=>v=.bl true) fun _ _ _=>False)
    (I:∀ (w:World) (H:Hp) (s:Shared) (e:Value) (D:Shared),CX w [] H s (fun _ _ _=>False) e D→False) :
    PySem.W.WalkO q c XP YP l.row.toRowW d [] (fun f L=>PySem.call f L):=by
  refine Att.attach_call S E fun w s₀ U g z r o Z cd T a L y G Y ho hd W C m j i X=>?_
  have KX:=O w _ Y
  obtain ⟨A,P,N⟩:=F w g r _ KX G.T.g C
  exact zd4 hq (M w _ g z _ KX G.T) (hnK w) G.T.bmain KX G.T.g G.T.b G.T.builtins G.T.nolimit X m j (Nat.le_trans i B) R N P (fun H Q=>J w H a y i Q) fun H e D=>I w H U e D
end L2
namespace L2
open PySem PySem.Spec PyProof.Rows
noncomputable def Itv (K:PySem.W.Frag)(a:Addr)(n:Nat):It :=
  ⟨fun i H=>∃ b x,SqL K H a b∧b.length=n∧b.reverse[i]?=some x,fun i H x H'=>H'=H∧∀ b,SqL K H a b→b.reverse[i]?=some x,fun i _=>n≤i⟩
theorem zgF {P:Program}{w:World}{K:PySem.W.Frag}{tg:Expr}(a it:Addr)(n:Nat):zhj P w K tg (Itv K a n) [it] it (fun i h=>i≤n∧h.IsRevIter it a ((n:Int) - 1 - (i:Int))) where
  mem:=by simp
  obj:=fun i h st b hb=>by
    have e:b=it:=by simpa using hb
    subst e
    obtain ⟨_,o,e,c,d⟩:=st
    exact ⟨o,e,fun v z=>by rw [d] at z;cases z⟩
  keep:=fun i h h' st k=>⟨st.1,st.2.at fun o e=>k it (by simp) o e⟩
  item:=by
    intro X hP hw hK hc i pins s σ H E I hf st hg
    subst hP hw hK
    obtain ⟨xs,x,hq,hn,hx⟩:=hg
    obtain ⟨its,rv,p,hz⟩:=I.list hq
    have hi:i < n:=by
      have:=(List.getElem?_eq_some_iff.mp hx).1
      rw [List.length_reverse] at this
      omega
    have hx':xs[n - 1 - i]?=some x:=by
      rw [List.getElem?_reverse (by omega),hn] at hx
      exact hx
    obtain ⟨u,hu,ru⟩:=rv.get hx'
    obtain ⟨f0,f1,f2,f3,f4,f5⟩:=hf it (by simp)
    have ej:((n:Int) - 1 - (i:Int))=((n - 1 - i:Nat):Int):=by omega
    have st2:=st.2
    rw [ej] at st2
    refine wpAny_pyNext_rev_item st2 p.isList (x:=u) (by simpa using hu) fun h' st' sb=>?_
    have I1:Inv X pins σ H { s with heap:=h' }:=I.turned (t':=s.toks) (fun b o hb e=>(sb.2 b hb).trans e) f0 f1 f3 f4 f5
    have st3:h'.IsRevIter it a ((n:Int) - 1 - ((i+1:Nat):Int)):=by
      have e2:((n - 1 - i:Nat):Int) - 1=(n:Int) - 1 - ((i+1:Nat):Int):=by omega
      rw [←e2]
      exact st'
    obtain ⟨o,e,c,d⟩:=id st'
    exact ⟨u,rfl,zer (s:={ s with heap:=h' }) e c d (by decide) ⟨x,H,I1,ru,⟨rfl,fun ys hy=>by rw [I.list_inj hy hq];exact hx⟩,⟨hi,st3⟩,fun b hb=>(hf b hb).1⟩⟩
  done:=by
    intro X hP hw hK hc i pins s σ H E I hf st hg
    subst hP hw hK
    have hg:n≤i:=hg
    obtain ⟨f0,f1,f2,f3,f4,f5⟩:=hf it (by simp)
    have ej:((n:Int) - 1 - (i:Int))=-1:=by have:=st.1;omega
    have st2:=st.2
    rw [ej] at st2
    exact wpAny_pyNext_rev_end (I.ok.hd hc) st2 fun h' eb=>⟨rfl,I.turned (t':=s.toks) (fun b o hb e=>eb b o hb e) f0 f1 f3 f4 f5⟩
  self:=fun _ _ _ _ _ st h=>wpAny_pyIter_revIter st.2 h
noncomputable def zmk (K:PySem.W.Frag)(ta:TE):TI:=fun σ H R=>ta σ H fun x H1=>∃ a b,x=.ref a∧SqL K H1 a b∧R (Itv K a b.length) H1
theorem zka {X:Cx} {C a:Expr} {ta:TE} {p k:Pos} (D:Gl X "reversed") (r:X.mg "reversed"=none) (j:bootBuiltins "reversed"=some (.type "reversed")) (B:PE X a ta) (m:starEach [a] X.env=[(false,eval a X.env)]:=by rfl) :
    PI X C (.Call (.Name "reversed" p) [a] [] k) (zmk X.K ta):=by
  intro c s σ H R I h
  refine Call_ (vp I D r j (PyProof.Rows.callWith_type1 ?_ m rfl))
  rw [m]
  show wpAny _ _ (spliced ((false,eval a X.env)::[])) _ _ _
  refine Calls.spliced_cons (thn (B c s σ H _ I h) fun v f hh9=>?_)
  obtain ⟨x,H1,I1,z,A⟩:=hh9
  obtain ⟨t,g,rfl,u,q⟩:=A
  cases z
  obtain ⟨d,n,w,E⟩:=I1.list u
  refine Calls.spliced_nil ?_
  refine call_reversed_list w.isList ?_
  have y:d.toArray.size=g.length:=by rw [List.size_toArray,← n.length]
  refine wpAny_pyIter_revIter (l:=t) (i:=((d.toArray.size:Nat):Int) - 1) ⟨_,Heap.get?_push_size _ rfl,rfl,rfl⟩ ?_
  refine ⟨f.heap.objs.size,[f.heap.objs.size],_,_,H1,rfl,I1.kept (t':=f.toks) fun b o e=>Heap.get?_push_of_some _ e,zgF t _ g.length,⟨Nat.zero_le _,_,Heap.get?_push_size _ rfl,rfl,?_⟩,fun b j=>?_,q⟩
  · rw [y]
    show Data.fields #[.ref t,rawInt ((g.length:Int) - 1)]=Data.fields #[.ref t,rawInt ((g.length:Int) - 1 - ((0:Nat):Int))]
    simp
  · have e:b=f.heap.objs.size:=by simpa using j
    subst e
    exact I1.fpOk (Nat.le_refl _) (I1.hok.fresh (Nat.le_refl _))
end L2
namespace Dl
open PySem L2 PySem.Spec PyProof.Rows
variable [KK]
theorem zlB {K:PySem.W.Frag}{F:Hp}{p:Addr}{a:List V}{f:List D}(h:F p=some (.lst a))(j:AtL F f a):ziD (Itv K p a.length) F f.reverse:=by
  intro i F2 H2 c e
  have q:SqL K H2 p a:=SqL.of (e _ _ (c _ _ h))
  refine ⟨fun k=>?_,fun d m=>?_⟩
  · show a.length≤i
    rw [j.length,k,List.length_reverse]
    exact Nat.le_refl _
  · obtain ⟨x,g,l⟩:=j.reverse.get m
    refine ⟨⟨a,x,q,rfl,g⟩,fun y H3 b=>?_⟩
    obtain ⟨rfl,b⟩:=b
    have:=b a q
    rw [g] at this
    cases this
    exact ⟨F2,.refl e,l.mono c⟩
theorem zlE {X:Cx} {y a:Expr} {p c:Pos} {f:Ev→Option D} (z:Gl X "reversed") (j:X.mg "reversed"=none) (x:ED X a f) (u:starEach [a] X.env=[(false,eval a X.env)]:=by rfl) :
    ID X y (.Call (.Name "reversed" p) [a] [] c) (zmj f):=by
  obtain ⟨t,k,r⟩:=x
  refine ⟨_,zka z j zbe k u,fun σ ρ F H A R s i e q=>?_⟩
  obtain ⟨d,m,b⟩:=Option.bind_eq_some_iff.mp e
  refine r σ ρ F H d _ s i m fun F1 H1 v g o=>?_
  unfold revD at b
  split at b <;> cases b
  obtain ⟨l,n,rfl,h,w⟩:=o.lst_inv
  exact ⟨l,n,rfl,SqL.of (g.fh _ _ h),q F1 H1 _ g (zlB h w)⟩
end Dl
namespace L2
open PySem PySem.Spec PyProof.Rows PySem.W
section
variable {P:Program}{w:World}{K:PySem.W.Frag}{mg:Str→Option Value}{base:Heap}
theorem Fun.okC {x a:Str}{g:Stmt}{f:Addr}{i:FuncData}{N m:List Str}{k:Nat}{o:Sp}{c:Addr}(e:i.code=.ref c)(F:Fun K x a g f i)(S:xr N m (zw g))(l:∀ b H Q E,o b H Q E→b.length=m.length)
    (d:∀ (A:Around) (outer:List Env) (s:Shared) (H:Hp) (b:List V) (Q:VK) (E:XK),yL k (A.deeper (envOfC a (zw g) s.heap.objs.size f (.ref c)))→o b H Q E →
      ∃ t,PSs (wS CX0 P w K mg base N a (zw g) f (.ref c) A outer s H E).nox (yC g) t∧t { nx:=fun _ H'=>Q .non H',rt:=Q } (start N b) H):zJ P w K mg base CX0 (k+1) f i m o:=by
  obtain ⟨B,z,kV,y,C,D,j,ct,v,rfl,r,p⟩:=F.ex
  have e:j=.ref c:=e
  subst e
  refine zil r p S l fun A outer s H b Q E u n=>?_
  obtain ⟨t,h,q⟩:=d A outer s H b Q E u n
  exact ⟨t,h.nox,q⟩
end
theorem tab_mk {K:Frag}{x:Str}{f c P:Addr}{oc od o1 d1 fd sl vs s1}(a:nsIn K mainGlobals x=some (some (.ref f)))(l:K.lookup f=some ⟨oc,od,.func fd,sl⟩)(hc:fd.code=.ref c)(cl:K.lookup c=some ⟨o1,d1,.fields vs,s1⟩)(hv:vs[11]?=some (.ref P)):tabIn K x=some (c,P):=by
  unfold tabIn
  rw [a]
  dsimp only
  rw [l]
  dsimp only
  rw [hc]
  dsimp only
  rw [cl]
  dsimp only
  rw [hv]
end L2
namespace Dl
open PySem L2 PySem.Spec PyProof.Rows
variable [KK]
theorem zdW {P:Program}{w:World}{K:PySem.W.Frag}{u:Str→Option Value}{i:Heap}{x b:Str}{j:Stmt}{f:Addr}{m:FuncData}{N ps:List Str}{k:Nat}{g:SE→Ctl}{c:Addr}(o:m.code=.ref c)(Fu:Fun K x b j f m)(S:xr N ps (zw j))
    (C:∀ (A:Around) (outer:List Env) (s:Shared) (H:Hp) (E:XK),yL k (A.deeper (PyProof.Rows.envOfC b (zw j) s.heap.objs.size f (.ref c)))→SDs (wS CX0 P w K u i N b (zw j) f (.ref c) A outer s H E).nox (yC j) g) :
    zJ P w K u i CX0 (k+1) f m ps (spD ps.length (fnD N.length g)):=by
  refine Fu.okC o S (fun G H Q E h=>?_) fun A outer s H G Q E D h=>?_
  · obtain ⟨n,d,F,y,_,a,_⟩:=h
    rw [a.length];exact y
  · obtain ⟨n,d,F,y,z,a,e,q⟩:=h
    obtain ⟨t,p,r⟩:=C A outer s H E D
    refine ⟨t,p,r F H F H _ _ _ (zab z a) ?_⟩
    unfold fnD at e
    cases l:g (n.map .v++List.replicate (N.length - n.length) .no) with
    | rt J=>rw [l] at e;cases e;exact fun F' H' v g B=>q F' H' v g B
    | nx ρ=>rw [l] at e;cases e;exact fun F' H' σ I=>q F' H' _ I.gr .non
    | bk ρ=>rw [l] at e;cases e
    | ct ρ=>rw [l] at e;cases e
    | no=>rw [l] at e;cases e
end Dl
namespace Dl
open PySem L2
variable [KK]
theorem zmK {E:XK}{d:Nat→Addr}{X:Cx}{a b:Expr}{c:Pos}{i:Operator}{g:Ev→Option Nat}{f:Ev→Option D}(h:XE E d X a g)(m:ED X b f):XE E d X (.BinOp a i b c) g:=by
  obtain ⟨t,p,r⟩:=h
  obtain ⟨u,k,_⟩:=m
  exact ⟨_,zdp (r:=fun _ _ _ _=>False) (fun _ _ _ _ _ _ _ _ _ _ _ _ h=>h.elim) p k,fun σ ρ F H j Q s l e w=>r σ ρ F H j _ s l e w⟩
end Dl
namespace L2
open PySem PySem.Spec PyProof.Rows
noncomputable def tOrL (K:PySem.W.Frag)(ta c:TE):TE:=fun σ H Q=>ta σ H fun x H1=>∃ a b,x=.ref a∧SqL K H1 a b∧if b.isEmpty=true then c σ H1 Q else Q (.ref a) H1
theorem zle {X:Cx}{a b:Expr}{rest:List Expr}{pos:Pos}{ta tb:TE}(ha:PE X a ta)(hb:PE X (.BoolOp .Or (b::rest) pos) tb):PE X (.BoolOp .Or (a::b::rest) pos) (tOrL X.K ta tb):=by
  intro pins s σ H Q I h
  refine BoolOp_or (thn (ha pins s σ H _ I h) fun v s1 hh9=>?_)
  obtain ⟨x,H1,I1,r1,q1⟩:=hh9
  obtain ⟨l,xs,rfl,hx,q1⟩:=q1
  cases r1
  obtain ⟨its,r,pl,hz⟩:=I1.list hx
  have hlen:=r.length
  refine wpAny_truthy_list pl.isList (by simp only [List.size_toArray]; have : sizeLine < 2 ^ 62 := by decide
                                         omega) ?_
  rw [zdq r]
  have I2:=I1.tok (s1.toks+1+1)
  cases c:xs.isEmpty with
  | true =>
    rw [c,if_pos rfl] at q1
    exact hb pins _ σ H1 Q I2 q1
  | false =>
    rw [c,if_neg Bool.false_ne_true] at q1
    exact ⟨.ref l,H1,I2,rfl,q1⟩
end L2
namespace Dl
open PySem L2
variable [KK]
noncomputable def eOrL (f g:Ev→Option D):Ev→Option D:=fun ρ=>(f ρ).bind fun d=>match d with
  | .lst a=>if a.isEmpty=true then g ρ else some (.lst a)
  | _=>none
theorem zkI {X:Cx}{a b:Expr}{rest:List Expr}{i:Pos}{f g:Ev→Option D}(E:ED X a f)(p:ED X (.BoolOp .Or (b::rest) i) g):ED X (.BoolOp .Or (a::b::rest) i) (eOrL f g):=by
  obtain ⟨ta,r,o⟩:=E
  obtain ⟨G,u,t⟩:=p
  refine ⟨_,zle r u,fun σ ρ F H z Q s m e q=>?_⟩
  obtain ⟨d,w,e⟩:=Option.bind_eq_some_iff.mp e
  refine o σ ρ F H d _ s m w fun F1 H1 v h n=>?_
  cases d with
  | lst j =>
    obtain ⟨l,k,rfl,y,C⟩:=n.lst_inv
    have B:k.isEmpty=j.isEmpty:=by
      have:=C.length
      cases k <;> cases j <;> first | rfl | simp at this
    refine ⟨l,k,rfl,SqL.of (h.fh _ _ y),?_⟩
    rw [B]
    have e:(if j.isEmpty=true then g ρ else some (.lst j))=some z:=e
    cases c:j.isEmpty with
    | true =>
      rw [c,if_pos rfl] at e
      rw [if_pos rfl]
      exact t σ ρ F1 H1 z Q h.fh (m.mono h.ff) e fun F2 H2 v x A=>q F2 H2 v (h.trans x) A
    | false =>
      rw [c,if_neg Bool.false_ne_true] at e
      cases e
      rw [if_neg Bool.false_ne_true]
      exact q F1 H1 _ h n
  | _=>cases e
end Dl
namespace Mz
open PySem Dl
noncomputable abbrev Tie:=Int × Int
noncomputable def ltP (s t:Tie):Prop:=s.1 < t.1∨(s.1=t.1∧s.2 < t.2)
noncomputable instance (s t:Tie):Decidable (ltP s t):=by unfold ltP;infer_instance
end Mz
namespace Mz
open Dl
noncomputable def zdy (c k:Int):Int :=
  let a:=(c % 2147483647+977*k+1)*48271 % 2147483647
  let b:=a*a % 2147483629
  (b+40692*(k+3))*69621 % 2147483647 / 8
noncomputable def adj (c:List Tie)(a b:Int):Prop:=(a,b)∈c∨(b,a)∈c
inductive zg8 (ts:List Tie) (p:Int):Nat→Int→Prop
  | zero:zg8 ts p 0 p
  | step {k:Nat} {a b:Int}:zg8 ts p k a→adj ts a b→zg8 ts p (k+1) b
theorem zlb {P:Nat→Prop}:∀ k,P k→∃ j,P j∧∀ i,P i→j≤i:=by
  intro k
  induction k using Nat.strongRecOn with
  | _ k b =>
    intro h
    by_cases c:∃ i,i < k∧P i
    · obtain ⟨i,a,d⟩:=c
      exact b i a d
    · exact ⟨k,h,fun i a=>Nat.le_of_not_lt fun z=>c ⟨i,z,a⟩⟩
noncomputable def Within (a:List Tie)(p:Int)(k:Nat)(v:Int):Prop:=∃ j,j≤k∧zg8 a p j v
theorem zlr {n:Nat}{i:Int}(a:0≤i)(b:i < n):L2.ixN n i=some i.toNat:=by
  unfold L2.ixN
  rw [if_pos a,if_pos b]
theorem zho {α:Type}{a:List α}{i:Int}{x:α}(b:0≤i)(h:a[i.toNat]?=some x):L2.atI a i=some x:=by
  have:=(List.getElem?_eq_some_iff.mp h).1
  unfold L2.atI
  rw [zlr b (by omega)]
  exact h
theorem zhg {α:Type}(a:List α)(c b:Option Int):(zdu a c b).length≤a.length:=by
  unfold zdu
  rw [List.length_take,List.length_drop]
  omega
theorem zgX {a b:List D}(h:a.length+b.length≤1000):vA (.lst a) (.lst b)=some (.lst (a++b)):=by
  show (if lim (a.length+b.length)=true then _ else none)=_
  rw [if_pos (zhs h)]
theorem yZ {m:Bool}{i:Nat}{f:Ev→Option D}{ρ ρ':SE}{d:D}(h:vEv m f ρ=some d)(a:ρ.set i (.v d)=ρ':=by rfl):yu m i f ρ=.nx ρ':=by
  unfold yu
  rw [h,← a]
theorem zij {f:Ev→Option D}{ρ:SE}{d:D}(h:f (visG ρ)=some d):zO f ρ=.rt d:=by
  unfold zO
  rw [h]
theorem ziK {a b:Int}:neD (.int a) (.int b)=some (.bl (!decide (a=b))):=rfl
theorem VW {a m x:Int}(h:0 < m)(b:a % m=x):0≤x∧x < m:=by
  subst b
  exact ⟨Int.emod_nonneg _ (by omega),Int.emod_lt_of_pos _ h⟩
theorem zgn {a b:Int}:Ze (.int a) (.int b)=some (.bl (decide (a=b))):=rfl
theorem ziG {a b:Bool}:Ze (.bl a) (.bl b)=some (.bl (decide (a=b))):=rfl
theorem zge {a b:PySem.Str}:Ze (.str a) (.str b)=some (.bl (decide (a=b))):=rfl
theorem zcN {a b:Int}:vA (.int a) (.int b)=some (.int (a+b)):=rfl
section
variable {ρ:Ev}{f g h:Ev→Option D}{a:Ev→Option (List D)}{t u:Ev→Option Bool}{d e x y z:D}{ds es:List D}{b c:Bool}
theorem zcJ:ze ρ=some []:=rfl
theorem ya (b:f ρ=some d)(c:a ρ=some ds):za f a ρ=some (d::ds):=by unfold za;rw [b,c];rfl
theorem wn {n:Nat}{p:List D→Option D}(b:a ρ=some ds)(c:p ds=some d)(e:ds.length=n:=by rfl):zh n p a ρ=some d:=by
  unfold zh
  rw [b,Option.bind_some,if_pos e,c]
theorem yE {k:D→D→Option D}(a:f ρ=some x)(b:g ρ=some y)(c:k x y=some z):zj k f g ρ=some z:=by unfold zj;rw [a,b];exact c
theorem VD (a:f ρ=some (.bl b)):tOf f ρ=some b:=by unfold tOf;rw [a];rfl
theorem zh0 (a:t ρ=some false)(b:u ρ=some c):Xt t u ρ=some c:=by unfold Xt;rw [a];exact b
end
end Mz
namespace Dl
open PySem L2
noncomputable def tFs (a:List Addr):TA:=fun _ H Q=>Q (a.map V.ref) H
noncomputable def tSel (X:Cx)(E:XK)(tc:TE)(t:TA):TE:=fun σ H Q=>tc σ H fun v H1=>∃ (CX:CXT) (k:Nat) (f:Addr) (a:FuncData) (c:List Str) (b:Sp),v=.ref f∧zJ X.prog X.w X.K X.mg X.base CX k f a c b∧yL k X.A∧PySem.W.keepIn X.K (.ref f)=true∧vH X.K a c []∧Yw CX X E∧t σ H1 fun d H2=>b d H2 Q E
section
variable {X:Cx}{ce e:Expr}{es:List Expr}{pos:Pos}{E:XK}{tc:TE}{t:TA}
theorem zce (m:PE X ce tc)(w:PA X (e::es) t)(b:eval (.Call ce (e::es) [] pos) X.env=(do callWith pos (← eval ce X.env) [] (backTo pos (starEach (e::es) X.env)) (backToKw pos (keywordEach [] X.env))))
    (o:starEach (e::es) X.env=(false,eval e X.env)::starEach es X.env) (c:(backTo pos (starEach es X.env)).any (·.1)=false):PE X (.Call ce (e::es) [] pos) (tSel X E tc t):=by
  intro a s σ H Q I h
  rw [b]
  refine wpAny_bind (thn (m a s σ H _ I h) fun u g p=>?_)
  obtain ⟨v,H1,I1,r,CX,k,f,A,D,G,rfl,F,n,i,j,l,q⟩:=p
  cases r
  refine PySem.W.callWith_K (h₀:=X.base) I1.ok.mod.kin i (thn (w pos a g σ H1 _ I1 q) fun B z d=>?_) o c
  obtain ⟨C,H2,I2,y,x⟩:=d
  exact ⟨I2.kIn,zhP F n j .nil l I2 y (by rw [List.append_nil];exact x)⟩
theorem y6:PA X [] (tFs []):=z5
theorem zy {x:Str} {p:Pos} {f:Addr} {a:List Addr} (d:X.mg x=some (.ref f)) (h:PA X es (tFs a)) (e:Gl X x:=by rfl) (c:(x == ("__debug__":Str))=false:=by decide)
    (b:starEach (.Name x p::es) X.env=(false,eval (.Name x p) X.env)::starEach es X.env:=by rfl):PA X (.Name x p::es) (tFs (f::a)):=zr (yo (v:=.ref f) e d rfl c) h b
variable [KK]
noncomputable def zdv (m:Nat)(d:List (List D→Option D))(b:Ev→Option D)(c:Ev→Option (List D)):Ev→Option D:=fun ρ=>((b ρ).bind asI).bind fun i=>if 0≤i then (d[i.toNat]?).bind fun p=>(c ρ).bind fun a=>if a.length=m then p a else none else none
noncomputable def zhv (m:Nat)(d:List (List D→Option Nat))(b:Ev→Option D)(c:Ev→Option (List D)):Ev→Option Nat:=fun ρ=>((b ρ).bind asI).bind fun i=>if 0≤i then (d[i.toNat]?).bind fun p=>(c ρ).bind fun a=>if a.length=m then p a else none else none
inductive zc0 (X:Cx) (m:Nat):List Addr→List (List D→Option D)→Prop where
  | nil:zc0 X m [] []
  | cons {k j:Nat} {f:Addr} {fd:FuncData} {ps:List Str} {p:List D→Option D} {fs:List Addr} {qs:List (List D→Option D)}:zJ X.prog X.w X.K X.mg X.base CX0 j f fd ps (spD m p)→yL k X.A→PySem.W.keepIn X.K (.ref f)=true→vH X.K fd ps []→j≤k→zc0 X m fs qs→zc0 X m (f::fs) (p::qs)
theorem zc0.at {m:Nat}{a:List Addr}{b:List (List D→Option D)}(h:zc0 X m a b):∀ {i:Nat} {p:List D→Option D},b[i]?=some p→∃ (f:Addr) (k:Nat) (c:FuncData) (ps:List Str),a[i]?=some f∧zJ X.prog X.w X.K X.mg X.base CX0 k f c ps (spD m p)∧yL k X.A∧PySem.W.keepIn X.K (.ref f)=true∧vH X.K c ps []:=by
  induction h with
  | nil=>intro i p e;cases e
  | cons F n g j l t d =>
    intro i p e
    cases i with
    | zero=>cases e;exact ⟨_,_,_,_,rfl,F.mono l,n,g,j⟩
    | succ i=>exact d e
theorem zfC {m:Nat}{ls:List Expr}{a:List Addr}{b:Expr}{p1 p2:Pos}{j:Ev→Option D}{h:TE}(t:RE h j)(o:a.length≤1000){σ:St}{ρ:Ev}{F H:Hp}{Q:VK}(s:zX F H)(r:VAt F ρ σ){i:Nat}{f:Addr}(x:j ρ=some (.int i))(y:a[i]?=some f)
    (q:∀ F' H',Gr F H F' H'→Q (.ref f) H'):tOp (rIx X.K) (zj8 (tFs a)) h σ H Q:=by
  refine ⟨by rw [List.length_map,sizeLine_eq];omega,fun p g=>?_⟩
  have k:Gr F H F (upd H p (.lst (a.map V.ref))):=Gr.hide s g _
  refine t σ ρ F _ _ _ k.fh r x fun F' H' v l n=>?_
  have c:F p=none:=by
    cases e:F p with
    | none=>rfl
    | some u=>rw [s _ _ e] at g;cases g
  obtain ⟨A,w⟩:=l.kl (fun B z=>by cases z) c zo
  have d:=n.int_inv
  subst d
  exact .inl ⟨p,_,_,_,rfl,rfl,SqL.of w,zi7 (by rw [List.getElem?_map,y];rfl),q _ _ (k.trans l)⟩
theorem vM {m:Nat}{a:List Expr}{x:List Addr}{J:List (List D→Option D)}{b:Expr}{h c:Pos}{C:Ev→Option D}{I:Ev→Option (List D)}(w:PA X a (tFs x))(hq:zc0 X m x J)(M:ED X b C)(ha:AD X (e::es) I)(n:x.length≤1000:=by exact Nat.le_of_ble_eq_true rfl)(hs:VF b:=by exact fun _ _=>rfl)
    (z:eval (.Call (.Subscript (.List a h) b c) (e::es) [] pos) X.env=(do callWith pos (← eval (.Subscript (.List a h) b c) X.env) [] (backTo pos (starEach (e::es) X.env)) (backToKw pos (keywordEach [] X.env))):=by rfl)
    (he:starEach (e::es) X.env=(false,eval e X.env)::starEach es X.env:=by rfl) (t:(backTo pos (starEach es X.env)).any (·.1)=false:=by rfl):ED X (.Call (.Subscript (.List a h) b c) (e::es) [] pos) (zdv m J C I):=by
  obtain ⟨tb,pb,Z⟩:=M
  obtain ⟨ta,S,W⟩:=ha
  refine ⟨_,zce (E:=E0) (ziq zeM (Za w) pb hs) S z he t,fun σ ρ F H d Q s G e q=>?_⟩
  obtain ⟨i,r,l⟩:=Option.bind_eq_some_iff.mp e
  obtain ⟨K,e0,r⟩:=Option.bind_eq_some_iff.mp r
  split at l <;> try cases l
  rename_i N
  obtain ⟨p,L,T⟩:=Option.bind_eq_some_iff.mp l
  obtain ⟨B,O,u⟩:=Option.bind_eq_some_iff.mp T
  split at u <;> try cases u
  rename_i w
  have o:K=.int i:=by cases K <;> cases r <;> rfl
  subst o
  obtain ⟨k,rfl⟩:=Int.eq_ofNat_of_zero_le N
  obtain ⟨f,j,fd,ps,R,Fo,hr,V,Y⟩:=hq.at L
  refine zfC (X:=X) (ls:=a) (b:=b) (m:=m) (p1:=h) (p2:=c) Z n s G e0 R fun F1 H1 y=>⟨CX0,j,f,fd,ps,_,rfl,Fo,hr,V,Y,zkB,?_⟩
  refine W σ ρ F1 H1 B _ y.fh (G.mono y.ff) O fun F2 H2 vs A P=>?_
  exact ⟨B,d,F2,w,A.fh,P,u,fun F' H' v g U=>q _ _ _ ((y.trans A).trans g) U⟩
inductive zjQ (E:XK) (cl:Nat→Addr) (X:Cx) (m:Nat):List Addr→List (List D→Option Nat)→Prop where
  | nil:zjQ E cl X m [] []
  | cons {k j:Nat} {f:Addr} {fd:FuncData} {ps:List Str} {p:List D→Option Nat} {fs:List Addr} {qs:List (List D→Option Nat)}:zJ X.prog X.w X.K X.mg X.base (Air X.prog X.w) j f fd ps (spX cl m p)→yL k X.A→PySem.W.keepIn X.K (.ref f)=true→vH X.K fd ps []→j≤k→zjQ E cl X m fs qs→zjQ E cl X m (f::fs) (p::qs)
theorem zjQ.at {b:Nat→Addr}{m:Nat}{a:List Addr}{c:List (List D→Option Nat)}(h:zjQ E b X m a c):∀ {i:Nat} {p:List D→Option Nat},c[i]?=some p→∃ (f:Addr) (k:Nat) (d:FuncData) (ps:List Str),a[i]?=some f∧zJ X.prog X.w X.K X.mg X.base (Air X.prog X.w) k f d ps (spX b m p)∧yL k X.A∧PySem.W.keepIn X.K (.ref f)=true∧vH X.K d ps []:=by
  induction h with
  | nil=>intro i p e;cases e
  | cons F o j l n t g =>
    intro i p e
    cases i with
    | zero=>cases e;exact ⟨_,_,_,_,rfl,F.mono n,o,j,l⟩
    | succ i=>exact g e
theorem XJ {B:Nat→Addr}{m:Nat}{a:List Expr}{u:List Addr}{I:List (List D→Option Nat)}{b:Expr}{g c:Pos}{A:Ev→Option D}{G:Ev→Option (List D)}(V:Yw (Air X.prog X.w) X E)(t:PA X a (tFs u))(hq:zjQ E B X m u I)(L:ED X b A)(ha:AD X (e::es) G)(l:u.length≤1000:=by exact Nat.le_of_ble_eq_true rfl)(hs:VF b:=by exact fun _ _=>rfl)
    (x:eval (.Call (.Subscript (.List a g) b c) (e::es) [] pos) X.env=(do callWith pos (← eval (.Subscript (.List a g) b c) X.env) [] (backTo pos (starEach (e::es) X.env)) (backToKw pos (keywordEach [] X.env))):=by rfl)
    (he:starEach (e::es) X.env=(false,eval e X.env)::starEach es X.env:=by rfl) (q:(backTo pos (starEach es X.env)).any (·.1)=false:=by rfl):XE E B X (.Call (.Subscript (.List a g) b c) (e::es) [] pos) (zhv m I A G):=by
  obtain ⟨tb,Z,Y⟩:=L
  obtain ⟨ta,R,U⟩:=ha
  refine ⟨_,zce (E:=E) (ziq zeM (Za t) Z hs) R x he q,fun σ ρ F H d Q s C e w=>?_⟩
  obtain ⟨i,o,h⟩:=Option.bind_eq_some_iff.mp e
  obtain ⟨J,e0,o⟩:=Option.bind_eq_some_iff.mp o
  split at h <;> try cases h
  rename_i M
  obtain ⟨p,K,S⟩:=Option.bind_eq_some_iff.mp h
  obtain ⟨z,N,r⟩:=Option.bind_eq_some_iff.mp S
  split at r <;> try cases r
  rename_i t
  have n:J=.int i:=by cases J <;> cases o <;> rfl
  subst n
  obtain ⟨k,rfl⟩:=Int.eq_ofNat_of_zero_le M
  obtain ⟨f,j,fd,ps,P,Fo,hr,T,W⟩:=hq.at K
  refine zfC (X:=X) (ls:=a) (b:=b) (m:=m) (p1:=g) (p2:=c) Y l s C e0 P fun F1 H1 v=>⟨_,j,f,fd,ps,_,rfl,Fo,hr,T,W,V,?_⟩
  refine U σ ρ F1 H1 z _ v.fh (C.mono v.ff) N fun F2 H2 vs y O=>?_
  exact ⟨z,d,F2,t,y.fh,O,r,w.grow (v.trans y)⟩
end
set_option genInjectivity false in
set_option genSizeOf false in
set_option genCtorIdx false in
structure Row where
  x:Str
  ps:List Str
  ex:List Str
  st:Stmt
noncomputable abbrev Row.N (r:Row):List Str:=r.ps++r.ex
noncomputable def Row.scB (r:Row):Bool:=decide ((zw r.st).kind=.function∧(zw r.st).isCoroutine=false∧(zw r.st).isGenerator=false∧r.N.Nodup∧(∀ x∈r.ps,(zw r.st).names.lookup x=some .local∨(zw r.st).names.lookup x=some .cell)∧∀ y∈(zw r.st).names,y.2≠.free)
theorem Row.sc {r:Row}(h:r.scB=true):xr r.N r.ps (zw r.st):=by
  obtain ⟨a,b,c,d,e,f⟩:=of_decide_eq_true h
  exact ⟨a,b,c,d,List.take_left' rfl,e,f⟩
theorem zcB {α:Type}{p:α→Prop}{l:List α}{d:α}(h:∀ x∈l,p x)(a:p d)(i:Nat):p (l.getD i d):=by
  rw [List.getD_eq_getElem?_getD]
  cases e:l[i]? with
  | none=>exact a
  | some y=>exact h y (List.mem_of_getElem? e)
noncomputable def Dx (K:PySem.W.Frag)(d:Str→Option Value)(b:List (Str × Addr))(r:Row):Prop:=∃ f a,Def K d r.x r.st r.ps f a∧∀ c,b.lookup r.x=some c→a.code=.ref c
set_option genInjectivity false in
set_option genSizeOf false in
set_option genCtorIdx false in
structure KR (b:Bool):Prop where
  h:b=true
set_option genInjectivity false in
set_option genSizeOf false in
set_option genCtorIdx false in
structure UR {α:Type} (a b:α):Prop where
  h:a=b
theorem zlW {l:List Str}(h:decide l.Nodup=true):l.Nodup:=of_decide_eq_true h
section
variable [KK]{X:Cx}{x:Str}{elt iter c:Expr}{tp:Pos}{scope:Scope}{cl:List (Str × Addr)}{pos:Pos}{fi:Ev→Option (List D)}{ft:Ev→Option Bool}{fe:Ev→Option D}{rn dn:List (Str × NameKind)}{cn N:List Str}
theorem zmG (h:KR (decide (x::X.N).Nodup))(e:X.calm=true)(b:ID X (.Name x tp) iter fi)(d:(relabel scope X.env).names=rn)(f:X.env.scope.names=dn)(g:X.N=N)(j:UR (closureFor scope X.env) (pure cl))(c:scope.kind=.function)(o:cl.map Prod.fst=cn)(k:KR (yM scope.names rn dn N X.N cn))(n:∀ p∈cl,X.env.cells.lookup p.1=some p.2)
    (a:∀ s₀ H₀ ex pn,Loc (v7 X [x] X.N scope cl s₀ H₀ ex pn).env.scope x∧(v7 X [x] X.N scope cl s₀ H₀ ex pn).env.scope.names.lookup x=some .local) (l:∀ s₀ H₀ ex pn,ED (v7 X [x] X.N scope cl s₀ H₀ ex pn) elt fe)
    (m:∀ x,foldedSetIterable iter X.env x=pure x):FL X (.ListComp elt [⟨.Name x tp,iter,[],0⟩] scope pos) (fLC fi b1 xJ fe) :=
  zcj (L:=[x]) (M:=X.N) e (vZ d f g j.h c o k.h n) b gs1 rb1 (fun _ _ _ _=>z3 (i:=0) (zlW h.h) rfl (a _ _ _ _).1 (.inr (a _ _ _ _).2)) l m
theorem zmI (j:KR (decide (x::X.N).Nodup))(f:X.calm=true)(b:ID X (.Name x tp) iter fi)(e:(relabel scope X.env).names=rn)(g:X.env.scope.names=dn)(h:X.N=N)(k:UR (closureFor scope X.env) (pure cl))(d:scope.kind=.function)(q:cl.map Prod.fst=cn)(l:KR (yM scope.names rn dn N X.N cn))(o:∀ p∈cl,X.env.cells.lookup p.1=some p.2)
    (a:∀ s₀ H₀ ex pn,Loc (v7 X [x] X.N scope cl s₀ H₀ ex pn).env.scope x∧(v7 X [x] X.N scope cl s₀ H₀ ex pn).env.scope.names.lookup x=some .local) (r:∀ s₀ H₀ ex pn,TD (v7 X [x] X.N scope cl s₀ H₀ ex pn) c ft) (m:∀ s₀ H₀ ex pn,ED (v7 X [x] X.N scope cl s₀ H₀ ex pn) elt fe)
    (n:∀ x,foldedSetIterable iter X.env x=pure x):FL X (.ListComp elt [⟨.Name x tp,iter,[c],0⟩] scope pos) (fLC fi b1 ft fe) :=
  zeF (L:=[x]) (M:=X.N) f (vZ e g h k.h d q l.h o) b gs1 rb1 (fun _ _ _ _=>z3 (i:=0) (zlW j.h) rfl (a _ _ _ _).1 (.inr (a _ _ _ _).2)) r m n
theorem zlu {i:Nat}{y:Str}{e a:Pos}(t:KR (decide (x::X.N).Nodup))(k:X.N.Nodup)(f:X.N[i]?=some y)(b:Loc X.env.scope y)(o:X.calm=true)(h:ID X (.Name x tp) iter fi)(n:(relabel scope X.env).names=rn)(q:X.env.scope.names=dn)(s:X.N=N)(u:UR (closureFor scope X.env) (pure cl))(g:scope.kind=.function)(v:cl.map Prod.fst=cn)(w:KR (yM scope.names rn dn N X.N cn))(r:∀ p∈cl,X.env.cells.lookup p.1=some p.2)
    (d:∀ s₀ H₀ ex pn,Loc (v7 X [x] X.N scope cl s₀ H₀ ex pn).env.scope x∧(v7 X [x] X.N scope cl s₀ H₀ ex pn).env.scope.names.lookup x=some .local) (j:∀ s₀ H₀ ex pn,ED (v7 X [x] X.N scope cl s₀ H₀ ex pn) elt fe)
    (l:∀ x,foldedSetIterable iter X.env x=pure x) (c:swapsWith (.ListComp elt [⟨.Name x tp,iter,[],0⟩] scope pos) (some (.Name y e)) a.line X.env=pure true) (m:X.fn y=true∨X.env.scope.names.lookup y=some .local):FLS X i (.Assign [.Name y e] (.ListComp elt [⟨.Name x tp,iter,[],0⟩] scope pos) a) (fLC fi b1 xJ fe) :=
  zbB (L:=[x]) (M:=X.N) k f b o (vZ n q s u.h g v w.h r) h gs1 rb1 (fun _ _ _ _=>z3 (i:=0) (zlW t.h) rfl (d _ _ _ _).1 (.inr (d _ _ _ _).2)) j l c m
theorem zlH {i:Nat}{y:Str}{f a:Pos}(u:KR (decide (x::X.N).Nodup))(l:X.N.Nodup)(g:X.N[i]?=some y)(b:Loc X.env.scope y)(q:X.calm=true)(j:ID X (.Name x tp) iter fi)(o:(relabel scope X.env).names=rn)(r:X.env.scope.names=dn)(t:X.N=N)(v:UR (closureFor scope X.env) (pure cl))(h:scope.kind=.function)(w:cl.map Prod.fst=cn)(z:KR (yM scope.names rn dn N X.N cn))(s:∀ p∈cl,X.env.cells.lookup p.1=some p.2)
    (e:∀ s₀ H₀ ex pn,Loc (v7 X [x] X.N scope cl s₀ H₀ ex pn).env.scope x∧(v7 X [x] X.N scope cl s₀ H₀ ex pn).env.scope.names.lookup x=some .local) (A:∀ s₀ H₀ ex pn,TD (v7 X [x] X.N scope cl s₀ H₀ ex pn) c ft) (k:∀ s₀ H₀ ex pn,ED (v7 X [x] X.N scope cl s₀ H₀ ex pn) elt fe)
    (m:∀ x,foldedSetIterable iter X.env x=pure x) (d:swapsWith (.ListComp elt [⟨.Name x tp,iter,[c],0⟩] scope pos) (some (.Name y f)) a.line X.env=pure true) (n:X.fn y=true∨X.env.scope.names.lookup y=some .local):FLS X i (.Assign [.Name y f] (.ListComp elt [⟨.Name x tp,iter,[c],0⟩] scope pos) a) (fLC fi b1 ft fe) :=
  zib (L:=[x]) (M:=X.N) l g b q (vZ o r t v.h h w z.h s) j gs1 rb1 (fun _ _ _ _=>z3 (i:=0) (zlW u.h) rfl (e _ _ _ _).1 (.inr (e _ _ _ _).2)) A k m d n
end
theorem td_b [KK]{X:Cx}{op:BoolOp}{es:List Expr}{pos:Pos}{f:Ev→Option Bool}(h:WD X (.BoolOp op es pos) f):TD X (.BoolOp op es pos) f:=zmX h
theorem zfZ [KK]{X:Cx}{P:Program}{w:World}{K:PySem.W.Frag}{mg:Str→Option Value}{base:Heap}{x:Str}{j k m:Nat}{f:Addr}{fd:FuncData}{ps:List Str}{st:Stmt}{p:List D→Option D}{e:Expr}{es:List Expr}{pp pos:Pos}{fa:Ev→Option (List D)}(F:zJ P w K mg base CX0 j f fd ps (spD m p))(hr:yL k X.A)(hj:j≤k)(d:Def K mg x st ps f fd)(hX:X.prog=P∧X.w=w∧X.K=K∧X.mg=mg∧X.base=base)(hg:Gl X x)
    (ha:AD X (e::es) fa) (hdb:(x == ("__debug__":Str))=false) (he:starEach (e::es) X.env=(false,eval e X.env)::starEach es X.env) (hpl:(backTo pos (starEach es X.env)).any (·.1)=false) :
    ED X (.Call (.Name x pp) (e::es) [] pos) (zh m p fa):=by
  obtain ⟨rfl,rfl,rfl,rfl,rfl⟩:=hX
  exact zt F hr hg d ha hj hdb he hpl
theorem Dx_cons {K:PySem.W.Frag}{b:Str→Option Value}{a:List (Str × Addr)}{r:Row}{c:List Row}(h:Dx K b a r)(t:∀ r∈c,Dx K b a r):∀ d∈r::c,Dx K b a d:=List.forall_mem_cons.mpr ⟨h,t⟩
theorem Z_cons {K:PySem.W.Frag}{x:Str}{l:List Str}(h:PySem.W.nsIn K mainGlobals x=some none)(t:∀ y∈l,PySem.W.nsIn K mainGlobals y=some none):∀ y∈x::l,PySem.W.nsIn K mainGlobals y=some none:=List.forall_mem_cons.mpr ⟨h,t⟩
theorem mkX {K:PySem.W.Frag}{h:Heap}{t:Str→Option Value}{g:List (Str × Addr)}{x:Str}{d:Stmt}{o ex:List Str}{f:Addr}{v kV s j m ct:Value}{u i:Option Addr}{w:Array (Option Value)}(X:K.In h)(G:h.Ns mainGlobals t)(a:PySem.W.nsIn K mainGlobals x=some (some (.ref f)))
    (l:K.lookup f=some ⟨v,u,.func (PySem.W.fnOf x x (wH d) (yC d) (zw d) .none kV s j i m ct),w⟩) (c:PySem.W.codeIn K m x=true) (k:PySem.W.keepIn K (.ref f)=true)
    (b:∀ (kV n j:Value) (i:Option Addr) (q ct:Value) (p:List Value),p.length=o.length→bindArgs (PySem.W.fnOf x x (wH d) (yC d) (zw d) .none kV n j i q ct) ⟨p,[]⟩=pure (o.zip p)) (e:g.lookup x=none∨∃ c,g.lookup x=some c∧m=.ref c):Dx K t g ⟨x,o,ex,d⟩ :=
  ⟨f,PySem.W.fnOf x x (wH d) (yC d) (zw d) .none kV s j i m ct,⟨zdB l c k,(zdB l c k).binds b,PySem.W.mg_of X G a⟩,fun c h=>by
    rcases e with e | ⟨y,e,r⟩
    · rw [show g.lookup x=none from e] at h;cases h
    · rw [show g.lookup x=some y from e] at h;cases h;exact r⟩
theorem zd2 {K:PySem.W.Frag}{x q y:Str}{c:Stmt}{f:Addr}{e:FuncData}{s:Shared}{v:Value}(F:Fun K x q c f e)(h:∀ (kV a g:Value) (d:Option Addr) (b ct:Value),bindArgs (PySem.W.fnOf x q (wH c) (yC c) (zw c) .none kV a g d b ct) ⟨[v],[]⟩=pure [(y,v)]):BindsTo s e ⟨[v],[]⟩ [(y,v)]:=by
  obtain ⟨k,j,kV,a,g,d,b,ct,i,rfl,_,_⟩:=F.ex
  exact .of_eq (h _ _ _ _ _ _)
end Dl
namespace Mz
open PySem L2 Dl
noncomputable def top (i:Nat):Stmt:=PySem.Challenge.pw_twoforone_k85_refused_at_the_doors_of_we.main.body.getD i (.Pass ⟨0,0,0,0⟩)
noncomputable def rows:List Row:=[⟨"is_whole",["thing"],[],top 18⟩,
  ⟨"is_whole_within",["thing","least","most"],[],top 19⟩,
  ⟨"must_be_within",["thing","least","most"],[],top 20⟩,
  ⟨"must_be_at_most",["many","most"],[],top 21⟩,
  ⟨"is_place_count",["thing"],[],top 22⟩,
  ⟨"is_place",["many","thing"],[],top 23⟩,
  ⟨"are_counts",["many","thing"],[],top 24⟩,
  ⟨"doubled",["number","times"],["turn"],top 25⟩,
  ⟨"is_pair",["many","thing"],[],top 27⟩,
  ⟨"are_ties",["many","thing"],["at","tie"],top 28⟩,
  ⟨"is_web",["thing"],[],top 29⟩,
  ⟨"must_be_web",["thing"],[],top 30⟩,
  ⟨"must_be_place",["web","thing"],[],top 31⟩,
  ⟨"tie_between",["one","other"],[],top 32⟩,
  ⟨"neighbours",["web","place"],[],top 33⟩,
  ⟨"ties_away",["web","start"],["away","rim","further","place","other"],top 34⟩,
  ⟨"pieces",["web"],["found","start","away","piece"],top 35⟩,
  ⟨"is_joined",["web"],[],top 36⟩,
  ⟨"is_tree",["web"],[],top 37⟩,
  ⟨"are_stones",["web","thing"],[],top 39⟩,
  ⟨"must_be_heap",["web","thing"],[],top 40⟩,
  ⟨"is_step",["web","thing"],[],top 41⟩,
  ⟨"all_steps",["web"],["found","place"],top 42⟩,
  ⟨"stepped",["heap","step"],["stones"],top 43⟩,
  ⟨"lowest",["top","bottom"],["one","other","rest"],top 45⟩,
  ⟨"weighed",["stones","weights"],[],top 46⟩,
  ⟨"halving_weights",["web","place"],["away","farthest"],top 47⟩,
  ⟨"worth",["web","stones","place"],["weights"],top 48⟩,
  ⟨"worth_at",["web","heap","place"],[],top 49⟩,
  ⟨"at_most",["web","heap","place"],["told"],top 50⟩,
  ⟨"are_even",["web","weights"],["tie","one","other"],top 51⟩,
  ⟨"is_bar",["web","heap","place","thing"],[],top 52⟩,
  ⟨"far_weights",["web","place"],[],top 53⟩,
  ⟨"bar_for",["web","heap","place"],["weights"],top 54⟩,
  ⟨"must_be_tree",["web"],[],top 56⟩,
  ⟨"outer_neighbours",["web","root"],["away","outer","place"],top 57⟩,
  ⟨"inner_neighbours",["web","root"],["inner","place","outer","other"],top 58⟩,
  ⟨"outwards",["web","root"],["away"],top 59⟩,
  ⟨"heights_from",["web","root"],["outer","tall","place"],top 60⟩,
  ⟨"heights",["web","place"],[],top 61⟩,
  ⟨"ways_from",["web","root"],["tall","outer","ranked","found","place","at","other"],top 62⟩,
  ⟨"way_through",["ranked","way"],[],top 63⟩,
  ⟨"ways",["web","place"],[],top 64⟩,
  ⟨"worst_from",["web","root","times"],["stones","at","way"],top 65⟩,
  ⟨"tree_need",["web","place","times"],[],top 66⟩,
  ⟨"tree_worst",["web","place","times"],[],top 67⟩,
  ⟨"must_be_rooted",["web","heap","place"],[],top 69⟩,
  ⟨"gathered",["heap","outer","carried","place"],[],top 70⟩,
  ⟨"carried_to",["web","heap","root"],["outer","carried","place","stones"],top 71⟩,
  ⟨"carries",["web","heap","place"],[],top 72⟩,
  ⟨"tree_steps",["web","heap","place"],["carried","inner","away","steps","other"],top 73⟩,
  ⟨"carry_holds",["web","heap","place","thing"],["outer","other","stones","most"],top 74⟩,
  ⟨"is_branch_row",["web","root","weights_ahead","thing"],[],top 76⟩,
  ⟨"are_branch_rows",["web","root","thing"],["weights_ahead","row"],top 77⟩,
  ⟨"is_branch",["web","place","thing"],[],top 78⟩,
  ⟨"branch_sum",["branch"],[],top 79⟩,
  ⟨"is_share",["thing"],[],top 80⟩,
  ⟨"is_shared_branch",["web","root","thing"],[],top 81⟩,
  ⟨"shared_sum",["shares","numbers"],["top","bottom","share","number"],top 82⟩,
  ⟨"weight_at",["branch","place"],[],top 83⟩,
  ⟨"show_bound",["web","place","thing"],["shares","branches","other","told","total"],top 84⟩,
  ⟨"tree_show",["web","place"],["tall","inner","branch"],top 85⟩,
  ⟨"heaps_behind",["web","heap"],["steps","found","rim","further","now","step","then"],top 88⟩,
  ⟨"reached",["web","heap"],["found"],top 89⟩,
  ⟨"is_spread",["web","heap"],[],top 92⟩,
  ⟨"heaps_of",["many","stones"],["found","first"],top 93⟩,
  ⟨"first_spread",["web"],["stones","heap"],top 94⟩,
  ⟨"spread_need",["web"],[],top 95⟩,
  ⟨"marks_bound",["web","thing"],["worths"],top 96⟩,
  ⟨"_law_cell_at",["script","k"],[],top 98⟩,
  ⟨"_law_stir",["cell","k"],["number"],top 99⟩,
  ⟨"_law_kinds",["e"],["found"],top 100⟩,
  ⟨"_law_of_three",["way","web","heap","place"],[],top 101⟩,
  ⟨"_law_of_place",["way","web","place"],[],top 102⟩,
  ⟨"_law_of_web",["way","web"],[],top 103⟩,
  ⟨"_law_came",["kind","way","web","heap","place"],["e"],top 104⟩,
  ⟨"law",["script"],["cell","n","web","bads","bad","heap","bad_heaps","no_heap","no_place","way","six"],top 105⟩]
noncomputable def Rw (i:Nat):Row:=rows.getD i ⟨"law",["script"],["cell","n","web","bads","bad","heap","bad_heaps","no_heap","no_place","way","six"],top 105⟩
theorem sc (i:Nat):xr (Rw i).N (Rw i).ps (zw (Rw i).st):=Row.sc (zcB (p:=fun r:Row=>r.scB=true) (by decide +kernel) (by decide +kernel) i)
noncomputable abbrev Ya:Stmt:=zj2 (top 11) 0
theorem zeL:xr ["self","at"] ["self","at"] (zw Ya):=⟨rfl,rfl,rfl,by decide +kernel,rfl,by decide +kernel,by decide +kernel⟩
set_option genInjectivity false in
set_option genSizeOf false in
set_option genCtorIdx false in
structure Adr where
  f:Nat→Addr
  e:Nat→FuncData
  t_MOST_PLACES:Tok
  t_MOST_STONES:Tok
  t_MOST_SEARCHED:Tok
  t_MOST_SPREAD:Tok
  x_NoKind:Addr
  x_NoHeap:Addr
  x_NoPlace:Addr
  x_NoNumber:Addr
  x_NoTally:Addr
  x_NotTree:Addr
  x_NotJoined:Addr
  x_NoWeights:Addr
  x_NoRow:Addr
  x_NoWeb:Addr
  x_NoSteps:Addr
  x_NoText:Addr
  x_TooGreat:Addr
  x_StoneError:Addr
  i_NoWeb:Addr
  j_NoWeb:FuncData
  c_outwards:Addr
  p_outwards:Addr
  c_ways_from:Addr
  p_ways_from:Addr
  c_tree_steps:Addr
  p_tree_steps:Addr
noncomputable def zjN (a:Adr):List Addr:=[a.x_NoKind,a.x_NoHeap,a.x_NoPlace,a.x_NoNumber,a.x_NoTally,a.x_NotTree,a.x_NotJoined,a.x_NoWeights,a.x_NoRow,a.x_NoWeb,a.x_NoSteps,a.x_NoText,a.x_TooGreat]
noncomputable def clT (a:Adr)(j:Nat):Addr:=(zjN a).getD (j % 16) 0
theorem zlk (a:Adr)(j:Nat):clT a j=clT a (j % 16):=by unfold clT;rw [Nat.mod_mod]
noncomputable def zs:List Str:=["ValueError","all","any","bool","enumerate","int","isinstance","len","list","max","min","range","reversed","sorted","sum","tuple","zip"]
set_option genInjectivity false in
set_option genSizeOf false in
set_option genCtorIdx false in
structure Txt (P:Program) (w:World) (K:PySem.W.Frag) (mg:Str→Option Value) (base:Heap) (ad:Adr):Prop where
  d:∀ i,Def K mg (Rw i).x (Rw i).st (Rw i).ps (ad.f i) (ad.e i)
  z:∀ x∈zs,mg x=none
  g_MOST_PLACES:mg "MOST_PLACES"=some (Value.int 8 ad.t_MOST_PLACES)
  g_MOST_STONES:mg "MOST_STONES"=some (Value.int 300 ad.t_MOST_STONES)
  g_MOST_SEARCHED:mg "MOST_SEARCHED"=some (Value.int 12 ad.t_MOST_SEARCHED)
  g_MOST_SPREAD:mg "MOST_SPREAD"=some (Value.int 6 ad.t_MOST_SPREAD)
  g_NoKind:mg "NoKind"=some (Value.ref ad.x_NoKind)
  g_NoHeap:mg "NoHeap"=some (Value.ref ad.x_NoHeap)
  g_NoPlace:mg "NoPlace"=some (Value.ref ad.x_NoPlace)
  g_NoNumber:mg "NoNumber"=some (Value.ref ad.x_NoNumber)
  g_NoTally:mg "NoTally"=some (Value.ref ad.x_NoTally)
  g_NotTree:mg "NotTree"=some (Value.ref ad.x_NotTree)
  g_NotJoined:mg "NotJoined"=some (Value.ref ad.x_NotJoined)
  g_NoWeights:mg "NoWeights"=some (Value.ref ad.x_NoWeights)
  g_NoRow:mg "NoRow"=some (Value.ref ad.x_NoRow)
  g_NoWeb:mg "NoWeb"=some (Value.ref ad.x_NoWeb)
  g_NoSteps:mg "NoSteps"=some (Value.ref ad.x_NoSteps)
  g_NoText:mg "NoText"=some (Value.ref ad.x_NoText)
  g_TooGreat:mg "TooGreat"=some (Value.ref ad.x_TooGreat)
  g_StoneError:mg "StoneError"=some (Value.ref ad.x_StoneError)
  c_NoHeap:PySem.W.excIn K ad.x_NoHeap bmV "ValueError.__new__"=true
  c_NoPlace:PySem.W.excIn K ad.x_NoPlace bmV "ValueError.__new__"=true
  y_NoHeap:ZY K (zjN ad) ad.x_StoneError ad.x_NoHeap 1=true
  y_NoPlace:ZY K (zjN ad) ad.x_StoneError ad.x_NoPlace 2=true
  y_NoWeb:ZY K (zjN ad) ad.x_StoneError ad.x_NoWeb 9=true
  fi_NoWeb:Fun K "__init__" "NoWeb.__init__" Ya ad.i_NoWeb ad.j_NoWeb
  bi_NoWeb:vH K ad.j_NoWeb ["self","at"] []
  ei_NoWeb:zj4 K ad.x_NoWeb ad.i_NoWeb=true
  ea_NoWeb:zaz K ad.x_NoWeb=true
  na_NoWeb:zmb K ad.x_NoWeb ["at"]=true
  lc_outwards:(ad.e 37).code=.ref ad.c_outwards
  la_outwards:YH base mg ad.c_outwards ad.p_outwards "outwards.<locals>.<lambda>"
  lc_ways_from:(ad.e 40).code=.ref ad.c_ways_from
  la_ways_from:YH base mg ad.c_ways_from ad.p_ways_from "ways_from.<locals>.<lambda>"
  lc_tree_steps:(ad.e 50).code=.ref ad.c_tree_steps
  la_tree_steps:YH base mg ad.c_tree_steps ad.p_tree_steps "tree_steps.<locals>.<lambda>"
theorem zlA:(["many","weight","stones","weights"]:List Str).Nodup:=by decide +kernel
theorem zjR:(["others","web","root","tall","outer","ranked","found","place","at","other"]:List Str).Nodup:=by decide +kernel
theorem zly:(["rest","many","stones","found","first"]:List Str).Nodup:=by decide +kernel
theorem zkb:(["step","web","heap","steps","found","rim","further","now","·step","then"]:List Str).Nodup:=by decide +kernel
theorem zlC:(["place","web","heap","found"]:List Str).Nodup:=by decide +kernel
theorem zkE:(["other","place","web","heap","found"]:List Str).Nodup:=by decide +kernel
theorem zhX:(["top","bottom","web","thing","worths"]:List Str).Nodup:=by decide +kernel
theorem zk5:(["place","web","thing","worths"]:List Str).Nodup:=by decide +kernel
theorem Txt.at {P:Program}{w:World}{K:PySem.W.Frag}{c:Str→Option Value}{a:Heap}{b:Adr}(T:Txt P w K c a b){i:Nat}{x:Str}(h:(Rw i).x=x):Def K c x (Rw i).st (Rw i).ps (b.f i) (b.e i):=h ▸ T.d i
local macro_rules | `(tactic| walk_at "c")=>`(tactic| first
  | rfl
  | assumption
  | decide
  | exact ⟨rfl,rfl,rfl,rfl,rfl⟩
  | exact Or.inl rfl
  | exact Or.inr rfl
  | exact Or.inr (Or.inl rfl)
  | exact Or.inr (Or.inr rfl)
  | exact Txt.at ‹_› rfl
  | exact Txt.z ‹_› _ (by decide)
  | exact zS _
  | exact PassesOwn.never
  | exact fun _=>rfl
  | exact fun _ _=>rfl
  | exact ⟨Or.inl rfl,rfl⟩
  | omega
  | exact yD
  | exact all_cons rfl yD
  | exact all_cons rfl (all_cons rfl yD)
  | exact all_cons rfl (all_cons rfl (all_cons rfl yD))
  | exact Wx (v:=.ty "bool") rfl (Txt.z ‹_› _ (by decide)) zfl rfl
  | exact Wx (v:=.ty "int") rfl (Txt.z ‹_› _ (by decide)) zhW rfl
  | exact Wx (v:=.ty "list") rfl (Txt.z ‹_› _ (by decide)) zbN rfl
  | exact Wx (v:=.ty "tuple") rfl (Txt.z ‹_› _ (by decide)) zca rfl
  | exact zaj PySem.F.plainAttrs_list PySem.F.slot_list_append PySem.F.type_list_append WC ‹_› ‹_›
  | exact zaj PySem.F.plainAttrs_list PySem.F.slot_list_extend PySem.F.type_list_extend X4 ‹_› ‹_›
  | exact yL.units0 ‹_›
  | with_unfolding_all rfl
  | kernel_rfl)
local macro_rules | `(tactic| walk_at "s")=>`(tactic| repeat' first
  | ((with_reducible show @Eq _ _ _);first | rfl | exact Txt.z ‹_› _ (by decide) | assumption | exact zlf | exact zfl | exact Z4 | exact zhW | exact zcL | exact zbN | exact zhL | exact zht | exact Wl | exact zca | decide | exact zS _ | with_unfolding_all rfl | kernel_rfl)
  | ((with_reducible show ED _ _ _);first | (with_reducible first | apply edv | exact zv zu | apply vk | apply xB | exact zmB zjm | exact Yj Yv | apply X3 | apply zjU | apply zfq | apply zlz | apply zlo | apply xD | apply zeq | apply zak | apply zd0 | apply zmc | apply VH | apply zgS | exact zlO zjT | apply zki | apply zla | apply zkI | apply zi6 | apply zif | (apply zfZ;· assumption) | apply Ye) | apply yr vW zbi | apply zeN V9 zec | apply yr (vI ?_) XC | apply Z9 (xV ?_) yK | apply Z9 zdV zL | apply yr (zdO ?_) ziO | apply Z9 zf2 zeS | apply Z9 zlU zL | apply Z9 Y7 zL | apply Z9 (zhT ?_) zhk | apply Z9 (zhH ?_) zb3 | apply yr (zd9 ?_) zgg | apply yr (zdQ ?_) zfW | apply yr (zd6 ?_) zfX | refine zfY zdV zdV zL zL ?_ ?_ ?_ (fun a b c=>zg1 zdV zdV a b c) | exact zv (yo (v:=.int 8) rfl (Txt.g_MOST_PLACES ‹_›) ⟨_,rfl⟩) | exact zv (yo (v:=.int 300) rfl (Txt.g_MOST_STONES ‹_›) ⟨_,rfl⟩) | exact zv (yo (v:=.int 6) rfl (Txt.g_MOST_SPREAD ‹_›) ⟨_,rfl⟩))
  | ((with_reducible show AD _ _ _);first | (with_reducible first | apply zb | exact zd))
  | ((with_reducible show SDs _ _ _);first | (with_reducible first | apply Ve | apply zg | apply zq | exact yn | apply Ve))
  | ((with_reducible show SD _ _ _);first | (with_reducible first | apply yg | apply wt | apply zU | (apply zbX;first | apply zlu | apply zlH) | apply vf | apply zaN | apply zen | apply zfF | apply zjV | apply zfG | apply zh9 | apply zap | apply Vw | apply zcO | apply zgl))
  | ((with_reducible show PG _ _ _);first | (with_reducible first | apply z3))
  | ((with_reducible show FL _ _ _);first | (with_reducible first | apply YZ | apply ziw | apply zh4 | apply zmG | apply zmI))
  | ((with_reducible show WD _ _ _);first | (with_reducible first | apply zjb | apply zeQ | apply zkL | apply zi0))
  | ((with_reducible show ID _ _ _ _);first | (with_reducible first | apply ZZ | apply Wo | apply zeV | apply zhx | apply zlE))
  | ((with_reducible show BD _ _ _);first | (with_reducible first | apply vP | apply zh5))
  | ((with_reducible show TD _ _ _);first | (with_reducible first | apply za7 | apply td_b) | apply zK zeD zL | apply zK (zlh ?_) zik | apply zK zf2 zeS | apply zK (xV ?_) yK | apply zK Y7 zL | apply zK zj7 zjq | apply zK ze9 zdi | apply zK (zlP ?_) ziM | apply zK (zhT ?_) zhk | apply zK (zhH ?_) zb3 | with_reducible apply W0)
  | ((with_reducible show PE _ _ _);first | (with_reducible first | apply pv))
  | ((with_reducible show BDs _ _ _);first | (with_reducible first | apply zad | apply zfJ))
  | ((with_reducible show OD _ _ _);first | (with_reducible first | apply zjE | apply ziJ))
  | ((with_reducible apply KR.mk);kernel_rfl)
  | ((with_reducible apply UR.mk);with_unfolding_all rfl)
  | with_reducible intro s₀ H₀ ex pn
  | walk_at "c")
theorem len2 {c:List D}(h:c.length=2):∃ a b,c=[a,b]:=by
  match c,h with
  | [a,b],_=>exact ⟨a,b,rfl⟩
section
variable {P:Program}{w:World}{K:PySem.W.Frag}{mg:Str→Option Value}{base:Heap}{ad:Adr}
noncomputable def wD:SE→Ctl :=
  (zx (yu false 2 (zj Zp (zj Zq (zj vA (zj vA (zj Zp (zc 0) (eC (.int 2147483647))) (zj Zq (eC (.int 977)) (zc 1))) (eC (.int 1))) (eC (.int 48271))) (eC (.int 2147483647))))
    (zx (yu false 2 (zj Zp (zj Zq (zc 2) (zc 2)) (eC (.int 2147483629))))
    (zx (yu false 2 (zj Zp (zj Zq (zj vA (zc 2) (zj Zq (eC (.int 40692)) (zj vA (zc 1) (eC (.int 3))))) (eC (.int 69621))) (eC (.int 2147483647))))
    (zO (zj Xm (zc 2) (eC (.int 8)))))))
noncomputable def zbO:List D→Option D:=fnD 3 wD
noncomputable def yj:List D→Option D
  | [.int c,.int k]=>some (.int (zdy c k))
  | _=>none
theorem zbd {i j:Int}(a:-(2 ^ 64) < i)(b:i < 2 ^ 64):XM i j=true:=decide_eq_true (.inl ⟨a,b⟩)
theorem zff {i j:Int}(a:-(2 ^ 64) < j)(b:j < 2 ^ 64):XM i j=true:=decide_eq_true (.inr ⟨a,b⟩)
theorem XI {i j:Int}(h:XM i j=true):Zq (.int i) (.int j)=some (.int (i*j)):=by
  show (if XM i j=true then _ else none)=_
  rw [if_pos h]
theorem YD {i j:Int}(h:0 < j):Zp (.int i) (.int j)=some (.int (i % j)):=by
  show (if decide (0 < j)=true then _ else none)=_
  rw [if_pos (decide_eq_true h)]
theorem zcI {i j:Int}(h:0 < j)(a:j < 1606938044258990275541962092341162602522202993782792835301376):Xm (.int i) (.int j)=some (.int (i / j)):=by
  show (if decide (0 < j∧j < 1606938044258990275541962092341162602522202993782792835301376)=true then _ else none)=_
  rw [if_pos (decide_eq_true ⟨h,a⟩)]
theorem zaw:∀ e d,e.length=2→yj e=some d→zbO e=some d:=by
  intro e d n h
  obtain ⟨a,b,rfl⟩:=len2 n
  cases a <;> try cases h
  cases b <;> try cases h
  rename_i c k
  have j:=Int.emod_nonneg ((c % 2147483647+977*k+1)*48271) (show (2147483647:Int)≠0 by decide)
  have l:=Int.emod_lt_of_pos ((c % 2147483647+977*k+1)*48271) (show (0:Int) < 2147483647 by decide)
  have q:XM 977 k=true:=zbd (by decide) (by decide)
  have o:XM (c % 2147483647+977*k+1) 48271=true:=zff (by decide) (by decide)
  obtain ⟨x,g⟩:∃ x,(c % 2147483647+977*k+1)*48271 % 2147483647=x:=⟨_,rfl⟩
  rw [g] at j l
  have p:XM x x=true:=zbd (Int.lt_of_lt_of_le (by decide) j) (Int.lt_trans l (by decide))
  have r:XM 40692 (k+3)=true:=zbd (by decide) (by decide)
  have s:∀ x,XM x 69621=true:=fun x=>zff (by decide) (by decide)
  obtain ⟨y,i⟩:∃ y,x*x % 2147483629=y:=⟨_,rfl⟩
  obtain ⟨z,m⟩:∃ z,(y+40692*(k+3))*69621 % 2147483647=z:=⟨_,rfl⟩
  have f:zdy c k=z / 8:=by
    show ((((c % 2147483647+977*k+1)*48271 % 2147483647)*((c % 2147483647+977*k+1)*48271 % 2147483647) % 2147483629+40692*(k+3))*69621 % 2147483647 / 8)=_
    rw [g,i,m]
  rw [f]
  refine fn_w (ρ:=[.v (.int c),.v (.int k),.no]) rfl ?_
  unfold wD
  refine yO (ρ':=[.v (.int c),.v (.int k),.v (.int x)]) (yZ ?_) ?_
  · show (((((Zp (.int c) (.int 2147483647)).bind fun a=>(Zq (.int 977) (.int k)).bind fun b=>vA a b).bind fun a=>vA a (.int 1)).bind fun a=>Zq a (.int 48271)).bind fun a=>Zp a (.int 2147483647))=_
    rw [YD (by decide),XI q]
    show ((Zq (.int (c % 2147483647+977*k+1)) (.int 48271)).bind fun a=>Zp a (.int 2147483647))=_
    rw [XI o,← g]
    exact YD (by decide)
  refine yO (ρ':=[.v (.int c),.v (.int k),.v (.int y)]) (yZ ?_) ?_
  · show ((Zq (.int x) (.int x)).bind fun a=>Zp a (.int 2147483629))=_
    rw [XI p,← i]
    exact YD (by decide)
  refine yO (ρ':=[.v (.int c),.v (.int k),.v (.int z)]) (yZ ?_) ?_
  · show ((((Zq (.int 40692) (.int (k+3))).bind fun b=>vA (.int y) b).bind fun a=>Zq a (.int 69621)).bind fun a=>Zp a (.int 2147483647))=_
    rw [XI r]
    show ((Zq (.int (y+40692*(k+3))) (.int 69621)).bind fun a=>Zp a (.int 2147483647))=_
    rw [XI (s _),← m]
    exact YD (by decide)
  exact w_rt (zij (show Xm (.int z) (.int 8)=_ from zcI (by decide) (by decide))) rfl
theorem zaM (T:Txt P w K mg base ad):zJ P w K mg base CX0 1 (ad.f 70) (ad.e 70) (Rw 70).ps (@spD ⟨K⟩ 2 yj):=by
  letI:KK:=⟨K⟩
  refine zk0 (zI (N:=(Rw 70).N) (ps:=(Rw 70).ps) (T.d 70).fn (sc 70) (g:=wD) fun a A outer s H E b=>?_) zaw
  unfold wD
  have c:=(sc 70).nd
  apply zg <;> walk_at "s"
noncomputable def xk:SE→Ctl :=
  (zx (sIf (tOf (zj ltD (zc 1) (eFn WU (za (zc 0) ze)))) (zO (zj ixD (zc 0) (zc 1))) zP)
    (zO (eC (.int 0))))
noncomputable def yF:List D→Option D:=fnD 2 xk
theorem zc4 (a:List Int):∃ c:Int,yF [.scr a,.int 0]=some (.int c):=by
  cases a with
  | nil=>exact ⟨0,rfl⟩
  | cons n a =>
    refine ⟨n,?_⟩
    have e:atI (n::a) 0=some n:=zho (Int.le_refl _) rfl
    simp [yF,xk,fnD,zx,zO,zmo,sIf,yu,yH,sNo,zP,sAsg,zao,zhA,zjG,zeC,vEv,visF,visG,Sl.f,Sl.g,zc,eC,zj,zcv,eOr,zmy,eIf,eUn,zcM,yJ,yp,z4,za,ze,zh,eFn,fFn,tOf,zgJ,Xt,yX,asB,asI,zcN,Zr,Zq,Xm,Zp,zi5,zc2,ltD,leD,gtD,geD,zjO,zgn,ziG,zge,ziK,zlT,Wc,ixD,WU,ZQ,isT,eSl,zjr,za2,zck,WM,iOf,WE,Wn,zhq,WT,rng2,W1,zf7,fLC,xJ,vz,zf0,yG,zhw,Xj,zi1,b1,b2,e]
theorem Wu (T:Txt P w K mg base ad):zJ P w K mg base CX0 1 (ad.f 69) (ad.e 69) (Rw 69).ps (@spD ⟨K⟩ 2 yF):=by
  letI:KK:=⟨K⟩
  refine zI (N:=(Rw 69).N) (ps:=(Rw 69).ps) (T.d 69).fn (sc 69) (g:=xk) fun a A outer s H E b=>?_
  unfold xk
  have c:=(sc 69).nd
  apply zg <;> walk_at "s"
theorem zgE {ρ:Ev}(d:List Int)(k:Int)(h:d.length≤63):∃ g:List Int,(iOf (zj vA (yp (z4 (za (zh 2 yF (za (zc 0) (za (eC (.int 0)) ze))) ze))) (eSl slD (zc 0) (za2 (eC (.int 1))) (za2 (eC (.int k)))))) (some (.scr d)::ρ)=some (g.map .int):=by
  obtain ⟨c,f⟩:=zc4 d
  refine ⟨c::zdu d (some 1) (some k),?_⟩
  have e:=zgX (a:=[.int c]) (b:=(zdu d (some 1) (some k)).map .int) (by have:=zhg d (some 1) (some k);simp;omega)
  simp [iOf,zj,yp,z4,za,ze,zh,zc,eC,f,zhs,eSl,za2,asI,slD,e,WM]
theorem zfj (T:Txt P w K mg base ad):zJ P w K mg base CX0 1 ad.i_NoWeb ad.j_NoWeb ["self","at"] (spI K 1 ["at"] (gI1 "at")):=by
  refine T.fi_NoWeb.ok zeL (fun b H Q E h=>ziQ b H Q E h) fun c A outer s H b Q E d a=>?_
  exact ⟨_,(YQ (zmq (pv 0) (pv 1) rfl)),(zix a)⟩
noncomputable def Zy:SE→Ctl :=
  (zO (zcv (eUn (ZQ .int) (zc 0)) (zmy (eUn (ZQ .bool) (zc 0)))))
noncomputable def xK:List D→Option D:=fnD 1 Zy
theorem wC (T:Txt P w K mg base ad):zJ P w K mg base CX0 1 (ad.f 0) (ad.e 0) (Rw 0).ps (@spD ⟨K⟩ 1 xK):=by
  letI:KK:=⟨K⟩
  refine zI (N:=(Rw 0).N) (ps:=(Rw 0).ps) (T.d 0).fn (sc 0) (g:=Zy) fun a A outer s H E b=>?_
  unfold Zy
  have c:=(sc 0).nd
  apply zq <;> walk_at "s"
noncomputable def y8:SE→Ctl :=
  (zO (zcv (zh 1 xK (za (zc 0) ze)) (zck leD leD (zc 1) (zc 0) (zc 2))))
noncomputable def yy:List D→Option D:=fnD 3 y8
theorem yY (T:Txt P w K mg base ad):zJ P w K mg base CX0 2 (ad.f 1) (ad.e 1) (Rw 1).ps (@spD ⟨K⟩ 3 yy):=by
  letI:KK:=⟨K⟩
  have G_is_whole:=wC T
  refine zI (N:=(Rw 1).N) (ps:=(Rw 1).ps) (T.d 1).fn (sc 1) (g:=y8) fun a A outer s H E b=>?_
  unfold y8
  have c:=(sc 1).nd
  apply zq <;> walk_at "s"
noncomputable def xt:SE→Ctl :=
  (zO (zh 3 yy (za (zc 0) (za (eC (.int 1)) (za (eC (.int 8)) ze)))))
noncomputable def wX:List D→Option D:=fnD 1 xt
theorem ZO (T:Txt P w K mg base ad):zJ P w K mg base CX0 3 (ad.f 4) (ad.e 4) (Rw 4).ps (@spD ⟨K⟩ 1 wX):=by
  letI:KK:=⟨K⟩
  have G_is_whole_within:=yY T
  refine zI (N:=(Rw 4).N) (ps:=(Rw 4).ps) (T.d 4).fn (sc 4) (g:=xt) fun a A outer s H E b=>?_
  unfold xt
  have c:=(sc 4).nd
  apply zq <;> walk_at "s"
noncomputable def Zs:SE→Ctl :=
  (zO (zh 3 yy (za (zc 1) (za (eC (.int 0)) (za (zj Zr (zc 0) (eC (.int 1))) ze)))))
noncomputable def wu:List D→Option D:=fnD 2 Zs
theorem YS (T:Txt P w K mg base ad):zJ P w K mg base CX0 3 (ad.f 5) (ad.e 5) (Rw 5).ps (@spD ⟨K⟩ 2 wu):=by
  letI:KK:=⟨K⟩
  have G_is_whole_within:=yY T
  refine zI (N:=(Rw 5).N) (ps:=(Rw 5).ps) (T.d 5).fn (sc 5) (g:=Zs) fun a A outer s H E b=>?_
  unfold Zs
  have c:=(sc 5).nd
  apply zq <;> walk_at "s"
noncomputable def XH:SE→Ctl :=
  (zx (sIf (Xt (yX (tOf (eUn (ZQ .tuple) (zc 1)))) (tOf (zj neD (eFn WU (za (zc 1) ze)) (eC (.int 2))))) (zO (eC (.bl false))) zP)
    (zO (zcv (zh 2 wu (za (zc 0) (za (zj ixD (zc 1) (eC (.int 0))) ze))) (zcv (zh 2 wu (za (zc 0) (za (zj ixD (zc 1) (eC (.int 1))) ze))) (zj neD (zj ixD (zc 1) (eC (.int 0))) (zj ixD (zc 1) (eC (.int 1))))))))
noncomputable def Wj:List D→Option D:=fnD 2 XH
theorem Vh (T:Txt P w K mg base ad):zJ P w K mg base CX0 4 (ad.f 8) (ad.e 8) (Rw 8).ps (@spD ⟨K⟩ 2 Wj):=by
  letI:KK:=⟨K⟩
  have G_is_place:=YS T
  refine zI (N:=(Rw 8).N) (ps:=(Rw 8).ps) (T.d 8).fn (sc 8) (g:=XH) fun a A outer s H E b=>?_
  unfold XH
  have c:=(sc 8).nd
  apply zg <;> walk_at "s"
noncomputable def Z6:SE→Ctl :=
  (zx (sIf (Xt (yX (tOf (zh 2 Wj (za (zc 0) (za (zc 3) ze))))) (tOf (zj gtD (zj ixD (zc 3) (eC (.int 0))) (zj ixD (zc 3) (eC (.int 1)))))) (zO (eC (.bl false))) zP)
    (sIf (zgJ (tOf (zj gtD (zc 2) (eC (.int 0)))) (tOf (zj leT (zc 3) (zj ixD (zc 1) (zj Zr (zc 2) (eC (.int 1))))))) (zO (eC (.bl false))) zP))
noncomputable def ZB:SE→Ctl :=
  (zx (sIf (yX (tOf (eUn (ZQ .tuple) (zc 1)))) (zO (eC (.bl false))) zP)
    (zx (WE (W1 (za (zc 1) ze)) (zhw 2 (Xj (yG 2) (Xj (yG 3) zi1))) Z6)
    (zO (eC (.bl true)))))
noncomputable def WW:List D→Option D:=fnD 4 ZB
theorem zbZ (T:Txt P w K mg base ad):zJ P w K mg base CX0 5 (ad.f 9) (ad.e 9) (Rw 9).ps (@spD ⟨K⟩ 2 WW):=by
  letI:KK:=⟨K⟩
  have G_is_pair:=Vh T
  refine zI (N:=(Rw 9).N) (ps:=(Rw 9).ps) (T.d 9).fn (sc 9) (g:=ZB) fun a A outer s H E b=>?_
  unfold ZB Z6
  have c:=(sc 9).nd
  apply zg <;> walk_at "s"
noncomputable def Vp:SE→Ctl :=
  (zx (sIf (Xt (yX (tOf (eUn (ZQ .tuple) (zc 0)))) (tOf (zj neD (eFn WU (za (zc 0) ze)) (eC (.int 2))))) (zO (eC (.bl false))) zP)
    (zO (zcv (zh 1 wX (za (zj ixD (zc 0) (eC (.int 0))) ze)) (zh 2 WW (za (zj ixD (zc 0) (eC (.int 0))) (za (zj ixD (zc 0) (eC (.int 1))) ze))))))
noncomputable def Vz:List D→Option D:=fnD 1 Vp
theorem za0 (T:Txt P w K mg base ad):zJ P w K mg base CX0 6 (ad.f 10) (ad.e 10) (Rw 10).ps (@spD ⟨K⟩ 1 Vz):=by
  letI:KK:=⟨K⟩
  have G_is_place_count:=ZO T
  have G_are_ties:=zbZ T
  refine zI (N:=(Rw 10).N) (ps:=(Rw 10).ps) (T.d 10).fn (sc 10) (g:=Vp) fun a A outer s H E b=>?_
  unfold Vp
  have c:=(sc 10).nd
  apply zg <;> walk_at "s"
noncomputable def wM:SE→Ctl :=
  (sIf (yX (tOf (zh 1 Vz (za (zc 0) ze)))) sNo zP)
noncomputable def zp:List D→Option D:=fnD 1 wM
theorem zn (T:Txt P w K mg base ad):zJ P w K mg base CX0 7 (ad.f 11) (ad.e 11) (Rw 11).ps (@spD ⟨K⟩ 1 zp):=by
  letI:KK:=⟨K⟩
  have G_is_web:=za0 T
  refine zI (N:=(Rw 11).N) (ps:=(Rw 11).ps) (T.d 11).fn (sc 11) (g:=wM) fun a A outer s H E b=>?_
  unfold wM
  have c:=(sc 11).nd
  apply zq <;> walk_at "s"
noncomputable def wl:SE→Option Nat :=
  (xIf (yX (tOf (zh 1 Vz (za (zc 0) ze)))) (xRI (zmH 9 1) (za (eUn zcM (eC (.int 1))) ze)) xNo)
noncomputable def zA:List D→Option Nat:=fnX 1 wl
theorem zz (T:Txt P w K mg base ad):zJ P w K mg base (Air P w) 7 (ad.f 11) (ad.e 11) (Rw 11).ps (@spX ⟨K⟩ (clT ad) 1 zA):=by
  letI:KK:=⟨K⟩
  have G_is_web:=za0 T
  refine yf (cl:=clT ad) (N:=(Rw 11).N) (ps:=(Rw 11).ps) (T.d 11).fn (sc 11) (gx:=wl) fun b A outer s H E a=>?_
  unfold wl
  exact (z0 (X9 (za7 (W0 (zt G_is_web a rfl (T.d 10) (zb (edv 0) zd)))) (z0 (zeg (cl:=clT ad) ⟨T.g_NoWeb,T.ei_NoWeb,T.ea_NoWeb,zeP T.na_NoWeb⟩ (zfj T) T.bi_NoWeb (zih (zlk ad) (show 9 < 16 by decide)) (a.mono (by decide)) rfl (zb (zak (zv zu)) zd))) yW))
noncomputable def vE:SE→Ctl :=
  (zx (sIf (Xt (yX (tOf (eUn (ZQ .tuple) (zc 1)))) (tOf (zj neD (eFn WU (za (zc 1) ze)) (zc 0)))) (zO (eC (.bl false))) zP)
    (zO (eFn zmT (za (yp (fLC (iOf (zc 1)) b1 xJ (zcv (zh 1 xK (za (zc 0) ze)) (zj geD (zc 0) (eC (.int 0)))))) ze))))
noncomputable def xo:List D→Option D:=fnD 2 vE
theorem xG (T:Txt P w K mg base ad):zJ P w K mg base CX0 2 (ad.f 6) (ad.e 6) (Rw 6).ps (@spD ⟨K⟩ 2 xo):=by
  letI:KK:=⟨K⟩
  have G_is_whole:=wC T
  refine zI (N:=(Rw 6).N) (ps:=(Rw 6).ps) (T.d 6).fn (sc 6) (g:=vE) fun a A outer s H E b=>?_
  unfold vE
  have c:=(sc 6).nd
  apply zg <;> walk_at "s"
noncomputable def vB:SE→Ctl :=
  (zO (zcv (zh 2 xo (za (zj ixD (zc 0) (eC (.int 0))) (za (zc 1) ze))) (zj leD (eFn zfw (za (zc 1) ze)) (eC (.int 300)))))
noncomputable def vV:List D→Option D:=fnD 2 vB
theorem Zc (T:Txt P w K mg base ad):zJ P w K mg base CX0 3 (ad.f 19) (ad.e 19) (Rw 19).ps (@spD ⟨K⟩ 2 vV):=by
  letI:KK:=⟨K⟩
  have G_are_counts:=xG T
  refine zI (N:=(Rw 19).N) (ps:=(Rw 19).ps) (T.d 19).fn (sc 19) (g:=vB) fun a A outer s H E b=>?_
  unfold vB
  have c:=(sc 19).nd
  apply zq <;> walk_at "s"
noncomputable def wc:SE→Ctl :=
  (sIf (yX (tOf (zh 2 vV (za (zc 0) (za (zc 1) ze))))) sNo zP)
noncomputable def zM:List D→Option D:=fnD 2 wc
theorem zN (T:Txt P w K mg base ad):zJ P w K mg base CX0 4 (ad.f 20) (ad.e 20) (Rw 20).ps (@spD ⟨K⟩ 2 zM):=by
  letI:KK:=⟨K⟩
  have G_are_stones:=Zc T
  refine zI (N:=(Rw 20).N) (ps:=(Rw 20).ps) (T.d 20).fn (sc 20) (g:=wc) fun a A outer s H E b=>?_
  unfold wc
  have c:=(sc 20).nd
  apply zq <;> walk_at "s"
noncomputable def xU:SE→Option Nat :=
  (xIf (yX (tOf (zh 2 vV (za (zc 0) (za (zc 1) ze))))) (zea 1) xNo)
noncomputable def yi:List D→Option Nat:=fnX 2 xU
theorem yl (T:Txt P w K mg base ad):zJ P w K mg base (Air P w) 4 (ad.f 20) (ad.e 20) (Rw 20).ps (@spX ⟨K⟩ (clT ad) 2 yi):=by
  letI:KK:=⟨K⟩
  have G_are_stones:=Zc T
  refine yf (cl:=clT ad) (N:=(Rw 20).N) (ps:=(Rw 20).ps) (T.d 20).fn (sc 20) (gx:=xU) fun b A outer s H E a=>?_
  unfold xU
  exact (z0 (X9 (za7 (W0 (zt G_are_stones a rfl (T.d 19) (zb (edv 0) (zb (edv 1) zd))))) (z0 (zcs (cl:=clT ad) (j:=1) ⟨T.g_NoHeap,T.c_NoHeap⟩ rfl)) yW))
noncomputable def xL:SE→Ctl :=
  (sIf (yX (tOf (zh 2 wu (za (zj ixD (zc 0) (eC (.int 0))) (za (zc 1) ze))))) sNo zP)
noncomputable def zF:List D→Option D:=fnD 2 xL
theorem zG (T:Txt P w K mg base ad):zJ P w K mg base CX0 4 (ad.f 12) (ad.e 12) (Rw 12).ps (@spD ⟨K⟩ 2 zF):=by
  letI:KK:=⟨K⟩
  have G_is_place:=YS T
  refine zI (N:=(Rw 12).N) (ps:=(Rw 12).ps) (T.d 12).fn (sc 12) (g:=xL) fun a A outer s H E b=>?_
  unfold xL
  have c:=(sc 12).nd
  apply zq <;> walk_at "s"
noncomputable def xq:SE→Option Nat :=
  (xIf (yX (tOf (zh 2 wu (za (zj ixD (zc 0) (eC (.int 0))) (za (zc 1) ze))))) (zea 2) xNo)
noncomputable def zC:List D→Option Nat:=fnX 2 xq
theorem zD (T:Txt P w K mg base ad):zJ P w K mg base (Air P w) 4 (ad.f 12) (ad.e 12) (Rw 12).ps (@spX ⟨K⟩ (clT ad) 2 zC):=by
  letI:KK:=⟨K⟩
  have G_is_place:=YS T
  refine yf (cl:=clT ad) (N:=(Rw 12).N) (ps:=(Rw 12).ps) (T.d 12).fn (sc 12) (gx:=xq) fun b A outer s H E a=>?_
  unfold xq
  exact (z0 (X9 (za7 (W0 (zt G_is_place a rfl (T.d 5) (zb (vk (edv 0) (zv zu) (fun _ _=>rfl)) (zb (edv 1) zd))))) (z0 (zcs (cl:=clT ad) (j:=2) ⟨T.g_NoPlace,T.c_NoPlace⟩ rfl)) yW))
noncomputable def Z5:SE→Ctl :=
  (zx (yu false 3 (zj ixD (zc 1) (zj ixD (zc 2) (eC (.int 0)))))
    (zx (yu false 4 (zj ixD (zc 1) (zj ixD (zc 2) (eC (.int 1)))))
    (sIf (Xt (tOf (zj gtD (zc 3) (zj Zq (eC (.int 2)) (zc 4)))) (tOf (zj gtD (zc 4) (zj Zq (eC (.int 2)) (zc 3))))) (zO (eC (.bl false))) zP)))
noncomputable def ZD:SE→Ctl :=
  (zx (WE (iOf (zj ixD (zc 0) (eC (.int 1)))) (yG 2) Z5)
    (zO (eC (.bl true))))
noncomputable def Vn:List D→Option D:=fnD 5 ZD
theorem zbI (T:Txt P w K mg base ad):zJ P w K mg base CX0 1 (ad.f 30) (ad.e 30) (Rw 30).ps (@spD ⟨K⟩ 2 Vn):=by
  letI:KK:=⟨K⟩
  refine zI (N:=(Rw 30).N) (ps:=(Rw 30).ps) (T.d 30).fn (sc 30) (g:=ZD) fun a A outer s H E b=>?_
  unfold ZD Z5
  have c:=(sc 30).nd
  apply zg <;> walk_at "s"
noncomputable def Wp:SE→Ctl :=
  (zO (eFn zfw (za (yp (fLC (zf7 (za (zc 0) (za (zc 1) ze))) b2 xJ (zj Zq (zc 0) (zc 1)))) ze)))
noncomputable def Wd:List D→Option D:=fnD 2 Wp
theorem Vo (T:Txt P w K mg base ad):zJ P w K mg base CX0 1 (ad.f 25) (ad.e 25) (Rw 25).ps (@spD ⟨K⟩ 2 Wd):=by
  letI:KK:=⟨K⟩
  refine zI (N:=(Rw 25).N) (ps:=(Rw 25).ps) (T.d 25).fn (sc 25) (g:=Wp) fun a A outer s H E b=>?_
  unfold Wp
  exact (zq (yg (yr (vI rfl) XC rfl (T.z "sum" (by decide)) Wl (zb (Ye (zcj (L:=["many","weight"]) (M:=["stones","weights"]) rfl (vZ (by rfl) (by rfl) (by rfl) (by with_unfolding_all rfl) (by rfl) (by rfl) (by kernel_rfl) yD) (zhx rfl (T.z "zip" (by decide)) (zb (edv 0) (zb (edv 1) zd))) gs2 rb2 (fun _ _ _ _=>(zfx rfl (Y6 (z3 (i:=0) zlA rfl (Or.inl rfl) (.inr rfl)) (Y6 (z3 (i:=1) zlA rfl (Or.inl rfl) (.inr rfl)) zb0)))) (fun _ _ _ _=>(zfq (edv 0) (edv 1))))) zd))))
noncomputable def VQ:SE→Ctl :=
  (zx (yH (zh 1 zp (za (zc 0) ze)))
    (zx (yH (zh 2 zM (za (zc 0) (za (zc 1) ze))))
    (zx (yH (zh 2 zF (za (zc 0) (za (zc 2) ze))))
    (zx (sIf (yX (tOf (zh 2 xo (za (zj ixD (zc 0) (eC (.int 0))) (za (zc 3) ze))))) (zO (eC (.bl false))) zP)
    (zO (zcv (zh 2 Vn (za (zc 0) (za (zc 3) ze))) (zj ltD (zh 2 Wd (za (zc 1) (za (zc 3) ze))) (zj ixD (zc 3) (zc 2)))))))))
noncomputable def VT:List D→Option D:=fnD 4 VQ
theorem zaY (T:Txt P w K mg base ad):zJ P w K mg base CX0 8 (ad.f 31) (ad.e 31) (Rw 31).ps (@spD ⟨K⟩ 4 VT):=by
  letI:KK:=⟨K⟩
  have G_are_counts:=xG T
  have G_must_be_web:=zn T
  have G_must_be_place:=zG T
  have G_must_be_heap:=zN T
  have G_weighed:=Vo T
  have G_are_even:=zbI T
  refine zI (N:=(Rw 31).N) (ps:=(Rw 31).ps) (T.d 31).fn (sc 31) (g:=VQ) fun a A outer s H E b=>?_
  unfold VQ
  have c:=(sc 31).nd
  apply zg <;> walk_at "s"
noncomputable def Wt:SE→Option Nat :=
  (Xu (xEx (yd 1 zA (za (zc 0) ze))) (yH (zh 1 zp (za (zc 0) ze)))
    (Xu (xEx (yd 2 yi (za (zc 0) (za (zc 1) ze)))) (yH (zh 2 zM (za (zc 0) (za (zc 1) ze))))
    (xEx (yd 2 zC (za (zc 0) (za (zc 2) ze))))))
noncomputable def zaH:List D→Option Nat:=fnX 4 Wt
theorem zcU (T:Txt P w K mg base ad):zJ P w K mg base (Air P w) 8 (ad.f 31) (ad.e 31) (Rw 31).ps (@spX ⟨K⟩ (clT ad) 4 zaH):=by
  letI:KK:=⟨K⟩
  have G_must_be_web:=zn T
  have X_must_be_web:=zz T
  have X_must_be_place:=zD T
  have G_must_be_heap:=zN T
  have X_must_be_heap:=yl T
  refine yf (cl:=clT ad) (N:=(Rw 31).N) (ps:=(Rw 31).ps) (T.d 31).fn (sc 31) (gx:=Wt) fun b A outer s H E a=>?_
  unfold Wt
  exact (zQ (zH (zB (X_must_be_web.mono (by decide)) zk a rfl (T.d 11).at_ (T.d 11).kp (T.d 11).bd (zb (edv 0) zd))) (SD.nox (zU (zt G_must_be_web a rfl (T.d 11) (zb (edv 0) zd))))
      (zQ (zH (zB (X_must_be_heap.mono (by decide)) zk a rfl (T.d 20).at_ (T.d 20).kp (T.d 20).bd (zb (edv 0) (zb (edv 1) zd)))) (SD.nox (zU (zt G_must_be_heap a rfl (T.d 20) (zb (edv 0) (zb (edv 1) zd)))))
      (zR (zH (zB (X_must_be_place.mono (by decide)) zk a rfl (T.d 12).at_ (T.d 12).kp (T.d 12).bd (zb (edv 0) (zb (edv 2) zd)))))))
noncomputable def wR:SE→Ctl :=
  (zO (yJ (za (eFn zkz (za (zc 0) (za (zc 1) ze))) (za (eFn zk9 (za (zc 0) (za (zc 1) ze))) ze))))
noncomputable def wQ:List D→Option D:=fnD 2 wR
theorem Yr (T:Txt P w K mg base ad):zJ P w K mg base CX0 1 (ad.f 13) (ad.e 13) (Rw 13).ps (@spD ⟨K⟩ 2 wQ):=by
  letI:KK:=⟨K⟩
  refine zI (N:=(Rw 13).N) (ps:=(Rw 13).ps) (T.d 13).fn (sc 13) (g:=wR) fun a A outer s H E b=>?_
  unfold wR
  have c:=(sc 13).nd
  apply zq <;> walk_at "s"
noncomputable def vt:SE→Ctl :=
  (zO (yp (fLC (zhq WT (za (zj ixD (zc 0) (eC (.int 0))) ze)) b1 (tOf (zj inD (zh 2 wQ (za (zc 2) (za (zc 0) ze))) (zj ixD (zc 1) (eC (.int 1))))) (zc 0))))
noncomputable def x6:List D→Option D:=fnD 2 vt
theorem wB (T:Txt P w K mg base ad):zJ P w K mg base CX0 2 (ad.f 14) (ad.e 14) (Rw 14).ps (@spD ⟨K⟩ 2 x6):=by
  letI:KK:=⟨K⟩
  have G_tie_between:=Yr T
  refine zI (N:=(Rw 14).N) (ps:=(Rw 14).ps) (T.d 14).fn (sc 14) (g:=vt) fun a A outer s H E b=>?_
  unfold vt
  have c:=(sc 14).nd
  apply zq <;> walk_at "s"
noncomputable def Zn:SE→Ctl :=
  (sIf (tOf (zj zlT (zj ixD (zc 2) (zc 6)) (eC .non))) (zx (zeC true 2 (zc 6) (zj vA (zj ixD (zc 2) (zc 5)) (eC (.int 1))))
    (zhA false 4 (zc 6))) zP)
noncomputable def Zg:SE→Ctl :=
  (WE (iOf (zh 2 x6 (za (zc 0) (za (zc 5) ze)))) (yG 6) Zn)
noncomputable def Zm:SE→Ctl :=
  (zx (zao 4 (z4 ze))
    (zx (WE (iOf (zc 3)) (yG 5) Zg)
    (sFz 4 (yu false 3 (zc 4)))))
noncomputable def YJ:SE→Ctl :=
  (zx (zao 2 (zhC zds (yp (z4 (za (eC .non) ze))) (zj ixD (zc 0) (eC (.int 0)))))
    (zx (zeC false 2 (zc 1) (eC (.int 0)))
    (zx (yu false 3 (yp (z4 (za (zc 1) ze))))
    (zx (vR (tOf (zj gtD (eFn WU (za (zc 3) ze)) (eC (.int 0)))) Zm 20)
    (sFz 2 (zO (zc 2)))))))
noncomputable def xa:List D→Option D:=fnD 7 YJ
theorem xp (T:Txt P w K mg base ad):zJ P w K mg base CX0 3 (ad.f 15) (ad.e 15) (Rw 15).ps (@spD ⟨K⟩ 2 xa):=by
  letI:KK:=⟨K⟩
  have G_neighbours:=wB T
  refine zI (N:=(Rw 15).N) (ps:=(Rw 15).ps) (T.d 15).fn (sc 15) (g:=YJ) fun a A outer s H E b=>?_
  unfold YJ Zm Zg Zn
  have c:=(sc 15).nd
  apply zg <;> walk_at "s"
noncomputable def W4:SE→Ctl :=
  (zx (yu false 3 (zh 2 xa (za (zc 0) (za (zc 2) ze))))
    (zx (yu false 4 (eFn vz (za (yp (fLC (zhq WT (za (zj ixD (zc 0) (eC (.int 0))) ze)) b1 (tOf (zj Wc (zj ixD (zc 4) (zc 0)) (eC .non))) (zc 0))) ze)))
    (sIf (tOf (zj Ze (zj ixD (zc 4) (eC (.int 0))) (zc 2))) (zhA false 1 (zc 4)) zP)))
noncomputable def V0:SE→Ctl :=
  (zx (yH (zh 1 zp (za (zc 0) ze)))
    (zx (zao 1 (z4 ze))
    (zx (Wn WT (za (zj ixD (zc 0) (eC (.int 0))) ze) (yG 2) W4)
    (sFz 1 (zO (zc 1))))))
noncomputable def zb7:List D→Option D:=fnD 5 V0
theorem zeR (T:Txt P w K mg base ad):zJ P w K mg base CX0 8 (ad.f 16) (ad.e 16) (Rw 16).ps (@spD ⟨K⟩ 1 zb7):=by
  letI:KK:=⟨K⟩
  have G_must_be_web:=zn T
  have G_ties_away:=xp T
  refine zI (N:=(Rw 16).N) (ps:=(Rw 16).ps) (T.d 16).fn (sc 16) (g:=V0) fun a A outer s H E b=>?_
  unfold V0 W4
  have c:=(sc 16).nd
  apply zg <;> walk_at "s"
noncomputable def YC:SE→Ctl :=
  (zO (zj Ze (eFn WU (za (zh 1 zb7 (za (zc 0) ze)) ze)) (eC (.int 1))))
noncomputable def X8:List D→Option D:=fnD 1 YC
theorem zaS (T:Txt P w K mg base ad):zJ P w K mg base CX0 9 (ad.f 17) (ad.e 17) (Rw 17).ps (@spD ⟨K⟩ 1 X8):=by
  letI:KK:=⟨K⟩
  have G_pieces:=zeR T
  refine zI (N:=(Rw 17).N) (ps:=(Rw 17).ps) (T.d 17).fn (sc 17) (g:=YC) fun a A outer s H E b=>?_
  unfold YC
  have c:=(sc 17).nd
  apply zq <;> walk_at "s"
noncomputable def XW:SE→Ctl :=
  (zO (zcv (zh 1 X8 (za (zc 0) ze)) (zj Ze (eFn WU (za (zj ixD (zc 0) (eC (.int 1))) ze)) (zj Zr (zj ixD (zc 0) (eC (.int 0))) (eC (.int 1))))))
noncomputable def zay:List D→Option D:=fnD 1 XW
theorem zcW (T:Txt P w K mg base ad):zJ P w K mg base CX0 10 (ad.f 18) (ad.e 18) (Rw 18).ps (@spD ⟨K⟩ 1 zay):=by
  letI:KK:=⟨K⟩
  have G_is_joined:=zaS T
  refine zI (N:=(Rw 18).N) (ps:=(Rw 18).ps) (T.d 18).fn (sc 18) (g:=XW) fun a A outer s H E b=>?_
  unfold XW
  have c:=(sc 18).nd
  apply zq <;> walk_at "s"
noncomputable def wq:SE→Ctl :=
  (sIf (yX (tOf (zh 1 zay (za (zc 0) ze)))) sNo zP)
noncomputable def ym:List D→Option D:=fnD 1 wq
theorem yx (T:Txt P w K mg base ad):zJ P w K mg base CX0 11 (ad.f 34) (ad.e 34) (Rw 34).ps (@spD ⟨K⟩ 1 ym):=by
  letI:KK:=⟨K⟩
  have G_is_tree:=zcW T
  refine zI (N:=(Rw 34).N) (ps:=(Rw 34).ps) (T.d 34).fn (sc 34) (g:=wq) fun a A outer s H E b=>?_
  unfold wq
  have c:=(sc 34).nd
  apply zq <;> walk_at "s"
noncomputable def xx:SE→Ctl :=
  (zx (yH (zh 1 zp (za (zc 0) ze)))
    (zx (yH (zh 2 zM (za (zc 0) (za (zc 1) ze))))
    (zx (yH (zh 2 zF (za (zc 0) (za (zc 2) ze))))
    (yH (zh 1 ym (za (zc 0) ze))))))
noncomputable def yI:List D→Option D:=fnD 3 xx
theorem xh (T:Txt P w K mg base ad):zJ P w K mg base CX0 12 (ad.f 46) (ad.e 46) (Rw 46).ps (@spD ⟨K⟩ 3 yI):=by
  letI:KK:=⟨K⟩
  have G_must_be_web:=zn T
  have G_must_be_place:=zG T
  have G_must_be_heap:=zN T
  have G_must_be_tree:=yx T
  refine zI (N:=(Rw 46).N) (ps:=(Rw 46).ps) (T.d 46).fn (sc 46) (g:=xx) fun a A outer s H E b=>?_
  unfold xx
  have c:=(sc 46).nd
  apply zg <;> walk_at "s"
noncomputable def y9:SE→Option Nat :=
  (Xu (xEx (yd 1 zA (za (zc 0) ze))) (yH (zh 1 zp (za (zc 0) ze)))
    (Xu (xEx (yd 2 yi (za (zc 0) (za (zc 1) ze)))) (yH (zh 2 zM (za (zc 0) (za (zc 1) ze))))
    (xEx (yd 2 zC (za (zc 0) (za (zc 2) ze))))))
noncomputable def yz:List D→Option Nat:=fnX 3 y9
theorem yU (T:Txt P w K mg base ad):zJ P w K mg base (Air P w) 12 (ad.f 46) (ad.e 46) (Rw 46).ps (@spX ⟨K⟩ (clT ad) 3 yz):=by
  letI:KK:=⟨K⟩
  have G_must_be_web:=zn T
  have X_must_be_web:=zz T
  have X_must_be_place:=zD T
  have G_must_be_heap:=zN T
  have X_must_be_heap:=yl T
  refine yf (cl:=clT ad) (N:=(Rw 46).N) (ps:=(Rw 46).ps) (T.d 46).fn (sc 46) (gx:=y9) fun b A outer s H E a=>?_
  unfold y9
  exact (zQ (zH (zB (X_must_be_web.mono (by decide)) zk a rfl (T.d 11).at_ (T.d 11).kp (T.d 11).bd (zb (edv 0) zd))) (SD.nox (zU (zt G_must_be_web a rfl (T.d 11) (zb (edv 0) zd))))
      (zQ (zH (zB (X_must_be_heap.mono (by decide)) zk a rfl (T.d 20).at_ (T.d 20).kp (T.d 20).bd (zb (edv 0) (zb (edv 1) zd)))) (SD.nox (zU (zt G_must_be_heap a rfl (T.d 20) (zb (edv 0) (zb (edv 1) zd)))))
      (zR (zH (zB (X_must_be_place.mono (by decide)) zk a rfl (T.d 12).at_ (T.d 12).kp (T.d 12).bd (zb (edv 0) (zb (edv 2) zd)))))))
noncomputable def xz:SE→Ctl :=
  (zhA false 3 (yp (fLC (iOf (zh 2 x6 (za (zc 0) (za (zc 4) ze)))) b1 (tOf (zj gtD (zj ixD (zc 3) (zc 0)) (zj ixD (zc 3) (zc 5)))) (zc 0))))
noncomputable def yQ:SE→Ctl :=
  (zx (yu false 2 (zh 2 xa (za (zc 0) (za (zc 1) ze))))
    (zx (zao 3 (z4 ze))
    (zx (Wn WT (za (zj ixD (zc 0) (eC (.int 0))) ze) (yG 4) xz)
    (sFz 3 (zO (zc 3))))))
noncomputable def zT:List D→Option D:=fnD 5 yQ
theorem zZ (T:Txt P w K mg base ad):zJ P w K mg base CX0 4 (ad.f 35) (ad.e 35) (Rw 35).ps (@spD ⟨K⟩ 2 zT):=by
  letI:KK:=⟨K⟩
  have G_neighbours:=wB T
  have G_ties_away:=xp T
  refine zI (N:=(Rw 35).N) (ps:=(Rw 35).ps) (T.d 35).fn (sc 35) (g:=yQ) fun a A outer s H E b=>?_
  unfold yQ xz
  have c:=(sc 35).nd
  apply zg <;> walk_at "s"
noncomputable def ZN:SE→Ctl :=
  (zO (zj vA (zj ixD (zc 0) (zc 3)) (eFn zfw (za (yp (fLC (iOf (zj ixD (zc 1) (zc 3))) b1 xJ (zj ixD (zc 3) (zc 0)))) ze))))
noncomputable def ZL:List D→Option D:=fnD 4 ZN
theorem Wv (T:Txt P w K mg base ad):zJ P w K mg base CX0 1 (ad.f 47) (ad.e 47) (Rw 47).ps (@spD ⟨K⟩ 4 ZL):=by
  letI:KK:=⟨K⟩
  refine zI (N:=(Rw 47).N) (ps:=(Rw 47).ps) (T.d 47).fn (sc 47) (g:=ZN) fun a A outer s H E b=>?_
  unfold ZN
  have c:=(sc 47).nd
  apply zq <;> walk_at "s"
noncomputable def vy:SE→Ctl :=
  (zx (yu false 6 (zh 4 ZL (za (zc 1) (za (zc 4) (za (zc 3) (za (zc 5) ze))))))
    (zx (yu false 7 (eIf (tOf (zj Ze (zc 5) (zc 2))) (zj ixD (zc 3) (zc 5)) (zj vA (zj Zq (eC (.int 2)) (zj ixD (zc 3) (zc 5))) (eC (.int 1)))))
    (sIf (tOf (zj gtD (zc 6) (zc 7))) (zO (eC (.bl false))) zP)))
noncomputable def wU:SE→Ctl :=
  (zx (yH (zh 3 yI (za (zc 0) (za (zc 1) (za (zc 2) ze)))))
    (zx (sIf (yX (tOf (zh 2 xo (za (zj ixD (zc 0) (eC (.int 0))) (za (zc 3) ze))))) (zO (eC (.bl false))) zP)
    (zx (yu false 4 (zh 2 zT (za (zc 0) (za (zc 2) ze))))
    (zx (Wn WT (za (zj ixD (zc 0) (eC (.int 0))) ze) (yG 5) vy)
    (zO (eC (.bl true)))))))
noncomputable def YY:List D→Option D:=fnD 8 wU
theorem WO (T:Txt P w K mg base ad):zJ P w K mg base CX0 13 (ad.f 51) (ad.e 51) (Rw 51).ps (@spD ⟨K⟩ 4 YY):=by
  letI:KK:=⟨K⟩
  have G_are_counts:=xG T
  have G_outer_neighbours:=zZ T
  have G_must_be_rooted:=xh T
  have G_gathered:=Wv T
  refine zI (N:=(Rw 51).N) (ps:=(Rw 51).ps) (T.d 51).fn (sc 51) (g:=wU) fun a A outer s H E b=>?_
  unfold wU vy
  have c:=(sc 51).nd
  apply zg <;> walk_at "s"
noncomputable def wh:SE→Option Nat :=
  (xEx (yd 3 yz (za (zc 0) (za (zc 1) (za (zc 2) ze)))))
noncomputable def Yu:List D→Option Nat:=fnX 8 wh
theorem Wb (T:Txt P w K mg base ad):zJ P w K mg base (Air P w) 13 (ad.f 51) (ad.e 51) (Rw 51).ps (@spX ⟨K⟩ (clT ad) 4 Yu):=by
  letI:KK:=⟨K⟩
  have X_must_be_rooted:=yU T
  refine yf (cl:=clT ad) (N:=(Rw 51).N) (ps:=(Rw 51).ps) (T.d 51).fn (sc 51) (gx:=wh) fun b A outer s H E a=>?_
  unfold wh
  exact (zR (zH (zB (X_must_be_rooted.mono (by decide)) zk a rfl (T.d 46).at_ (T.d 46).kp (T.d 46).bd (zb (edv 0) (zb (edv 1) (zb (edv 2) zd))))))
noncomputable def XR:SE→Ctl :=
  (yu false 0 (zj Zq (eC (.int 2)) (zc 0)))
noncomputable def Xy:SE→Ctl :=
  (zx (Wn WT (za (zc 1) ze) (yG 2) XR)
    (zO (zc 0)))
noncomputable def Zo:List D→Option D:=fnD 3 Xy
theorem ZE (T:Txt P w K mg base ad):zJ P w K mg base CX0 1 (ad.f 7) (ad.e 7) (Rw 7).ps (@spD ⟨K⟩ 2 Zo):=by
  letI:KK:=⟨K⟩
  refine zI (N:=(Rw 7).N) (ps:=(Rw 7).ps) (T.d 7).fn (sc 7) (g:=Xy) fun a A outer s H E b=>?_
  unfold Xy XR
  have c:=(sc 7).nd
  apply zg <;> walk_at "s"
noncomputable def xi:SE→Ctl :=
  (zx (yu false 2 (zh 2 xa (za (zc 0) (za (zc 1) ze))))
    (zx (yu false 3 (eFn zkg (za (yp (fLC (iOf (zc 2)) b1 (tOf (zj Wc (zc 0) (eC .non))) (zc 0))) ze)))
    (zO (eFn vz (za (yp (fLC (iOf (zc 2)) b1 xJ (eIf (tOf (zj zlT (zc 0) (eC .non))) (eC (.int 0)) (zh 2 Zo (za (eC (.int 1)) (za (zj Zr (zc 4) (zc 0)) ze)))))) ze)))))
noncomputable def yA:List D→Option D:=fnD 4 xi
theorem yV (T:Txt P w K mg base ad):zJ P w K mg base CX0 4 (ad.f 26) (ad.e 26) (Rw 26).ps (@spD ⟨K⟩ 2 yA):=by
  letI:KK:=⟨K⟩
  have G_doubled:=ZE T
  have G_ties_away:=xp T
  refine zI (N:=(Rw 26).N) (ps:=(Rw 26).ps) (T.d 26).fn (sc 26) (g:=xi) fun a A outer s H E b=>?_
  unfold xi
  have c:=(sc 26).nd
  apply zg <;> walk_at "s"
noncomputable def WS:SE→Ctl :=
  (zx (yu false 4 (zj Zp (zc 2) (zc 3)))
    (zx (yu false 2 (zc 3))
    (yu false 3 (zc 4))))
noncomputable def VR:SE→Ctl :=
  (zx (yu false 2 (zc 0))
    (zx (yu false 3 (zc 1))
    (zx (vR (tOf (zj gtD (zc 3) (eC (.int 0)))) WS 20)
    (zO (yJ (za (zj Xm (zc 0) (zc 2)) (za (zj Xm (zc 1) (zc 2)) ze)))))))
noncomputable def VL:List D→Option D:=fnD 5 VR
theorem zaJ (T:Txt P w K mg base ad):zJ P w K mg base CX0 1 (ad.f 24) (ad.e 24) (Rw 24).ps (@spD ⟨K⟩ 2 VL):=by
  letI:KK:=⟨K⟩
  refine zI (N:=(Rw 24).N) (ps:=(Rw 24).ps) (T.d 24).fn (sc 24) (g:=VR) fun a A outer s H E b=>?_
  unfold VR WS
  have c:=(sc 24).nd
  apply zg <;> walk_at "s"
noncomputable def zbA:SE→Ctl :=
  (zx (yu false 3 (zh 2 yA (za (zc 0) (za (zc 2) ze))))
    (zO (zh 2 VL (za (zh 2 Wd (za (zc 1) (za (zc 3) ze))) (za (zj ixD (zc 3) (zc 2)) ze)))))
noncomputable def zbC:List D→Option D:=fnD 4 zbA
theorem zcq (T:Txt P w K mg base ad):zJ P w K mg base CX0 5 (ad.f 27) (ad.e 27) (Rw 27).ps (@spD ⟨K⟩ 3 zbC):=by
  letI:KK:=⟨K⟩
  have G_lowest:=zaJ T
  have G_weighed:=Vo T
  have G_halving_weights:=yV T
  refine zI (N:=(Rw 27).N) (ps:=(Rw 27).ps) (T.d 27).fn (sc 27) (g:=zbA) fun a A outer s H E b=>?_
  unfold zbA
  have c:=(sc 27).nd
  apply zg <;> walk_at "s"
noncomputable def ZA:SE→Ctl :=
  (zx (yH (zh 1 zp (za (zc 0) ze)))
    (zx (yH (zh 2 zM (za (zc 0) (za (zc 1) ze))))
    (zx (yH (zh 2 zF (za (zc 0) (za (zc 2) ze))))
    (zO (zh 3 zbC (za (zc 0) (za (zc 1) (za (zc 2) ze))))))))
noncomputable def v9:List D→Option D:=fnD 3 ZA
theorem YN (T:Txt P w K mg base ad):zJ P w K mg base CX0 8 (ad.f 28) (ad.e 28) (Rw 28).ps (@spD ⟨K⟩ 3 v9):=by
  letI:KK:=⟨K⟩
  have G_must_be_web:=zn T
  have G_must_be_place:=zG T
  have G_must_be_heap:=zN T
  have G_worth:=zcq T
  refine zI (N:=(Rw 28).N) (ps:=(Rw 28).ps) (T.d 28).fn (sc 28) (g:=ZA) fun a A outer s H E b=>?_
  unfold ZA
  have c:=(sc 28).nd
  apply zg <;> walk_at "s"
noncomputable def YT:SE→Option Nat :=
  (Xu (xEx (yd 1 zA (za (zc 0) ze))) (yH (zh 1 zp (za (zc 0) ze)))
    (Xu (xEx (yd 2 yi (za (zc 0) (za (zc 1) ze)))) (yH (zh 2 zM (za (zc 0) (za (zc 1) ze))))
    (xEx (yd 2 zC (za (zc 0) (za (zc 2) ze))))))
noncomputable def YE:List D→Option Nat:=fnX 3 YT
theorem ZS (T:Txt P w K mg base ad):zJ P w K mg base (Air P w) 8 (ad.f 28) (ad.e 28) (Rw 28).ps (@spX ⟨K⟩ (clT ad) 3 YE):=by
  letI:KK:=⟨K⟩
  have G_must_be_web:=zn T
  have X_must_be_web:=zz T
  have X_must_be_place:=zD T
  have G_must_be_heap:=zN T
  have X_must_be_heap:=yl T
  refine yf (cl:=clT ad) (N:=(Rw 28).N) (ps:=(Rw 28).ps) (T.d 28).fn (sc 28) (gx:=YT) fun b A outer s H E a=>?_
  unfold YT
  exact (zQ (zH (zB (X_must_be_web.mono (by decide)) zk a rfl (T.d 11).at_ (T.d 11).kp (T.d 11).bd (zb (edv 0) zd))) (SD.nox (zU (zt G_must_be_web a rfl (T.d 11) (zb (edv 0) zd))))
      (zQ (zH (zB (X_must_be_heap.mono (by decide)) zk a rfl (T.d 20).at_ (T.d 20).kp (T.d 20).bd (zb (edv 0) (zb (edv 1) zd)))) (SD.nox (zU (zt G_must_be_heap a rfl (T.d 20) (zb (edv 0) (zb (edv 1) zd)))))
      (zR (zH (zB (X_must_be_place.mono (by decide)) zk a rfl (T.d 12).at_ (T.d 12).kp (T.d 12).bd (zb (edv 0) (zb (edv 2) zd)))))))
noncomputable def XB:SE→Ctl :=
  (zx (yu false 3 (zh 3 v9 (za (zc 0) (za (zc 1) (za (zc 2) ze)))))
    (zO (zj Xm (zj ixD (zc 3) (eC (.int 0))) (zj ixD (zc 3) (eC (.int 1))))))
noncomputable def X1:List D→Option D:=fnD 4 XB
theorem Vc (T:Txt P w K mg base ad):zJ P w K mg base CX0 9 (ad.f 29) (ad.e 29) (Rw 29).ps (@spD ⟨K⟩ 3 X1):=by
  letI:KK:=⟨K⟩
  have G_worth_at:=YN T
  refine zI (N:=(Rw 29).N) (ps:=(Rw 29).ps) (T.d 29).fn (sc 29) (g:=XB) fun a A outer s H E b=>?_
  unfold XB
  have c:=(sc 29).nd
  apply zg <;> walk_at "s"
noncomputable def Zu:SE→Option Nat :=
  (xEx (yd 3 YE (za (zc 0) (za (zc 1) (za (zc 2) ze)))))
noncomputable def Vg:List D→Option Nat:=fnX 4 Zu
theorem zb6 (T:Txt P w K mg base ad):zJ P w K mg base (Air P w) 9 (ad.f 29) (ad.e 29) (Rw 29).ps (@spX ⟨K⟩ (clT ad) 3 Vg):=by
  letI:KK:=⟨K⟩
  have X_worth_at:=ZS T
  refine yf (cl:=clT ad) (N:=(Rw 29).N) (ps:=(Rw 29).ps) (T.d 29).fn (sc 29) (gx:=Zu) fun b A outer s H E a=>?_
  unfold Zu
  exact (zR (zj5 (i:=3) (sc 29).nd rfl (Or.inl rfl) (zB (X_worth_at.mono (by decide)) zk a rfl (T.d 28).at_ (T.d 28).kp (T.d 28).bd (zb (edv 0) (zb (edv 1) (zb (edv 2) zd))))))
noncomputable def Xz:SE→Ctl :=
  (zx (yH (zh 1 zp (za (zc 0) ze)))
    (zx (yH (zh 2 zM (za (zc 0) (za (zc 1) ze))))
    (zx (yH (zh 2 zF (za (zc 0) (za (zc 2) ze))))
    (zx (yu false 3 (zh 2 yA (za (zc 0) (za (zc 2) ze))))
    (zO (eIf (tOf (zh 4 VT (za (zc 0) (za (zc 1) (za (zc 2) (za (zc 3) ze)))))) (zc 3) (eC .non)))))))
noncomputable def WB:List D→Option D:=fnD 4 Xz
theorem Vj (T:Txt P w K mg base ad):zJ P w K mg base CX0 9 (ad.f 33) (ad.e 33) (Rw 33).ps (@spD ⟨K⟩ 3 WB):=by
  letI:KK:=⟨K⟩
  have G_must_be_web:=zn T
  have G_must_be_place:=zG T
  have G_must_be_heap:=zN T
  have G_halving_weights:=yV T
  have G_is_bar:=zaY T
  refine zI (N:=(Rw 33).N) (ps:=(Rw 33).ps) (T.d 33).fn (sc 33) (g:=Xz) fun a A outer s H E b=>?_
  unfold Xz
  have c:=(sc 33).nd
  apply zg <;> walk_at "s"
noncomputable def ZF:SE→Option Nat :=
  (Xu (xEx (yd 1 zA (za (zc 0) ze))) (yH (zh 1 zp (za (zc 0) ze)))
    (Xu (xEx (yd 2 yi (za (zc 0) (za (zc 1) ze)))) (yH (zh 2 zM (za (zc 0) (za (zc 1) ze))))
    (xEx (yd 2 zC (za (zc 0) (za (zc 2) ze))))))
noncomputable def Va:List D→Option Nat:=fnX 4 ZF
theorem zbp (T:Txt P w K mg base ad):zJ P w K mg base (Air P w) 9 (ad.f 33) (ad.e 33) (Rw 33).ps (@spX ⟨K⟩ (clT ad) 3 Va):=by
  letI:KK:=⟨K⟩
  have G_must_be_web:=zn T
  have X_must_be_web:=zz T
  have X_must_be_place:=zD T
  have G_must_be_heap:=zN T
  have X_must_be_heap:=yl T
  refine yf (cl:=clT ad) (N:=(Rw 33).N) (ps:=(Rw 33).ps) (T.d 33).fn (sc 33) (gx:=ZF) fun b A outer s H E a=>?_
  unfold ZF
  exact (zQ (zH (zB (X_must_be_web.mono (by decide)) zk a rfl (T.d 11).at_ (T.d 11).kp (T.d 11).bd (zb (edv 0) zd))) (SD.nox (zU (zt G_must_be_web a rfl (T.d 11) (zb (edv 0) zd))))
      (zQ (zH (zB (X_must_be_heap.mono (by decide)) zk a rfl (T.d 20).at_ (T.d 20).kp (T.d 20).bd (zb (edv 0) (zb (edv 1) zd)))) (SD.nox (zU (zt G_must_be_heap a rfl (T.d 20) (zb (edv 0) (zb (edv 1) zd)))))
      (zR (zH (zB (X_must_be_place.mono (by decide)) zk a rfl (T.d 12).at_ (T.d 12).kp (T.d 12).bd (zb (edv 0) (zb (edv 2) zd)))))))
noncomputable def ZM:SE→Ctl :=
  (zx (yu false 2 (zh 2 xa (za (zc 0) (za (zc 1) ze))))
    (zO (yp (zeZ (zj ixD (zc 0) (eC (.int 0))) (yJ (za (zj ixD (zc 3) (zc 0)) (za (zc 0) ze)))))))
noncomputable def p_outwards:List D→Option D:=fnD 3 ZM
theorem YV (T:Txt P w K mg base ad):zJ P w K mg base CX0 5 (ad.f 37) (ad.e 37) (Rw 37).ps (@spD ⟨K⟩ 2 p_outwards):=by
  letI:KK:=⟨K⟩
  have G_ties_away:=xp T
  refine zdW (N:=(Rw 37).N) (ps:=(Rw 37).ps) T.lc_outwards (T.d 37).fn (sc 37) (g:=ZM) fun A outer s H E a=>?_
  unfold ZM
  exact (zg (vf (m:=false) (i:=2) (sc 37).nd rfl (Or.inr rfl) (zt G_ties_away a rfl (T.d 15) (zb (edv 0) (zb (edv 1) zd))))
      (zq (yg (Ye (zcd (x:="place") (M:=["web","root","away"]) a rfl (T.z "sorted" (by decide)) rfl (T.z "range" (by decide)) (vk (edv 0) (zv zu) (fun _ _=>rfl)) T.la_outwards rfl (zb9 (by rfl) (by rfl) (by rfl) (by with_unfolding_all rfl) (by rfl) (by rfl) (by rfl) (by rfl) (by rfl) (by kernel_rfl) (all_cons rfl yD)) rfl (by kernel_rfl) (fun _ _ _ _=>rfl) (fun _ _ _ _ _=>(xB (zb (vk (edv 3) (edv 0) (fun _ _=>rfl)) (zb (edv 0) zd)))))))))
noncomputable def Ym:SE→Ctl :=
  (zx (yu true 6 (zh 4 ZL (za (zc 1) (za (zc 3) (za (zc 4) (za (zc 5) ze))))))
    (zeC false 4 (zc 5) (eIf (tOf (zj Ze (zc 5) (zc 2))) (zc 6) (zj Xm (zc 6) (eC (.int 2))))))
noncomputable def vD:SE→Ctl :=
  (zx (yu false 3 (zh 2 zT (za (zc 0) (za (zc 2) ze))))
    (zx (zao 4 (zhC zds (yp (z4 (za (eC (.int 0)) ze))) (zj ixD (zc 0) (eC (.int 0)))))
    (zx (WE (zmj (zh 2 p_outwards (za (zc 0) (za (zc 2) ze)))) (yG 5) Ym)
    (sFz 4 (zO (eFn vz (za (zc 4) ze)))))))
noncomputable def vw:List D→Option D:=fnD 7 vD
theorem Zk (T:Txt P w K mg base ad):zJ P w K mg base CX0 6 (ad.f 48) (ad.e 48) (Rw 48).ps (@spD ⟨K⟩ 3 vw):=by
  letI:KK:=⟨K⟩
  have G_outer_neighbours:=zZ T
  have G_outwards:=YV T
  have G_gathered:=Wv T
  refine zI (N:=(Rw 48).N) (ps:=(Rw 48).ps) (T.d 48).fn (sc 48) (g:=vD) fun a A outer s H E b=>?_
  unfold vD Ym
  have c:=(sc 48).nd
  apply zg <;> walk_at "s"
noncomputable def Wr:SE→Ctl :=
  (zx (yH (zh 3 yI (za (zc 0) (za (zc 1) (za (zc 2) ze)))))
    (zO (zh 3 vw (za (zc 0) (za (zc 1) (za (zc 2) ze))))))
noncomputable def X0:List D→Option D:=fnD 3 Wr
theorem W7 (T:Txt P w K mg base ad):zJ P w K mg base CX0 13 (ad.f 49) (ad.e 49) (Rw 49).ps (@spD ⟨K⟩ 3 X0):=by
  letI:KK:=⟨K⟩
  have G_must_be_rooted:=xh T
  have G_carried_to:=Zk T
  refine zI (N:=(Rw 49).N) (ps:=(Rw 49).ps) (T.d 49).fn (sc 49) (g:=Wr) fun a A outer s H E b=>?_
  unfold Wr
  have c:=(sc 49).nd
  apply zg <;> walk_at "s"
noncomputable def ZC:SE→Option Nat :=
  (xEx (yd 3 yz (za (zc 0) (za (zc 1) (za (zc 2) ze)))))
noncomputable def W2:List D→Option Nat:=fnX 3 ZC
theorem zby (T:Txt P w K mg base ad):zJ P w K mg base (Air P w) 13 (ad.f 49) (ad.e 49) (Rw 49).ps (@spX ⟨K⟩ (clT ad) 3 W2):=by
  letI:KK:=⟨K⟩
  have X_must_be_rooted:=yU T
  refine yf (cl:=clT ad) (N:=(Rw 49).N) (ps:=(Rw 49).ps) (T.d 49).fn (sc 49) (gx:=ZC) fun b A outer s H E a=>?_
  unfold ZC
  exact (zR (zH (zB (X_must_be_rooted.mono (by decide)) zk a rfl (T.d 46).at_ (T.d 46).kp (T.d 46).bd (zb (edv 0) (zb (edv 1) (zb (edv 2) zd))))))
noncomputable def xE:SE→Ctl :=
  (zeC false 2 (zc 5) (zc 3))
noncomputable def xA:SE→Ctl :=
  (WE (iOf (zc 4)) (yG 5) xE)
noncomputable def yT:SE→Ctl :=
  (zx (zao 2 (zhC zds (yp (z4 (za (eC .non) ze))) (zj ixD (zc 0) (eC (.int 0)))))
    (zx (WE (W1 (za (zh 2 zT (za (zc 0) (za (zc 1) ze))) ze)) (zhw 2 (Xj (yG 3) (Xj (yG 4) zi1))) xA)
    (sFz 2 (zO (zc 2)))))
noncomputable def yS:List D→Option D:=fnD 6 yT
theorem xT (T:Txt P w K mg base ad):zJ P w K mg base CX0 5 (ad.f 36) (ad.e 36) (Rw 36).ps (@spD ⟨K⟩ 2 yS):=by
  letI:KK:=⟨K⟩
  have G_outer_neighbours:=zZ T
  refine zI (N:=(Rw 36).N) (ps:=(Rw 36).ps) (T.d 36).fn (sc 36) (g:=yT) fun a A outer s H E b=>?_
  unfold yT xA xE
  have c:=(sc 36).nd
  apply zg <;> walk_at "s"
noncomputable def Yg:SE→Ctl :=
  (sIf (tOf (zj neD (zc 7) (zc 2))) (zjG 6 (yp (zhC zds (yp (z4 (za (yJ (za (zc 7) (za (zj ixD (zc 4) (zc 7)) ze))) ze))) (zj ixD (zc 3) (zc 7))))) zP)
noncomputable def vr:SE→Ctl :=
  (zx (yH (zh 3 yI (za (zc 0) (za (zc 1) (za (zc 2) ze)))))
    (zx (yu false 3 (zh 3 vw (za (zc 0) (za (zc 1) (za (zc 2) ze)))))
    (zx (yu false 4 (zh 2 yS (za (zc 0) (za (zc 2) ze))))
    (zx (yu false 5 (zh 2 xa (za (zc 0) (za (zc 2) ze))))
    (zx (zao 6 (z4 ze))
    (zx (WE (iOf (yp (zeZ (zj ixD (zc 0) (eC (.int 0))) (yJ (za (eUn zcM (zj ixD (zc 6) (zc 0))) (za (zc 0) ze)))))) (yG 7) Yg)
    (sFz 6 (zO (zc 6)))))))))
noncomputable def p_tree_steps:List D→Option D:=fnD 8 vr
theorem Y2 (T:Txt P w K mg base ad):zJ P w K mg base CX0 13 (ad.f 50) (ad.e 50) (Rw 50).ps (@spD ⟨K⟩ 3 p_tree_steps):=by
  letI:KK:=⟨K⟩
  have G_ties_away:=xp T
  have G_inner_neighbours:=xT T
  have G_must_be_rooted:=xh T
  have G_carried_to:=Zk T
  refine zdW (N:=(Rw 50).N) (ps:=(Rw 50).ps) T.lc_tree_steps (T.d 50).fn (sc 50) (g:=vr) fun A outer s H E c=>?_
  unfold vr Yg
  exact (zg (zU (zt G_must_be_rooted c rfl (T.d 46) (zb (edv 0) (zb (edv 1) (zb (edv 2) zd)))))
      (zg (vf (m:=false) (i:=3) (sc 50).nd rfl (Or.inl rfl) (zt G_carried_to c rfl (T.d 48) (zb (edv 0) (zb (edv 1) (zb (edv 2) zd)))))
      (zg (vf (m:=false) (i:=4) (sc 50).nd rfl (Or.inl rfl) (zt G_inner_neighbours c rfl (T.d 36) (zb (edv 0) (zb (edv 2) zd))))
      (zg (vf (m:=false) (i:=5) (sc 50).nd rfl (Or.inr rfl) (zt G_ties_away c rfl (T.d 15) (zb (edv 0) (zb (edv 2) zd))))
      (zg (zaN (i:=6) (sc 50).nd rfl (Or.inl rfl) (YZ zd))
      (zg (zap PassesOwn.never rfl (ZZ (Ye (zcd (x:="at") (M:=["web","heap","place","carried","inner","away","steps","other"]) c rfl (T.z "sorted" (by decide)) rfl (T.z "range" (by decide)) (vk (edv 0) (zv zu) (fun _ _=>rfl)) T.la_tree_steps rfl (zb9 (by rfl) (by rfl) (by rfl) (by with_unfolding_all rfl) (by rfl) (by rfl) (by rfl) (by rfl) (by rfl) (by kernel_rfl) (all_cons rfl yD)) rfl (by kernel_rfl) (fun _ _ _ _=>rfl) (fun _ _ _ _ _=>(xB (zb (zak (vk (edv 6) (edv 0) (fun _ _=>rfl))) (zb (edv 0) zd))))))) (vP (z3 (i:=7) (sc 50).nd rfl (Or.inl rfl))) (zq (wt (zK zf2 zeS (zS _) (edv 7) (edv 2)) (zq (zfF (pv 6) (Ye (zh4 (Ye (YZ (zb (xB (zb (edv 7) (zb (vk (edv 4) (edv 7) (fun _ _=>rfl)) zd))) zd))) (vk (edv 3) (edv 7) (fun _ _=>rfl)))) (fun a b=>zaj PySem.F.plainAttrs_list PySem.F.slot_list_extend PySem.F.type_list_extend X4 a b))) yn)))
      (Ve 6 (zq (yg (edv 6))))))))))
noncomputable def wP:SE→Option Nat :=
  (xEx (yd 3 yz (za (zc 0) (za (zc 1) (za (zc 2) ze)))))
noncomputable def Y4:List D→Option Nat:=fnX 8 wP
theorem WJ (T:Txt P w K mg base ad):zJ P w K mg base (Air P w) 13 (ad.f 50) (ad.e 50) (Rw 50).ps (@spX ⟨K⟩ (clT ad) 3 Y4):=by
  letI:KK:=⟨K⟩
  have X_must_be_rooted:=yU T
  refine yf (cl:=clT ad) (N:=(Rw 50).N) (ps:=(Rw 50).ps) (T.d 50).fn (sc 50) (gx:=wP) fun b A outer s H E a=>?_
  unfold wP
  exact (zR (zH (zB (X_must_be_rooted.mono (by decide)) zk a rfl (T.d 46).at_ (T.d 46).kp (T.d 46).bd (zb (edv 0) (zb (edv 1) (zb (edv 2) zd))))))
noncomputable def xW:SE→Ctl :=
  (zx (sIf (tOf (zj ltD (zc 0) (eC (.int 3)))) (zO (zdv 3 [v9,X1,WB] (zc 0) (za (zc 1) (za (zc 2) (za (zc 3) ze))))) zP)
    (zx (sIf (tOf (zj ltD (zc 0) (eC (.int 5)))) (zO (zdv 3 [X0,p_tree_steps] (zj Zr (zc 0) (eC (.int 3))) (za (zc 1) (za (zc 2) (za (zc 3) ze))))) zP)
    (zO (zdv 4 [VT,YY] (zj Zr (zc 0) (eC (.int 5))) (za (zc 1) (za (zc 2) (za (zc 3) (za (eC .non) ze))))))))
noncomputable def vX:List D→Option D:=fnD 4 xW
theorem Xk (T:Txt P w K mg base ad):zJ P w K mg base CX0 14 (ad.f 72) (ad.e 72) (Rw 72).ps (@spD ⟨K⟩ 4 vX):=by
  letI:KK:=⟨K⟩
  have G_worth_at:=YN T
  have G_at_most:=Vc T
  have G_is_bar:=zaY T
  have G_bar_for:=Vj T
  have G_carries:=W7 T
  have G_tree_steps:=Y2 T
  have G_carry_holds:=WO T
  refine zI (N:=(Rw 72).N) (ps:=(Rw 72).ps) (T.d 72).fn (sc 72) (g:=xW) fun b A outer s H E a=>?_
  unfold xW
  exact (zg (wt (zK Y7 zL (zS _) (edv 0) (zv zu)) (zq (yg (vM (zy (T.d 28).at_ (zy (T.d 29).at_ (zy (T.d 33).at_ y6))) (.cons G_worth_at a (T.d 28).kp (T.d 28).bd (by decide) (.cons G_at_most a (T.d 29).kp (T.d 29).bd (by decide) (.cons G_bar_for a (T.d 33).kp (T.d 33).bd (by decide) .nil))) (edv 0) (zb (edv 1) (zb (edv 2) (zb (edv 3) zd)))))) yn)
      (zg (wt (zK Y7 zL (zS _) (edv 0) (zv zu)) (zq (yg (vM (zy (T.d 49).at_ (zy (T.d 50).at_ y6)) (.cons G_carries a (T.d 49).kp (T.d 49).bd (by decide) (.cons G_tree_steps a (T.d 50).kp (T.d 50).bd (by decide) .nil)) (xD (edv 0) (zv zu)) (zb (edv 1) (zb (edv 2) (zb (edv 3) zd)))))) yn)
      (zq (yg (vM (zy (T.d 31).at_ (zy (T.d 51).at_ y6)) (.cons G_is_bar a (T.d 31).kp (T.d 31).bd (by decide) (.cons G_carry_holds a (T.d 51).kp (T.d 51).bd (by decide) .nil)) (xD (edv 0) (zv zu)) (zb (edv 1) (zb (edv 2) (zb (edv 3) (zb (Yj Yv) zd)))))))))
noncomputable def xy:SE→Option Nat :=
  (Xu (xIf (tOf (zj ltD (zc 0) (eC (.int 3)))) (xEx (zhv 3 [YE,Vg,Va] (zc 0) (za (zc 1) (za (zc 2) (za (zc 3) ze))))) xNo) (sIf (tOf (zj ltD (zc 0) (eC (.int 3)))) (zO (zdv 3 [v9,X1,WB] (zc 0) (za (zc 1) (za (zc 2) (za (zc 3) ze))))) zP)
    (Xu (xIf (tOf (zj ltD (zc 0) (eC (.int 5)))) (xEx (zhv 3 [W2,Y4] (zj Zr (zc 0) (eC (.int 3))) (za (zc 1) (za (zc 2) (za (zc 3) ze))))) xNo) (sIf (tOf (zj ltD (zc 0) (eC (.int 5)))) (zO (zdv 3 [X0,p_tree_steps] (zj Zr (zc 0) (eC (.int 3))) (za (zc 1) (za (zc 2) (za (zc 3) ze))))) zP)
    (xEx (zhv 4 [zaH,Yu] (zj Zr (zc 0) (eC (.int 5))) (za (zc 1) (za (zc 2) (za (zc 3) (za (eC .non) ze))))))))
noncomputable def vh:List D→Option Nat:=fnX 4 xy
theorem ZP (T:Txt P w K mg base ad):zJ P w K mg base (Air P w) 14 (ad.f 72) (ad.e 72) (Rw 72).ps (@spX ⟨K⟩ (clT ad) 4 vh):=by
  letI:KK:=⟨K⟩
  have G_worth_at:=YN T
  have X_worth_at:=ZS T
  have G_at_most:=Vc T
  have X_at_most:=zb6 T
  have X_is_bar:=zcU T
  have G_bar_for:=Vj T
  have X_bar_for:=zbp T
  have G_carries:=W7 T
  have X_carries:=zby T
  have G_tree_steps:=Y2 T
  have X_tree_steps:=WJ T
  have X_carry_holds:=Wb T
  refine yf (cl:=clT ad) (N:=(Rw 72).N) (ps:=(Rw 72).ps) (T.d 72).fn (sc 72) (gx:=xy) fun b A outer s H E a=>?_
  unfold xy
  exact (zQ (X9 (zK Y7 zL (zS _) (edv 0) (zv zu)) (z0 (vd (XJ zk (zy (T.d 28).at_ (zy (T.d 29).at_ (zy (T.d 33).at_ y6))) (.cons X_worth_at a (T.d 28).kp (T.d 28).bd (by decide) (.cons X_at_most a (T.d 29).kp (T.d 29).bd (by decide) (.cons X_bar_for a (T.d 33).kp (T.d 33).bd (by decide) .nil))) (edv 0) (zb (edv 1) (zb (edv 2) (zb (edv 3) zd)))))) yW) (SD.nox (wt (zK Y7 zL (zS _) (edv 0) (zv zu)) (zq (yg (vM (zy (T.d 28).at_ (zy (T.d 29).at_ (zy (T.d 33).at_ y6))) (.cons G_worth_at a (T.d 28).kp (T.d 28).bd (by decide) (.cons G_at_most a (T.d 29).kp (T.d 29).bd (by decide) (.cons G_bar_for a (T.d 33).kp (T.d 33).bd (by decide) .nil))) (edv 0) (zb (edv 1) (zb (edv 2) (zb (edv 3) zd)))))) yn))
      (zQ (X9 (zK Y7 zL (zS _) (edv 0) (zv zu)) (z0 (vd (XJ zk (zy (T.d 49).at_ (zy (T.d 50).at_ y6)) (.cons X_carries a (T.d 49).kp (T.d 49).bd (by decide) (.cons X_tree_steps a (T.d 50).kp (T.d 50).bd (by decide) .nil)) (xD (edv 0) (zv zu)) (zb (edv 1) (zb (edv 2) (zb (edv 3) zd)))))) yW) (SD.nox (wt (zK Y7 zL (zS _) (edv 0) (zv zu)) (zq (yg (vM (zy (T.d 49).at_ (zy (T.d 50).at_ y6)) (.cons G_carries a (T.d 49).kp (T.d 49).bd (by decide) (.cons G_tree_steps a (T.d 50).kp (T.d 50).bd (by decide) .nil)) (xD (edv 0) (zv zu)) (zb (edv 1) (zb (edv 2) (zb (edv 3) zd)))))) yn))
      (z0 (vd (XJ zk (zy (T.d 31).at_ (zy (T.d 51).at_ y6)) (.cons X_is_bar a (T.d 31).kp (T.d 31).bd (by decide) (.cons X_carry_holds a (T.d 51).kp (T.d 51).bd (by decide) .nil)) (xD (edv 0) (zv zu)) (zb (edv 1) (zb (edv 2) (zb (edv 3) (zb (Yj Yv) zd)))))))))
noncomputable def Wz:SE→Ctl :=
  (zO (zcv (zh 2 Wj (za (zj ixD (zc 0) (eC (.int 0))) (za (zc 1) ze))) (zj inD (zh 2 wQ (za (zj ixD (zc 1) (eC (.int 0))) (za (zj ixD (zc 1) (eC (.int 1))) ze))) (zj ixD (zc 0) (eC (.int 1))))))
noncomputable def zaC:List D→Option D:=fnD 2 Wz
theorem zdl (T:Txt P w K mg base ad):zJ P w K mg base CX0 5 (ad.f 21) (ad.e 21) (Rw 21).ps (@spD ⟨K⟩ 2 zaC):=by
  letI:KK:=⟨K⟩
  have G_is_pair:=Vh T
  have G_tie_between:=Yr T
  refine zI (N:=(Rw 21).N) (ps:=(Rw 21).ps) (T.d 21).fn (sc 21) (g:=Wz) fun a A outer s H E b=>?_
  unfold Wz
  have c:=(sc 21).nd
  apply zq <;> walk_at "s"
noncomputable def xX:SE→Ctl :=
  (zx (sIf (Xt (yX (tOf (eUn (ZQ .tuple) (zc 3)))) (tOf (zj neD (eFn WU (za (zc 3) ze)) (eC (.int 3))))) (zO (eC (.bl false))) zP)
    (zx (sIf (Xt (yX (tOf (zh 2 zaC (za (zc 0) (za (eSl slD (zc 3) zjr (za2 (eC (.int 2)))) ze))))) (Xt (yX (tOf (zh 1 xK (za (zj ixD (zc 3) (eC (.int 2))) ze)))) (tOf (zj ltD (zj ixD (zc 3) (eC (.int 2))) (eC (.int 1)))))) (zO (eC (.bl false))) zP)
    (zx (sIf (Xt (tOf (zj Ze (zj ixD (zc 3) (eC (.int 0))) (zc 1))) (tOf (zj (zl1 false) (zj ixD (zc 3) (eC (.int 0))) (zc 2)))) (zO (eC (.bl false))) zP)
    (zx (sIf (tOf (zj Ze (zj ixD (zc 3) (eC (.int 1))) (zc 1))) (zO (eC (.bl true))) zP)
    (zO (zcv (zj (zl1 false) (zj ixD (zc 3) (eC (.int 1))) (zc 2)) (zj leD (zj Zq (eC (.int 2)) (zj ixD (zc 3) (eC (.int 2)))) (zj zls (zc 2) (zj ixD (zc 3) (eC (.int 1)))))))))))
noncomputable def vu:List D→Option D:=fnD 4 xX
theorem Xg (T:Txt P w K mg base ad):zJ P w K mg base CX0 6 (ad.f 52) (ad.e 52) (Rw 52).ps (@spD ⟨K⟩ 4 vu):=by
  letI:KK:=⟨K⟩
  have G_is_whole:=wC T
  have G_is_step:=zdl T
  refine zI (N:=(Rw 52).N) (ps:=(Rw 52).ps) (T.d 52).fn (sc 52) (g:=xX) fun a A outer s H E b=>?_
  unfold xX
  have c:=(sc 52).nd
  apply zg <;> walk_at "s"
noncomputable def xZ:SE→Ctl :=
  (zx (sIf (yX (tOf (zh 4 vu (za (zc 0) (za (zc 1) (za (zc 3) (za (zc 4) ze))))))) (zO (eC (.bl false))) zP)
    (zg2 false 3 (zj ixD (zc 4) (eC (.int 0))) (zj ixD (zc 4) (eC (.int 2)))))
noncomputable def xc:SE→Ctl :=
  (zx (sIf (Xt (yX (tOf (eUn (ZQ .list) (zc 2)))) (tOf (zj Ze (eFn WU (za (zc 2) ze)) (eC (.int 0))))) (zO (eC (.bl false))) zP)
    (zx (zjd false 3)
    (zx (WE (iOf (zc 2)) (yG 4) xZ)
    (sFz 3 (zO (eC (.bl true)))))))
noncomputable def xf:List D→Option D:=fnD 5 xc
theorem x4 (T:Txt P w K mg base ad):zJ P w K mg base CX0 7 (ad.f 53) (ad.e 53) (Rw 53).ps (@spD ⟨K⟩ 3 xf):=by
  letI:KK:=⟨K⟩
  have G_is_branch_row:=Xg T
  refine zI (N:=(Rw 53).N) (ps:=(Rw 53).ps) (T.d 53).fn (sc 53) (g:=xc) fun a A outer s H E b=>?_
  unfold xc xZ
  have c:=(sc 53).nd
  apply zg <;> walk_at "s"
noncomputable def YL:SE→Ctl :=
  (zx (yH (zh 1 zp (za (zc 0) ze)))
    (zx (yH (zh 2 zF (za (zc 0) (za (zc 1) ze))))
    (zO (zh 3 xf (za (zc 0) (za (zc 1) (za (zc 2) ze)))))))
noncomputable def XG:List D→Option D:=fnD 3 YL
theorem za5 (T:Txt P w K mg base ad):zJ P w K mg base CX0 8 (ad.f 54) (ad.e 54) (Rw 54).ps (@spD ⟨K⟩ 3 XG):=by
  letI:KK:=⟨K⟩
  have G_must_be_web:=zn T
  have G_must_be_place:=zG T
  have G_are_branch_rows:=x4 T
  refine zI (N:=(Rw 54).N) (ps:=(Rw 54).ps) (T.d 54).fn (sc 54) (g:=YL) fun a A outer s H E b=>?_
  unfold YL
  have c:=(sc 54).nd
  apply zg <;> walk_at "s"
noncomputable def vY:SE→Option Nat :=
  (Xu (xEx (yd 1 zA (za (zc 0) ze))) (yH (zh 1 zp (za (zc 0) ze)))
    (xEx (yd 2 zC (za (zc 0) (za (zc 1) ze)))))
noncomputable def Z1:List D→Option Nat:=fnX 3 vY
theorem VG (T:Txt P w K mg base ad):zJ P w K mg base (Air P w) 8 (ad.f 54) (ad.e 54) (Rw 54).ps (@spX ⟨K⟩ (clT ad) 3 Z1):=by
  letI:KK:=⟨K⟩
  have G_must_be_web:=zn T
  have X_must_be_web:=zz T
  have X_must_be_place:=zD T
  refine yf (cl:=clT ad) (N:=(Rw 54).N) (ps:=(Rw 54).ps) (T.d 54).fn (sc 54) (gx:=vY) fun b A outer s H E a=>?_
  unfold vY
  exact (zQ (zH (zB (X_must_be_web.mono (by decide)) zk a rfl (T.d 11).at_ (T.d 11).kp (T.d 11).bd (zb (edv 0) zd))) (SD.nox (zU (zt G_must_be_web a rfl (T.d 11) (zb (edv 0) zd))))
      (zR (zH (zB (X_must_be_place.mono (by decide)) zk a rfl (T.d 12).at_ (T.d 12).kp (T.d 12).bd (zb (edv 0) (zb (edv 1) zd))))))
noncomputable def Yp:SE→Ctl :=
  (zx (yu false 2 (zj vA (zj Zq (zc 2) (zj ixD (zc 4) (eC (.int 1)))) (zj Zq (zj Zq (zc 3) (zj ixD (zc 4) (eC (.int 0)))) (zc 5))))
    (yu false 3 (zj Zq (zc 3) (zj ixD (zc 4) (eC (.int 1))))))
noncomputable def vF:SE→Ctl :=
  (zx (yu false 2 (eC (.int 0)))
    (zx (yu false 3 (eC (.int 1)))
    (zx (WE (zf7 (za (zc 0) (za (zc 1) ze))) (zhw 2 (Xj (yG 4) (Xj (yG 5) zi1))) Yp)
    (zO (yJ (za (zc 2) (za (zc 3) ze)))))))
noncomputable def vN:List D→Option D:=fnD 6 vF
theorem Vx (T:Txt P w K mg base ad):zJ P w K mg base CX0 1 (ad.f 58) (ad.e 58) (Rw 58).ps (@spD ⟨K⟩ 2 vN):=by
  letI:KK:=⟨K⟩
  refine zI (N:=(Rw 58).N) (ps:=(Rw 58).ps) (T.d 58).fn (sc 58) (g:=vF) fun a A outer s H E b=>?_
  unfold vF Yp
  have c:=(sc 58).nd
  apply zg <;> walk_at "s"
noncomputable def vG:SE→Ctl :=
  (zO (eFn zfw (za (yp (fLC (iOf (zc 0)) b1 xJ (zj ixD (zc 0) (eC (.int 2))))) ze)))
noncomputable def ZV:List D→Option D:=fnD 1 vG
theorem VC (T:Txt P w K mg base ad):zJ P w K mg base CX0 1 (ad.f 55) (ad.e 55) (Rw 55).ps (@spD ⟨K⟩ 1 ZV):=by
  letI:KK:=⟨K⟩
  refine zI (N:=(Rw 55).N) (ps:=(Rw 55).ps) (T.d 55).fn (sc 55) (g:=vG) fun a A outer s H E b=>?_
  unfold vG
  have c:=(sc 55).nd
  apply zq <;> walk_at "s"
noncomputable def YM:SE→Ctl :=
  (zO (eFn zfw (za (yp (fLC (iOf (zc 0)) b1 (tOf (zj Ze (zj ixD (zc 0) (eC (.int 0))) (zc 2))) (zj ixD (zc 0) (eC (.int 2))))) ze)))
noncomputable def X7:List D→Option D:=fnD 2 YM
theorem zal (T:Txt P w K mg base ad):zJ P w K mg base CX0 1 (ad.f 59) (ad.e 59) (Rw 59).ps (@spD ⟨K⟩ 2 X7):=by
  letI:KK:=⟨K⟩
  refine zI (N:=(Rw 59).N) (ps:=(Rw 59).ps) (T.d 59).fn (sc 59) (g:=YM) fun a A outer s H E b=>?_
  unfold YM
  have c:=(sc 59).nd
  apply zq <;> walk_at "s"
noncomputable def Zt:SE→Ctl :=
  (zx (sIf (Xt (yX (tOf (eUn (ZQ .tuple) (zc 0)))) (tOf (zj neD (eFn WU (za (zc 0) ze)) (eC (.int 2))))) (zO (eC (.bl false))) zP)
    (zx (sIf (Xt (yX (tOf (zh 1 xK (za (zj ixD (zc 0) (eC (.int 0))) ze)))) (Xt (yX (tOf (zh 1 xK (za (zj ixD (zc 0) (eC (.int 1))) ze)))) (Xt (tOf (zj ltD (zj ixD (zc 0) (eC (.int 0))) (eC (.int 1)))) (tOf (zj ltD (zj ixD (zc 0) (eC (.int 1))) (eC (.int 1))))))) (zO (eC (.bl false))) zP)
    (zO (zj Ze (zh 2 VL (za (zj ixD (zc 0) (eC (.int 0))) (za (zj ixD (zc 0) (eC (.int 1))) ze))) (zc 0)))))
noncomputable def WY:List D→Option D:=fnD 1 Zt
theorem zbF (T:Txt P w K mg base ad):zJ P w K mg base CX0 2 (ad.f 56) (ad.e 56) (Rw 56).ps (@spD ⟨K⟩ 1 WY):=by
  letI:KK:=⟨K⟩
  have G_is_whole:=wC T
  have G_lowest:=zaJ T
  refine zI (N:=(Rw 56).N) (ps:=(Rw 56).ps) (T.d 56).fn (sc 56) (g:=Zt) fun a A outer s H E b=>?_
  unfold Zt
  have c:=(sc 56).nd
  apply zg <;> walk_at "s"
noncomputable def yR:SE→Ctl :=
  (zx (sIf (Xt (yX (tOf (eUn (ZQ .tuple) (zc 2)))) (tOf (zj neD (eFn WU (za (zc 2) ze)) (eC (.int 2))))) (zO (eC (.bl false))) zP)
    (zO (zcv (zh 1 WY (za (zj ixD (zc 2) (eC (.int 0))) ze)) (zh 3 xf (za (zc 0) (za (zc 1) (za (zj ixD (zc 2) (eC (.int 1))) ze)))))))
noncomputable def x8:List D→Option D:=fnD 3 yR
theorem YW (T:Txt P w K mg base ad):zJ P w K mg base CX0 8 (ad.f 57) (ad.e 57) (Rw 57).ps (@spD ⟨K⟩ 3 x8):=by
  letI:KK:=⟨K⟩
  have G_are_branch_rows:=x4 T
  have G_is_share:=zbF T
  refine zI (N:=(Rw 57).N) (ps:=(Rw 57).ps) (T.d 57).fn (sc 57) (g:=yR) fun a A outer s H E b=>?_
  unfold yR
  have c:=(sc 57).nd
  apply zg <;> walk_at "s"
noncomputable def Yy:SE→Ctl :=
  (zx (yu false 6 (zh 2 vN (za (zc 3) (za (yp (fLC (iOf (zc 4)) b1 xJ (zh 2 X7 (za (zc 0) (za (zc 6) ze))))) ze))))
    (sIf (zgJ (tOf (zj neD (zc 5) (zc 1))) (tOf (zj ltD (zj ixD (zc 6) (eC (.int 0))) (zj ixD (zc 6) (eC (.int 1)))))) (zO (eC .non)) zP))
noncomputable def vQ:SE→Ctl :=
  (zx (yH (zh 1 zp (za (zc 0) ze)))
    (zx (yH (zh 2 zF (za (zc 0) (za (zc 1) ze))))
    (zx (sIf (Xt (yX (tOf (eUn (ZQ .list) (zc 2)))) (yX (tOf (eFn zmT (za (yp (fLC (iOf (zc 2)) b1 xJ (zh 3 x8 (za (zc 1) (za (zc 2) (za (zc 0) ze)))))) ze))))) (zO (eC .non)) zP)
    (zx (yu false 3 (yp (fLC (iOf (zc 2)) b1 xJ (zj ixD (zc 0) (eC (.int 0))))))
    (zx (yu false 4 (yp (fLC (iOf (zc 2)) b1 xJ (zj ixD (zc 0) (eC (.int 1))))))
    (zx (Wn WT (za (zj ixD (zc 0) (eC (.int 0))) ze) (yG 5) Yy)
    (zx (yu false 7 (zh 2 vN (za (zc 3) (za (yp (fLC (iOf (zc 4)) b1 xJ (zh 1 ZV (za (zc 0) ze)))) ze))))
    (zO (zj Xm (zj ixD (zc 7) (eC (.int 0))) (zj ixD (zc 7) (eC (.int 1))))))))))))
noncomputable def Z0:List D→Option D:=fnD 8 vQ
theorem VP (T:Txt P w K mg base ad):zJ P w K mg base CX0 9 (ad.f 60) (ad.e 60) (Rw 60).ps (@spD ⟨K⟩ 3 Z0):=by
  letI:KK:=⟨K⟩
  have G_must_be_web:=zn T
  have G_must_be_place:=zG T
  have G_branch_sum:=VC T
  have G_is_shared_branch:=YW T
  have G_shared_sum:=Vx T
  have G_weight_at:=zal T
  refine zI (N:=(Rw 60).N) (ps:=(Rw 60).ps) (T.d 60).fn (sc 60) (g:=vQ) fun a A outer s H E b=>?_
  unfold vQ Yy
  have c:=(sc 60).nd
  apply zg <;> walk_at "s"
noncomputable def wA:SE→Option Nat :=
  (Xu (xEx (yd 1 zA (za (zc 0) ze))) (yH (zh 1 zp (za (zc 0) ze)))
    (xEx (yd 2 zC (za (zc 0) (za (zc 1) ze)))))
noncomputable def Y8:List D→Option Nat:=fnX 8 wA
theorem WR (T:Txt P w K mg base ad):zJ P w K mg base (Air P w) 9 (ad.f 60) (ad.e 60) (Rw 60).ps (@spX ⟨K⟩ (clT ad) 3 Y8):=by
  letI:KK:=⟨K⟩
  have G_must_be_web:=zn T
  have X_must_be_web:=zz T
  have X_must_be_place:=zD T
  refine yf (cl:=clT ad) (N:=(Rw 60).N) (ps:=(Rw 60).ps) (T.d 60).fn (sc 60) (gx:=wA) fun b A outer s H E a=>?_
  unfold wA
  exact (zQ (zH (zB (X_must_be_web.mono (by decide)) zk a rfl (T.d 11).at_ (T.d 11).kp (T.d 11).bd (zb (edv 0) zd))) (SD.nox (zU (zt G_must_be_web a rfl (T.d 11) (zb (edv 0) zd))))
      (zR (zH (zB (X_must_be_place.mono (by decide)) zk a rfl (T.d 12).at_ (T.d 12).kp (T.d 12).bd (zb (edv 0) (zb (edv 1) zd))))))
noncomputable def wF:SE→Ctl :=
  (zx (yH (zh 1 zp (za (zc 0) ze)))
    (zx (yH (zh 2 zF (za (zc 0) (za (zc 1) ze))))
    (zO (zh 2 yA (za (zc 0) (za (zc 1) ze))))))
noncomputable def wT:List D→Option D:=fnD 2 wF
theorem Yx (T:Txt P w K mg base ad):zJ P w K mg base CX0 8 (ad.f 32) (ad.e 32) (Rw 32).ps (@spD ⟨K⟩ 2 wT):=by
  letI:KK:=⟨K⟩
  have G_must_be_web:=zn T
  have G_must_be_place:=zG T
  have G_halving_weights:=yV T
  refine zI (N:=(Rw 32).N) (ps:=(Rw 32).ps) (T.d 32).fn (sc 32) (g:=wF) fun a A outer s H E b=>?_
  unfold wF
  have c:=(sc 32).nd
  apply zg <;> walk_at "s"
noncomputable def wg:SE→Option Nat :=
  (Xu (xEx (yd 1 zA (za (zc 0) ze))) (yH (zh 1 zp (za (zc 0) ze)))
    (xEx (yd 2 zC (za (zc 0) (za (zc 1) ze)))))
noncomputable def Yf:List D→Option Nat:=fnX 2 wg
theorem Wm (T:Txt P w K mg base ad):zJ P w K mg base (Air P w) 8 (ad.f 32) (ad.e 32) (Rw 32).ps (@spX ⟨K⟩ (clT ad) 2 Yf):=by
  letI:KK:=⟨K⟩
  have G_must_be_web:=zn T
  have X_must_be_web:=zz T
  have X_must_be_place:=zD T
  refine yf (cl:=clT ad) (N:=(Rw 32).N) (ps:=(Rw 32).ps) (T.d 32).fn (sc 32) (gx:=wg) fun b A outer s H E a=>?_
  unfold wg
  exact (zQ (zH (zB (X_must_be_web.mono (by decide)) zk a rfl (T.d 11).at_ (T.d 11).kp (T.d 11).bd (zb (edv 0) zd))) (SD.nox (zU (zt G_must_be_web a rfl (T.d 11) (zb (edv 0) zd))))
      (zR (zH (zB (X_must_be_place.mono (by decide)) zk a rfl (T.d 12).at_ (T.d 12).kp (T.d 12).bd (zb (edv 0) (zb (edv 1) zd))))))
noncomputable def w6:SE→Ctl :=
  (zeC true 3 (zc 4) (zj zjw (yp (fLC (iOf (zj ixD (zc 2) (zc 4))) b1 xJ (zj vA (zj ixD (zc 4) (zc 0)) (eC (.int 1))))) (eC (.int 0))))
noncomputable def wd:SE→Ctl :=
  (zx (yu false 2 (zh 2 zT (za (zc 0) (za (zc 1) ze))))
    (zx (zao 3 (zhC zds (yp (z4 (za (eC (.int 0)) ze))) (zj ixD (zc 0) (eC (.int 0)))))
    (zx (WE (zmj (zh 2 p_outwards (za (zc 0) (za (zc 1) ze)))) (yG 4) w6)
    (sFz 3 (zO (eFn vz (za (zc 3) ze)))))))
noncomputable def xm:List D→Option D:=fnD 5 wd
theorem xM (T:Txt P w K mg base ad):zJ P w K mg base CX0 6 (ad.f 38) (ad.e 38) (Rw 38).ps (@spD ⟨K⟩ 2 xm):=by
  letI:KK:=⟨K⟩
  have G_outer_neighbours:=zZ T
  have G_outwards:=YV T
  refine zI (N:=(Rw 38).N) (ps:=(Rw 38).ps) (T.d 38).fn (sc 38) (g:=wd) fun a A outer s H E b=>?_
  unfold wd w6
  have c:=(sc 38).nd
  apply zg <;> walk_at "s"
noncomputable def XN:SE→Ctl :=
  (zx (yH (zh 1 zp (za (zc 0) ze)))
    (zx (yH (zh 2 zF (za (zc 0) (za (zc 1) ze))))
    (zx (yH (zh 1 ym (za (zc 0) ze)))
    (zO (zh 2 xm (za (zc 0) (za (zc 1) ze)))))))
noncomputable def Wq:List D→Option D:=fnD 2 XN
theorem W9 (T:Txt P w K mg base ad):zJ P w K mg base CX0 12 (ad.f 39) (ad.e 39) (Rw 39).ps (@spD ⟨K⟩ 2 Wq):=by
  letI:KK:=⟨K⟩
  have G_must_be_web:=zn T
  have G_must_be_place:=zG T
  have G_must_be_tree:=yx T
  have G_heights_from:=xM T
  refine zI (N:=(Rw 39).N) (ps:=(Rw 39).ps) (T.d 39).fn (sc 39) (g:=XN) fun a A outer s H E b=>?_
  unfold XN
  have c:=(sc 39).nd
  apply zg <;> walk_at "s"
noncomputable def Zw:SE→Option Nat :=
  (Xu (xEx (yd 1 zA (za (zc 0) ze))) (yH (zh 1 zp (za (zc 0) ze)))
    (xEx (yd 2 zC (za (zc 0) (za (zc 1) ze)))))
noncomputable def W3:List D→Option Nat:=fnX 2 Zw
theorem zbS (T:Txt P w K mg base ad):zJ P w K mg base (Air P w) 12 (ad.f 39) (ad.e 39) (Rw 39).ps (@spX ⟨K⟩ (clT ad) 2 W3):=by
  letI:KK:=⟨K⟩
  have G_must_be_web:=zn T
  have X_must_be_web:=zz T
  have X_must_be_place:=zD T
  refine yf (cl:=clT ad) (N:=(Rw 39).N) (ps:=(Rw 39).ps) (T.d 39).fn (sc 39) (gx:=Zw) fun b A outer s H E a=>?_
  unfold Zw
  exact (zQ (zH (zB (X_must_be_web.mono (by decide)) zk a rfl (T.d 11).at_ (T.d 11).kp (T.d 11).bd (zb (edv 0) zd))) (SD.nox (zU (zt G_must_be_web a rfl (T.d 11) (zb (edv 0) zd))))
      (zR (zH (zB (X_must_be_place.mono (by decide)) zk a rfl (T.d 12).at_ (T.d 12).kp (T.d 12).bd (zb (edv 0) (zb (edv 1) zd))))))
noncomputable def vl:SE→Ctl :=
  (yu false 1 (zj vA (zc 1) (yJ (za (zj ixD (zj ixD (zc 0) (zj ixD (zc 1) (eUn zcM (eC (.int 1))))) (eC (.int 0))) ze))))
noncomputable def wN:SE→Ctl :=
  (zx (vR (tOf (zj gtD (eFn WU (za (zj ixD (zc 0) (zj ixD (zc 1) (eUn zcM (eC (.int 1))))) ze)) (eC (.int 0)))) vl 10)
    (zO (zc 1)))
noncomputable def Zh:List D→Option D:=fnD 2 wN
theorem WL (T:Txt P w K mg base ad):zJ P w K mg base CX0 1 (ad.f 41) (ad.e 41) (Rw 41).ps (@spD ⟨K⟩ 2 Zh):=by
  letI:KK:=⟨K⟩
  refine zI (N:=(Rw 41).N) (ps:=(Rw 41).ps) (T.d 41).fn (sc 41) (g:=wN) fun a A outer s H E b=>?_
  unfold wN vl
  have c:=(sc 41).nd
  apply zg <;> walk_at "s"
noncomputable def Y1:SE→Ctl :=
  (sIf (Xt (tOf (zj gtD (zc 7) (eC (.int 0)))) (tOf (zj Ze (zc 6) (zc 1)))) (zhA false 5 (zh 2 Zh (za (zc 4) (za (yJ (za (zc 6) (za (zc 8) ze))) ze)))) zP)
noncomputable def Zj:SE→Ctl :=
  (WE (W1 (za (zj ixD (zc 4) (zc 6)) ze)) (zhw 2 (Xj (yG 7) (Xj (yG 8) zi1))) Y1)
noncomputable def YF:SE→Ctl :=
  (zx (yu false 2 (zh 2 xm (za (zc 0) (za (zc 1) ze))))
    (zx (yu false 3 (zh 2 zT (za (zc 0) (za (zc 1) ze))))
    (zx (yu false 4 (yp (fLC (iOf (zc 3)) b1 xJ (yp (zhG (za (zc 0) ze) (yJ (za (eUn zcM (zj ixD (zc 4) (zc 0))) (za (zc 0) ze))))))))
    (zx (zao 5 (z4 ze))
    (zx (Wn WT (za (zj ixD (zc 0) (eC (.int 0))) ze) (yG 6) Zj)
    (sFz 5 (zO (yp (zhY (za (zc 5) ze) (yJ (za (eUn zcM (eFn WU (za (zc 0) ze))) (za (zc 0) ze))))))))))))
noncomputable def p_ways_from:List D→Option D:=fnD 9 YF
theorem Z8 (T:Txt P w K mg base ad):zJ P w K mg base CX0 7 (ad.f 40) (ad.e 40) (Rw 40).ps (@spD ⟨K⟩ 2 p_ways_from):=by
  letI:KK:=⟨K⟩
  have G_outer_neighbours:=zZ T
  have G_heights_from:=xM T
  have G_way_through:=WL T
  refine zdW (N:=(Rw 40).N) (ps:=(Rw 40).ps) T.lc_ways_from (T.d 40).fn (sc 40) (g:=YF) fun A outer s H E c=>?_
  unfold YF Zj Y1
  exact (zg (vf (m:=false) (i:=2) (sc 40).nd rfl (Or.inr rfl) (zt G_heights_from c rfl (T.d 38) (zb (edv 0) (zb (edv 1) zd))))
      (zg (vf (m:=false) (i:=3) (sc 40).nd rfl (Or.inl rfl) (zt G_outer_neighbours c rfl (T.d 35) (zb (edv 0) (zb (edv 1) zd))))
      (zg (zbX (m:=false) (i:=4) (zbB (L:=["others"]) (M:=["web","root","tall","outer","ranked","found","place","at","other"]) (sc 40).nd rfl (Or.inl rfl) rfl (vZ (by rfl) (by rfl) (by rfl) (by with_unfolding_all rfl) (by rfl) (by rfl) (by kernel_rfl) (all_cons rfl yD)) (ZZ (edv 3)) gs1 rb1 (fun _ _ _ _=>(z3 (i:=0) zjR rfl (Or.inl rfl) (.inr rfl))) (fun _ _ _ _=>(Ye (zgo (x:="other") (M:=["others","web","root","tall","outer","ranked","found","place","at","·other"]) c rfl (T.z "sorted" (by decide)) (zb (edv 0) zd) T.la_ways_from rfl (zb9 (by rfl) (by rfl) (by rfl) (by with_unfolding_all rfl) (by rfl) (by rfl) (by rfl) (by rfl) (by rfl) (by kernel_rfl) (all_cons rfl yD)) rfl (by kernel_rfl) (fun _ _ _ _=>rfl) (fun _ _ _ _ _=>(xB (zb (zak (vk (edv 4) (edv 0) (fun _ _=>rfl))) (zb (edv 0) zd)))))))))
      (zg (zaN (i:=5) (sc 40).nd rfl (Or.inl rfl) (YZ zd))
      (zg (Vw PassesOwn.never rfl rfl (T.z "range" (by decide)) (zb (vk (edv 0) (zv zu) (fun _ _=>rfl)) zd) (vP (z3 (i:=6) (sc 40).nd rfl (Or.inl rfl))) (zq (zap PassesOwn.never rfl (zeV rfl (T.z "enumerate" (by decide)) Z4 (zb (vk (edv 4) (edv 6) (fun _ _=>rfl)) zd)) (zh5 rfl (zad (vP (z3 (i:=7) (sc 40).nd rfl (Or.inl rfl))) (zad (vP (z3 (i:=8) (sc 40).nd rfl (Or.inl rfl))) zfJ))) (zq (wt (zmX (zjb (zK zeD zL (zS _) (edv 7) (zv zu)) (zeQ (zK (xV c) yK (zS _) (edv 6) (edv 1))))) (zq (zen (m:=false) (pv 5) (zt G_way_through c rfl (T.d 41) (zb (edv 4) (zb (xB (zb (edv 6) (zb (edv 8) zd))) zd))) (fun a b=>zaj PySem.F.plainAttrs_list PySem.F.slot_list_append PySem.F.type_list_append WC a b))) yn)))))
      (Ve 5 (zq (yg (Ye (zhi (x:="way") (M:=["web","root","tall","outer","ranked","found","place","at","other"]) c rfl (T.z "sorted" (by decide)) (zb (edv 5) zd) T.la_ways_from rfl (zb9 (by rfl) (by rfl) (by rfl) (by with_unfolding_all rfl) (by rfl) (by rfl) (by rfl) (by rfl) (by rfl) (by kernel_rfl) yD) rfl (by kernel_rfl) (fun _ _ _ _=>rfl) (fun _ _ _ _ _=>(xB (zb (zak (yr vW zbi rfl (T.z "len" (by decide)) zcL (zb (edv 0) zd))) (zb (edv 0) zd))))))))))))))
noncomputable def ze1:SE→Ctl :=
  (zx (yH (zh 1 zp (za (zc 0) ze)))
    (zx (yH (zh 2 zF (za (zc 0) (za (zc 1) ze))))
    (zx (yH (zh 1 ym (za (zc 0) ze)))
    (zO (zh 2 p_ways_from (za (zc 0) (za (zc 1) ze)))))))
noncomputable def ze7:List D→Option D:=fnD 2 ze1
theorem zeK (T:Txt P w K mg base ad):zJ P w K mg base CX0 12 (ad.f 42) (ad.e 42) (Rw 42).ps (@spD ⟨K⟩ 2 ze7):=by
  letI:KK:=⟨K⟩
  have G_must_be_web:=zn T
  have G_must_be_place:=zG T
  have G_must_be_tree:=yx T
  have G_ways_from:=Z8 T
  refine zI (N:=(Rw 42).N) (ps:=(Rw 42).ps) (T.d 42).fn (sc 42) (g:=ze1) fun a A outer s H E b=>?_
  unfold ze1
  have c:=(sc 42).nd
  apply zg <;> walk_at "s"
noncomputable def zb1:SE→Option Nat :=
  (Xu (xEx (yd 1 zA (za (zc 0) ze))) (yH (zh 1 zp (za (zc 0) ze)))
    (xEx (yd 2 zC (za (zc 0) (za (zc 1) ze)))))
noncomputable def ze6:List D→Option Nat:=fnX 2 zb1
theorem zgW (T:Txt P w K mg base ad):zJ P w K mg base (Air P w) 12 (ad.f 42) (ad.e 42) (Rw 42).ps (@spX ⟨K⟩ (clT ad) 2 ze6):=by
  letI:KK:=⟨K⟩
  have G_must_be_web:=zn T
  have X_must_be_web:=zz T
  have X_must_be_place:=zD T
  refine yf (cl:=clT ad) (N:=(Rw 42).N) (ps:=(Rw 42).ps) (T.d 42).fn (sc 42) (gx:=zb1) fun b A outer s H E a=>?_
  unfold zb1
  exact (zQ (zH (zB (X_must_be_web.mono (by decide)) zk a rfl (T.d 11).at_ (T.d 11).kp (T.d 11).bd (zb (edv 0) zd))) (SD.nox (zU (zt G_must_be_web a rfl (T.d 11) (zb (edv 0) zd))))
      (zR (zH (zB (X_must_be_place.mono (by decide)) zk a rfl (T.d 12).at_ (T.d 12).kp (T.d 12).bd (zb (edv 0) (zb (edv 1) zd))))))
noncomputable def YU:SE→Ctl :=
  (zx (yH (zh 1 zp (za (zc 0) ze)))
    (zx (yH (zh 2 zF (za (zc 0) (za (zc 1) ze))))
    (zx (yH (zh 1 ym (za (zc 0) ze)))
    (zx (yu false 2 (zh 2 xm (za (zc 0) (za (zc 1) ze))))
    (zx (yu false 3 (zh 2 yS (za (zc 0) (za (zc 1) ze))))
    (zx (yu false 4 (yp (fLC (iOf (zh 2 p_outwards (za (zc 0) (za (zc 1) ze)))) b1 (tOf (zj neD (zc 0) (zc 2))) (yJ (za (zc 0) (za (zj ixD (zc 4) (zc 0)) (za (zh 2 Zo (za (eC (.int 1)) (za (zj ixD (zc 3) (zc 0)) ze))) ze)))))))
    (zO (eIf (tOf (zj gtD (eFn WU (za (zc 4) ze)) (eC (.int 0)))) (yp (z4 (za (yJ (za (yJ (za (eC (.int 1)) (za (eC (.int 1)) ze))) (za (zc 4) ze))) ze))) (yp (z4 ze))))))))))
noncomputable def YO:List D→Option D:=fnD 5 YU
theorem ZW (T:Txt P w K mg base ad):zJ P w K mg base CX0 12 (ad.f 61) (ad.e 61) (Rw 61).ps (@spD ⟨K⟩ 2 YO):=by
  letI:KK:=⟨K⟩
  have G_doubled:=ZE T
  have G_must_be_web:=zn T
  have G_must_be_place:=zG T
  have G_must_be_tree:=yx T
  have G_inner_neighbours:=xT T
  have G_outwards:=YV T
  have G_heights_from:=xM T
  refine zI (N:=(Rw 61).N) (ps:=(Rw 61).ps) (T.d 61).fn (sc 61) (g:=YU) fun a A outer s H E b=>?_
  unfold YU
  have c:=(sc 61).nd
  apply zg <;> walk_at "s"
noncomputable def vS:SE→Option Nat :=
  (Xu (xEx (yd 1 zA (za (zc 0) ze))) (yH (zh 1 zp (za (zc 0) ze)))
    (xEx (yd 2 zC (za (zc 0) (za (zc 1) ze)))))
noncomputable def ZT:List D→Option Nat:=fnX 5 vS
theorem V6 (T:Txt P w K mg base ad):zJ P w K mg base (Air P w) 12 (ad.f 61) (ad.e 61) (Rw 61).ps (@spX ⟨K⟩ (clT ad) 2 ZT):=by
  letI:KK:=⟨K⟩
  have G_must_be_web:=zn T
  have X_must_be_web:=zz T
  have X_must_be_place:=zD T
  refine yf (cl:=clT ad) (N:=(Rw 61).N) (ps:=(Rw 61).ps) (T.d 61).fn (sc 61) (gx:=vS) fun b A outer s H E a=>?_
  unfold vS
  exact (zQ (zH (zB (X_must_be_web.mono (by decide)) zk a rfl (T.d 11).at_ (T.d 11).kp (T.d 11).bd (zb (edv 0) zd))) (SD.nox (zU (zt G_must_be_web a rfl (T.d 11) (zb (edv 0) zd))))
      (zR (zH (zB (X_must_be_place.mono (by decide)) zk a rfl (T.d 12).at_ (T.d 12).kp (T.d 12).bd (zb (edv 0) (zb (edv 1) zd))))))
noncomputable def xw:SE→Ctl :=
  (sIf (yX (tOf (zh 3 yy (za (zc 0) (za (zc 1) (za (zc 2) ze)))))) sNo zP)
noncomputable def vc:List D→Option D:=fnD 3 xw
theorem ZG (T:Txt P w K mg base ad):zJ P w K mg base CX0 3 (ad.f 2) (ad.e 2) (Rw 2).ps (@spD ⟨K⟩ 3 vc):=by
  letI:KK:=⟨K⟩
  have G_is_whole_within:=yY T
  refine zI (N:=(Rw 2).N) (ps:=(Rw 2).ps) (T.d 2).fn (sc 2) (g:=xw) fun a A outer s H E b=>?_
  unfold xw
  have c:=(sc 2).nd
  apply zq <;> walk_at "s"
noncomputable def Yi:SE→Ctl :=
  (zeC false 3 (zj ixD (zc 5) (eUn zcM (eC (.int 1)))) (zj Zr (zh 2 Zo (za (eIf (tOf (zj Ze (zc 4) (eC (.int 0)))) (zc 2) (eC (.int 1))) (za (zj Zr (eFn WU (za (zc 5) ze)) (eC (.int 1))) ze))) (eC (.int 1))))
noncomputable def vC:SE→Ctl :=
  (zx (zao 3 (zhC zds (yp (z4 (za (eC (.int 0)) ze))) (zj ixD (zc 0) (eC (.int 0)))))
    (zx (WE (W1 (za (eOrL (zh 2 p_ways_from (za (zc 0) (za (zc 1) ze))) (yp (z4 (za (yJ (za (zc 1) ze)) ze)))) ze)) (zhw 2 (Xj (yG 4) (Xj (yG 5) zi1))) Yi)
    (sFz 3 (zO (eFn vz (za (zc 3) ze))))))
noncomputable def ZU:List D→Option D:=fnD 6 vC
theorem Vu (T:Txt P w K mg base ad):zJ P w K mg base CX0 8 (ad.f 43) (ad.e 43) (Rw 43).ps (@spD ⟨K⟩ 3 ZU):=by
  letI:KK:=⟨K⟩
  have G_doubled:=ZE T
  have G_ways_from:=Z8 T
  refine zI (N:=(Rw 43).N) (ps:=(Rw 43).ps) (T.d 43).fn (sc 43) (g:=vC) fun a A outer s H E b=>?_
  unfold vC Yi
  have c:=(sc 43).nd
  apply zg <;> walk_at "s"
noncomputable def v4:SE→Ctl :=
  (zx (yH (zh 1 zp (za (zc 0) ze)))
    (zx (yH (zh 2 zF (za (zc 0) (za (zc 1) ze))))
    (zx (yH (zh 3 vc (za (zc 2) (za (eC (.int 1)) (za (eC (.int 2)) ze)))))
    (zx (yH (zh 1 ym (za (zc 0) ze)))
    (zO (zh 3 ZU (za (zc 0) (za (zc 1) (za (zc 2) ze)))))))))
noncomputable def wa:List D→Option D:=fnD 3 v4
theorem wL (T:Txt P w K mg base ad):zJ P w K mg base CX0 12 (ad.f 45) (ad.e 45) (Rw 45).ps (@spD ⟨K⟩ 3 wa):=by
  letI:KK:=⟨K⟩
  have G_must_be_within:=ZG T
  have G_must_be_web:=zn T
  have G_must_be_place:=zG T
  have G_must_be_tree:=yx T
  have G_worst_from:=Vu T
  refine zI (N:=(Rw 45).N) (ps:=(Rw 45).ps) (T.d 45).fn (sc 45) (g:=v4) fun a A outer s H E b=>?_
  unfold v4
  have c:=(sc 45).nd
  apply zg <;> walk_at "s"
noncomputable def wE:SE→Option Nat :=
  (Xu (xEx (yd 1 zA (za (zc 0) ze))) (yH (zh 1 zp (za (zc 0) ze)))
    (xEx (yd 2 zC (za (zc 0) (za (zc 1) ze)))))
noncomputable def wI:List D→Option Nat:=fnX 3 wE
theorem Yo (T:Txt P w K mg base ad):zJ P w K mg base (Air P w) 12 (ad.f 45) (ad.e 45) (Rw 45).ps (@spX ⟨K⟩ (clT ad) 3 wI):=by
  letI:KK:=⟨K⟩
  have G_must_be_web:=zn T
  have X_must_be_web:=zz T
  have X_must_be_place:=zD T
  refine yf (cl:=clT ad) (N:=(Rw 45).N) (ps:=(Rw 45).ps) (T.d 45).fn (sc 45) (gx:=wE) fun b A outer s H E a=>?_
  unfold wE
  exact (zQ (zH (zB (X_must_be_web.mono (by decide)) zk a rfl (T.d 11).at_ (T.d 11).kp (T.d 11).bd (zb (edv 0) zd))) (SD.nox (zU (zt G_must_be_web a rfl (T.d 11) (zb (edv 0) zd))))
      (zR (zH (zB (X_must_be_place.mono (by decide)) zk a rfl (T.d 12).at_ (T.d 12).kp (T.d 12).bd (zb (edv 0) (zb (edv 1) zd))))))
noncomputable def YB:SE→Ctl :=
  (zO (zj vA (eFn zfw (za (zh 3 wa (za (zc 0) (za (zc 1) (za (zc 2) ze)))) ze)) (eC (.int 1))))
noncomputable def YI:List D→Option D:=fnD 3 YB
theorem ZX (T:Txt P w K mg base ad):zJ P w K mg base CX0 13 (ad.f 44) (ad.e 44) (Rw 44).ps (@spD ⟨K⟩ 3 YI):=by
  letI:KK:=⟨K⟩
  have G_tree_worst:=wL T
  refine zI (N:=(Rw 44).N) (ps:=(Rw 44).ps) (T.d 44).fn (sc 44) (g:=YB) fun a A outer s H E b=>?_
  unfold YB
  have c:=(sc 44).nd
  apply zq <;> walk_at "s"
noncomputable def vn:SE→Option Nat :=
  (xEx (yd 3 wI (za (zc 0) (za (zc 1) (za (zc 2) ze)))))
noncomputable def Xa:List D→Option Nat:=fnX 3 vn
theorem VE (T:Txt P w K mg base ad):zJ P w K mg base (Air P w) 13 (ad.f 44) (ad.e 44) (Rw 44).ps (@spX ⟨K⟩ (clT ad) 3 Xa):=by
  letI:KK:=⟨K⟩
  have X_tree_worst:=Yo T
  refine yf (cl:=clT ad) (N:=(Rw 44).N) (ps:=(Rw 44).ps) (T.d 44).fn (sc 44) (gx:=vn) fun b A outer s H E a=>?_
  unfold vn
  exact (z0 (vd (zmK (ziA rfl (T.z "sum" (by decide)) Wl (zbL (zB (X_tree_worst.mono (by decide)) zk a rfl (T.d 45).at_ (T.d 45).kp (T.d 45).bd (zb (edv 0) (zb (edv 1) (zb (edv 2) zd)))))) (zv zu))))
noncomputable def xY:SE→Ctl :=
  (zx (sIf (tOf (zj ltD (zc 0) (eC (.int 4)))) (zO (zdv 2 [wT,Wq,ze7,YO] (zc 0) (za (zc 1) (za (zc 2) ze)))) zP)
    (zx (sIf (tOf (zj ltD (zc 0) (eC (.int 6)))) (zO (zdv 3 [YI,wa] (zj Zr (zc 0) (eC (.int 4))) (za (zc 1) (za (zc 2) (za (eC (.int 1)) ze))))) zP)
    (zO (zdv 3 [XG,Z0] (zj Zr (zc 0) (eC (.int 6))) (za (zc 1) (za (zc 2) (za (eC .non) ze)))))))
noncomputable def vL:List D→Option D:=fnD 3 xY
theorem Xl (T:Txt P w K mg base ad):zJ P w K mg base CX0 14 (ad.f 73) (ad.e 73) (Rw 73).ps (@spD ⟨K⟩ 3 vL):=by
  letI:KK:=⟨K⟩
  have G_far_weights:=Yx T
  have G_heights:=W9 T
  have G_ways:=zeK T
  have G_tree_need:=ZX T
  have G_tree_worst:=wL T
  have G_is_branch:=za5 T
  have G_show_bound:=VP T
  have G_tree_show:=ZW T
  refine zI (N:=(Rw 73).N) (ps:=(Rw 73).ps) (T.d 73).fn (sc 73) (g:=xY) fun b A outer s H E a=>?_
  unfold xY
  exact (zg (wt (zK Y7 zL (zS _) (edv 0) (zv zu)) (zq (yg (vM (zy (T.d 32).at_ (zy (T.d 39).at_ (zy (T.d 42).at_ (zy (T.d 61).at_ y6)))) (.cons G_far_weights a (T.d 32).kp (T.d 32).bd (by decide) (.cons G_heights a (T.d 39).kp (T.d 39).bd (by decide) (.cons G_ways a (T.d 42).kp (T.d 42).bd (by decide) (.cons G_tree_show a (T.d 61).kp (T.d 61).bd (by decide) .nil)))) (edv 0) (zb (edv 1) (zb (edv 2) zd))))) yn)
      (zg (wt (zK Y7 zL (zS _) (edv 0) (zv zu)) (zq (yg (vM (zy (T.d 44).at_ (zy (T.d 45).at_ y6)) (.cons G_tree_need a (T.d 44).kp (T.d 44).bd (by decide) (.cons G_tree_worst a (T.d 45).kp (T.d 45).bd (by decide) .nil)) (xD (edv 0) (zv zu)) (zb (edv 1) (zb (edv 2) (zb (zv zu) zd)))))) yn)
      (zq (yg (vM (zy (T.d 54).at_ (zy (T.d 60).at_ y6)) (.cons G_is_branch a (T.d 54).kp (T.d 54).bd (by decide) (.cons G_show_bound a (T.d 60).kp (T.d 60).bd (by decide) .nil)) (xD (edv 0) (zv zu)) (zb (edv 1) (zb (edv 2) (zb (Yj Yv) zd))))))))
noncomputable def xu:SE→Option Nat :=
  (Xu (xIf (tOf (zj ltD (zc 0) (eC (.int 4)))) (xEx (zhv 2 [Yf,W3,ze6,ZT] (zc 0) (za (zc 1) (za (zc 2) ze)))) xNo) (sIf (tOf (zj ltD (zc 0) (eC (.int 4)))) (zO (zdv 2 [wT,Wq,ze7,YO] (zc 0) (za (zc 1) (za (zc 2) ze)))) zP)
    (Xu (xIf (tOf (zj ltD (zc 0) (eC (.int 6)))) (xEx (zhv 3 [Xa,wI] (zj Zr (zc 0) (eC (.int 4))) (za (zc 1) (za (zc 2) (za (eC (.int 1)) ze))))) xNo) (sIf (tOf (zj ltD (zc 0) (eC (.int 6)))) (zO (zdv 3 [YI,wa] (zj Zr (zc 0) (eC (.int 4))) (za (zc 1) (za (zc 2) (za (eC (.int 1)) ze))))) zP)
    (xEx (zhv 3 [Z1,Y8] (zj Zr (zc 0) (eC (.int 6))) (za (zc 1) (za (zc 2) (za (eC .non) ze)))))))
noncomputable def w4:List D→Option Nat:=fnX 3 xu
theorem Zv (T:Txt P w K mg base ad):zJ P w K mg base (Air P w) 14 (ad.f 73) (ad.e 73) (Rw 73).ps (@spX ⟨K⟩ (clT ad) 3 w4):=by
  letI:KK:=⟨K⟩
  have G_far_weights:=Yx T
  have X_far_weights:=Wm T
  have G_heights:=W9 T
  have X_heights:=zbS T
  have G_ways:=zeK T
  have X_ways:=zgW T
  have G_tree_need:=ZX T
  have X_tree_need:=VE T
  have G_tree_worst:=wL T
  have X_tree_worst:=Yo T
  have X_is_branch:=VG T
  have X_show_bound:=WR T
  have G_tree_show:=ZW T
  have X_tree_show:=V6 T
  refine yf (cl:=clT ad) (N:=(Rw 73).N) (ps:=(Rw 73).ps) (T.d 73).fn (sc 73) (gx:=xu) fun b A outer s H E a=>?_
  unfold xu
  exact (zQ (X9 (zK Y7 zL (zS _) (edv 0) (zv zu)) (z0 (vd (XJ zk (zy (T.d 32).at_ (zy (T.d 39).at_ (zy (T.d 42).at_ (zy (T.d 61).at_ y6)))) (.cons X_far_weights a (T.d 32).kp (T.d 32).bd (by decide) (.cons X_heights a (T.d 39).kp (T.d 39).bd (by decide) (.cons X_ways a (T.d 42).kp (T.d 42).bd (by decide) (.cons X_tree_show a (T.d 61).kp (T.d 61).bd (by decide) .nil)))) (edv 0) (zb (edv 1) (zb (edv 2) zd))))) yW) (SD.nox (wt (zK Y7 zL (zS _) (edv 0) (zv zu)) (zq (yg (vM (zy (T.d 32).at_ (zy (T.d 39).at_ (zy (T.d 42).at_ (zy (T.d 61).at_ y6)))) (.cons G_far_weights a (T.d 32).kp (T.d 32).bd (by decide) (.cons G_heights a (T.d 39).kp (T.d 39).bd (by decide) (.cons G_ways a (T.d 42).kp (T.d 42).bd (by decide) (.cons G_tree_show a (T.d 61).kp (T.d 61).bd (by decide) .nil)))) (edv 0) (zb (edv 1) (zb (edv 2) zd))))) yn))
      (zQ (X9 (zK Y7 zL (zS _) (edv 0) (zv zu)) (z0 (vd (XJ zk (zy (T.d 44).at_ (zy (T.d 45).at_ y6)) (.cons X_tree_need a (T.d 44).kp (T.d 44).bd (by decide) (.cons X_tree_worst a (T.d 45).kp (T.d 45).bd (by decide) .nil)) (xD (edv 0) (zv zu)) (zb (edv 1) (zb (edv 2) (zb (zv zu) zd)))))) yW) (SD.nox (wt (zK Y7 zL (zS _) (edv 0) (zv zu)) (zq (yg (vM (zy (T.d 44).at_ (zy (T.d 45).at_ y6)) (.cons G_tree_need a (T.d 44).kp (T.d 44).bd (by decide) (.cons G_tree_worst a (T.d 45).kp (T.d 45).bd (by decide) .nil)) (xD (edv 0) (zv zu)) (zb (edv 1) (zb (edv 2) (zb (zv zu) zd)))))) yn))
      (z0 (vd (XJ zk (zy (T.d 54).at_ (zy (T.d 60).at_ y6)) (.cons X_is_branch a (T.d 54).kp (T.d 54).bd (by decide) (.cons X_show_bound a (T.d 60).kp (T.d 60).bd (by decide) .nil)) (xD (edv 0) (zv zu)) (zb (edv 1) (zb (edv 2) (zb (Yj Yv) zd))))))))
noncomputable def xg:SE→Ctl :=
  (sIf (tOf (zj gtD (zc 0) (zc 1))) sNo zP)
noncomputable def xb:List D→Option D:=fnD 2 xg
theorem wb (T:Txt P w K mg base ad):zJ P w K mg base CX0 1 (ad.f 3) (ad.e 3) (Rw 3).ps (@spD ⟨K⟩ 2 xb):=by
  letI:KK:=⟨K⟩
  refine zI (N:=(Rw 3).N) (ps:=(Rw 3).ps) (T.d 3).fn (sc 3) (g:=xg) fun a A outer s H E b=>?_
  unfold xg
  have c:=(sc 3).nd
  apply zq <;> walk_at "s"
noncomputable def Z7 (r:List D→Option D):SE→Ctl :=
  (zjG 2 (yp (fLC (iOf (zh 2 r (za (zj Zr (zc 0) (eC (.int 1))) (za (zj Zr (zc 1) (zc 3)) ze)))) b1 xJ (zj vA (yJ (za (zc 4) ze)) (zc 0)))))
noncomputable def v6 (r:List D→Option D):SE→Ctl :=
  (zx (sIf (tOf (zj Ze (zc 0) (eC (.int 1)))) (zO (yp (z4 (za (yJ (za (zc 1) ze)) ze)))) zP)
    (zx (zao 2 (z4 ze))
    (zx (Wn WT (za (zj vA (zc 1) (eC (.int 1))) ze) (yG 3) (Z7 r))
    (sFz 2 (zO (zc 2))))))
noncomputable def W8:List D→Option D:=zl5 4 v6 6
theorem zbD (T:Txt P w K mg base ad):zJ P w K mg base CX0 7 (ad.f 65) (ad.e 65) (Rw 65).ps (@spD ⟨K⟩ 2 W8):=by
  letI:KK:=⟨K⟩
  have R:∀ n,zJ P w K mg base CX0 (1+n) (ad.f 65) (ad.e 65) (Rw 65).ps (spD 2 (zl5 4 v6 n)):=by
    refine zkQ (P:=P) (w:=w) (mg:=mg) (base:=base) (k0:=1) (g:=v6) (T.d 65).fn (sc 65) fun k r c e A outer s H E d=>?_
    unfold v6 Z7
    exact (zg (wt (zK (xV d) yK (zS _) (edv 0) (zv zu)) (zq (yg (Ye (YZ (zb (xB (zb (edv 1) zd)) zd))))) yn)
      (zg (zaN (i:=2) (sc 65).nd rfl (Or.inl rfl) (YZ zd))
      (zg (Vw PassesOwn.never rfl rfl (T.z "range" (by decide)) (zb (X3 (edv 1) (zv zu)) zd) (vP (z3 (i:=3) (sc 65).nd rfl (Or.inr rfl))) (zq (zfF (pv 2) (Ye (zcj (L:=["rest"]) (M:=["many","stones","found","first"]) rfl (vZ (by rfl) (by rfl) (by rfl) (by with_unfolding_all rfl) (by rfl) (by rfl) (by kernel_rfl) (all_cons rfl yD)) (ZZ (zdN c d rfl (T.d 65).at_ (T.d 65).kp (T.d 65).bd (zb (xD (edv 0) (zv zu)) (zb (xD (edv 1) (edv 3)) zd)))) gs1 rb1 (fun _ _ _ _=>(z3 (i:=0) zly rfl (Or.inl rfl) (.inr rfl))) (fun _ _ _ _=>(X3 (xB (zb (edv 4) zd)) (edv 0))))) (fun a b=>zaj PySem.F.plainAttrs_list PySem.F.slot_list_extend PySem.F.type_list_extend X4 a b))))
      (Ve 2 (zq (yg (edv 2)))))))
  exact R 6
noncomputable def Y5:SE→Ctl :=
  (zjG 1 (yp (fLC (iOf (zh 2 x6 (za (zc 0) (za (zc 2) ze)))) b1 xJ (yJ (za (zc 3) (za (zc 0) ze))))))
noncomputable def YG:SE→Ctl :=
  (zx (zao 1 (z4 ze))
    (zx (Wn WT (za (zj ixD (zc 0) (eC (.int 0))) ze) (yG 2) Y5)
    (sFz 1 (zO (zc 1)))))
noncomputable def Ww:List D→Option D:=fnD 3 YG
theorem zaR (T:Txt P w K mg base ad):zJ P w K mg base CX0 3 (ad.f 22) (ad.e 22) (Rw 22).ps (@spD ⟨K⟩ 1 Ww):=by
  letI:KK:=⟨K⟩
  have G_neighbours:=wB T
  refine zI (N:=(Rw 22).N) (ps:=(Rw 22).ps) (T.d 22).fn (sc 22) (g:=YG) fun a A outer s H E b=>?_
  unfold YG Y5
  have c:=(sc 22).nd
  apply zg <;> walk_at "s"
noncomputable def XL:SE→Ctl :=
  (zx (zao 2 (fFn zf0 (za (zc 0) ze)))
    (zx (zeC true 2 (zj ixD (zc 1) (eC (.int 0))) (zj Zr (zj ixD (zc 2) (zj ixD (zc 1) (eC (.int 0)))) (eC (.int 2))))
    (zx (zeC true 2 (zj ixD (zc 1) (eC (.int 1))) (zj vA (zj ixD (zc 2) (zj ixD (zc 1) (eC (.int 1)))) (eC (.int 1))))
    (sFz 2 (zO (eFn vz (za (zc 2) ze)))))))
noncomputable def zam:List D→Option D:=fnD 3 XL
theorem zcY (T:Txt P w K mg base ad):zJ P w K mg base CX0 1 (ad.f 23) (ad.e 23) (Rw 23).ps (@spD ⟨K⟩ 2 zam):=by
  letI:KK:=⟨K⟩
  refine zI (N:=(Rw 23).N) (ps:=(Rw 23).ps) (T.d 23).fn (sc 23) (g:=XL) fun a A outer s H E b=>?_
  unfold XL
  have c:=(sc 23).nd
  apply zg <;> walk_at "s"
noncomputable def vg:SE→Ctl :=
  (zx (yu false 8 (zh 2 zam (za (zc 6) (za (zc 7) ze))))
    (sIf (tOf (zj (zl1 true) (zc 8) (zc 3))) (zx (zg2 false 3 (zc 8) (yJ (za (zc 6) (za (zc 7) ze))))
    (zhA false 5 (zc 8))) zP))
noncomputable def wZ:SE→Ctl :=
  (WE (iOf (yp (fLC (iOf (zc 2)) b1 (tOf (zj geD (zj ixD (zc 7) (zj ixD (zc 0) (eC (.int 0)))) (eC (.int 2)))) (zc 0)))) (yG 7) vg)
noncomputable def w8:SE→Ctl :=
  (zx (zao 5 (z4 ze))
    (zx (WE (iOf (zc 4)) (yG 6) wZ)
    (sFz 5 (yu false 4 (zc 5)))))
noncomputable def wf:SE→Ctl :=
  (zx (yu false 2 (zh 1 Ww (za (zc 0) ze)))
    (zx (zio 3 (zc 1) (eC .non))
    (zx (yu false 4 (yp (z4 (za (zc 1) ze))))
    (zx (vR (tOf (zj gtD (eFn WU (za (zc 4) ze)) (eC (.int 0)))) w8 20)
    (zmh 3 (zO (zc 3)))))))
noncomputable def Yn:List D→Option D:=fnD 9 wf
theorem XZ (T:Txt P w K mg base ad):zJ P w K mg base CX0 4 (ad.f 62) (ad.e 62) (Rw 62).ps (@spD ⟨K⟩ 2 Yn):=by
  letI:KK:=⟨K⟩
  have G_all_steps:=zaR T
  have G_stepped:=zcY T
  refine zI (N:=(Rw 62).N) (ps:=(Rw 62).ps) (T.d 62).fn (sc 62) (g:=wf) fun d A outer s H E c=>?_
  unfold wf w8 wZ vg
  exact (zg (vf (m:=false) (i:=2) (sc 62).nd rfl (Or.inl rfl) (zt G_all_steps c rfl (T.d 22) (zb (edv 0) zd)))
      (zg (zjc (i:=3) c (sc 62).nd rfl (Or.inl rfl) (edv 1) (Yj Yv))
      (zg (vf (m:=false) (i:=4) (sc 62).nd rfl (Or.inl rfl) (Ye (YZ (zb (edv 1) zd))))
      (zg (zcO 20 PassesOwn.never (zK zeD zL (zS _) (yr vW zbi rfl (T.z "len" (by decide)) zcL (zb (edv 4) zd)) (zv zu)) (zg (zaN (i:=5) (sc 62).nd rfl (Or.inl rfl) (YZ zd))
      (zg (zap PassesOwn.never rfl (ZZ (edv 4)) (vP (z3 (i:=6) (sc 62).nd rfl (Or.inr rfl))) (zq (zap PassesOwn.never rfl (ZZ (Ye (zeF (L:=["step"]) (M:=["web","heap","steps","found","rim","further","now","·step","then"]) rfl (vZ (by rfl) (by rfl) (by rfl) (by with_unfolding_all rfl) (by rfl) (by rfl) (by kernel_rfl) (all_cons rfl yD)) (ZZ (edv 2)) gs1 rb1 (fun _ _ _ _=>(z3 (i:=0) zkb rfl (Or.inl rfl) (.inr rfl))) (fun _ _ _ _=>(zK zlU zL (zS _) (vk (edv 7) (vk (edv 0) (zv zu) (fun _ _=>rfl)) (fun _ _=>rfl)) (zv zu))) (fun _ _ _ _=>(edv 0))))) (vP (z3 (i:=7) (sc 62).nd rfl (Or.inl rfl))) (zg (vf (m:=false) (i:=8) (sc 62).nd rfl (Or.inl rfl) (zt G_stepped c rfl (T.d 23) (zb (edv 6) (zb (edv 7) zd))))
      (zq (wt (zK (zfg c) zb3 (by with_unfolding_all rfl) (edv 8) (edv 3)) (zg (zfG (m:=false) c (xB (zb (edv 6) (zb (edv 7) zd))) (pv 3) (edv 8))
      (zq (zen (m:=false) (pv 5) (edv 8) (fun a b=>zaj PySem.F.plainAttrs_list PySem.F.slot_list_append PySem.F.type_list_append WC a b)))) yn))))))
      (Ve 5 (zq (vf (m:=false) (i:=4) (sc 62).nd rfl (Or.inl rfl) (edv 5)))))))
      (ziL 3 (zq (yg (edv 3))))))))
noncomputable def Ws:SE→Ctl :=
  (zx (yH (zh 1 zp (za (zc 0) ze)))
    (zx (yH (zh 2 zM (za (zc 0) (za (zc 1) ze))))
    (zx (yH (zh 2 xb (za (eFn zfw (za (zc 1) ze)) (za (eC (.int 12)) ze))))
    (zx (yu false 2 (zh 2 Yn (za (zc 0) (za (zc 1) ze))))
    (zO (yp (fLC (zhq WT (za (zj ixD (zc 0) (eC (.int 0))) ze)) b1 (tOf (eFn anyD (za (yp (fLC (iDct (zc 3)) b1 xJ (zj gtD (zj ixD (zc 0) (zc 1)) (eC (.int 0))))) ze))) (zc 0))))))))
noncomputable def za1:List D→Option D:=fnD 3 Ws
theorem zcV (T:Txt P w K mg base ad):zJ P w K mg base CX0 8 (ad.f 63) (ad.e 63) (Rw 63).ps (@spD ⟨K⟩ 2 za1):=by
  letI:KK:=⟨K⟩
  have G_must_be_at_most:=wb T
  have G_must_be_web:=zn T
  have G_must_be_heap:=zN T
  have G_heaps_behind:=XZ T
  refine zI (N:=(Rw 63).N) (ps:=(Rw 63).ps) (T.d 63).fn (sc 63) (g:=Ws) fun b A outer s H E a=>?_
  unfold Ws
  exact (zg (zU (zt G_must_be_web a rfl (T.d 11) (zb (edv 0) zd)))
      (zg (zU (zt G_must_be_heap a rfl (T.d 20) (zb (edv 0) (zb (edv 1) zd))))
      (zg (zU (zt G_must_be_at_most a rfl (T.d 3) (zb (yr (vI rfl) XC rfl (T.z "sum" (by decide)) Wl (zb (edv 1) zd)) (zb (zv (yo (v:=.int 12) rfl T.g_MOST_SEARCHED ⟨_,rfl⟩)) zd))))
      (zg (vf (m:=false) (i:=2) (sc 63).nd rfl (Or.inr rfl) (zt G_heaps_behind a rfl (T.d 62) (zb (edv 0) (zb (edv 1) zd))))
      (zq (yg (Ye (ziH (x0:="place") (M:=["web","heap","found"]) rfl (zlF (by rfl) (by rfl) (by rfl) (by with_unfolding_all rfl) (fun _=>rfl) (fun _=>rfl) (by rfl) (by rfl) (by kernel_rfl) (all_cons rfl yD)) (Wo rfl (T.z "range" (by decide)) (zb (vk (edv 0) (zv zu) (fun _ _=>rfl)) zd)) gs1 rb1 (fun _ _ _ _=>(z3 (i:=0) zlC rfl (Or.inr rfl) (.inl rfl))) (fun _ _ _ _=>(W0 (yr (zdH rfl) zjg rfl (T.z "any" (by decide)) zk7 (zb (Ye (zcj (L:=["other"]) (M:=["place","web","heap","found"]) rfl (vZ (by rfl) (by rfl) (by rfl) (by with_unfolding_all rfl) (by rfl) (by rfl) (by kernel_rfl) (all_cons rfl yD)) (zjs (edv 3)) gs1 rb1 (fun _ _ _ _=>(z3 (i:=0) zkE rfl (Or.inl rfl) (.inr rfl))) (fun _ _ _ _=>(Z9 zeD zL (zS _) (vk (edv 0) (edv 1) (fun _ _=>rfl)) (zv zu))))) zd)))) (fun _ _ _ _=>(edv 0))))))))))
noncomputable def ZJ:SE→Option Nat :=
  (Xu (xEx (yd 1 zA (za (zc 0) ze))) (yH (zh 1 zp (za (zc 0) ze)))
    (xEx (yd 2 yi (za (zc 0) (za (zc 1) ze)))))
noncomputable def WV:List D→Option Nat:=fnX 3 ZJ
theorem zbu (T:Txt P w K mg base ad):zJ P w K mg base (Air P w) 8 (ad.f 63) (ad.e 63) (Rw 63).ps (@spX ⟨K⟩ (clT ad) 2 WV):=by
  letI:KK:=⟨K⟩
  have G_must_be_web:=zn T
  have X_must_be_web:=zz T
  have X_must_be_heap:=yl T
  refine yf (cl:=clT ad) (N:=(Rw 63).N) (ps:=(Rw 63).ps) (T.d 63).fn (sc 63) (gx:=ZJ) fun b A outer s H E a=>?_
  unfold ZJ
  exact (zQ (zH (zB (X_must_be_web.mono (by decide)) zk a rfl (T.d 11).at_ (T.d 11).kp (T.d 11).bd (zb (edv 0) zd))) (SD.nox (zU (zt G_must_be_web a rfl (T.d 11) (zb (edv 0) zd))))
      (zR (zH (zB (X_must_be_heap.mono (by decide)) zk a rfl (T.d 20).at_ (T.d 20).kp (T.d 20).bd (zb (edv 0) (zb (edv 1) zd))))))
noncomputable def YA:SE→Ctl :=
  (zO (zj Ze (eFn WU (za (zh 2 za1 (za (zc 0) (za (zc 1) ze))) ze)) (zj ixD (zc 0) (eC (.int 0)))))
noncomputable def wO:List D→Option D:=fnD 2 YA
theorem vT (T:Txt P w K mg base ad):zJ P w K mg base CX0 9 (ad.f 64) (ad.e 64) (Rw 64).ps (@spD ⟨K⟩ 2 wO):=by
  letI:KK:=⟨K⟩
  have G_reached:=zcV T
  refine zI (N:=(Rw 64).N) (ps:=(Rw 64).ps) (T.d 64).fn (sc 64) (g:=YA) fun a A outer s H E b=>?_
  unfold YA
  have c:=(sc 64).nd
  apply zq <;> walk_at "s"
noncomputable def vK:SE→Option Nat :=
  (xEx (yd 2 WV (za (zc 0) (za (zc 1) ze))))
noncomputable def Xd:List D→Option Nat:=fnX 2 vK
theorem Vr (T:Txt P w K mg base ad):zJ P w K mg base (Air P w) 9 (ad.f 64) (ad.e 64) (Rw 64).ps (@spX ⟨K⟩ (clT ad) 2 Xd):=by
  letI:KK:=⟨K⟩
  have X_reached:=zbu T
  refine yf (cl:=clT ad) (N:=(Rw 64).N) (ps:=(Rw 64).ps) (T.d 64).fn (sc 64) (gx:=vK) fun b A outer s H E a=>?_
  unfold vK
  exact (z0 (vd (zlw (ziA rfl (T.z "len" (by decide)) zcL (zbL (zB (X_reached.mono (by decide)) zk a rfl (T.d 63).at_ (T.d 63).kp (T.d 63).bd (zb (edv 0) (zb (edv 1) zd))))) (vk (edv 0) (zv zu) (fun _ _=>rfl)) (zS _))))
noncomputable def ve:SE→Ctl :=
  (sIf (tOf (zh 2 wO (za (zc 0) (za (zc 2) ze)))) (zO (zc 2)) zP)
noncomputable def wW:SE→Ctl :=
  (zx (WE (iOf (zh 2 W8 (za (zj ixD (zc 0) (eC (.int 0))) (za (zc 1) ze)))) (yG 2) ve)
    (yu false 1 (zj vA (zc 1) (eC (.int 1)))))
noncomputable def wj:SE→Ctl :=
  (zx (yH (zh 1 zp (za (zc 0) ze)))
    (zx (yH (zh 2 xb (za (zj ixD (zc 0) (eC (.int 0))) (za (eC (.int 6)) ze))))
    (zx (yu false 1 (eC (.int 1)))
    (vR (tOf (eC (.bl true))) wW 8))))
noncomputable def wk:List D→Option D:=fnD 3 wj
theorem vJ (T:Txt P w K mg base ad):zJ P w K mg base CX0 10 (ad.f 66) (ad.e 66) (Rw 66).ps (@spD ⟨K⟩ 1 wk):=by
  letI:KK:=⟨K⟩
  have G_must_be_at_most:=wb T
  have G_must_be_web:=zn T
  have G_is_spread:=vT T
  have G_heaps_of:=zbD T
  refine zI (N:=(Rw 66).N) (ps:=(Rw 66).ps) (T.d 66).fn (sc 66) (g:=wj) fun a A outer s H E b=>?_
  unfold wj wW ve
  have c:=(sc 66).nd
  apply zg <;> walk_at "s"
noncomputable def xQ:SE→Option Nat :=
  (xEx (yd 1 zA (za (zc 0) ze)))
noncomputable def xP:List D→Option Nat:=fnX 3 xQ
theorem wY (T:Txt P w K mg base ad):zJ P w K mg base (Air P w) 10 (ad.f 66) (ad.e 66) (Rw 66).ps (@spX ⟨K⟩ (clT ad) 1 xP):=by
  letI:KK:=⟨K⟩
  have X_must_be_web:=zz T
  refine yf (cl:=clT ad) (N:=(Rw 66).N) (ps:=(Rw 66).ps) (T.d 66).fn (sc 66) (gx:=xQ) fun b A outer s H E a=>?_
  unfold xQ
  exact (zR (zH (zB (X_must_be_web.mono (by decide)) zk a rfl (T.d 11).at_ (T.d 11).kp (T.d 11).bd (zb (edv 0) zd))))
noncomputable def wG:SE→Ctl :=
  (zO (eFn zfw (za (zh 1 wk (za (zc 0) ze)) ze)))
noncomputable def Zi:List D→Option D:=fnD 1 wG
theorem WQ (T:Txt P w K mg base ad):zJ P w K mg base CX0 11 (ad.f 67) (ad.e 67) (Rw 67).ps (@spD ⟨K⟩ 1 Zi):=by
  letI:KK:=⟨K⟩
  have G_first_spread:=vJ T
  refine zI (N:=(Rw 67).N) (ps:=(Rw 67).ps) (T.d 67).fn (sc 67) (g:=wG) fun a A outer s H E b=>?_
  unfold wG
  have c:=(sc 67).nd
  apply zq <;> walk_at "s"
noncomputable def wm:SE→Option Nat :=
  (xEx (yd 1 xP (za (zc 0) ze)))
noncomputable def Yq:List D→Option Nat:=fnX 1 wm
theorem X2 (T:Txt P w K mg base ad):zJ P w K mg base (Air P w) 11 (ad.f 67) (ad.e 67) (Rw 67).ps (@spX ⟨K⟩ (clT ad) 1 Yq):=by
  letI:KK:=⟨K⟩
  have X_first_spread:=wY T
  refine yf (cl:=clT ad) (N:=(Rw 67).N) (ps:=(Rw 67).ps) (T.d 67).fn (sc 67) (gx:=wm) fun b A outer s H E a=>?_
  unfold wm
  exact (z0 (vd (ziA rfl (T.z "sum" (by decide)) Wl (zbL (zB (X_first_spread.mono (by decide)) zk a rfl (T.d 66).at_ (T.d 66).kp (T.d 66).bd (zb (edv 0) zd))))))
noncomputable def wz:SE→Ctl :=
  (zx (yH (zh 1 zp (za (zc 0) ze)))
    (zx (sIf (Xt (yX (tOf (zh 2 xo (za (zj ixD (zc 0) (eC (.int 0))) (za (zc 1) ze))))) (tOf (zj Ze (eFn zfw (za (zc 1) ze)) (eC (.int 0))))) (zO (eC .non)) zP)
    (zx (yu false 2 (yp (fLC (zhq WT (za (zj ixD (zc 0) (eC (.int 0))) ze)) b1 xJ (zh 3 zbC (za (zc 1) (za (zc 2) (za (zc 0) ze)))))))
    (zO (eFn zlp (za (yp (fLC (iOf (zc 2)) b2 (tOf (zj gtD (zc 0) (eC (.int 0)))) (zj Xm (zj Zr (zj vA (zj Zq (eFn zfw (za (zc 3) ze)) (zc 1)) (zc 0)) (eC (.int 1))) (zc 0)))) ze))))))
noncomputable def wy:List D→Option D:=fnD 3 wz
theorem Yl (T:Txt P w K mg base ad):zJ P w K mg base CX0 8 (ad.f 68) (ad.e 68) (Rw 68).ps (@spD ⟨K⟩ 2 wy):=by
  letI:KK:=⟨K⟩
  have G_are_counts:=xG T
  have G_must_be_web:=zn T
  have G_worth:=zcq T
  refine zI (N:=(Rw 68).N) (ps:=(Rw 68).ps) (T.d 68).fn (sc 68) (g:=wz) fun b A outer s H E a=>?_
  unfold wz
  exact (zg (zU (zt G_must_be_web a rfl (T.d 11) (zb (edv 0) zd)))
      (zg (wt (zmX (zjb (za7 (W0 (zt G_are_counts a rfl (T.d 6) (zb (vk (edv 0) (zv zu) (fun _ _=>rfl)) (zb (edv 1) zd))))) (zeQ (zK (xV a) yK (zS _) (yr (vI rfl) XC rfl (T.z "sum" (by decide)) Wl (zb (edv 1) zd)) (zv zu))))) (zq (yg (Yj Yv))) yn)
      (zg (zbX (m:=false) (i:=2) (zbB (L:=["place"]) (M:=["web","thing","worths"]) (sc 68).nd rfl (Or.inl rfl) rfl (vZ (by rfl) (by rfl) (by rfl) (by with_unfolding_all rfl) (by rfl) (by rfl) (by kernel_rfl) (all_cons rfl (all_cons rfl yD))) (Wo rfl (T.z "range" (by decide)) (zb (vk (edv 0) (zv zu) (fun _ _=>rfl)) zd)) gs1 rb1 (fun _ _ _ _=>(z3 (i:=0) zk5 rfl (Or.inl rfl) (.inr rfl))) (fun _ _ _ _=>(zt G_worth a rfl (T.d 27) (zb (edv 1) (zb (edv 2) (zb (edv 0) zd)))))))
      (zq (yg (yr (zfp rfl) zf8 rfl (T.z "min" (by decide)) zht (zb (Ye (zeF (L:=["top","bottom"]) (M:=["web","thing","worths"]) rfl (vZ (by rfl) (by rfl) (by rfl) (by with_unfolding_all rfl) (by rfl) (by rfl) (by kernel_rfl) (all_cons rfl yD)) (ZZ (edv 2)) gs2 rb2 (fun _ _ _ _=>(zfx rfl (Y6 (z3 (i:=0) zhX rfl (Or.inl rfl) (.inr rfl)) (Y6 (z3 (i:=1) zhX rfl (Or.inl rfl) (.inr rfl)) zb0)))) (fun _ _ _ _=>(zK zeD zL (zS _) (edv 0) (zv zu))) (fun _ _ _ _=>(zd0 (xD (X3 (zfq (yr (vI rfl) XC rfl (T.z "sum" (by decide)) Wl (zb (edv 3) zd)) (edv 1)) (edv 0)) (zv zu)) (edv 0))))) zd)))))))
noncomputable def wo:SE→Option Nat :=
  (xEx (yd 1 zA (za (zc 0) ze)))
noncomputable def Yh:List D→Option Nat:=fnX 3 wo
theorem WA (T:Txt P w K mg base ad):zJ P w K mg base (Air P w) 8 (ad.f 68) (ad.e 68) (Rw 68).ps (@spX ⟨K⟩ (clT ad) 2 Yh):=by
  letI:KK:=⟨K⟩
  have X_must_be_web:=zz T
  refine yf (cl:=clT ad) (N:=(Rw 68).N) (ps:=(Rw 68).ps) (T.d 68).fn (sc 68) (gx:=wo) fun b A outer s H E a=>?_
  unfold wo
  exact (zR (zH (zB (X_must_be_web.mono (by decide)) zk a rfl (T.d 11).at_ (T.d 11).kp (T.d 11).bd (zb (edv 0) zd))))
noncomputable def wx:SE→Ctl :=
  (zx (sIf (tOf (zj Ze (zc 0) (eC (.int 0)))) (zO (zh 2 wO (za (zc 1) (za (zj vA (yJ (za (eC (.int 1)) ze)) (zj Xi (yJ (za (eC (.int 0)) ze)) (eC (.int 5)))) ze)))) zP)
    (zx (sIf (tOf (zj Ze (zc 0) (eC (.int 1)))) (zO (zh 2 wy (za (zc 1) (za (eC .non) ze)))) zP)
    (zO (zdv 1 [wk,Zi] (zj Zr (zc 0) (eC (.int 2))) (za (zc 1) ze)))))
noncomputable def Y9:List D→Option D:=fnD 2 wx
theorem WK (T:Txt P w K mg base ad):zJ P w K mg base CX0 12 (ad.f 74) (ad.e 74) (Rw 74).ps (@spD ⟨K⟩ 2 Y9):=by
  letI:KK:=⟨K⟩
  have G_is_spread:=vT T
  have G_first_spread:=vJ T
  have G_spread_need:=WQ T
  have G_marks_bound:=Yl T
  refine zI (N:=(Rw 74).N) (ps:=(Rw 74).ps) (T.d 74).fn (sc 74) (g:=wx) fun b A outer s H E a=>?_
  unfold wx
  exact (zg (wt (zK (xV a) yK (zS _) (edv 0) (zv zu)) (zq (yg (zt G_is_spread a rfl (T.d 64) (zb (edv 1) (zb (X3 (xB (zb (zv zu) zd)) (VH (xB (zb (zv zu) zd)) (zv zu))) zd))))) yn)
      (zg (wt (zK (xV a) yK (zS _) (edv 0) (zv zu)) (zq (yg (zt G_marks_bound a rfl (T.d 68) (zb (edv 1) (zb (Yj Yv) zd))))) yn)
      (zq (yg (vM (zy (T.d 66).at_ (zy (T.d 67).at_ y6)) (.cons G_first_spread a (T.d 66).kp (T.d 66).bd (by decide) (.cons G_spread_need a (T.d 67).kp (T.d 67).bd (by decide) .nil)) (xD (edv 0) (zv zu)) (zb (edv 1) zd))))))
noncomputable def we:SE→Option Nat :=
  (Xu (xIf (tOf (zj Ze (zc 0) (eC (.int 0)))) (xEx (yd 2 Xd (za (zc 1) (za (zj vA (yJ (za (eC (.int 1)) ze)) (zj Xi (yJ (za (eC (.int 0)) ze)) (eC (.int 5)))) ze)))) xNo) (sIf (tOf (zj Ze (zc 0) (eC (.int 0)))) (zO (zh 2 wO (za (zc 1) (za (zj vA (yJ (za (eC (.int 1)) ze)) (zj Xi (yJ (za (eC (.int 0)) ze)) (eC (.int 5)))) ze)))) zP)
    (Xu (xIf (tOf (zj Ze (zc 0) (eC (.int 1)))) (xEx (yd 2 Yh (za (zc 1) (za (eC .non) ze)))) xNo) (sIf (tOf (zj Ze (zc 0) (eC (.int 1)))) (zO (zh 2 wy (za (zc 1) (za (eC .non) ze)))) zP)
    (xEx (zhv 1 [xP,Yq] (zj Zr (zc 0) (eC (.int 2))) (za (zc 1) ze)))))
noncomputable def Yt:List D→Option Nat:=fnX 2 we
theorem XX (T:Txt P w K mg base ad):zJ P w K mg base (Air P w) 12 (ad.f 74) (ad.e 74) (Rw 74).ps (@spX ⟨K⟩ (clT ad) 2 Yt):=by
  letI:KK:=⟨K⟩
  have G_is_spread:=vT T
  have X_is_spread:=Vr T
  have X_first_spread:=wY T
  have X_spread_need:=X2 T
  have G_marks_bound:=Yl T
  have X_marks_bound:=WA T
  refine yf (cl:=clT ad) (N:=(Rw 74).N) (ps:=(Rw 74).ps) (T.d 74).fn (sc 74) (gx:=we) fun b A outer s H E a=>?_
  unfold we
  exact (zQ (X9 (zK (xV a) yK (zS _) (edv 0) (zv zu)) (z0 (vd (zB (X_is_spread.mono (by decide)) zk a rfl (T.d 64).at_ (T.d 64).kp (T.d 64).bd (zb (edv 1) (zb (X3 (xB (zb (zv zu) zd)) (VH (xB (zb (zv zu) zd)) (zv zu))) zd))))) yW) (SD.nox (wt (zK (xV a) yK (zS _) (edv 0) (zv zu)) (zq (yg (zt G_is_spread a rfl (T.d 64) (zb (edv 1) (zb (X3 (xB (zb (zv zu) zd)) (VH (xB (zb (zv zu) zd)) (zv zu))) zd))))) yn))
      (zQ (X9 (zK (xV a) yK (zS _) (edv 0) (zv zu)) (z0 (vd (zB (X_marks_bound.mono (by decide)) zk a rfl (T.d 68).at_ (T.d 68).kp (T.d 68).bd (zb (edv 1) (zb (Yj Yv) zd))))) yW) (SD.nox (wt (zK (xV a) yK (zS _) (edv 0) (zv zu)) (zq (yg (zt G_marks_bound a rfl (T.d 68) (zb (edv 1) (zb (Yj Yv) zd))))) yn))
      (z0 (vd (XJ zk (zy (T.d 66).at_ (zy (T.d 67).at_ y6)) (.cons X_first_spread a (T.d 66).kp (T.d 66).bd (by decide) (.cons X_spread_need a (T.d 67).kp (T.d 67).bd (by decide) .nil)) (xD (edv 0) (zv zu)) (zb (edv 1) zd))))))
theorem V7:bootBuiltins "ValueError"=some (.type "ValueError"):=by decide +kernel
theorem zg0 {n:Nat}(h:n≤13):n≤sizeLine:=by rw [sizeLine_eq];omega
theorem WF (T:Txt P w K mg base ad):zfi P w K mg base 1 (ad.f 71) (ad.e 71) (Rw 71).ps (zet (clT ad) (fun j=>j < 13∧zcm K (zjN ad) ad.x_StoneError (clT ad j) j)):=by
  letI:KK:=⟨K⟩
  refine zjv (N:=(Rw 71).N) (ps:=(Rw 71).ps) (T.d 71).fn (sc 71) (fun f H Q E h=>by obtain ⟨a,j,d,rfl,_⟩:=h;rfl) fun g A outer s H f Q E m r c=>?_
  obtain ⟨a,j,d,rfl,k,⟨e,b⟩,q⟩:=c
  refine ⟨_,(xI (Yk (i:=1) (sc 71).nd rfl (Or.inl rfl) (Za (zr (z9 yt rfl (T.z "isinstance" (by decide)) zE (zr (pv 0) (zr (yo (v:=.ref ad.x_NoKind) rfl T.g_NoKind rfl) z5))) (zr (z9 yt rfl (T.z "isinstance" (by decide)) zE (zr (pv 0) (zr (yo (v:=.ref ad.x_NoHeap) rfl T.g_NoHeap rfl) z5))) (zr (z9 yt rfl (T.z "isinstance" (by decide)) zE (zr (pv 0) (zr (yo (v:=.ref ad.x_NoPlace) rfl T.g_NoPlace rfl) z5))) (zr (z9 yt rfl (T.z "isinstance" (by decide)) zE (zr (pv 0) (zr (yo (v:=.ref ad.x_NoNumber) rfl T.g_NoNumber rfl) z5))) z5))))))
      (xI (Yk (i:=1) (sc 71).nd rfl (Or.inl rfl) (zdp zcy (pv 1) (Za (zr (z9 yt rfl (T.z "isinstance" (by decide)) zE (zr (pv 0) (zr (yo (v:=.ref ad.x_NoTally) rfl T.g_NoTally rfl) z5))) (zr (z9 yt rfl (T.z "isinstance" (by decide)) zE (zr (pv 0) (zr (yo (v:=.ref ad.x_NotTree) rfl T.g_NotTree rfl) z5))) (zr (z9 yt rfl (T.z "isinstance" (by decide)) zE (zr (pv 0) (zr (yo (v:=.ref ad.x_NotJoined) rfl T.g_NotJoined rfl) z5))) (zr (z9 yt rfl (T.z "isinstance" (by decide)) zE (zr (pv 0) (zr (yo (v:=.ref ad.x_NoWeights) rfl T.g_NoWeights rfl) z5))) z5)))))))
      (xI (Yk (i:=1) (sc 71).nd rfl (Or.inl rfl) (zdp zcy (pv 1) (Za (zr (z9 yt rfl (T.z "isinstance" (by decide)) zE (zr (pv 0) (zr (yo (v:=.ref ad.x_NoRow) rfl T.g_NoRow rfl) z5))) (zr (z9 yt rfl (T.z "isinstance" (by decide)) zE (zr (pv 0) (zr (yo (v:=.ref ad.x_NoWeb) rfl T.g_NoWeb rfl) z5))) (zr (z9 yt rfl (T.z "isinstance" (by decide)) zE (zr (pv 0) (zr (yo (v:=.ref ad.x_NoSteps) rfl T.g_NoSteps rfl) z5))) (zr (z9 yt rfl (T.z "isinstance" (by decide)) zE (zr (pv 0) (zr (yo (v:=.ref ad.x_NoText) rfl T.g_NoText rfl) z5))) z5)))))))
      (xI (Yk (i:=1) (sc 71).nd rfl (Or.inl rfl) (zdp zcy (pv 1) (Za (zr (z9 yt rfl (T.z "isinstance" (by decide)) zE (zr (pv 0) (zr (yo (v:=.ref ad.x_TooGreat) rfl T.g_TooGreat rfl) z5))) z5))))
      (xI (zgK (PW.pt (zke (zhJ (zhF (z9 yt rfl (T.z "isinstance" (by decide)) zE (zr (pv 0) (zr (Wx (v:=.ty "ValueError") rfl (T.z "ValueError" (by decide)) V7 rfl) z5))))) (zhB (zbw zf2 (zaj PySem.F.plainAttrs_list PySem.F.slot_list_count PySem.F.type_list_count zeI (pv 1) (zr zjm z5)) zu (zS _))))) (YQ (Vf (zlJ zhQ zu))) zbf) (YQ (Vf (zaj PySem.F.plainAttrs_list PySem.F.slot_list_index PySem.F.type_list_index zdP (pv 1) (zr zjm z5))))))))),?_⟩
  refine zfB (cs:=[ad.x_NoKind,ad.x_NoHeap,ad.x_NoPlace,ad.x_NoNumber]) (bs:=[0 == j,1 == j,2 == j,3 == j]) b.look (congrArg (fun l=>(l.drop 0).take 4) b.hot) (zg0 (n:=4) (by decide)) rfl rfl k fun u H1 S1=>?_
  refine Vv (cs:=[ad.x_NoTally,ad.x_NotTree,ad.x_NotJoined,ad.x_NoWeights]) (bs:=[4 == j,5 == j,6 == j,7 == j]) b.look (congrArg (fun l=>(l.drop 4).take 4) b.hot) (by exact zg0 (n:=8) (by decide)) S1 fun o H2 S2=>?_
  refine Vv (cs:=[ad.x_NoRow,ad.x_NoWeb,ad.x_NoSteps,ad.x_NoText]) (bs:=[8 == j,9 == j,10 == j,11 == j]) b.look (congrArg (fun l=>(l.drop 8).take 4) b.hot) (by exact zg0 (n:=12) (by decide)) S2 fun p H3 S3=>?_
  refine Vv (cs:=[ad.x_TooGreat]) (bs:=[12 == j]) b.look (congrArg (fun l=>(l.drop 12).take 1) b.hot) (by exact zg0 (n:=13) (by decide)) S3 fun t H4 S4=>?_
  exact ziy b.val b.look e S4 (q _ S4.same)
noncomputable def YR:SE→Ctl :=
  (zx (zmN (xIf (tOf (zj Ze (zc 0) (eC (.int 0)))) (xEx (yd 4 vh (za (zc 1) (za (zc 2) (za (zc 3) (za (zc 4) ze)))))) (xIf (tOf (zj Ze (zc 0) (eC (.int 1)))) (xEx (yd 3 w4 (za (zc 1) (za (zc 2) (za (zc 4) ze))))) (xEx (yd 2 Yt (za (zc 1) (za (zc 2) ze)))))) (sIf (tOf (zj Ze (zc 0) (eC (.int 0)))) (yH (zh 4 vX (za (zc 1) (za (zc 2) (za (zc 3) (za (zc 4) ze)))))) (sIf (tOf (zj Ze (zc 0) (eC (.int 1)))) (yH (zh 3 vL (za (zc 1) (za (zc 2) (za (zc 4) ze))))) (yH (zh 2 Y9 (za (zc 1) (za (zc 2) ze)))))) (zjJ [1,2,9] (zjz (fK [1,2,9]) 9 (zmm (zgB (fun _=>some (.int 9)) (zgB (fA "at" [9]) (fun _=>some [])))) (zmm (zgB (fK [1,2,9]) (fun _=>some []))))))
    (zO (yp (z4 ze))))
noncomputable def zY:List D→Option D:=fnD 6 YR
theorem zav (T:Txt P w K mg base ad):zJ P w K mg base CX0 15 (ad.f 75) (ad.e 75) (Rw 75).ps (@spD ⟨K⟩ 5 zY):=by
  letI:KK:=⟨K⟩
  have H_kinds:=WF T
  have c:∀ j,j∈[1,2,9]→j < 13∧zcm K (zjN ad) ad.x_StoneError (clT ad j) j:=by
    intro j f
    simp only [List.mem_cons,List.not_mem_nil,or_false] at f
    rcases f with rfl | rfl | rfl
    · exact ⟨by decide,.of T.y_NoHeap⟩
    · exact ⟨by decide,.of T.y_NoPlace⟩
    · exact ⟨by decide,.of T.y_NoWeb⟩
  have l:∀ (h:Nat→Option D) j d,zjJ [1,2,9] h j=some d→PySem.W.exmOne K (.ref (clT ad j)) (.ref ad.x_StoneError)=some true:=fun h j d e=>by rw [zlk ad j];exact (c _ (zjy e)).2.exm
  have b:∀ j,j % 16∈[9]→vb K (clT ad j)∧WZ K (clT ad j) "at":=by
    intro j f
    rw [zlk ad j]
    generalize j % 16=m at f ⊢
    simp only [List.mem_cons,List.not_mem_nil,or_false] at f
    rcases f with rfl
    · exact ⟨.of T.ea_NoWeb,zeP T.na_NoWeb _ (by decide)⟩
  have G__law_of_three:=Xk T
  have X__law_of_three:=ZP T
  have G__law_of_place:=Xl T
  have X__law_of_place:=Zv T
  have G__law_of_web:=WK T
  have X__law_of_web:=XX T
  refine zI (N:=(Rw 75).N) (ps:=(Rw 75).ps) (T.d 75).fn (sc 75) (g:=YR) fun o A outer s H E a=>?_
  unfold YR
  exact (zg (zlN (i:=5) rfl rfl rfl (sc 75).nd rfl rfl rfl T.g_StoneError (fun n W E0 k=>(z0 (X9 (zK (xV a) yK (zS _) (edv 0) (zv zu)) (z0 (zH (zB (X__law_of_three.mono (by decide)) k a rfl (T.d 72).at_ (T.d 72).kp (T.d 72).bd (zb (edv 1) (zb (edv 2) (zb (edv 3) (zb (edv 4) zd))))))) (z0 (X9 (zK (xV a) yK (zS _) (edv 0) (zv zu)) (z0 (zH (zB (X__law_of_place.mono (by decide)) k a rfl (T.d 73).at_ (T.d 73).kp (T.d 73).bd (zb (edv 1) (zb (edv 2) (zb (edv 4) zd)))))) (z0 (zH (zB (X__law_of_web.mono (by decide)) k a rfl (T.d 74).at_ (T.d 74).kp (T.d 74).bd (zb (edv 1) (zb (edv 2) zd)))))))))) (fun n W=>(zq (wt (zK (xV a) yK (zS _) (edv 0) (zv zu)) (zq (zU (zt G__law_of_three a rfl (T.d 72) (zb (edv 1) (zb (edv 2) (zb (edv 3) (zb (edv 4) zd))))))) (zq (wt (zK (xV a) yK (zS _) (edv 0) (zv zu)) (zq (zU (zt G__law_of_place a rfl (T.d 73) (zb (edv 1) (zb (edv 2) (zb (edv 4) zd)))))) (zq (zU (zt G__law_of_web a rfl (T.d 74) (zb (edv 1) (zb (edv 2) zd)))))))))) (l _) (fun ok p=>(xI (zgK (zbw zkD (zcz (E:=fun _ _ _=>False) H_kinds (a.mono (by decide)) rfl (T.d 71).at_ (T.d 71).kp (T.d 71).bd ok (zr (pv 5) z5)) zu (zS _)) (YQ (Vf (Za (zr zu (zr (zmQ (pv 5) rfl) z5))))) zbf) (YQ (Vf (Za (zr (zcz (E:=fun _ _ _=>False) H_kinds (a.mono (by decide)) rfl (T.d 71).at_ (T.d 71).kp (T.d 71).bd ok (zr (pv 5) z5)) z5)))))) (zlv (zmw (zcA (ok:=_) (zlk ad) c) (zhV (VZ zkv (VZ (zir b) zdE))) (zhV (VZ (zcA (ok:=_) (zlk ad) c) zdE)))))
      (zq (yg (Ye (YZ zd)))))
noncomputable def VO:SE→Ctl :=
  (zx (yu false 2 (zj vA (eC (.int 2)) (zj Zp (zh 2 yj (za (zc 1) (za (eC (.int 1)) ze))) (eC (.int 7)))))
    (zx (yu false 3 (yJ (za (zc 2) (za (eFn vz (za (yp (fLC (zhq WT (za (zj Zr (zc 2) (eC (.int 1))) ze)) b1 xJ (yJ (za (zc 0) (za (zj vA (zc 0) (eC (.int 1))) ze))))) ze)) ze))))
    (zx (yu false 4 (yp (z4 (za (yJ (za (eC (.int 0)) (za (yJ ze) ze))) (za (yJ (za (eC (.int 9)) (za (yJ ze) ze))) (za (yJ (za (zc 2) (za (yJ (za (yJ (za (eC (.int 1)) (za (eC (.int 0)) ze))) ze)) ze))) (za (yJ (za (zc 2) (za (yJ (za (yJ (za (eC (.int 0)) (za (zc 2) ze))) ze)) ze))) (za (yJ (za (zc 2) (za (yJ (za (yJ (za (eC (.int 0)) (za (eC (.int 1)) ze))) (za (yJ (za (eC (.int 0)) (za (eC (.int 1)) ze))) ze))) ze))) (za (yJ (za (eC (.bl true)) (za (yJ ze) ze))) (za (yp (z4 (za (zc 2) (za (yJ ze) ze)))) (za (eC .non) ze)))))))))))
    (zx (yu false 5 (zj ixD (zj vA (zc 4) (yp (z4 (za (yJ (za (zc 2) (za (yp (z4 (za (yJ (za (eC (.int 0)) (za (eC (.int 1)) ze))) ze))) ze))) (za (yJ (za (zc 2) (za (yJ (za (yJ (za (eC (.int 0)) (za (eC (.int 0)) ze))) ze)) ze))) (za (zc 2) (za (yJ (za (zc 2) (za (yJ (za (yJ (za (eC (.int 0)) (za (eC (.int 1)) (za (eC (.int 1)) ze)))) ze)) ze))) (za (yJ (za (zc 2) ze)) ze)))))))) (zj Zp (zh 2 yj (za (zc 1) (za (eC (.int 2)) ze))) (eC (.int 13)))))
    (zx (yu false 6 (zj Xi (yJ (za (eC (.int 1)) ze)) (zc 2)))
    (zx (yu false 7 (yp (z4 (za (zj Xi (yJ (za (eC (.int 1)) ze)) (zj Zr (zc 2) (eC (.int 1)))) (za (zj Xi (yJ (za (eC (.int 1)) ze)) (zj vA (zc 2) (eC (.int 1)))) (za (yp (zhC zds (yp (z4 (za (eC (.int 1)) ze))) (zc 2))) (za (zj Xi (yJ (za (eUn zcM (eC (.int 1))) ze)) (zc 2)) (za (zj Xi (yJ (za (eC (.bl true)) ze)) (zc 2)) (za (zj Xi (yJ (za (eC (.int 151)) ze)) (zc 2)) (za (eC .non) ze))))))))))
    (zx (yu false 8 (zj ixD (zc 7) (zj Zp (zh 2 yj (za (zc 1) (za (eC (.int 3)) ze))) (eC (.int 7)))))
    (zx (yu false 9 (zj ixD (yp (z4 (za (zc 2) (za (eUn zcM (eC (.int 1))) (za (eC (.bl true)) (za (eC .non) (za (eC (.str "0")) (za (yJ (za (eC (.int 0)) ze)) (za (zj powD (eC (.int 10)) (eC (.int 30))) ze))))))))) (zj Zp (zh 2 yj (za (zc 1) (za (eC (.int 4)) ze))) (eC (.int 7)))))
    (zx (yu false 10 (zj Zp (zh 2 yj (za (zc 1) (za (eC (.int 5)) ze))) (eC (.int 7))))
    (zx (sIf (Xt (tOf (zj zdC (zh 5 zY (za (eC (.int 0)) (za (zc 10) (za (zc 3) (za (zc 6) (za (zj Zr (zc 2) (eC (.int 1))) ze)))))) (yp (z4 ze)))) (tOf (zj zdC (zh 5 zY (za (eC (.int 0)) (za (zc 10) (za (zc 3) (za (zc 6) (za (zc 9) ze)))))) (yp (z4 (za (eC (.int 2)) ze)))))) (zO (eC (.bl false))) zP)
    (zx (sIf (tOf (zj zdC (zh 5 zY (za (eC (.int 0)) (za (zc 10) (za (zc 5) (za (zj ixD (yp (z4 (za (zc 6) (za (zc 8) ze)))) (zj Zp (zc 1) (eC (.int 2)))) (za (zj ixD (yp (z4 (za (eC (.int 0)) (za (zc 9) ze)))) (zj Zp (zj Xm (zc 1) (eC (.int 2))) (eC (.int 2)))) ze)))))) (yp (z4 (za (eC (.int 9)) (za (eUn zcM (eC (.int 1))) ze)))))) (zO (eC (.bl false))) zP)
    (zx (sIf (tOf (zj zdC (zh 5 zY (za (eC (.int 0)) (za (zc 10) (za (zc 3) (za (zc 8) (za (zj ixD (yp (z4 (za (eC (.int 0)) (za (zc 9) ze)))) (zj Zp (zc 1) (eC (.int 2)))) ze)))))) (yp (z4 (za (eC (.int 1)) ze))))) (zO (eC (.bl false))) zP)
    (zx (yu false 10 (zj Zp (zh 2 yj (za (zc 1) (za (eC (.int 6)) ze))) (eC (.int 8))))
    (zx (sIf (Xt (tOf (zj zdC (zh 5 zY (za (eC (.int 1)) (za (zc 10) (za (zc 3) (za (eC .non) (za (zj Zr (zc 2) (eC (.int 1))) ze)))))) (yp (z4 ze)))) (tOf (zj zdC (zh 5 zY (za (eC (.int 1)) (za (zc 10) (za (zc 3) (za (eC .non) (za (zc 9) ze)))))) (yp (z4 (za (eC (.int 2)) ze)))))) (zO (eC (.bl false))) zP)
    (zx (sIf (tOf (zj zdC (zh 5 zY (za (eC (.int 1)) (za (zc 10) (za (zc 5) (za (eC .non) (za (zj ixD (yp (z4 (za (eC (.int 0)) (za (zc 9) ze)))) (zj Zp (zc 1) (eC (.int 2)))) ze)))))) (yp (z4 (za (eC (.int 9)) (za (eUn zcM (eC (.int 1))) ze)))))) (zO (eC (.bl false))) zP)
    (zx (sIf (tOf (zj zdC (zh 5 zY (za (eC (.int 2)) (za (zj Zp (zc 1) (eC (.int 4))) (za (zc 5) (za (eC .non) (za (eC .non) ze)))))) (yp (z4 (za (eC (.int 9)) (za (eUn zcM (eC (.int 1))) ze)))))) (zO (eC (.bl false))) zP)
    (zx (yu false 11 (yJ (za (eC (.int 6)) (za (eFn vz (za (yp (fLC (zhq WT (za (eC (.int 5)) ze)) b1 xJ (yJ (za (zc 0) (za (zj vA (zc 0) (eC (.int 1))) ze))))) ze)) ze))))
    (sIf (tOf (zj zdC (zh 5 zY (za (eC (.int 2)) (za (zj Zp (zc 1) (eC (.int 4))) (za (zc 11) (za (eC .non) (za (eC .non) ze)))))) (yp (z4 ze)))) (zO (eC (.bl false))) zP))))))))))))))))))
noncomputable def zgG:SE→Ctl :=
  (zx (WE (iOf (zj vA (yp (z4 (za (zh 2 yF (za (zc 0) (za (eC (.int 0)) ze))) ze))) (eSl slD (zc 0) (za2 (eC (.int 1))) (za2 (eC (.int 12)))))) (yG 1) VO)
    (zO (eC (.bl true))))
noncomputable def zjW:List D→Option D:=fnD 12 zgG
noncomputable def isL (o:Option D)(l:List Int):Bool:=match o with
  | some (.lst ds)=>eqI ds l
  | _=>false
where eqI:List D→List Int→Bool
  | [],[]=>true
  | .int i::ds,j::js=>i == j&&eqI ds js
  | _,_=>false
theorem zhU:∀ {a:List D} {l:List Int},isL.eqI a l=true→a=l.map .int
  | [],[],_=>rfl
  | .int i::a,j::js,h=>by
    unfold isL.eqI at h
    rw [Bool.and_eq_true,beq_iff_eq] at h
    rw [h.1,zhU h.2];rfl
theorem Zd {o:Option D}{l:List Int}(h:isL o l=true):o=some (.lst (l.map .int)):=by
  unfold isL at h
  split at h
  · rw [zhU h]
  · cases h
noncomputable def Zx (n:Int):D:=.tup [.int n,.tup ((List.range (n.toNat - 1)).map fun k:Nat=>.tup [.int (k:Int),.int ((k:Int)+1)])]
noncomputable def rep (x:D)(n:Int):List D:=List.replicate n.toNat x
noncomputable def zfy (n:Int):List D:=[.tup [.int 0,.tup []],.tup [.int 9,.tup []],.tup [.int n,.tup [.tup [.int 1,.int 0]]],.tup [.int n,.tup [.tup [.int 0,.int n]]],.tup [.int n,.tup [.tup [.int 0,.int 1],.tup [.int 0,.int 1]]],.tup [.bl true,.tup []],.lst [.int n,.tup []],.non,
  .tup [.int n,.lst [.tup [.int 0,.int 1]]],.tup [.int n,.tup [.tup [.int 0,.int 0]]],.int n,.tup [.int n,.tup [.tup [.int 0,.int 1,.int 1]]],.tup [.int n]]
noncomputable def Wf (n:Int):List D:=[.tup (rep (.int 1) (n - 1)),.tup (rep (.int 1) (n+1)),.lst (rep (.int 1) n),.tup (rep (.int (-1)) n),.tup (rep (.bl true) n),.tup (rep (.int 151) n),.non]
noncomputable def v5 (n:Int):List D:=[.int n,.int (-1),.bl true,.non,.str "0",.tup [.int 0],.int 1000000000000000000000000000000]
noncomputable def zhe (n:Int):D:=.tup (rep (.int 1) n)
noncomputable def Xf (k w:Int)(a h p:D):Option D:=zY [.int k,.int w,a,h,p]
noncomputable def ns7:List Int:=[2,3,4,5,6,7,8]
noncomputable def ws7:List Int:=[0,1,2,3,4,5,6]
noncomputable def ws8:List Int:=[0,1,2,3,4,5,6,7]
noncomputable def cf1 (n:Int):Bool:=ws7.all fun w=>isL (Xf 0 w (Zx n) (zhe n) (.int (n - 1))) []&&(v5 n).all fun p=>isL (Xf 0 w (Zx n) (zhe n) p) [2]
theorem f1_2:cf1 2=true:=by kernel_rfl
theorem f1_3:cf1 3=true:=by kernel_rfl
theorem f1_4:cf1 4=true:=by kernel_rfl
theorem f1_5:cf1 5=true:=by kernel_rfl
theorem f1_6:cf1 6=true:=by kernel_rfl
theorem f1_7:cf1 7=true:=by kernel_rfl
theorem f1_8:cf1 8=true:=by kernel_rfl
theorem f1:(ns7.all fun n=>ws7.all fun w=>isL (Xf 0 w (Zx n) (zhe n) (.int (n - 1))) []&&(v5 n).all fun p=>isL (Xf 0 w (Zx n) (zhe n) p) [2])=true:=by
  show (cf1 2&&(cf1 3&&(cf1 4&&(cf1 5&&(cf1 6&&(cf1 7&&(cf1 8&&true)))))))=true
  rw [f1_2,f1_3,f1_4,f1_5,f1_6,f1_7,f1_8];rfl
noncomputable def cf2 (h p:D)(n:Int):Bool:=ws7.all fun w=>(zfy n).all fun b=>isL (Xf 0 w b h p) [9,-1]
theorem f2_2 (h p:D):cf2 h p 2=true:=by kernel_rfl
theorem f2_3 (h p:D):cf2 h p 3=true:=by kernel_rfl
theorem f2_4 (h p:D):cf2 h p 4=true:=by kernel_rfl
theorem f2_5 (h p:D):cf2 h p 5=true:=by kernel_rfl
theorem f2_6 (h p:D):cf2 h p 6=true:=by kernel_rfl
theorem f2_7 (h p:D):cf2 h p 7=true:=by kernel_rfl
theorem f2_8 (h p:D):cf2 h p 8=true:=by kernel_rfl
theorem f2 (h p:D):(ns7.all fun n=>ws7.all fun w=>(zfy n).all fun b=>isL (Xf 0 w b h p) [9,-1])=true:=by
  show (cf2 h p 2&&(cf2 h p 3&&(cf2 h p 4&&(cf2 h p 5&&(cf2 h p 6&&(cf2 h p 7&&(cf2 h p 8&&true)))))))=true
  rw [f2_2,f2_3,f2_4,f2_5,f2_6,f2_7,f2_8];rfl
noncomputable def cf3 (p:D)(n:Int):Bool:=ws7.all fun w=>(Wf n).all fun h=>isL (Xf 0 w (Zx n) h p) [1]
theorem f3_2 (p:D):cf3 p 2=true:=by kernel_rfl
theorem f3_3 (p:D):cf3 p 3=true:=by kernel_rfl
theorem f3_4 (p:D):cf3 p 4=true:=by kernel_rfl
theorem f3_5 (p:D):cf3 p 5=true:=by kernel_rfl
theorem f3_6 (p:D):cf3 p 6=true:=by kernel_rfl
theorem f3_7 (p:D):cf3 p 7=true:=by kernel_rfl
theorem f3_8 (p:D):cf3 p 8=true:=by kernel_rfl
theorem f3 (p:D):(ns7.all fun n=>ws7.all fun w=>(Wf n).all fun h=>isL (Xf 0 w (Zx n) h p) [1])=true:=by
  show (cf3 p 2&&(cf3 p 3&&(cf3 p 4&&(cf3 p 5&&(cf3 p 6&&(cf3 p 7&&(cf3 p 8&&true)))))))=true
  rw [f3_2,f3_3,f3_4,f3_5,f3_6,f3_7,f3_8];rfl
noncomputable def cf4 (n:Int):Bool:=ws8.all fun w=>isL (Xf 1 w (Zx n) .non (.int (n - 1))) []&&(v5 n).all fun p=>isL (Xf 1 w (Zx n) .non p) [2]
theorem f4_2:cf4 2=true:=by kernel_rfl
theorem f4_3:cf4 3=true:=by kernel_rfl
theorem f4_4:cf4 4=true:=by kernel_rfl
theorem f4_5:cf4 5=true:=by kernel_rfl
theorem f4_6:cf4 6=true:=by kernel_rfl
theorem f4_7:cf4 7=true:=by kernel_rfl
theorem f4_8:cf4 8=true:=by kernel_rfl
theorem f4:(ns7.all fun n=>ws8.all fun w=>isL (Xf 1 w (Zx n) .non (.int (n - 1))) []&&(v5 n).all fun p=>isL (Xf 1 w (Zx n) .non p) [2])=true:=by
  show (cf4 2&&(cf4 3&&(cf4 4&&(cf4 5&&(cf4 6&&(cf4 7&&(cf4 8&&true)))))))=true
  rw [f4_2,f4_3,f4_4,f4_5,f4_6,f4_7,f4_8];rfl
noncomputable def cf5 (p:D)(n:Int):Bool:=ws8.all fun w=>(zfy n).all fun b=>isL (Xf 1 w b .non p) [9,-1]
theorem f5_2 (p:D):cf5 p 2=true:=by kernel_rfl
theorem f5_3 (p:D):cf5 p 3=true:=by kernel_rfl
theorem f5_4 (p:D):cf5 p 4=true:=by kernel_rfl
theorem f5_5 (p:D):cf5 p 5=true:=by kernel_rfl
theorem f5_6 (p:D):cf5 p 6=true:=by kernel_rfl
theorem f5_7 (p:D):cf5 p 7=true:=by kernel_rfl
theorem f5_8 (p:D):cf5 p 8=true:=by kernel_rfl
theorem f5 (p:D):(ns7.all fun n=>ws8.all fun w=>(zfy n).all fun b=>isL (Xf 1 w b .non p) [9,-1])=true:=by
  show (cf5 p 2&&(cf5 p 3&&(cf5 p 4&&(cf5 p 5&&(cf5 p 6&&(cf5 p 7&&(cf5 p 8&&true)))))))=true
  rw [f5_2,f5_3,f5_4,f5_5,f5_6,f5_7,f5_8];rfl
noncomputable def cf6 (n:Int):Bool:=[0,1,2,3].all fun w=>(zfy n).all fun b=>isL (Xf 2 w b .non .non) [9,-1]
theorem f6_2:cf6 2=true:=by kernel_rfl
theorem f6_3:cf6 3=true:=by kernel_rfl
theorem f6_4:cf6 4=true:=by kernel_rfl
theorem f6_5:cf6 5=true:=by kernel_rfl
theorem f6_6:cf6 6=true:=by kernel_rfl
theorem f6_7:cf6 7=true:=by kernel_rfl
theorem f6_8:cf6 8=true:=by kernel_rfl
theorem f6:(ns7.all fun n=>[0,1,2,3].all fun w=>(zfy n).all fun b=>isL (Xf 2 w b .non .non) [9,-1])=true:=by
  show (cf6 2&&(cf6 3&&(cf6 4&&(cf6 5&&(cf6 6&&(cf6 7&&(cf6 8&&true)))))))=true
  rw [f6_2,f6_3,f6_4,f6_5,f6_6,f6_7,f6_8];rfl
theorem f7_0:isL (Xf 2 0 (Zx 6) .non .non) []=true:=by kernel_rfl
theorem f7_1:isL (Xf 2 1 (Zx 6) .non .non) []=true:=by kernel_rfl
theorem f7_2:isL (Xf 2 2 (Zx 6) .non .non) []=true:=by kernel_rfl
theorem f7_3:isL (Xf 2 3 (Zx 6) .non .non) []=true:=by kernel_rfl
theorem f7:([0,1,2,3].all fun w=>isL (Xf 2 w (Zx 6) .non .non) [])=true:=by
  show (isL (Xf 2 0 (Zx 6) .non .non) []&&(isL (Xf 2 1 (Zx 6) .non .non) []&&(isL (Xf 2 2 (Zx 6) .non .non) []&&(isL (Xf 2 3 (Zx 6) .non .non) []&&true))))=true
  rw [f7_0,f7_1,f7_2,f7_3];rfl
theorem zjP {ds:List D}{i:Int}(b:0≤i)(h:i < (ds.length:Int)):∃ d,d∈ds∧ixD (.lst ds) (.int i)=some d:=by
  have a:i.toNat < ds.length:=by omega
  exact ⟨ds[i.toNat],List.getElem_mem a,zho b (List.getElem?_eq_getElem a)⟩
theorem Zz {ρ:Ev}{c k m:Int}(h:ρ[1]?=some (some (.int c)))(a:0 < m):zj Zp (zh 2 yj (za (zc 1) (za (eC (.int k)) ze))) (eC (.int m)) ρ=some (.int (zdy c k % m)):=by
  refine yE (wn (ds:=[.int c,.int k]) (ya ?_ (ya rfl zcJ)) rfl) rfl (YD a)
  unfold zc;rw [h];rfl
theorem zbv {t:Ev→Option Bool}{g:SE→Ctl}{ρ:SE}(h:t (visG ρ)=some false):sIf t g zP ρ=.nx ρ:=by unfold sIf;rw [h];rfl
theorem sv {f:Ev→Option D}{ρ:SE}{d:D}(h:f (visF ρ)=some d):vEv false f ρ=some d:=h
theorem zjX {c m:Int}{ρ:Ev}(h:ρ[1]?=some (some (.int c)))(a:0 < m):zj Zp (zc 1) (eC (.int m)) ρ=some (.int (c % m)):=yE (x:=.int c) (y:=.int m) (by unfold zc;rw [h];rfl) rfl (YD a)
theorem mem7 {w:Int}(b:0≤w)(a:w < 7):w∈ws7:=by
  have c:w=0∨w=1∨w=2∨w=3∨w=4∨w=5∨w=6:=by omega
  rcases c with rfl | rfl | rfl | rfl | rfl | rfl | rfl <;> decide
theorem mem8 {w:Int}(b:0≤w)(a:w < 8):w∈ws8:=by
  have c:w=0∨w=1∨w=2∨w=3∨w=4∨w=5∨w=6∨w=7:=by omega
  rcases c with rfl | rfl | rfl | rfl | rfl | rfl | rfl | rfl <;> decide
theorem mem4 {w:Int}(b:0≤w)(a:w < 4):w∈[0,1,2,3]:=by
  have c:w=0∨w=1∨w=2∨w=3:=by omega
  rcases c with rfl | rfl | rfl | rfl <;> decide
theorem memN {n:Int}(c:n=2∨n=3∨n=4∨n=5∨n=6∨n=7∨n=8):n∈ns7:=by
  rcases c with rfl | rfl | rfl | rfl | rfl | rfl | rfl <;> decide
theorem zkK {T:List Int}{c:Int}{Q P E A z S J G g f:Sl}{N B C:SE→Prop}{R:D→Prop}(q:∀ Q P E A z S J G g f,N [.v (.scr T),.v (.int c),Q,P,E,A,z,S,J,G,g,f]):(VO [.v (.scr T),.v (.int c),Q,P,E,A,z,S,J,G,g,f]).w N B C R:=by
  unfold VO
  obtain ⟨y,K⟩:∃ y:Int,zdy c 1 % 7=y:=⟨_,rfl⟩
  obtain ⟨y0,y1⟩:=VW (by decide) K
  obtain ⟨n,U⟩:∃ n:Int,2+y=n:=⟨_,rfl⟩
  have p:n=2∨n=3∨n=4∨n=5∨n=6∨n=7∨n=8:=by omega
  refine yO (yZ (d:=.int n) (sv (yE (x:=.int 2) (y:=.int y) rfl (by rw [←K];exact Zz rfl (by decide)) (by rw [←U];exact zcN)))) ?_
  clear U K
  refine yO (yZ (d:=Zx n) (sv ?_)) ?_
  · rcases p with rfl | rfl | rfl | rfl | rfl | rfl | rfl <;> kernel_rfl
  refine yO (yZ (d:=.lst ((zfy n).take 8)) (sv (by kernel_rfl))) ?_
  obtain ⟨b,a,o⟩:=zjP (ds:=zfy n) (i:=zdy c 2 % 13) (Int.emod_nonneg _ (by decide)) (Int.emod_lt_of_pos _ (by decide))
  refine yO (yZ (d:=b) (sv (yE (x:=.lst (zfy n)) (y:=.int (zdy c 2 % 13)) (by kernel_rfl) (Zz rfl (by decide)) o))) ?_
  refine yO (yZ (d:=zhe n) (sv ?_)) ?_
  · rcases p with rfl | rfl | rfl | rfl | rfl | rfl | rfl <;> kernel_rfl
  refine yO (yZ (d:=.lst (Wf n)) (sv ?_)) ?_
  · rcases p with rfl | rfl | rfl | rfl | rfl | rfl | rfl <;> kernel_rfl
  obtain ⟨r,H,O⟩:=zjP (ds:=Wf n) (i:=zdy c 3 % 7) (Int.emod_nonneg _ (by decide)) (Int.emod_lt_of_pos _ (by decide))
  refine yO (yZ (d:=r) (sv (yE (x:=.lst (Wf n)) (y:=.int (zdy c 3 % 7)) rfl (Zz rfl (by decide)) O))) ?_
  obtain ⟨e,l,L⟩:=zjP (ds:=v5 n) (i:=zdy c 4 % 7) (Int.emod_nonneg _ (by decide)) (Int.emod_lt_of_pos _ (by decide))
  refine yO (yZ (d:=e) (sv (yE (x:=.lst (v5 n)) (y:=.int (zdy c 4 % 7)) (by kernel_rfl) (Zz rfl (by decide)) L))) ?_
  obtain ⟨w,hw⟩:∃ w:Int,zdy c 5 % 7=w:=⟨_,rfl⟩
  obtain ⟨Z,w1⟩:=VW (by decide) hw
  refine yO (yZ (d:=.int w) (sv (by rw [←hw];exact Zz rfl (by decide)))) ?_
  clear hw
  have j:=memN p
  have h:=mem7 Z w1
  have u:=List.all_eq_true.mp (List.all_eq_true.mp f1 _ j) _ h
  rw [Bool.and_eq_true] at u
  refine yO (zbv (zh0 (VD (yE (x:=.lst []) (y:=.lst []) (wn (ds:=[.int 0,.int w,Zx n,zhe n,.int (n - 1)]) rfl (Zd u.1)) rfl rfl)) (VD (yE (x:=.lst [.int 2]) (y:=.lst [.int 2]) (wn (ds:=[.int 0,.int w,Zx n,zhe n,e]) rfl (Zd (List.all_eq_true.mp u.2 _ l))) rfl (by kernel_rfl))))) ?_
  obtain ⟨X,_,I⟩:=zjP (ds:=[zhe n,r]) (i:=c % 2) (Int.emod_nonneg _ (by decide)) (Int.emod_lt_of_pos _ (by decide))
  obtain ⟨W,_,F⟩:=zjP (ds:=[.int 0,e]) (i:=c / 2 % 2) (Int.emod_nonneg _ (by decide)) (Int.emod_lt_of_pos _ (by decide))
  obtain ⟨s,_,k⟩:=zjP (ds:=[.int 0,e]) (i:=c % 2) (Int.emod_nonneg _ (by decide)) (Int.emod_lt_of_pos _ (by decide))
  refine yO (zbv (VD (yE (x:=.lst [.int 9,.int (-1)]) (y:=.lst [.int 9,.int (-1)]) (wn (ds:=[.int 0,.int w,b,X,W]) (ya rfl (ya rfl (ya rfl (ya (yE (x:=.lst [zhe n,r]) (y:=.int (c % 2)) rfl (zjX rfl (by decide)) I) (ya (yE (x:=.lst [.int 0,e]) (y:=.int (c / 2 % 2)) rfl (yE (x:=.int (c / 2)) (y:=.int 2) (yE (x:=.int c) (y:=.int 2) rfl rfl (zcI (by decide) (by decide))) rfl (YD (by decide))) F) zcJ)))))
    (Zd (List.all_eq_true.mp (List.all_eq_true.mp (List.all_eq_true.mp (f2 X W) _ j) _ h) _ a))) rfl (by kernel_rfl)))) ?_
  refine yO (zbv (VD (yE (x:=.lst [.int 1]) (y:=.lst [.int 1]) (wn (ds:=[.int 0,.int w,Zx n,r,s]) (ya rfl (ya rfl (ya rfl (ya rfl (ya (yE (x:=.lst [.int 0,e]) (y:=.int (c % 2)) rfl (zjX rfl (by decide)) k) zcJ)))))
    (Zd (List.all_eq_true.mp (List.all_eq_true.mp (List.all_eq_true.mp (f3 s) _ j) _ h) _ H))) rfl (by kernel_rfl)))) ?_
  obtain ⟨v,t⟩:∃ v:Int,zdy c 6 % 8=v:=⟨_,rfl⟩
  obtain ⟨v0,Y⟩:=VW (by decide) t
  refine yO (yZ (d:=.int v) (sv (by rw [←t];exact Zz rfl (by decide)))) ?_
  clear t
  have m:=mem8 v0 Y
  have M:=List.all_eq_true.mp (List.all_eq_true.mp f4 _ j) _ m
  rw [Bool.and_eq_true] at M
  refine yO (zbv (zh0 (VD (yE (x:=.lst []) (y:=.lst []) (wn (ds:=[.int 1,.int v,Zx n,.non,.int (n - 1)]) rfl (Zd M.1)) rfl rfl)) (VD (yE (x:=.lst [.int 2]) (y:=.lst [.int 2]) (wn (ds:=[.int 1,.int v,Zx n,.non,e]) rfl (Zd (List.all_eq_true.mp M.2 _ l))) rfl (by kernel_rfl))))) ?_
  refine yO (zbv (VD (yE (x:=.lst [.int 9,.int (-1)]) (y:=.lst [.int 9,.int (-1)]) (wn (ds:=[.int 1,.int v,b,.non,s]) (ya rfl (ya rfl (ya rfl (ya rfl (ya (yE (x:=.lst [.int 0,e]) (y:=.int (c % 2)) rfl (zjX rfl (by decide)) k) zcJ)))))
    (Zd (List.all_eq_true.mp (List.all_eq_true.mp (List.all_eq_true.mp (f5 s) _ j) _ m) _ a))) rfl (by kernel_rfl)))) ?_
  have V:=mem4 (Int.emod_nonneg c (show (4:Int)≠0 by decide)) (Int.emod_lt_of_pos c (show (0:Int) < 4 by decide))
  refine yO (zbv (VD (yE (x:=.lst [.int 9,.int (-1)]) (y:=.lst [.int 9,.int (-1)]) (wn (ds:=[.int 2,.int (c % 4),b,.non,.non]) (ya rfl (ya (zjX rfl (by decide)) rfl))
    (Zd (List.all_eq_true.mp (List.all_eq_true.mp (List.all_eq_true.mp f6 _ j) _ V) _ a))) rfl (by kernel_rfl)))) ?_
  refine yO (yZ (d:=Zx 6) (sv (by kernel_rfl))) ?_
  exact w_nx (zbv (VD (yE (x:=.lst []) (y:=.lst []) (wn (ds:=[.int 2,.int (c % 4),Zx 6,.non,.non]) (ya rfl (ya (zjX rfl (by decide)) rfl)) (Zd (List.all_eq_true.mp f7 _ V))) rfl rfl))) (q _ _ _ _ _ _ _ _ _ _)
theorem zgP:∀ c:List Int,c.length≤63→zjW [.scr c]=some (.bl true):=by
  intro c j
  refine fn_w (ρ:=[.v (.scr c),.no,.no,.no,.no,.no,.no,.no,.no,.no,.no,.no]) rfl ?_
  unfold zgG
  obtain ⟨r,e⟩:=zgE (ρ:=[none,none,none,none,none,none,none,none,none,none,none]) c 12 j
  refine zkl (zmC (ds:=r.map .int) (fun i ρ=>∃ m o n h g f p l k b a,ρ=[.v (.scr c),m,o,n,h,g,f,p,l,k,b,a]) e ⟨_,_,_,_,_,_,_,_,_,_,_,rfl⟩ ?_ ?_)
  · rintro i d ρ q ⟨m,o,n,h,g,f,p,l,k,b,a,rfl⟩
    rw [List.getElem?_map] at q
    obtain ⟨z,s,rfl⟩:=Option.map_eq_some_iff.mp q
    exact ⟨_,rfl,zkK fun _ _ _ _ _ _ _ _ _ _=>⟨_,_,_,_,_,_,_,_,_,_,_,rfl⟩⟩
  · rintro ρ ⟨m,o,n,h,g,f,p,l,k,b,a,rfl⟩
    exact w_rt rfl rfl
theorem zkd (T:Txt P w K mg base ad):zJ P w K mg base CX0 40 (ad.f 76) (ad.e 76) (Rw 76).ps (zez K):=by
  letI:KK:=⟨K⟩
  have G__law_cell_at:=Wu T
  have G__law_stir:=zaM T
  have G__law_came:=zav T
  refine (zkn (p:=zjW) (zI (N:=(Rw 76).N) (ps:=(Rw 76).ps) (T.d 76).fn (sc 76) (g:=zgG) fun a A outer s H E b=>?_) zgP).mono (j:=16) (by decide)
  unfold zgG VO
  have c:=(sc 76).nd
  apply zg <;> walk_at "s"
end
theorem all_mk {l:PySem.W.OpenLaw} {w:World} {K:PySem.W.Frag} {h:Heap} {mg:Str→Option Value} {fa:Addr} (X:K.In h) (G:h.Ns mainGlobals mg) (hfa:mg "law"=some (.ref fa)) {tk0:Tok} {tk1:Tok} {tk2:Tok} {tk3:Tok}
    {cc0 pp0 cc1 pp1 cc2 pp2:Addr}
    (D:∀ r∈rows,Dx K mg ([("outwards",cc0),("ways_from",cc1),("tree_steps",cc2)]:List (Str × Addr)) r) (Z:∀ x∈zs,PySem.W.nsIn K mainGlobals x=some none)
    (gg0:PySem.W.nsIn K mainGlobals "MOST_PLACES"=some (some (.int 8 tk0)))
    (gg1:PySem.W.nsIn K mainGlobals "MOST_STONES"=some (some (.int 300 tk1)))
    (gg2:PySem.W.nsIn K mainGlobals "MOST_SEARCHED"=some (some (.int 12 tk2)))
    (gg3:PySem.W.nsIn K mainGlobals "MOST_SPREAD"=some (some (.int 6 tk3)))
    {xx0 xx1 xx2 xx3 xx4 xx5 xx6 xx7 xx8 xx9 xx10 xx11 xx12 xx13:Addr}
    (xa0:PySem.W.nsIn K mainGlobals "NoKind"=some (some (.ref xx0)))
    (xa1:PySem.W.nsIn K mainGlobals "NoHeap"=some (some (.ref xx1)))
    (xa2:PySem.W.nsIn K mainGlobals "NoPlace"=some (some (.ref xx2)))
    (xa3:PySem.W.nsIn K mainGlobals "NoNumber"=some (some (.ref xx3)))
    (xa4:PySem.W.nsIn K mainGlobals "NoTally"=some (some (.ref xx4)))
    (xa5:PySem.W.nsIn K mainGlobals "NotTree"=some (some (.ref xx5)))
    (xa6:PySem.W.nsIn K mainGlobals "NotJoined"=some (some (.ref xx6)))
    (xa7:PySem.W.nsIn K mainGlobals "NoWeights"=some (some (.ref xx7)))
    (xa8:PySem.W.nsIn K mainGlobals "NoRow"=some (some (.ref xx8)))
    (xa9:PySem.W.nsIn K mainGlobals "NoWeb"=some (some (.ref xx9)))
    (xa10:PySem.W.nsIn K mainGlobals "NoSteps"=some (some (.ref xx10)))
    (xa11:PySem.W.nsIn K mainGlobals "NoText"=some (some (.ref xx11)))
    (xa12:PySem.W.nsIn K mainGlobals "TooGreat"=some (some (.ref xx12)))
    (xa13:PySem.W.nsIn K mainGlobals "StoneError"=some (some (.ref xx13)))
    (xc1:ZY K [xx0,xx1,xx2,xx3,xx4,xx5,xx6,xx7,xx8,xx9,xx10,xx11,xx12] xx13 xx1 1=true)
    (xb1:PySem.W.excIn K xx1 bmV "ValueError.__new__"=true)
    (xc2:ZY K [xx0,xx1,xx2,xx3,xx4,xx5,xx6,xx7,xx8,xx9,xx10,xx11,xx12] xx13 xx2 2=true)
    (xb2:PySem.W.excIn K xx2 bmV "ValueError.__new__"=true)
    (xc9:ZY K [xx0,xx1,xx2,xx3,xx4,xx5,xx6,xx7,xx8,xx9,xx10,xx11,xx12] xx13 xx9 9=true)
    {yi9:Addr} {yod9 yan9:Option Addr} {ysl9:Array (Option Value)} {yoc9 ykV9 ydc9 ypm9 ycd9 yct9:Value}
    (ya9:PySem.W.findIn K (.ref xx9) "__init__"=some (some (.ref yi9))) (yl9:K.lookup yi9=some ⟨yoc9,yod9,.func (PySem.W.fnOf "__init__" "NoWeb.__init__" (wH Ya) (yC Ya) (zw Ya) .none ykV9 ydc9 ypm9 yan9 ycd9 yct9),ysl9⟩) (yc9:PySem.W.codeIn K ycd9 "NoWeb.__init__"=true) (yk9:PySem.W.keepIn K (.ref yi9)=true)
    (ye9:zj4 K xx9 yi9=true) (yf9:zaz K xx9=true) (yg9:zmb K xx9 ["at"]=true)
    : ∃ fd:FuncData,(∀ (s:Shared) (v:Value),BindsTo s fd ⟨[v],[]⟩ [("script",v)])∧∀ base:Heap,K.In base→base.Ns mainGlobals mg→(∀ t∈([(cc0,pp0,"outwards.<locals>.<lambda>"),(cc1,pp1,"ways_from.<locals>.<lambda>"),(cc2,pp2,"tree_steps.<locals>.<lambda>")]:TL),YH base mg t.1 t.2.1 t.2.2)→zJ l.prog w K mg base CX0 40 fa fd ["script"] (zez K):=by
  have D':∀ i,Dx K mg ([("outwards",cc0),("ways_from",cc1),("tree_steps",cc2)]:List (Str × Addr)) (Rw i):=zcB D (D _ (List.mem_of_getElem? (i:=76) rfl))
  have e:=hfa.symm.trans (D' 76).choose_spec.choose_spec.1.at_
  cases e
  have FY9:=zdB (st:=Ya) yl9 yc9 yk9
  have T:∀ base:Heap,(∀ t∈([(cc0,pp0,"outwards.<locals>.<lambda>"),(cc1,pp1,"ways_from.<locals>.<lambda>"),(cc2,pp2,"tree_steps.<locals>.<lambda>")]:TL),YH base mg t.1 t.2.1 t.2.2)→Txt l.prog w K mg base ⟨fun i=>(D' i).choose,fun i=>(D' i).choose_spec.choose,tk0,tk1,tk2,tk3,xx0,xx1,xx2,xx3,xx4,xx5,xx6,xx7,xx8,xx9,xx10,xx11,xx12,xx13,_,_,cc0,pp0,cc1,pp1,cc2,pp2⟩:=fun base hL=>⟨fun i=>(D' i).choose_spec.choose_spec.1,fun x hx=>PySem.W.mg_none_of X G (Z x hx)
,
    PySem.W.mg_of X G gg0,
    PySem.W.mg_of X G gg1,
    PySem.W.mg_of X G gg2,
    PySem.W.mg_of X G gg3,
    PySem.W.mg_of X G xa0,
    PySem.W.mg_of X G xa1,
    PySem.W.mg_of X G xa2,
    PySem.W.mg_of X G xa3,
    PySem.W.mg_of X G xa4,
    PySem.W.mg_of X G xa5,
    PySem.W.mg_of X G xa6,
    PySem.W.mg_of X G xa7,
    PySem.W.mg_of X G xa8,
    PySem.W.mg_of X G xa9,
    PySem.W.mg_of X G xa10,
    PySem.W.mg_of X G xa11,
    PySem.W.mg_of X G xa12,
    PySem.W.mg_of X G xa13,
    xb1,
    xb2,
    xc1,
    xc2,
    xc9,
    FY9,
    FY9.binds (ps:=["self","at"]) (fun _ _ _ _ _ _ us hl=>by repeat' first | rfl | (exfalso;revert hl;simp;done) | (rcases us with _ | ⟨_,us⟩)),
    ye9,
    yf9,
    yg9,
    (D' 37).choose_spec.choose_spec.2 _ rfl,
    hL _ (.head _),
    (D' 40).choose_spec.choose_spec.2 _ rfl,
    hL _ (.tail _ (.head _)),
    (D' 50).choose_spec.choose_spec.2 _ rfl,
    hL _ (.tail _ (.tail _ (.head _)))⟩
  exact ⟨_,fun s v=>zd2 (D' 76).choose_spec.choose_spec.1.fn fun _ _ _ _ _ _=>rfl,fun base _ _ hL=>zkd (T base hL)⟩
theorem walk {l:PySem.W.OpenLaw}{q:Program}{loose:List Str}{XP:(Str→Option Value)→Heap→Prop}{YP:World→Heap→Prop}{d:DefRec}{K:Params→PySem.W.Frag}{cc0 pp0 cc1 pp1 cc2 pp2:Addr}{dd0 dd1 dd2:DefRec}(hn:l.most=some 63)(hdf:d.params.defaults=[])
    (hY:∀ (w:World) (h:Heap),YP w h→(K w.params).In h)
    (ht0:∀ w:World,PySem.W.tabIn (K w.params) "outwards"=some (cc0,pp0)) (hr0:(PyProof.Rows.recsOf q).find? (fun e:DefRec=>e.name == ("outwards":Str))=some dd0)
    (ht1:∀ w:World,PySem.W.tabIn (K w.params) "ways_from"=some (cc1,pp1)) (hr1:(PyProof.Rows.recsOf q).find? (fun e:DefRec=>e.name == ("ways_from":Str))=some dd1)
    (ht2:∀ w:World,PySem.W.tabIn (K w.params) "tree_steps"=some (cc2,pp2)) (hr2:(PyProof.Rows.recsOf q).find? (fun e:DefRec=>e.name == ("tree_steps":Str))=some dd2)
    (hq:([(cc0,pp0,"outwards.<locals>.<lambda>"),(cc1,pp1,"ways_from.<locals>.<lambda>"),(cc2,pp2,"tree_steps.<locals>.<lambda>")]:TL).all (fun t=>(yq ([(cc0,pp0,"outwards.<locals>.<lambda>"),(cc1,pp1,"ways_from.<locals>.<lambda>"),(cc2,pp2,"tree_steps.<locals>.<lambda>")]:TL)).lookup t.2.1 == some t.2.2)=true) (hnK:∀ w:World,PySem.W.noTabs (K w.params)=true)
    (F:∀ (w:World) (mg:Str→Option Value) (fa:Addr) (h:Heap),(K w.params).In h→h.Ns mainGlobals mg→mg d.name=some (.ref fa) →
      ∃ fd:FuncData,(∀ (s:Shared) (u:Value),BindsTo s fd ⟨[u],[]⟩ [("script",u)])∧∀ base:Heap,(K w.params).In base→base.Ns mainGlobals mg→(∀ t∈([(cc0,pp0,"outwards.<locals>.<lambda>"),(cc1,pp1,"ways_from.<locals>.<lambda>"),(cc2,pp2,"tree_steps.<locals>.<lambda>")]:TL),YH base mg t.1 t.2.1 t.2.2)→zJ l.prog w (K w.params) mg base CX0 40 fa fd ["script"] (zez (K w.params))) :
    PySem.W.WalkO q loose XP YP l.row.toRowW d [] (fun f vs=>PySem.call f vs) :=
  L2.walk_ofL (tl:=([(cc0,pp0,"outwards.<locals>.<lambda>"),(cc1,pp1,"ways_from.<locals>.<lambda>"),(cc2,pp2,"tree_steps.<locals>.<lambda>")]:TL)) (n:=63) (k:=40) (x:="script") (CX:=fun _=>CX0) (sp:=fun w=>zez (K w.params)) hn (by decide) hdf ⟨rfl,by decide,by decide⟩ hY hq hnK
    (fun w _ mg mb h X T=>List.forall_mem_cons.mpr ⟨PySem.W.tab_of T X hr0 (ht0 w),List.forall_mem_cons.mpr ⟨PySem.W.tab_of T X hr1 (ht1 w),List.forall_mem_cons.mpr ⟨PySem.W.tab_of T X hr2 (ht2 w),fun _ h=>nomatch h⟩⟩⟩) F (fun _ _ a ns hl hS=>⟨a,ns,rfl,hS,hl,fun _=>rfl⟩) fun _ _ _ _ _ z=>z
end Mz
open PySem PySem.W PyProof.Rows
theorem PySem.W.Fast.tw17989294757989378618:True:=⟨⟩
theorem PySem.W.Fast.tw6478145724128916477:True:=⟨⟩
theorem PySem.W.Fast.tw2504470482330397257:True:=⟨⟩
theorem PySem.W.Fast.tw4472329667465473887:True:=⟨⟩
theorem PySem.W.Fast.tw899532325249387862:True:=⟨⟩
theorem PySem.W.Fast.tw17283136715259171342:True:=⟨⟩
theorem PySem.W.Fast.tw12252095922267321397:True:=⟨⟩
theorem PySem.W.Fast.tw3911649043891959758:True:=⟨⟩
theorem PySem.W.Fast.tw4834278468002516639:True:=⟨⟩
theorem PySem.W.Fast.tw1909389810983941624:True:=⟨⟩
theorem PySem.W.Fast.tw13149761520189304924:True:=⟨⟩
theorem PySem.W.Fast.tw9302527257746735952:True:=⟨⟩
theorem PySem.W.Fast.tw4469189554008113455:True:=⟨⟩
theorem PySem.W.Fast.tw9621754110712163666:True:=⟨⟩
theorem PySem.W.Fast.tw1590710247542530445:True:=⟨⟩
theorem PySem.W.Fast.tw15004234610077464540:True:=⟨⟩
theorem PySem.W.Fast.tw2844395294246730094:True:=⟨⟩
theorem PySem.W.Fast.tw3185573115280569687:True:=⟨⟩
theorem PySem.W.Fast.tw16124372781879123965:True:=⟨⟩
theorem PySem.W.Fast.tw10843960102524710678:True:=⟨⟩
theorem PySem.W.Fast.tw16492792530423473092:True:=⟨⟩
theorem PySem.W.Fast.tw17719837082204827045:True:=⟨⟩
theorem PySem.W.Fast.tw13181626405472413375:True:=⟨⟩
theorem PySem.W.Fast.tw16353677344568120985:True:=⟨⟩
theorem PySem.W.Fast.tw18319717842556669884:True:=⟨⟩
theorem PySem.W.Fast.tw14524542981175720215:True:=⟨⟩
theorem PySem.W.Fast.tw6961371292719371413:True:=⟨⟩
theorem PySem.W.Fast.tw9798901938017253292:True:=⟨⟩
theorem PySem.W.Fast.tw1753846022288464948:True:=⟨⟩
theorem PySem.W.Fast.tw3704360235881626024:True:=⟨⟩
theorem PySem.W.Fast.tw14104745531204081508:True:=⟨⟩
theorem PySem.W.Fast.tw13025578537169089315:True:=⟨⟩
theorem PySem.W.Fast.tw14396657009113194728:True:=⟨⟩
theorem PySem.W.Fast.tw14363241856916287605:True:=⟨⟩
theorem PySem.W.Fast.tw7976351191269758664:True:=⟨⟩
theorem PySem.W.Fast.tw10779213565513648678:True:=⟨⟩
theorem PySem.W.Fast.tw7307159401514635072:True:=⟨⟩
theorem PySem.W.Fast.tw16800109097905131990:True:=⟨⟩
theorem PySem.W.Fast.tw15601590888893462789:True:=⟨⟩
theorem PySem.W.Fast.tw8051935440420971003:True:=⟨⟩
theorem PySem.W.Fast.tw18143408869980039531:True:=⟨⟩
theorem PySem.W.Fast.tw9784236137579129834:True:=⟨⟩
theorem PySem.W.Fast.tw18348841199273358471:True:=⟨⟩
theorem PySem.W.Fast.tw15722496659870372230:True:=⟨⟩
theorem PySem.W.Fast.tw9181106923990890462:True:=⟨⟩
theorem PySem.W.Fast.tw4393817878543855428:True:=⟨⟩
theorem PySem.W.Fast.tw11450055399296806443:True:=⟨⟩
theorem PySem.W.Fast.tw16264275899823505558:True:=⟨⟩
theorem PySem.W.Fast.tw7788692209496434396:True:=⟨⟩
set_option maxRecDepth 100000 in
set_option maxHeartbeats 0 in
theorem PySem.Challenge.cw_twoforone_k85_refused_at_the_doors_of_we_holds : PySem.Challenge.rw_twoforone_k85_refused_at_the_doors_of_we.Holds := by
  w_on;o_law;k_head;(case hw=>w_witness2)
  k_fill
  refine Mz.walk (l:=PySem.Challenge.rw_twoforone_k85_refused_at_the_doors_of_we) (cc0:=?cc0) (pp0:=?pp0) (dd0:=?dd0) (cc1:=?cc1) (pp1:=?pp1) (dd1:=?dd1) (cc2:=?cc2) (pp2:=?pp2) (dd2:=?dd2) rfl rfl (fun w h Y=>PySem.W.km_in_of Y) ?ht0 ?hr0 ?ht1 ?hr1 ?ht2 ?hr2 ?hq ?hnK ?F
  case ht0 =>
    intro w
    refine' L2.tab_mk ?ta ?tl ?tk ?tc ?tv
    case ta | tl=>k_is
    case tk=>rfl
    case tc=>k_is
    case tv=>rfl
  case ht1 =>
    intro w
    refine' L2.tab_mk ?ta ?tl ?tk ?tc ?tv
    case ta | tl=>k_is
    case tk=>rfl
    case tc=>k_is
    case tv=>rfl
  case ht2 =>
    intro w
    refine' L2.tab_mk ?ta ?tl ?tk ?tc ?tv
    case ta | tl=>k_is
    case tk=>rfl
    case tc=>k_is
    case tv=>rfl
  case hr0=>rfl
  case hr1=>rfl
  case hr2=>rfl
  case hq=>kernel_rfl
  case hnK =>
    intro w
    kernel_rfl
  case F =>
    intro w mg fa h KX G hmg
    refine' Mz.all_mk KX G hmg ?D ?Z ?gg0 ?gg1 ?gg2 ?gg3 ?xa0 ?xa1 ?xa2 ?xa3 ?xa4 ?xa5 ?xa6 ?xa7 ?xa8 ?xa9 ?xa10 ?xa11 ?xa12 ?xa13 ?xc1 ?xb1 ?xc2 ?xb2 ?xc9 ?ya9 ?yl9 ?yc9 ?yk9 ?ye9 ?yf9 ?yg9
    case D =>
      repeat
        refine' Dl.Dx_cons (Dl.mkX KX G ?_ ?_ ?_ ?_ ?_ ?_) ?_
        any_goals k_is
        · intro _ _ _ _ _ _ us hl
          repeat' first | rfl | (exfalso;revert hl;simp;done) | (rcases us with _ | ⟨_,us⟩)
        · first | exact .inl rfl | exact .inr ⟨_,rfl,rfl⟩
      exact fun _ h=>nomatch h
    case Z =>
      repeat
        refine' Dl.Z_cons ?_ ?_
        · k_is
      exact fun _ h=>nomatch h
    case gg0 | gg1 | gg2 | gg3 | xa0 | xa1 | xa2 | xa3 | xa4 | xa5 | xa6 | xa7 | xa8 | xa9 | xa10 | xa11 | xa12 | xa13=>k_is
    case xc1 | xb1 | xc2 | xb2 | xc9=>kernel_rfl
    case ya9 | yl9 | yc9 | yk9=>k_is
    case ye9 | yf9 | yg9=>kernel_rfl
