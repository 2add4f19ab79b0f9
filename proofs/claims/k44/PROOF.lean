import PyProof.Rows.All
import Wide.All
import OpenK.AllK
import Wide.FinOn
import Lean
import PyProof.EqAt
import PyProof.EqKinds
import PyProof.TupleCall
import PyProof.NeKinds
import PySem.Challenge.RW_twoforone_k44_refused_of_gets
set_option Elab.async false
set_option linter.all false
set_option maxRecDepth 100000
set_option maxHeartbeats 4000000
namespace L2
open PySem PySem.Spec PyProof.Rows
noncomputable abbrev Key:=Sum Int Str
noncomputable def zck:Key→Value→Bool
  | .inl k,v=>Value.isInt k v
  | .inr x,v=>Value.isStrOf x v
noncomputable def keyH (w:World):Key→Int
  | .inl k=>hashInt k
  | .inr x=>hashStr w x
theorem yD:∀ {k:Key} {v:Value},zck k v=true→(∃ i t,k=Sum.inl i∧v=Value.int i t)∨(∃ x t,k=Sum.inr x∧v=Value.str x t)
  | .inl i,v,h=>by
    obtain ⟨t,e⟩:=Value.isInt_shape (k:=i) (v:=v) h
    exact .inl ⟨i,t,rfl,e⟩
  | .inr x,v,h=>by
    obtain ⟨t,e⟩:=Value.isStrOf_shape (x:=x) (v:=v) h
    exact .inr ⟨x,t,rfl,e⟩
theorem zeD (i:Int)(t:Tok):zck (.inl i) (.int i t)=true:=by simp [zck,Value.isInt]
theorem zeM (x:Str)(t:Tok):zck (.inr x) (.str x t)=true:=by simp [zck,Value.isStrOf]
theorem zi2 (a b:Int):decide ((Sum.inl a:Key)=Sum.inl b)=(a == b):=by
  by_cases e:a=b
  · subst e;simp
  · have h:¬ (Sum.inl a:Key)=Sum.inl b:=fun q=>e (Sum.inl.inj q)
    rw [decide_eq_false h]
    exact (beq_eq_false_iff_ne.mpr e).symm
theorem zjx (a b:Str):decide ((Sum.inr a:Key)=Sum.inr b)=decide (a=b):=by
  by_cases e:a=b
  · subst e;simp
  · have h:¬ (Sum.inr a:Key)=Sum.inr b:=fun q=>e (Sum.inr.inj q)
    rw [decide_eq_false h,decide_eq_false e]
theorem ziH (a:Int)(b:Str):decide ((Sum.inl a:Key)=Sum.inr b)=false:=decide_eq_false (fun q=>nomatch q)
theorem ziL (a:Str)(b:Int):decide ((Sum.inr a:Key)=Sum.inl b)=false:=decide_eq_false (fun q=>nomatch q)
noncomputable def xx (prog:Program)(w:World):PySem.KeyKind prog w Key where
  is:=zck
  hash:=keyH w
  inj:=fun v a b ha hb=>by
    rcases yD ha with ⟨i,t,rfl,rfl⟩ | ⟨x,t,rfl,rfl⟩
    · rcases yD hb with ⟨j,u,rfl,e⟩ | ⟨y,u,rfl,e⟩
      · injection e with e1 _;rw [e1]
      · exact nomatch e
    · rcases yD hb with ⟨j,u,rfl,e⟩ | ⟨y,u,rfl,e⟩
      · exact nomatch e
      · injection e with e1 _;rw [e1]
  byValue:=fun k v h=>by
    rcases yD h with ⟨i,t,rfl,rfl⟩ | ⟨x,t,rfl,rfl⟩ <;> rfl
  pyHash:=fun hv h=>by
    rcases yD hv with ⟨i,t,rfl,rfl⟩ | ⟨x,t,rfl,rfl⟩
    · exact wpAny_pyHash_int h
    · exact wpAny_pyHash_str h
  eqBool:=fun hu hv h=>by
    rcases yD hu with ⟨i,t,rfl,rfl⟩ | ⟨x,t,rfl,rfl⟩
    · rcases yD hv with ⟨j,u,rfl,rfl⟩ | ⟨y,u,rfl,rfl⟩
      · rw [zi2] at h;exact wpAny_eqBool_int h
      · rw [ziH] at h;exact SeqAt.EqAt.int_str i t y u _ _ _ _ h
    · rcases yD hv with ⟨j,u,rfl,rfl⟩ | ⟨y,u,rfl,rfl⟩
      · rw [ziL] at h;exact SeqAt.EqAt.str_int x t j u _ _ _ _ h
      · rw [zjx] at h;exact wpAny_eqBool_str h
  «strs»:=fun k x t v h=>by
    rcases yD h with ⟨i,u,rfl,e⟩ | ⟨y,u,rfl,e⟩
    · exact nomatch e
    · injection e with e1 _
      subst e1
      cases v <;> rfl
theorem zbr (prog:Program)(w:World)(i:Int)(t:Tok):(xx prog w).is (.inl i) (.int i t)=true:=zeD i t
theorem zbn (prog:Program)(w:World)(x:Str)(t:Tok):(xx prog w).is (.inr x) (.str x t)=true:=zeM x t
end L2
namespace L2
open PySem PySem.Spec PyProof.Rows
inductive V where
  | non | bl (b:Bool) | int (i:Int) | str (x:Str) | byt (b:Array UInt8) | flt (b:UInt64) | ref (a:Addr) | ty (n:String)
  deriving DecidableEq
noncomputable def xw:V→Value→Prop
  | .non,u=>u=Value.none
  | .bl b,u=>u=Value.bool b
  | .int i,u=>∃ t,u=Value.int i t
  | .str x,u=>∃ t,u=Value.str x t
  | .byt b,u=>∃ t,u=Value.bytes b t
  | .flt b,u=>∃ t,u=Value.float b t
  | .ref a,u=>u=Value.ref a
  | .ty n,u=>u=Value.type n
noncomputable abbrev xj:List V→List Value→Prop:=Paired xw
theorem xj.length {xs:List V}{us:List Value}(r:xj xs us):xs.length=us.length:=Paired.length r
theorem xj.get:∀ {xs:List V} {us:List Value} {i:Nat} {x:V},xj xs us→xs[i]?=some x→∃ u,us[i]?=some u∧xw x u
  | _,_,_,_,.nil,e=>by simp at e
  | _,_,0,_,.cons r _,e=>by simp at e;subst e;exact ⟨_,rfl,r⟩
  | _,_,i+1,x,.cons _ t,e=>by
    obtain ⟨u,h1,h2⟩:=xj.get (i:=i) (x:=x) t (by simpa using e)
    exact ⟨u,by simpa using h1,h2⟩
theorem xj.set {x:V}{u:Value}(r:xw x u):∀ {xs:List V} {us:List Value} (i:Nat),xj xs us→xj (xs.set i x) (us.set i u)
  | _,_,_,.nil=>.nil
  | _,_,0,.cons _ t=>.cons r t
  | _,_,i+1,.cons q t=>.cons q (xj.set r i t)
theorem xj.append:∀ {xs ys:List V} {us ws:List Value},xj xs us→xj ys ws→xj (xs++ys) (us++ws):=by
  intro xs ys us ws h s
  induction h with
  | nil=>exact s
  | cons r t ih=>exact .cons r ih
theorem xj.take:∀ {xs:List V} {us:List Value} (n:Nat),xj xs us→xj (xs.take n) (us.take n)
  | _,_,0,_=>.nil
  | _,_,_+1,.nil=>.nil
  | _,_,n+1,.cons r t=>.cons r (xj.take n t)
theorem xj.drop:∀ {xs:List V} {us:List Value} (n:Nat),xj xs us→xj (xs.drop n) (us.drop n)
  | _,_,0,r=>r
  | _,_,_+1,.nil=>.nil
  | _,_,n+1,.cons _ t=>xj.drop n t
noncomputable def zbR:Option V→Option Value→Prop
  | some v,some u=>xw v u
  | none,none=>True
  | _,_=>False
noncomputable def KV {κ:Type}:List (κ × V)→List (κ × Value)→Prop:=Paired fun (p:κ × V) (q:κ × Value)=>p.1=q.1∧xw p.2 q.2
noncomputable def kV:Key→V
  | .inl i=>.int i
  | .inr x=>.str x
inductive HO where
    | lst (xs:List V)
    | tup (xs:List V)
    | dK (kvs:List (Key × V)) | dT (kvs:List (List Key × V))
    | set (S:Int→Bool) (n:Nat)
    | ins (C dx:Addr) (fs:List (Str × V))
    | own (x:Addr)
    | xd (fs:List (Str × V))
    | met (f x:Addr)
    | rng (lo hi:Int)
    | frz (o:Obj) (u:HO)
    | tbl (ps:Array Value)
    | ext (φ:Heap→Prop)
noncomputable abbrev Hp:=Addr→Option HO
noncomputable def upd (H:Hp)(a:Addr)(o:HO):Hp:=fun b=>if b=a then some o else H b
theorem zn {H:Hp}{a:Addr}{o:HO}:upd H a o a=some o:=by unfold upd;rw [if_pos rfl]
theorem zm {H:Hp}{a b:Addr}{o:HO}(h:b≠a):upd H a o b=H b:=by unfold upd;rw [if_neg h]
theorem zbp {H:Hp}{a:Addr}{o u:HO}:upd (upd H a o) a u=upd H a u:=by
  funext b;unfold upd;split <;> rfl
theorem zfA {H:Hp}{a b:Addr}{o u:HO}(h:H a=some o)(h':H b=some u)(d:o≠u):a≠b:=by
  intro e;subst e;rw [h] at h';exact d (Option.some.inj h')
theorem zk {H:Hp}{a b:Addr}{o:HO}(h:H a=some o)(h':H b=none):a≠b:=by
  intro e;subst e;rw [h] at h';cases h'
section
variable (P:Program)(w:World)
noncomputable def xf (H:Hp)(h:Heap)(a:Addr):HO→Prop
  | .lst xs=>xs.length≤sizeLine∧∃ (its:List Value) (n:Nat),xj xs its∧h.get? a=some { cls:=.type "list",data:=.seq its.toArray n }
  | .tup xs=>xs.length≤sizeLine∧∃ its:List Value,xj xs its∧IsTup h a its.toArray
  | .dK kvs=>kvs.length≤sizeLine∧(a == sysModules)=false∧∃ vs,KV kvs vs∧h.DictOf (xx P w) a vs
  | .dT kvs=>kvs.length≤sizeLine∧(a == sysModules)=false∧∃ xs:List (List Key × Addr × Value),
      Paired (fun (p:List Key × V) (q:List Key × Addr × Value)=>p.1=q.1∧H q.2.1=some (.tup (p.1.map kV))∧xw p.2 q.2.2) kvs xs ∧
      ∃ o es ep,h.get? a=some o∧o.ExactDict∧o.data=.dict es ep∧es.toList=xs.map (entryOfKey (tupleKind (xx P w)))∧(xs.map (·.1)).Nodup
  | .set S n=>h.SetOf (intKind P w) a S n
  | .ins C dx fs=>H dx=some (.own a)∧fs.length≤1000∧dx≠a∧h.get? a=some (PySem.W.instObj C dx) ∧
      ∃ mA,h.Ns1 dx mA∧(∀ f,zbR (fs.lookup f) (mA f))∧PySem.Within mA (fs.map (·.1))
  | .own _=>∃ o,h.get? a=some o
  | .xd fs=>∃ mA,h.Ns1 a mA∧∀ f,zbR (fs.lookup f) (mA f)
  | .rng lo hi=>∃ t u v,h.get? a=some { cls:=.type "range",data:=.fields #[.int lo t,.int hi u,.int 1 v] }
  | .frz o u=>h.get? a=some o∧xf H h a u
  | .tbl ps=>h.get? a=some { cls:=.none,data:=.fields ps }
  | .met f x=>h.get? a=some (PySem.W.methodObj (.ref f) (.ref x))
  | .ext φ=>φ h∧(∃ o,h.get? a=some o)∧∀ h1 h2:Heap,φ h1→(∀ o,h1.get? a=some o→h2.get? a=some o)→φ h2
noncomputable def HOk (H:Hp)(h:Heap):Prop:=∀ a o,H a=some o→xf P w H h a o
end
section
variable {P:Program}{w:World}{H H':Hp}{h h':Heap}{a:Addr}{o:HO}
theorem xf.lt (x:xf P w H h a o):a < h.objs.size:=by
  cases o with
  | lst xs=>obtain ⟨_,_,_,_,e⟩:=x;exact Heap.lt_size e
  | tup xs=>obtain ⟨_,_,_,p⟩:=x;exact p.lt
  | dK kvs=>obtain ⟨_,_,_,_,o,_,_,e,_⟩:=x;exact Heap.lt_size e
  | dT kvs=>obtain ⟨_,_,_,_,o,_,_,e,_⟩:=x;exact Heap.lt_size e
  | set S n=>obtain ⟨o,_,_,_,e,_⟩:=x;exact Heap.lt_size e
  | ins C dx fs=>obtain ⟨_,_,_,e,_⟩:=x;exact Heap.lt_size e
  | own y=>obtain ⟨_,e⟩:=x;exact Heap.lt_size e
  | xd fs=>obtain ⟨_,⟨_,_,_,e,_⟩,_⟩:=x;exact Heap.lt_size e
  | rng lo hi=>obtain ⟨_,_,_,e⟩:=x;exact Heap.lt_size e
  | frz ob u=>obtain ⟨e,_⟩:=x;exact Heap.lt_size e
  | tbl ps=>exact Heap.lt_size (show h.get? a=some _ from x)
  | met f y=>exact Heap.lt_size (show h.get? a=some _ from x)
  | ext φ=>obtain ⟨_,⟨_,e⟩,_⟩:=x;exact Heap.lt_size e
theorem Paired.mapP {α β:Type}{F G:α→β→Prop}:∀ {l₁:List α} {l₂:List β},Paired F l₁ l₂→(∀ a b,F a b→G a b)→Paired G l₁ l₂:=by
  intro l1 l2 h f
  induction h with
  | nil=>exact .nil
  | cons r t ih=>exact .cons (f _ _ r) ih
theorem xf.stay (x:xf P w H h a o)(k:∀ b u,(b=a∨H b=some (.own a))→h.get? b=some u→h'.get? b=some u)
    (ho:∀ b,H b=some (.own a)→H' b=some (.own a)) (ht:∀ b xs,H b=some (.tup xs)→H' b=some (.tup xs)):xf P w H' h' a o:=by
  induction o with
  | lst xs=>obtain ⟨z,its,n,r,e⟩:=x;exact ⟨z,its,n,r,k _ _ (.inl rfl) e⟩
  | tup xs=>obtain ⟨z,its,r,ob,e,c⟩:=x;exact ⟨z,its,r,ob,k _ _ (.inl rfl) e,c⟩
  | dK kvs=>obtain ⟨z,y,vs,r,ob,es,ep,e,c⟩:=x;exact ⟨z,y,vs,r,ob,es,ep,k _ _ (.inl rfl) e,c⟩
  | dT kvs =>
    obtain ⟨z,y,xs,r,ob,es,ep,e,c⟩:=x
    exact ⟨z,y,xs,Paired.mapP r fun p q z=>⟨z.1,ht _ _ z.2.1,z.2.2⟩,ob,es,ep,k _ _ (.inl rfl) e,c⟩
  | set S n=>obtain ⟨ob,es,ep,t,e,c⟩:=x;exact ⟨ob,es,ep,t,k _ _ (.inl rfl) e,c⟩
  | ins C dx fs =>
    obtain ⟨d,z,ne,e,mA,⟨od,es,ep,e2,c⟩,r⟩:=x
    exact ⟨ho _ d,z,ne,k _ _ (.inl rfl) e,mA,⟨od,es,ep,k _ _ (.inr d) e2,c⟩,r⟩
  | own y=>obtain ⟨ob,e⟩:=x;exact ⟨ob,k _ _ (.inl rfl) e⟩
  | xd fs=>obtain ⟨mA,⟨od,es,ep,e,c⟩,r⟩:=x;exact ⟨mA,⟨od,es,ep,k _ _ (.inl rfl) e,c⟩,r⟩
  | rng lo hi=>obtain ⟨t,u,v,e⟩:=x;exact ⟨t,u,v,k _ _ (.inl rfl) e⟩
  | frz ob u ih=>obtain ⟨e,q⟩:=x;exact ⟨k _ _ (.inl rfl) e,ih q⟩
  | tbl ps =>
    have e:h.get? a=some { cls:=.none,data:=.fields ps }:=x
    show h'.get? a=some { cls:=.none,data:=.fields ps }
    exact k a _ (.inl rfl) e
  | met f y =>
    have e:h.get? a=some (PySem.W.methodObj (.ref f) (.ref y)):=x
    show h'.get? a=some (PySem.W.methodObj (.ref f) (.ref y))
    exact k a _ (.inl rfl) e
  | ext φ=>obtain ⟨p,⟨o,e⟩,st⟩:=x;exact ⟨st _ _ p fun o q=>k _ _ (.inl rfl) q,⟨o,k _ _ (.inl rfl) e⟩,st⟩
theorem HOk.lt (x:HOk P w H h)(e:H a=some o):a < h.objs.size:=(x a o e).lt
theorem HOk.fresh (x:HOk P w H h)(e:h.objs.size≤a):H a=none:=by
  cases q:H a with
  | none=>rfl
  | some u=>exact absurd (Nat.lt_of_lt_of_le (x.lt q) e) (Nat.lt_irrefl _)
theorem HOk.kept (x:HOk P w H h)(k:∀ b u,h.get? b=some u→h'.get? b=some u):HOk P w H h':=fun a o e =>
  (x a o e).stay (fun b u _ q=>k b u q) (fun _ q=>q) fun _ _ q=>q
theorem HOk.laid (x:HOk P w H h)(k:∀ b u,h.get? b=some u→h'.get? b=some u)(hp:h.objs.size≤a)(new:xf P w (upd H a o) h' a o):HOk P w (upd H a o) h':=fun b u e=>by
  have hn:=x.fresh hp
  by_cases hb:b=a
  · subst hb;rw [zn] at e;cases e;exact new
  · rw [zm hb] at e
    exact (x b u e).stay (fun c v _ q=>k c v q) (fun c q=>by rw [zm (zk q hn)];exact q) fun c xs q=>by rw [zm (zk q hn)];exact q
end
noncomputable def Rd (H:Hp)(a:Addr)(u:HO):Prop:=H a=some u∨∃ o,H a=some (.frz o u)
theorem Rd.ok {P:Program}{w:World}{H:Hp}{h:Heap}{a:Addr}{u:HO}(r:Rd H a u)(x:HOk P w H h):xf P w H h a u:=by
  rcases r with r | ⟨o,r⟩
  · exact x a u r
  · obtain ⟨_,q⟩:=x a _ r
    exact q
noncomputable def Mut:Option HO→Prop
  | some (.lst _)=>True
  | some (.dK _)=>True
  | some (.dT _)=>True
  | some (.set _ _)=>True
  | some (.ins _ _ _)=>True
  | some (.ext _)=>True
  | _=>False
section
variable {P:Program}{w:World}{H:Hp}{h h':Heap}{x e:Addr}{o':HO}
theorem HOk.write (ok:HOk P w H h)(mu:Mut (H x))(he:e=x∨H e=some (.own x))(k:∀ b u,b≠e→h.get? b=some u→h'.get? b=some u)(heo:∃ u,h'.get? e=some u)
    (new:xf P w (upd H x o') h' x o'):HOk P w (upd H x o') h':=fun b u q=>by
  have nown:∀ c y,H c=some (.own y)→c≠x:=fun c y r z=>by subst z;rw [r] at mu;exact mu
  have ntup:∀ c xs,H c=some (.tup xs)→c≠x:=fun c xs r z=>by subst z;rw [r] at mu;exact mu
  by_cases hb:b=x
  · subst hb;rw [zn] at q;cases q;exact new
  · rw [zm hb] at q
    by_cases hbe:b=e
    · have q':H b=some (.own x):=by
        rcases he with z | z
        · exact absurd (hbe.trans z) hb
        · rw [hbe];exact z
      rw [q] at q';cases q'
      obtain ⟨v,hv⟩:=heo
      exact ⟨v,by rw [hbe];exact hv⟩
    · refine (ok b u q).stay (fun c v hc r=>k c v ?_ r) (fun c r=>by rw [zm (nown c b r)];exact r) fun c xs r=>by rw [zm (ntup c xs r)];exact r
      rcases hc with rfl | hc
      · exact hbe
      · rintro rfl
        rcases he with z | z
        · exact nown c b hc z
        · rw [hc] at z;cases z;exact hb rfl
end
set_option genInjectivity false in
set_option genSizeOf false in
set_option genCtorIdx false in
structure Un (fs ex:List Addr) (H H':Hp) (h h':Heap):Prop where
  keep:∀ b o,h.get? b=some o→H b=none→b∉fs→b∉ex→h'.get? b=some o
  slot:∀ b o,h.get? b=some o→H b=none→b∈fs→b∉ex→∃ sl,h'.get? b=some { o with slots:=sl }
  free:∀ b o,h.get? b=some o→H b=none→b∉ex→H' b=none
  there:∀ b o,h.get? b=some o→b∉ex→∃ o',h'.get? b=some o'
  tups:∀ b xs,H b=some (.tup xs)→H' b=some (.tup xs)
  frzs:∀ b o u,H b=some (.frz o u)→H' b=some (.frz o u)
  tbls:∀ b ps,H b=some (.tbl ps)→∃ more,H' b=some (.tbl (ps++more))
section
variable {fs fs' ex ex':List Addr}{H H1 H2:Hp}{h h1 h2 h':Heap}{a x e:Addr}{o:HO}
theorem Un.any (u:Un fs ex H H1 h h1){b:Addr}{ob:Obj}(q:h.get? b=some ob)(n:H b=none)(hx:b∉ex):∃ sl,h1.get? b=some { ob with slots:=sl }:=by
  by_cases hb:b∈fs
  · exact u.slot b ob q n hb hx
  · exact ⟨ob.slots,u.keep b ob q n hb hx⟩
theorem Un.kept (k:∀ b u,h.get? b=some u→h'.get? b=some u):Un fs ex H H h h' :=
  ⟨fun b ob q _ _ _=>k b ob q,fun b ob q _ _ _=>⟨ob.slots,k b ob q⟩,fun _ _ _ n _=>n,fun b ob q _=>⟨ob,k b ob q⟩,fun _ _ q=>q,fun _ _ _ q=>q,fun _ ps q=>⟨#[],by rw [q];simp⟩⟩
theorem Un.refl:Un fs ex H H h h:=Un.kept fun _ _ q=>q
theorem Un.laid (k:∀ b u,h.get? b=some u→h'.get? b=some u)(hp:h.objs.size≤a)(hn:H a=none):Un fs ex H (upd H a o) h h' where
  keep:=fun b u q _ _ _=>k b u q
  slot:=fun b u q _ _ _=>⟨u.slots,k b u q⟩
  free:=fun b u q n _=>by rw [zm (Nat.ne_of_lt (Nat.lt_of_lt_of_le (Heap.lt_size q) hp))];exact n
  there:=fun b u q _=>⟨u,k b u q⟩
  tups:=fun b xs q=>by rw [zm (zk q hn)];exact q
  frzs:=fun b u xs q=>by rw [zm (zk q hn)];exact q
  tbls:=fun b ps q=>⟨#[],by rw [zm (zk q hn),q];simp⟩
theorem Un.write (mu:Mut (H x))(he:e=x∨H e=some (.own x))(k:∀ b u,b≠e→h.get? b=some u→h'.get? b=some u)(heo:∃ u,h'.get? e=some u):Un fs ex H (upd H x o) h h':=by
  have hx:∀ b,H b=none→b≠x:=fun b n z=>by subst z;rw [n] at mu;exact mu
  have hb:∀ b,H b=none→b≠e:=fun b n z=>by
    subst z
    rcases he with r | r
    · exact hx b n r
    · rw [n] at r;cases r
  have hm:∀ b u,H b=some u→¬ Mut (some u)→b≠x:=fun b u q nm z=>by subst z;rw [q] at mu;exact nm mu
  refine ⟨fun b u q n _ _=>k b u (hb b n) q,fun b u q n _ _=>⟨u.slots,k b u (hb b n) q⟩,fun b u q n _=>by rw [zm (hx b n)];exact n,fun b u q _=>?_,
    fun b xs q=>by rw [zm (hm b _ q fun z=>z)];exact q,fun b u xs q=>by rw [zm (hm b _ q fun z=>z)];exact q,fun b ps q=>⟨#[],by rw [zm (hm b _ q fun z=>z),q];simp⟩⟩
  by_cases hbe:b=e
  · subst hbe;exact heo
  · exact ⟨u,k b u hbe q⟩
end
noncomputable def trk (h:Heap)(H:Hp):List Addr:=(List.range h.objs.size).filter fun a=>(H a).isSome
noncomputable def zfV (h:Heap)(H:Hp):Heap:=PySem.W.hideAll h (trk h H)
theorem zdP (h:Heap)(H:Hp):(zfV h H).objs.size=h.objs.size:=PySem.W.hideAll_size _ _
theorem ze7 {h:Heap}{H:Hp}{b:Addr}{o:Obj}(e:h.get? b=some o)(n:H b=none):(zfV h H).get? b=some o :=
  PySem.W.hideAll_get _ e fun hm=>by
    have q:(H b).isSome=true:=(List.mem_filter.mp hm).2
    rw [n] at q;simp at q
theorem zhK {h:Heap}{H:Hp}{b:Addr}{o:Obj}(e:(zfV h H).get? b=some o):h.get? b=some o∧H b=none:=by
  have e':h.get? b=some o:=PySem.W.of_hideAll (trk h H) e
  refine ⟨e',?_⟩
  cases q:H b with
  | none=>rfl
  | some x =>
    have hm:b∈trk h H:=List.mem_filter.mpr ⟨List.mem_range.mpr (Heap.lt_size e'),by simp [q]⟩
    have z:(zfV h H).get? b=none:=PySem.W.hideAll_none (trk h H) hm
    rw [z] at e;cases e
noncomputable def zg7 (g h:Heap)(L:Addr):List (Addr × Obj):=(List.range h.objs.size).filterMap fun a=>if a=L∨(g.get? a).isSome=true then none else (h.get? a).map fun o=>(a,o)
noncomputable def rest (g h:Heap)(L d:Addr):List (Addr × Obj):=(zg7 g h L).filter fun p=>decide (p.1≠d)
end L2
namespace L2
open PySem PySem.Spec PyProof.Rows
structure Mod (K:PySem.W.Frag) (mg:Str→Option Value) (base:Heap):Prop where
  kin:K.In base
  glob:base.Ns mainGlobals mg
  blt:∃ mb,base.Ns builtinsNs mb∧∀ x:Str,x≠"__name__"→mb x=bootBuiltins x
  nolimit:base.NoLimit
structure Cx where
  prog:Program
  w:World
  K:PySem.W.Frag
  mg:Str→Option Value
  base:Heap
  A:Around
  N:List Str
  s₀:Shared
  H₀:Hp
  env:Env
  outer:List Env
  stack:List Env
  ex:List Addr
  fn:Str→Bool
  calm:Bool
  pn:List (Addr × Obj)
  xe:Value→Shared→Prop
noncomputable def frs (l:List Env):List Addr:=l.filterMap (·.frame)
noncomputable abbrev Cx.fs (X:Cx):List Addr:=frs X.outer
noncomputable def Vis (sc:Scope)(x:Str):Prop:=sc.names.lookup x=some .local∨sc.names.lookup x=some .cell∨sc.names.lookup x=some .free
noncomputable def Loc (sc:Scope)(x:Str):Prop:=sc.names.lookup x=some .local∨sc.names.lookup x=some .cell
noncomputable def Look (env:Env)(h:Heap)(m:Str→Option Value)(x:Str)(u:Value):Prop :=
  (env.kindOf x=some .local∧m x=some u)∨((env.kindOf x=some .cell∨env.kindOf x=some .free)∧∃ c,env.cells.lookup x=some c∧h.IsCell c (some u))
set_option genInjectivity false in
set_option genSizeOf false in
set_option genCtorIdx false in
structure Cx.Ok (X:Cx):Prop where
  mod:Mod X.K X.mg X.base
  kind:X.env.scope.kind=.function
  glob:X.env.globals=mainGlobals
  blt:X.env.builtins=builtinsNs
  above:X.s₀.heap.objs.size≤X.env.locals
  inj:∀ x y c,X.env.cells.lookup x=some c→X.env.cells.lookup y=some c→x=y
  has:∀ x,(X.env.kindOf x=some .cell∨X.env.kindOf x=some .free)→∃ c,X.env.cells.lookup x=some c
  cab:∀ x c,X.fn x=true→X.env.cells.lookup x=some c→X.s₀.heap.objs.size≤c
  hd:X.calm=true→X.A.handled=none
  frames:X.A.frames=some X.stack
  stk:X.stack=X.outer∨(X.stack=X.env::X.outer∧X.env.frame=some X.env.locals)
  exf:∀ b∈X.ex,b≠X.env.locals∧∀ x c,X.env.cells.lookup x=some c→c≠b
  bs:∀ b o,X.base.get? b=some o→X.s₀.heap.get? b=some o∧X.H₀ b=none
  bsz:X.base.objs.size≤X.s₀.heap.objs.size
  noex:∀ b o,X.base.get? b=some o→b∉X.ex
  exfs:∀ b∈X.ex,b∉X.fs
  funs:X.s₀.heap.FunFrames X.base X.outer
  frf:∀ b∈X.fs,X.H₀ b=none
set_option genInjectivity false in
set_option genSizeOf false in
set_option genCtorIdx false in
structure Inv (X:Cx) (pins:List (Addr × Obj)) (σ:List (Option V)) (H:Hp) (s:Shared):Prop where
  ok:X.Ok
  os:s.os=X.s₀.os
  bare:AllBare s.gens
  base:Un X.fs X.ex X.H₀ H X.s₀.heap s.heap
  loc:∃ m,s.heap.Ns X.env.locals m∧∀ (i:Nat) (x:Str) (v:V),X.N[i]?=some x→σ[i]?=some (some v)→Vis X.env.scope x→∃ u,xw v u∧Look X.env s.heap m x u
  cell:∀ x c,X.env.cells.lookup x=some c→∃ v,s.heap.IsCell c v
  free:H X.env.locals=none
  freeC:∀ x c,X.env.cells.lookup x=some c→H c=none
  pin:∀ p∈X.pn++pins,s.heap.get? p.1=some p.2∧H p.1=none∧p.1≠X.env.locals∧p.1∉X.fs∧∀ v,p.2.data≠.cell v
  hok:HOk X.prog X.w H s.heap
  len:σ.length=X.N.length
section
variable {X:Cx}{pins:List (Addr × Obj)}{σ:List (Option V)}{H H':Hp}{s:Shared}{h':Heap}
theorem Cx.Ok.nofr (ok:X.Ok){b:Addr}{o:Obj}(e:X.base.get? b=some o):b∉X.fs:=fun hb=>by
  have:=(ok.funs.mem hb).1
  rw [e] at this;cases this
theorem Inv.bs (I:Inv X pins σ H s):∀ b o,X.base.get? b=some o→s.heap.get? b=some o∧H b=none:=fun b o e =>
  ⟨I.base.keep b o (I.ok.bs b o e).1 (I.ok.bs b o e).2 (I.ok.nofr e) (I.ok.noex b o e),I.base.free b o (I.ok.bs b o e).1 (I.ok.bs b o e).2 (I.ok.noex b o e)⟩
theorem Inv.bk (I:Inv X pins σ H s):∀ b o,X.base.get? b=some o→s.heap.get? b=some o:=fun b o e=>(I.bs b o e).1
theorem Inv.mod (I:Inv X pins σ H s):Mod X.K X.mg X.base:=I.ok.mod
theorem Inv.kIn (I:Inv X pins σ H s):X.K.In s.heap:=I.ok.mod.kin.keeps I.bk
theorem Inv.fr (I:Inv X pins σ H s):∃ m,Fr X.base X.env.locals s.heap m :=
  let ⟨m,hn,_⟩:=I.loc
  ⟨m,hn,I.bk,Nat.le_trans I.ok.bsz I.ok.above⟩
theorem Inv.lt (I:Inv X pins σ H s):X.env.locals < s.heap.objs.size:=let ⟨_,hn,_⟩:=I.loc;hn.lt
theorem Inv.sz (I:Inv X pins σ H s):X.s₀.heap.objs.size≤s.heap.objs.size:=Nat.le_trans I.ok.above (Nat.le_of_lt I.lt)
theorem Inv.nofs (I:Inv X pins σ H s){a:Addr}(h:s.heap.objs.size≤a):a∉X.fs:=fun hb=>by
  obtain ⟨_,o,ho,_⟩:=I.ok.funs.mem hb
  exact absurd (Nat.lt_of_lt_of_le (Heap.lt_size ho) (Nat.le_trans I.sz h)) (Nat.lt_irrefl _)
theorem Inv.cne (I:Inv X pins σ H s):∀ x c,X.env.cells.lookup x=some c→c≠X.env.locals:=fun x c e z=>by
  obtain ⟨v,o,ho,hd⟩:=I.cell x c e
  obtain ⟨m,⟨o',es,ep,ho',hd',_⟩,_⟩:=I.loc
  rw [z,ho'] at ho;cases ho;rw [hd'] at hd;cases hd
theorem Inv.funs (I:Inv X pins σ H s):s.heap.FunFrames X.base X.outer:=by
  have all:∀ (l:List Env),(∀ b∈frs l,b∈X.fs)→X.s₀.heap.FunFrames X.base l→s.heap.FunFrames X.base l:=by
    intro l
    induction l with
    | nil=>intro _ _;trivial
    | cons env r ih =>
      intro hs hl
      obtain ⟨hk,⟨L,o,hf,hn,ho,hd⟩,hr⟩:=hl
      have hL:L∈X.fs:=hs L (by unfold frs;rw [List.filterMap_cons,hf];exact List.mem_cons_self)
      obtain ⟨sl,e⟩:=I.base.slot L o ho (I.ok.frf L hL) hL fun z=>I.ok.exfs L z hL
      exact ⟨hk,⟨L,_,hf,hn,e,hd⟩,ih (fun b hb=>hs b (by unfold frs;rw [List.filterMap_cons,hf];exact List.mem_cons_of_mem _ hb)) hr⟩
  exact all X.outer (fun _ hb=>hb) I.ok.funs
theorem Inv.stack (I:Inv X pins σ H s):s.heap.FunFrames X.base X.stack:=by
  rcases I.ok.stk with e | ⟨e,hf⟩
  · rw [e];exact I.funs
  · rw [e]
    obtain ⟨m,hn,_⟩:=I.loc
    refine .cons (by rw [I.ok.kind];decide) hf hn ?_ I.funs
    exact Heap.get?_none_of_le (Nat.le_trans I.ok.bsz I.ok.above)
theorem Inv.stkSub (I:Inv X pins σ H s):∀ b∈frs X.stack,b∈X.env.locals::X.fs:=fun b hb=>by
  rcases I.ok.stk with e | ⟨e,hf⟩
  · rw [e] at hb;exact List.mem_cons_of_mem _ hb
  · rw [e] at hb
    unfold frs at hb
    rw [List.filterMap_cons,hf] at hb
    exact hb
theorem Inv.stkFree (I:Inv X pins σ H s):∀ b∈frs X.stack,H b=none:=fun b hb=>by
  rcases List.mem_cons.mp (I.stkSub b hb) with e | hb
  · rw [e];exact I.free
  · obtain ⟨_,o,ho,_⟩:=I.ok.funs.mem hb
    exact I.base.free b o ho (I.ok.frf b hb) fun z=>I.ok.exfs b z hb
theorem Inv.step {g':Array GenState}{t':Nat}{d':Drawn}{ch:List Addr}(I:Inv X pins σ H s)
    (hch:∀ b∈ch,(b∈X.ex∨X.s₀.heap.objs.size≤b)∧b≠X.env.locals∧(∀ x c,X.env.cells.lookup x=some c→c≠b)∧∀ p∈X.pn++pins,p.1≠b)
    (keep:∀ b o,b≠X.env.locals→b∉X.fs→b∉ch→s.heap.get? b=some o→H b=none→h'.get? b=some o)
    (slot:∀ b o,b≠X.env.locals→b∈X.fs→b∉ch→s.heap.get? b=some o→H b=none→∃ sl,h'.get? b=some { o with slots:=sl }) (free:∀ b o,b∉ch→s.heap.get? b=some o→H b=none→H' b=none)
    (there:∀ b o,b∉ch→s.heap.get? b=some o→∃ o',h'.get? b=some o')
    (tups:∀ b xs,H b=some (.tup xs)→H' b=some (.tup xs)) (frzs:∀ b o u,H b=some (.frz o u)→H' b=some (.frz o u)) (tbls:∀ b ps,H b=some (.tbl ps)→∃ more,H' b=some (.tbl (ps++more)))
    (ns:∀ m,s.heap.Ns X.env.locals m→h'.Ns X.env.locals m) (hok:HOk X.prog X.w H' h') (hg:AllBare g') :
    Inv X pins σ H' { s with heap:=h',gens:=g',drawn:=d',toks:=t' }:=by
  have neL:∀ b o,X.s₀.heap.get? b=some o→b≠X.env.locals:=fun b o e=>Nat.ne_of_lt (Nat.lt_of_lt_of_le (Heap.lt_size e) I.ok.above)
  have neC:∀ b o,X.s₀.heap.get? b=some o→b∉X.ex→b∉ch:=fun b o e hx hb=>by
    rcases (hch b hb).1 with z | z
    · exact hx z
    · exact absurd (Nat.lt_of_lt_of_le (Heap.lt_size e) z) (Nat.lt_irrefl _)
  have cellK:∀ x c,X.env.cells.lookup x=some c→∀ v,s.heap.IsCell c v→h'.IsCell c v:=fun x c e v ⟨o,ho,hd⟩=>by
    have nch:c∉ch:=fun z=>(hch c z).2.2.1 x c e rfl
    by_cases hc:c∈X.fs
    · obtain ⟨sl,q⟩:=slot c o (I.cne x c e) hc nch ho (I.freeC x c e)
      exact ⟨_,q,hd⟩
    · exact ⟨o,keep c o (I.cne x c e) hc nch ho (I.freeC x c e),hd⟩
  refine ⟨I.ok,I.os,hg,⟨fun b o e n hb hx=>?_,fun b o e n hb hx=>?_,fun b o e n hx=>?_,fun b o e hx=>?_,fun b xs e=>tups b xs (I.base.tups b xs e),fun b o xs e=>frzs b o xs (I.base.frzs b o xs e),fun b ps e=>?_⟩,?_,fun x c e=>?_,?_,fun x c e=>?_,fun p hp=>?_,hok,I.len⟩
  · exact keep b o (neL b o e) hb (neC b o e hx) (I.base.keep b o e n hb hx) (I.base.free b o e n hx)
  · obtain ⟨sl,e1⟩:=I.base.slot b o e n hb hx
    obtain ⟨sl',e2⟩:=slot b _ (neL b o e) hb (neC b o e hx) e1 (I.base.free b o e n hx)
    exact ⟨sl',e2⟩
  · obtain ⟨o',e1⟩:=I.base.there b o e hx
    exact free b o' (neC b o e hx) e1 (I.base.free b o e n hx)
  · obtain ⟨o',e1⟩:=I.base.there b o e hx
    exact there b o' (neC b o e hx) e1
  · obtain ⟨m1,e1⟩:=I.base.tbls b ps e
    obtain ⟨m2,e2⟩:=tbls b _ e1
    exact ⟨m1++m2,by rw [e2,Array.append_assoc]⟩
  · obtain ⟨m,hn,hl⟩:=I.loc
    refine ⟨m,ns m hn,fun i x v e1 e2 e3=>?_⟩
    obtain ⟨u,r,l⟩:=hl i x v e1 e2 e3
    refine ⟨u,r,?_⟩
    rcases l with l | ⟨k,c,e,z⟩
    · exact .inl l
    · exact .inr ⟨k,c,e,cellK x c e _ z⟩
  · obtain ⟨v,z⟩:=I.cell x c e
    exact ⟨v,cellK x c e v z⟩
  · obtain ⟨m,⟨o,_,_,ho,_⟩,_⟩:=I.loc
    exact free _ o (fun z=>(hch _ z).2.1 rfl) ho I.free
  · obtain ⟨v,o,ho,hd⟩:=I.cell x c e
    exact free c o (fun z=>(hch c z).2.2.1 x c e rfl) ho (I.freeC x c e)
  · obtain ⟨e,n,ne,nf,d⟩:=I.pin p hp
    have nch:p.1∉ch:=fun z=>(hch p.1 z).2.2.2 p hp rfl
    exact ⟨keep p.1 p.2 ne nf nch e n,free p.1 p.2 nch e n,ne,nf,d⟩
theorem Inv.un {t':Nat}(I:Inv X pins σ H s)(u:Un X.fs [] H H' s.heap h')(hok:HOk X.prog X.w H' h'):Inv X pins σ H' { s with heap:=h',toks:=t' }:=by
  obtain ⟨m,⟨o,es,ep,ho,r⟩,_⟩:=id I.loc
  obtain ⟨sl,hL⟩:=u.any ho I.free (by simp)
  exact I.step (g':=s.gens) (d':=s.drawn) (ch:=[]) (fun _ z=>nomatch z) (fun b o _ hb _ e n=>u.keep b o e n hb (by simp)) (fun b o _ hb _ e n=>u.slot b o e n hb (by simp)) (fun b o _ e n=>u.free b o e n (by simp)) (fun b o _ e=>u.there b o e (by simp)) u.tups u.frzs u.tbls (fun m' hm=>by
    obtain ⟨o',es',ep',ho',r'⟩:=hm
    rw [ho] at ho';cases ho'
    exact ⟨_,es',ep',hL,r'⟩) hok I.bare
theorem Inv.call {g':Array GenState}{t':Nat}{d':Drawn}{ch:List Addr}(I:Inv X pins σ H s)(u:Un (frs X.stack) ch H H' s.heap h')(hok:HOk X.prog X.w H' h')(hg:AllBare g')
    (hch:∀ b∈ch,(b∈X.ex∨X.s₀.heap.objs.size≤b)∧b≠X.env.locals∧(∀ x c,X.env.cells.lookup x=some c→c≠b)∧∀ p∈X.pn++pins,p.1≠b) :
    Inv X pins σ H' { s with heap:=h',gens:=g',drawn:=d',toks:=t' }:=by
  obtain ⟨m,⟨o,es,ep,ho,r⟩,_⟩:=id I.loc
  obtain ⟨sl,hL⟩:=u.any ho I.free fun z=>(hch _ z).2.1 rfl
  exact I.step (ch:=ch) hch (fun b o hL hb hc e n=>u.keep b o e n (fun z=>(List.mem_cons.mp (I.stkSub b z)).elim hL hb) hc) (fun b o _ _ hc e n=>u.any e n hc) (fun b o hc e n=>u.free b o e n hc) (fun b o hc e=>u.there b o e hc) u.tups u.frzs u.tbls (fun m' hm=>by
    obtain ⟨o',es',ep',ho',r'⟩:=hm
    rw [ho] at ho';cases ho'
    exact ⟨_,es',ep',hL,r'⟩) hok hg
theorem Inv.turned {t':Nat}{it:Addr}(I:Inv X pins σ H s)(k:∀ b o,b≠it→s.heap.get? b=some o→h'.get? b=some o)(hn:H it=none)(hL:it≠X.env.locals)
    (h1:it∈X.ex∨X.s₀.heap.objs.size≤it) (h2:∀ x c,X.env.cells.lookup x=some c→c≠it) (h3:∀ p∈X.pn++pins,p.1≠it):Inv X pins σ H { s with heap:=h',toks:=t' }:=by
  have nit:∀ b u,H b=some u→b≠it:=fun b u e z=>by rw [z,hn] at e;cases e
  refine I.step (g':=s.gens) (d':=s.drawn) (ch:=[it]) (fun b hb=>?_) (fun b o _ _ hc e _=>k b o (fun z=>hc (by simp [z])) e) (fun b o _ _ hc e _=>⟨o.slots,k b o (fun z=>hc (by simp [z])) e⟩) (fun _ _ _ _ n=>n)
    (fun b o hc e=>⟨o,k b o (fun z=>hc (by simp [z])) e⟩) (fun _ _ e=>e) (fun _ _ _ e=>e) (fun b ps e=>⟨#[],by rw [e];simp⟩) (fun m hm=>?_) (fun b u e=>?_) I.bare
  · have e:b=it:=by simpa using hb
    subst e
    exact ⟨h1,hL,h2,h3⟩
  · obtain ⟨o,es,ep,ho,r⟩:=hm
    exact ⟨o,es,ep,k _ o (Ne.symm hL) ho,r⟩
  · refine (I.hok b u e).stay (fun c v hc q=>k c v ?_ q) (fun _ q=>q) fun _ _ q=>q
    rcases hc with z | z
    · rw [z];exact nit b u e
    · exact nit c _ z
theorem Inv.tok (I:Inv X pins σ H s)(t:Nat):Inv X pins σ H { s with toks:=t }:=I.un (h':=s.heap) (t':=t) Un.refl I.hok
theorem Inv.kept {t':Nat}(I:Inv X pins σ H s)(k:∀ b u,s.heap.get? b=some u→h'.get? b=some u):Inv X pins σ H { s with heap:=h',toks:=t' }:=I.un (Un.kept k) (I.hok.kept k)
theorem Inv.laid {a:Addr}{o:HO}{t':Nat}(I:Inv X pins σ H s)(k:∀ b u,s.heap.get? b=some u→h'.get? b=some u)(hp:s.heap.objs.size≤a)(new:xf X.prog X.w (upd H a o) h' a o) :
    Inv X pins σ (upd H a o) { s with heap:=h',toks:=t' }:=I.un (Un.laid k hp (I.hok.fresh hp)) (I.hok.laid k hp new)
theorem Inv.write {x e:Addr}{o:HO}{t':Nat}(I:Inv X pins σ H s)(mu:Mut (H x))(he:e=x∨H e=some (.own x))(k:∀ b u,b≠e→s.heap.get? b=some u→h'.get? b=some u)(heo:∃ u,h'.get? e=some u)
    (new:xf X.prog X.w (upd H x o) h' x o):Inv X pins σ (upd H x o) { s with heap:=h',toks:=t' }:=I.un (Un.write mu he k heo) (I.hok.write mu he k heo new)
theorem Inv.weak {σ':List (Option V)}(I:Inv X pins σ H s)(hl:σ'.length=σ.length)(w:∀ (i:Nat) v,σ'[i]?=some (some v)→σ[i]?=some (some v)):Inv X pins σ' H s :=
  ⟨I.ok,I.os,I.bare,I.base,let ⟨m,hn,hl'⟩:=I.loc;⟨m,hn,fun i x v e1 e2 e3=>hl' i x v e1 (w i v e2) e3⟩,I.cell,I.free,I.freeC,I.pin,I.hok,hl.trans I.len⟩
theorem Inv.pins_of {pins':List (Addr × Obj)}(I:Inv X pins σ H s)(h:∀ p∈pins',s.heap.get? p.1=some p.2∧H p.1=none∧p.1≠X.env.locals∧p.1∉X.fs∧∀ v,p.2.data≠.cell v):Inv X pins' σ H s :=
  ⟨I.ok,I.os,I.bare,I.base,I.loc,I.cell,I.free,I.freeC,fun p hp=>(List.mem_append.mp hp).elim (fun z=>I.pin p (List.mem_append_left _ z)) (h p),I.hok,I.len⟩
theorem W8 {N:List Str}(hN:N.Nodup){i j:Nat}{x:Str}(a:N[i]?=some x)(b:N[j]?=some x):i=j:=by
  obtain ⟨h1,e1⟩:=List.getElem?_eq_some_iff.mp a
  obtain ⟨h2,e2⟩:=List.getElem?_eq_some_iff.mp b
  exact (List.getElem_inj hN).mp (e1.trans e2.symm)
theorem zdV {M:Model}{A:Around}{E:Value→Shared→Prop}{i:Nat}{x:Str}{v:V}{u:Value}{Q:Unit→Shared→Prop}(I:Inv X pins σ H s)(hN:X.N.Nodup)(hi:X.N[i]?=some x)(hx:Loc X.env.scope x)(r:xw v u)
    (h:∀ s',Inv X pins (σ.set i (some v)) H s'→(∃ a,Heap.SameBut a s.heap s'.heap∧(a=X.env.locals∨X.env.cells.lookup x=some a))→Q () s') (hf:X.fn x=true∨X.env.scope.names.lookup x=some .local:=by first | exact .inl rfl | exact .inr rfl | assumption):wpAny M A (storeName X.env x u) Q E s:=by
  obtain ⟨m,hn,hl⟩:=id I.loc
  have hcls:(X.env.scope.kind == .class||(X.env.scope.kind == .module&&X.env.locals != X.env.globals))=false:=by rw [I.ok.kind];rfl
  have hiσ:i < σ.length:=by rw [I.len];exact (List.getElem?_eq_some_iff.mp hi).1
  have cne:=I.cne
  have tracked:∀ {a:Addr} {h':Heap},(∃ o,s.heap.get? a=some o∧H a=none)→Heap.SameBut a s.heap h'→HOk X.prog X.w H h':=fun {a h'} ha hs b ob e=>by
    obtain ⟨_,_,hfree⟩:=ha
    refine (I.hok b ob e).stay (fun c w' hc q=>(hs.2 c ?_).trans q) (fun _ q=>q) fun _ _ q=>q
    rintro rfl
    rcases hc with rfl | hc
    · rw [hfree] at e;cases e
    · rw [hfree] at hc;cases hc
  rcases hx with hk | hk
  · refine wpAny_storeName_local hk hn (fun h' hn' hs=>?_) hcls
    obtain ⟨oL,_,_,hoL,_⟩:=id hn
    refine h _ ⟨I.ok,I.os,I.bare,⟨fun b o e n hb hx=>?_,fun b o e n hb hx=>?_,I.base.free,fun b o e hx=>?_,I.base.tups,I.base.frzs,I.base.tbls⟩,⟨_,hn',fun j y v' e1 e2 e3=>?_⟩,fun y c e=>?_,I.free,I.freeC,fun p hp=>?_,tracked ⟨oL,hoL,I.free⟩ hs,by simpa using I.len⟩ ⟨_,hs,.inl rfl⟩
    · exact (hs.2 b (Nat.ne_of_lt (Nat.lt_of_lt_of_le (Heap.lt_size e) I.ok.above))).trans (I.base.keep b o e n hb hx)
    · obtain ⟨sl,e1⟩:=I.base.slot b o e n hb hx
      exact ⟨sl,(hs.2 b (Nat.ne_of_lt (Nat.lt_of_lt_of_le (Heap.lt_size e) I.ok.above))).trans e1⟩
    · obtain ⟨o',e1⟩:=I.base.there b o e hx
      exact ⟨o',(hs.2 b (Nat.ne_of_lt (Nat.lt_of_lt_of_le (Heap.lt_size e) I.ok.above))).trans e1⟩
    · by_cases hj:j=i
      · subst hj
        rw [hi] at e1;cases e1
        rw [List.getElem?_set_self hiσ] at e2
        cases e2
        exact ⟨u,r,.inl ⟨hk,by simp⟩⟩
      · rw [List.getElem?_set_ne (Ne.symm hj)] at e2
        obtain ⟨u',r',q⟩:=hl j y v' e1 e2 e3
        refine ⟨u',r',?_⟩
        rcases q with ⟨k,e⟩ | ⟨k,c,e,z⟩
        · refine .inl ⟨k,?_⟩
          have:y≠x:=fun e=>hj (W8 hN e1 (e ▸ hi))
          simp [this,e]
        · exact .inr ⟨k,c,e,z.sameBut hs (cne y c e)⟩
    · obtain ⟨w',z⟩:=I.cell y c e
      exact ⟨w',z.sameBut hs (cne y c e)⟩
    · obtain ⟨e,n,ne,nf,d⟩:=I.pin p hp
      exact ⟨(hs.2 p.1 ne).trans e,n,ne,nf,d⟩
  · have hfn:X.fn x=true:=by
      rcases hf with z | z
      · exact z
      · rw [z] at hk;cases hk
    obtain ⟨c,hc⟩:=I.ok.has x (.inl hk)
    obtain ⟨w',z⟩:=I.cell x c hc
    refine wpAny_storeName_cell I.ok.kind hk hc z (fun h' hc' hs=>?_)
    obtain ⟨oc,hoc,hocd⟩:=id z
    refine h { s with heap:=h' } ⟨I.ok,I.os,I.bare,⟨fun b o e n hb hx=>?_,fun b o e n hb hx=>?_,I.base.free,fun b o e hx=>?_,I.base.tups,I.base.frzs,I.base.tbls⟩,⟨m,hn.sameBut hs (Ne.symm (cne x c hc)),fun j y v' e1 e2 e3=>?_⟩,fun y c' e=>?_,I.free,I.freeC,fun p hp=>?_,tracked ⟨oc,hoc,I.freeC x c hc⟩ hs,by simpa using I.len⟩ ⟨c,hs,.inr hc⟩
    · exact (hs.2 b (Nat.ne_of_lt (Nat.lt_of_lt_of_le (Heap.lt_size e) (I.ok.cab x c hfn hc)))).trans (I.base.keep b o e n hb hx)
    · obtain ⟨sl,e1⟩:=I.base.slot b o e n hb hx
      exact ⟨sl,(hs.2 b (Nat.ne_of_lt (Nat.lt_of_lt_of_le (Heap.lt_size e) (I.ok.cab x c hfn hc)))).trans e1⟩
    · obtain ⟨o',e1⟩:=I.base.there b o e hx
      exact ⟨o',(hs.2 b (Nat.ne_of_lt (Nat.lt_of_lt_of_le (Heap.lt_size e) (I.ok.cab x c hfn hc)))).trans e1⟩
    · by_cases hj:j=i
      · subst hj
        rw [hi] at e1;cases e1
        rw [List.getElem?_set_self hiσ] at e2
        cases e2
        exact ⟨u,r,.inr ⟨.inl hk,c,hc,hc'⟩⟩
      · rw [List.getElem?_set_ne (Ne.symm hj)] at e2
        obtain ⟨u',r',q⟩:=hl j y v' e1 e2 e3
        refine ⟨u',r',?_⟩
        rcases q with q | ⟨k,c',e,z'⟩
        · exact .inl q
        · refine .inr ⟨k,c',e,z'.sameBut hs ?_⟩
          rintro rfl
          exact hj (W8 hN e1 (I.ok.inj _ _ _ e hc ▸ hi))
    · by_cases hcc:c'=c
      · subst hcc;exact ⟨_,hc'⟩
      · obtain ⟨w2,z2⟩:=I.cell y c' e
        exact ⟨w2,z2.sameBut hs hcc⟩
    · obtain ⟨e,n,ne,nf,d⟩:=I.pin p hp
      refine ⟨(hs.2 p.1 ?_).trans e,n,ne,nf,d⟩
      intro q
      rw [q,hoc] at e
      have q':oc=p.2:=Option.some.inj e
      exact d w' (by rw [←q'];exact hocd)
theorem VJ {M:Model}{A:Around}{E:Value→Shared→Prop}{i:Nat}{x:Str}{v:V}{u:Value}{Q:Unit→Shared→Prop}(I:Inv X pins σ H s)(hN:X.N.Nodup)(hi:X.N[i]?=some x)(hx:Loc X.env.scope x)(r:xw v u)
    (h:∀ s',Inv X pins (σ.set i (some v)) H s'→Q () s') (hf:X.fn x=true∨X.env.scope.names.lookup x=some .local:=by first | exact .inl rfl | exact .inr rfl | assumption):wpAny M A (storeName X.env x u) Q E s :=
  zdV I hN hi hx r (fun s' I' _=>h s' I') hf
theorem Inv.call' {s':Shared}{ch:List Addr}(I:Inv X pins σ H s)(ho:s'.os=s.os)(u:Un (frs X.stack) ch H H' s.heap s'.heap)(hok:HOk X.prog X.w H' s'.heap)(hg:AllBare s'.gens)
    (hch:∀ b∈ch,(b∈X.ex∨X.s₀.heap.objs.size≤b)∧b≠X.env.locals∧(∀ x c,X.env.cells.lookup x=some c→c≠b)∧∀ p∈X.pn++pins,p.1≠b):Inv X pins σ H' s':=by
  obtain ⟨h',g',d',t',o'⟩:=s'
  have e:o'=s.os:=ho
  subst e
  exact I.call (g':=g') (t':=t') (d':=d') u hok hg hch
end
noncomputable abbrev XK:=Value→Option Addr→Hp→Prop
noncomputable abbrev St:=List (Option V)
noncomputable abbrev VK:=V→Hp→Prop
noncomputable abbrev TE:=St→Hp→VK→Prop
noncomputable abbrev TT:=St→Hp→(Bool→Hp→Prop)→Prop
noncomputable abbrev TA:=St→Hp→(List V→Hp→Prop)→Prop
structure zae where
  nx:St→Hp→Prop
  rt:VK
  bk:St→Hp→Prop:=fun _ _=>False
  ct:St→Hp→Prop:=fun _ _=>False
noncomputable abbrev TS:=zae→St→Hp→Prop
noncomputable def EP (X:Cx)(pins:List (Addr × Obj))(σ:St)(Q:VK)(u:Value)(s':Shared):Prop:=∃ v H',Inv X pins σ H' s'∧xw v u∧Q v H'
noncomputable def TP (X:Cx)(pins:List (Addr × Obj))(σ:St)(Q:Bool→Hp→Prop)(b:Bool)(s':Shared):Prop:=∃ H',Inv X pins σ H' s'∧Q b H'
noncomputable def AP (X:Cx)(pins:List (Addr × Obj))(σ:St)(Q:List V→Hp→Prop)(us:List Value)(s':Shared):Prop:=∃ vs H',Inv X pins σ H' s'∧xj vs us∧Q vs H'
noncomputable def SP (X:Cx)(pins:List (Addr × Obj))(D:zae)(f:Flow)(s':Shared):Prop :=
  match f with
  | .next=>∃ σ' H',Inv X pins σ' H' s'∧D.nx σ' H'
  | .brk=>∃ σ' H',Inv X pins σ' H' s'∧D.bk σ' H'
  | .cont=>∃ σ' H',Inv X pins σ' H' s'∧D.ct σ' H'
  | .ret u=>∃ v σ' H',Inv X pins σ' H' s'∧xw v u∧D.rt v H'
noncomputable def PE (X:Cx)(e:Expr)(t:TE):Prop :=
  ∀ (pins:List (Addr × Obj)) (s:Shared) (σ:St) (H:Hp) (Q:VK),Inv X pins σ H s→t σ H Q→wpAny (model X.prog X.w) X.A (eval e X.env) (EP X pins σ Q) X.xe s
noncomputable def PT (X:Cx)(e:Expr)(t:TT):Prop :=
  ∀ (pins:List (Addr × Obj)) (s:Shared) (σ:St) (H:Hp) (Q:Bool→Hp→Prop),Inv X pins σ H s→t σ H Q→wpAny (model X.prog X.w) X.A (isTrue e X.env (eval e X.env)) (TP X pins σ Q) X.xe s
noncomputable def PW (X:Cx)(e:Expr)(t:TT):Prop :=
  ∀ (whole:Sem Value) (pins:List (Addr × Obj)) (s:Shared) (σ:St) (H:Hp) (Q:Bool→Hp→Prop),Inv X pins σ H s→t σ H Q→wpAny (model X.prog X.w) X.A (isTrue e X.env whole) (TP X pins σ Q) X.xe s
theorem PW.pt {X:Cx}{e:Expr}{t:TT}(h:PW X e t):PT X e t:=h _
noncomputable def PA (X:Cx)(es:List Expr)(t:TA):Prop :=
  ∀ (pos:Pos) (pins:List (Addr × Obj)) (s:Shared) (σ:St) (H:Hp) (Q:List V→Hp→Prop),Inv X pins σ H s→t σ H Q→wpAny (model X.prog X.w) X.A (spliced (backTo pos (starEach es X.env))) (AP X pins σ Q) X.xe s
noncomputable def PS (X:Cx)(st:Stmt)(t:TS):Prop :=
  ∀ (pins:List (Addr × Obj)) (s:Shared) (σ:St) (H:Hp) (D:zae),Inv X pins σ H s→t D σ H→wpAny (model X.prog X.w) X.A (exec st X.env) (SP X pins D) X.xe s
noncomputable def PSs (X:Cx)(st:List Stmt)(t:TS):Prop :=
  ∀ (pins:List (Addr × Obj)) (s:Shared) (σ:St) (H:Hp) (D:zae),Inv X pins σ H s→t D σ H→wpAny (model X.prog X.w) X.A (execs st X.env) (SP X pins D) X.xe s
theorem thn {α:Type}{t:Sem α}{Q Q':α→Shared→Prop}{M:Model}{A:Around}{E:Value→Shared→Prop}{s:Shared}(h:wpAny M A t Q E s)(hQ:∀ a s,Q a s→Q' a s):wpAny M A t Q' E s:=wpAny_mono h hQ fun _ _ x=>x
end L2
namespace L2
open PySem PySem.Spec PyProof.Rows
section
variable {X:Cx}
theorem bin {a b:Expr}{ta tb:TE}(ha:PE X a ta)(hb:PE X b tb){pins:List (Addr × Obj)}{s:Shared}{σ:St}{H:Hp}{R:V→V→Hp→Prop}(I:Inv X pins σ H s)(h:ta σ H fun x H1=>tb σ H1 fun y H2=>R x y H2)
    {α:Type} {Q:α→Shared→Prop} {f:Value→Value→Sem α}
    (hf:∀ v u s2 x y H2,Inv X pins σ H2 s2→xw x v→xw y u→R x y H2→wpAny (model X.prog X.w) X.A (f v u) Q X.xe s2) :
    wpAny (model X.prog X.w) X.A (eval a X.env) (fun v s₁=>wpAny (model X.prog X.w) X.A (eval b X.env) (fun u s₂=>wpAny (model X.prog X.w) X.A (f v u) Q X.xe s₂) X.xe s₁) X.xe s:=by
  refine thn (ha pins s σ H _ I h) fun v s1 hh9=>?_
  obtain ⟨x,H1,I1,r1,q1⟩:=hh9
  refine thn (hb pins s1 σ H1 _ I1 q1) fun u s2 hh9=>?_
  obtain ⟨y,H2,I2,r2,q2⟩:=hh9
  exact hf v u s2 x y H2 I2 r1 r2 q2
noncomputable def Vb (i:Nat):TE:=fun σ H Q=>∃ v,σ[i]?=some (some v)∧Q v H
noncomputable def tC (v:V):TE:=fun _ H Q=>Q v H
theorem zjZ {i:Nat} {x:Str} {pos:Pos} (hN:X.N[i]?=some x) (hv:Vis X.env.scope x) (hd:(x == ("__debug__":Str))=false:=by decide) (hcd:(x == ("__classdict__":Str))=false:=by decide):PE X (.Name x pos) (Vb i):=by
  intro pins s σ H Q I h
  obtain ⟨v,e,h⟩:=h
  obtain ⟨m,hn,hl⟩:=I.loc
  obtain ⟨u,r,l⟩:=hl i x v hN e hv
  have fin:EP X pins σ Q u s:=⟨v,H,I,r,h⟩
  rcases l with ⟨hk,hm⟩ | ⟨hk,c,hc,hcell⟩
  · exact wpAny_Name (wpAny_loadName_local I.ok.kind hk hn hm fin) hd
  · rcases hk with hk | hk
    · exact wpAny_Name (wpAny_loadName_cell I.ok.kind hk hc hcell fin) hd
    · exact wpAny_Name (wpAny_loadName_free I.ok.kind hk hc hcell fin hcd) hd
theorem zi {i j pos}:PE X (.Constant (.int i) j pos) (tC (.int i)):=fun _ _ _ H _ I h=>wpAny_Constant_int ⟨.int i,H,I.tok _,⟨_,rfl⟩,h⟩
theorem vD {b j pos}:PE X (.Constant (.bool b) j pos) (tC (.bl b)):=fun _ _ _ H _ I h=>Constant_bool ⟨.bl b,H,I,rfl,h⟩
theorem zbP {j pos}:PE X (.Constant .none j pos) (tC .non):=fun _ _ _ H _ I h=>Constant_none ⟨.non,H,I,rfl,h⟩
theorem ziD {x j pos}:PE X (.Constant (.str x) j pos) (tC (.str x)):=fun _ _ _ H _ I h=>Calls.Constant_str ⟨.str x,H,I.tok _,⟨_,rfl⟩,h⟩
noncomputable def Gl (X:Cx)(x:Str):Prop:=X.env.kindOf x=some .globalImplicit
theorem Z9 {E:Value→Shared→Prop}{pins:List (Addr × Obj)}{s:Shared}{σ:St}{H:Hp}{x:Str}{u:Value}{pos:Pos}{Q:Value→Shared→Prop}(I:Inv X pins σ H s)(hg:Gl X x)(hm:X.mg x=some u)(h:Q u s)
    (hd:(x == ("__debug__":Str))=false:=by decide):wpAny (model X.prog X.w) X.A (eval (.Name x pos) X.env) Q E s :=
  Calls.Name_function_global I.ok.kind hg (Calls.loadGlobal_global (by rw [I.ok.glob];exact I.mod.glob.keeps I.bk) hm h) hd
theorem Wa {E:Value→Shared→Prop}{pins:List (Addr × Obj)}{s:Shared}{σ:St}{H:Hp}{x:Str}{u:Value}{pos:Pos}{Q:Value→Shared→Prop}(I:Inv X pins σ H s)(hg:Gl X x)(hm:X.mg x=none)(hv:bootBuiltins x=some u)(h:Q u s)
    (hn:x≠"__name__":=by decide) (hd:(x == ("__debug__":Str))=false:=by decide):wpAny (model X.prog X.w) X.A (eval (.Name x pos) X.env) Q E s:=by
  obtain ⟨mb,h1,h2⟩:=I.mod.blt
  exact Calls.Name_function_global I.ok.kind hg (Calls.loadGlobal_builtin (by rw [I.ok.glob];exact I.mod.glob.keeps I.bk) hm (by rw [I.ok.blt];exact h1.keeps I.bk) ((h2 x hn).trans hv) h) hd
theorem yf {x:Str} {v:V} {u:Value} {pos:Pos} (hg:Gl X x) (hm:X.mg x=some u) (r:xw v u) (hd:(x == ("__debug__":Str))=false:=by decide):PE X (.Name x pos) (tC v) :=
  fun _ _ _ H _ I h=>Z9 I hg hm ⟨v,H,I,r,h⟩ hd
theorem y8 {x:Str} {v:V} {u:Value} {pos:Pos} (hg:Gl X x) (hm:X.mg x=none) (hv:bootBuiltins x=some u) (r:xw v u) (hn:x≠"__name__":=by decide) (hd:(x == ("__debug__":Str))=false:=by decide):PE X (.Name x pos) (tC v) :=
  fun _ _ _ H _ I h=>Wa I hg hm hv ⟨v,H,I,r,h⟩ hn hd
variable {a b:Expr}{ta tb:TE}{pos:Pos}
noncomputable def PC (X:Cx)(op:CmpOp)(a b:Expr)(t:TE):Prop :=
  ∀ (pins:List (Addr × Obj)) (s:Shared) (σ:St) (H:Hp) (Q:VK),Inv X pins σ H s→t σ H Q →
    wpAny (model X.prog X.w) X.A (eval a X.env) (fun v s₁=>wpAny (model X.prog X.w) X.A (eval b X.env) (fun u s₂=>wpAny (model X.prog X.w) X.A (compareOp op v u) (EP X pins σ Q) X.xe s₂) X.xe s₁) X.xe s
theorem zfi (b:Expr){op:CmpOp}(h:op≠.In)(h2:op≠.NotIn):behindInMarks op b=false:=by
  have e1:(op == CmpOp.In)=false:=by cases op <;> first | rfl | exact absurd rfl h
  have e2:(op == CmpOp.NotIn)=false:=by cases op <;> first | rfl | exact absurd rfl h2
  cases b <;> simp [behindInMarks,e1,e2]
noncomputable def tB (t:TE):TT:=fun σ H Q=>t σ H fun x H1=>∃ c,x=.bl c∧Q c H1
theorem pt_cmp {op:CmpOp}{t:TE}(h:PC X op a b t)(h1:behindInMarks op b=false:=by first | exact zfi _ (by decide) (by decide) | rfl):PT X (.Compare a [op] [b] pos) (tB t):=by
  intro pins s σ H Q I hw
  refine wpAny_isTrue_Compare1 (thn (h pins s σ H _ I hw) fun v s1 h1=>thn h1 fun u s2 h2=>thn h2 fun c s3 hh9=>?_) h1
  obtain ⟨x,H1,I1,r1,q1⟩:=hh9
  obtain ⟨d,rfl,q⟩:=q1
  cases r1
  exact wpAny_truthy_bool ⟨H1,I1,q⟩
theorem zgp {e:Expr}{t:TE}(h:PE X e t)(he:∀ whole,isTrue e X.env whole=(do let v←whole;standAt e.pos;holding [v] (truthy v)):=by intro _;rfl):PT X e (tB t):=by
  intro pins s σ H Q I hw
  refine isTrue_plain (thn (h pins s σ H _ I hw) fun v s1 hh9=>?_) (he _)
  obtain ⟨x,H1,I1,r1,q1⟩:=hh9
  obtain ⟨d,rfl,q⟩:=q1
  cases r1
  exact wpAny_truthy_bool ⟨H1,I1,q⟩
variable {tA tB':TT}{rest:List Expr}
noncomputable def tAnd (t u:TT):TT:=fun σ H Q=>t σ H fun c H1=>if c=true then u σ H1 Q else Q false H1
noncomputable def tOr (t u:TT):TT:=fun σ H Q=>t σ H fun c H1=>if c=true then Q true H1 else u σ H1 Q
noncomputable def tNot (t:TT):TT:=fun σ H Q=>t σ H fun c H1=>Q (!c) H1
theorem zh9 (ha:PT X a tA):PW X (.BoolOp .And [a] pos) tA:=by
  intro wh pins s σ H Q I h
  refine isTrue_and (thn (ha pins s σ H Q I h) fun c s1 e=>?_)
  cases c with
  | true=>exact isTrue_and_nil e
  | false=>exact e
theorem zgO (ha:PT X a tA):PW X (.BoolOp .Or [a] pos) tA:=by
  intro wh pins s σ H Q I h
  refine isTrue_or (thn (ha pins s σ H Q I h) fun c s1 e=>?_)
  cases c with
  | false=>exact isTrue_or_nil e
  | true=>exact e
theorem ziy (ha:PT X a tA)(hb:PW X (.BoolOp .And (b::rest) pos) tB'):PW X (.BoolOp .And (a::b::rest) pos) (tAnd tA tB'):=by
  intro wh pins s σ H Q I h
  refine isTrue_and (thn (ha pins s σ H _ I h) fun c s1 hh9=>?_)
  obtain ⟨H1,I1,q1⟩:=hh9
  cases c with
  | true=>exact hb wh pins s1 σ H1 Q I1 q1
  | false=>exact ⟨H1,I1,q1⟩
theorem zj6 (ha:PT X a tA)(hb:PW X (.BoolOp .Or (b::rest) pos) tB'):PW X (.BoolOp .Or (a::b::rest) pos) (tOr tA tB'):=by
  intro wh pins s σ H Q I h
  refine isTrue_or (thn (ha pins s σ H _ I h) fun c s1 hh9=>?_)
  obtain ⟨H1,I1,q1⟩:=hh9
  cases c with
  | true=>exact ⟨H1,I1,q1⟩
  | false=>exact hb wh pins s1 σ H1 Q I1 q1
theorem zgz (ha:PT X a tA):PT X (.UnaryOp .Not a pos) (tNot tA):=by
  intro pins s σ H Q I h
  exact isTrue_not (ha pins s σ H (fun c H1=>Q (!c) H1) I h)
noncomputable def zk2 (ta tb:TE):TE:=fun σ H Q=>ta σ H fun x H1=>∃ c,x=.bl c∧if c=true then tb σ H1 Q else Q (.bl false) H1
noncomputable def zkF (ta:TE):TE:=fun σ H Q=>ta σ H fun x H1=>∃ c,x=.bl c∧Q (.bl (!c)) H1
theorem zio {op}{t:TE}(h:PE X a t):PE X (.BoolOp op [a] pos) t:=fun pins s σ H Q I hw=>BoolOp_one (h pins s σ H Q I hw)
theorem zj4 (ha:PE X a ta)(hb:PE X (.BoolOp .And (b::rest) pos) tb):PE X (.BoolOp .And (a::b::rest) pos) (zk2 ta tb):=by
  intro pins s σ H Q I h
  refine BoolOp_and (thn (ha pins s σ H _ I h) fun v s1 hh9=>?_)
  obtain ⟨x,H1,I1,r1,q1⟩:=hh9
  obtain ⟨c,rfl,q1⟩:=q1
  cases r1
  refine wpAny_truthy_bool ?_
  cases c with
  | true=>exact hb pins s1 σ H1 Q I1 q1
  | false=>exact ⟨.bl false,H1,I1,rfl,q1⟩
theorem ziF (ha:PE X a ta):PE X (.UnaryOp .Not a pos) (zkF ta):=by
  intro pins s σ H Q I h
  refine UnaryOp_ (thn (ha pins s σ H _ I h) fun v s1 hh9=>?_)
  obtain ⟨x,H1,I1,r1,q1⟩:=hh9
  obtain ⟨c,rfl,q1⟩:=q1
  cases r1
  exact not_of (wpAny_truthy_bool ⟨.bl (!c),H1,I1,rfl,q1⟩)
end
end L2
namespace L2
open PySem PySem.Spec PyProof.Rows
noncomputable def SqL (K:PySem.W.Frag)(H:Hp)(a:Addr)(xs:List V):Prop :=
  Rd H a (.lst xs) ∨
    ∃ (o:Obj) (its:Array Value) (n:Nat),K.lookup a=some o∧o.cls=.type "list"∧o.dict=none∧o.data=.seq its n∧its.size≤sizeLine∧xj xs its.toList
noncomputable def SqT (K:PySem.W.Frag)(H:Hp)(a:Addr)(xs:List V):Prop :=
  Rd H a (.tup xs) ∨
    ∃ (o:Obj) (its:Array Value) (n:Nat),K.lookup a=some o∧o.cls=.type "tuple"∧o.data=.seq its n∧its.size≤sizeLine∧xj xs its.toList
noncomputable def absV:Value→Option V
  | .none=>some .non
  | .bool b=>some (.bl b)
  | .int i _=>some (.int i)
  | .str x _=>some (.str x)
  | .bytes b _=>some (.byt b)
  | .float b _=>some (.flt b)
  | .ref a=>some (.ref a)
  | .type n=>some (.ty n)
  | _=>none
theorem xw.abs {x:V}{u:Value}(r:xw x u):absV u=some x:=by
  cases x with
  | non=>cases r;rfl
  | bl _=>cases r;rfl
  | int _=>obtain ⟨t,rfl⟩:=r;rfl
  | str _=>obtain ⟨t,rfl⟩:=r;rfl
  | byt _=>obtain ⟨t,rfl⟩:=r;rfl
  | flt _=>obtain ⟨t,rfl⟩:=r;rfl
  | ref _=>cases r;rfl
  | ty _=>cases r;rfl
theorem xw.inj {x y:V}{u:Value}(r:xw x u)(q:xw y u):x=y:=Option.some.inj (r.abs.symm.trans q.abs)
theorem xj.inj:∀ {xs ys:List V} {us:List Value},xj xs us→xj ys us→xs=ys:=by
  intro xs ys us h
  induction h generalizing ys with
  | nil=>intro h2;cases h2;rfl
  | cons r t ih=>intro h2;cases h2 with | cons r' t'=>rw [r.inj r',ih t']
section
variable {X:Cx}{pins:List (Addr × Obj)}{σ:St}{H:Hp}{s:Shared}{a:Addr}{xs ys:List V}
theorem SqL.of {K:PySem.W.Frag}(h:H a=some (.lst xs)):SqL K H a xs:=.inl (.inl h)
theorem SqT.of {K:PySem.W.Frag}(h:H a=some (.tup xs)):SqT K H a xs:=.inl (.inl h)
theorem Inv.list (I:Inv X pins σ H s)(h:SqL X.K H a xs):∃ its:List Value,xj xs its∧PlainL s.heap a its.toArray∧xs.length≤sizeLine:=by
  rcases h with h | ⟨o,its,n,hk,hc,hd,hs,hz,r⟩
  · obtain ⟨z,its,n,r,e⟩:=h.ok I.hok
    exact ⟨its,r,⟨_,n,e,rfl,rfl,rfl⟩,z⟩
  · refine ⟨its.toList,r,⟨o,n,I.kIn a o hk,hc,hd,by simpa using hs⟩,?_⟩
    have e:=r.length
    simp only [Array.length_toList] at e
    omega
theorem Inv.tuple (I:Inv X pins σ H s)(h:SqT X.K H a xs):∃ its:List Value,xj xs its∧IsTup s.heap a its.toArray∧xs.length≤sizeLine:=by
  rcases h with h | ⟨o,its,n,hk,hc,hs,hz,r⟩
  · obtain ⟨z,its,r,p⟩:=h.ok I.hok
    exact ⟨its,r,p,z⟩
  · refine ⟨its.toList,r,⟨o,I.kIn a o hk,hc,n,by simpa using hs⟩,?_⟩
    have e:=r.length
    simp only [Array.length_toList] at e
    omega
theorem Inv.list_inj (I:Inv X pins σ H s)(h:SqL X.K H a xs)(h':SqL X.K H a ys):xs=ys:=by
  obtain ⟨its,r,⟨o,n,e,_,_,d⟩,_⟩:=I.list h
  obtain ⟨its',r',⟨o',n',e',_,_,d'⟩,_⟩:=I.list h'
  rw [e] at e';cases e'
  rw [d] at d'
  injection d' with d1 _
  have:its=its':=by simpa using congrArg Array.toList d1
  subst this
  exact r.inj r'
theorem Inv.tuple_inj (I:Inv X pins σ H s)(h:SqT X.K H a xs)(h':SqT X.K H a ys):xs=ys:=by
  obtain ⟨its,r,⟨o,e,_,n,d⟩,_⟩:=I.tuple h
  obtain ⟨its',r',⟨o',e',_,n',d'⟩,_⟩:=I.tuple h'
  rw [e] at e';cases e'
  rw [d] at d'
  injection d' with d1 _
  have:its=its':=by simpa using congrArg Array.toList d1
  subst this
  exact r.inj r'
end
noncomputable abbrev Cx.wish (X:Cx)(E:Value→Shared→Prop):Cx:={ X with xe:=E }
noncomputable abbrev Cx.nox (X:Cx):Cx:=X.wish fun _ _=>False
theorem Cx.Ok.wish {X:Cx}(ok:X.Ok)(E:Value→Shared→Prop):(X.wish E).Ok :=
  ⟨ok.mod,ok.kind,ok.glob,ok.blt,ok.above,ok.inj,ok.has,ok.cab,ok.hd,ok.frames,ok.stk,ok.exf,ok.bs,ok.bsz,ok.noex,ok.exfs,ok.funs,ok.frf⟩
theorem Cx.Ok.unwish {X:Cx}{E:Value→Shared→Prop}(ok:(X.wish E).Ok):X.Ok :=
  ⟨ok.mod,ok.kind,ok.glob,ok.blt,ok.above,ok.inj,ok.has,ok.cab,ok.hd,ok.frames,ok.stk,ok.exf,ok.bs,ok.bsz,ok.noex,ok.exfs,ok.funs,ok.frf⟩
section
variable {X:Cx}{pins:List (Addr × Obj)}{σ:St}{H:Hp}{s:Shared}{E:Value→Shared→Prop}
theorem Inv.wish (I:Inv X pins σ H s)(E:Value→Shared→Prop):Inv (X.wish E) pins σ H s:=⟨I.ok.wish E,I.os,I.bare,I.base,I.loc,I.cell,I.free,I.freeC,I.pin,I.hok,I.len⟩
theorem Inv.unwish (I:Inv (X.wish E) pins σ H s):Inv X pins σ H s:=⟨I.ok.unwish,I.os,I.bare,I.base,I.loc,I.cell,I.free,I.freeC,I.pin,I.hok,I.len⟩
theorem SP.unwish {D:zae}{f:Flow}{s':Shared}(h:SP (X.wish E) pins D f s'):SP X pins D f s':=by
  cases f with
  | next=>obtain ⟨σ',H',I,q⟩:=h;exact ⟨σ',H',I.unwish,q⟩
  | brk=>obtain ⟨σ',H',I,q⟩:=h;exact ⟨σ',H',I.unwish,q⟩
  | cont=>obtain ⟨σ',H',I,q⟩:=h;exact ⟨σ',H',I.unwish,q⟩
  | ret u=>obtain ⟨v,σ',H',I,r,q⟩:=h;exact ⟨v,σ',H',I.unwish,r,q⟩
theorem PSs.nox {st:List Stmt}{t:TS}(h:PSs X.nox st t):PSs X st t:=fun pins s σ H D I hw =>
  wpAny_mono (h pins s σ H D (I.wish _) hw) (fun _ _ q=>q.unwish) fun _ _ z=>False.elim z
end
section
variable {X:Cx}{st:Stmt}{rest:List Stmt}{t u:TS}{e:Expr}{te:TE}{pos:Pos}
noncomputable def zhM:TS:=fun D σ H=>D.nx σ H
noncomputable def zki (t u:TS):TS:=fun D σ H=>t { D with nx:=u D } σ H
theorem zbq:PSs X [] zhM:=fun _ _ σ H _ I h=>wpAny_execs_nil ⟨σ,H,I,h⟩
theorem wL (h1:PS X st t)(h2:PSs X rest u):PSs X (st::rest) (zki t u):=by
  intro pins s σ H D I h
  refine wpAny_execs_cons (thn (h1 pins s σ H { D with nx:=u D } I h) fun f s1 q=>?_)
  cases f with
  | next =>
    obtain ⟨σ',H',I',q⟩:=q
    exact h2 pins s1 σ' H' D I' q
  | ret v=>exact q
  | brk=>exact q
  | cont=>exact q
theorem ZA (h1:PS X st t):PSs X [st] t:=by
  intro pins s σ H D I h
  refine wpAny_execs_cons (thn (h1 pins s σ H D I h) fun f s1 q=>?_)
  cases f with
  | next=>exact wpAny_execs_nil q
  | ret v=>exact q
  | brk=>exact q
  | cont=>exact q
theorem Inv.quiet {pins:List (Addr × Obj)}{σ:St}{H:Hp}{s:Shared}(I:Inv X pins σ H s):interactive X.env=false:=by simp [interactive,I.ok.kind]
noncomputable def zkV (te:TE):TS:=fun D σ H=>te σ H fun _ H1=>D.nx σ H1
theorem Vx (he:PE X e te)(hs:swapsWith e none pos.line X.env=pure false:=by rfl):PS X (.Expr e pos) (zkV te):=by
  intro pins s σ H D I h
  exact wpAny_Expr_any (thn (he pins s σ H _ I h) fun v s1 ⟨x,H1,I1,r1,q1⟩=>⟨σ,H1,I1,q1⟩) I.quiet hs
noncomputable def zkq (te:TE):TS:=fun D σ H=>te σ H D.rt
theorem zai (he:PE X e te):PS X (.Return (some e) pos) (zkq te):=by
  intro pins s σ H D I h
  exact wpAny_Return_some (thn (he pins s σ H _ I h) fun v s1 ⟨x,H1,I1,r1,q1⟩=>⟨x,σ,H1,I1,r1,q1⟩)
noncomputable def zkI (c:TT)(t u:TS):TS:=fun D σ H=>c σ H fun b H1=>if b=true then t D σ H1 else u D σ H1
theorem zfp {c:Expr}{a b:List Stmt}{tc:TT}(hc:PT X c tc)(ha:PSs X a t)(hb:PSs X b u):PS X (.If c a b pos) (zkI tc t u):=by
  intro pins s σ H D I h
  refine wpAny_If (thn (hc pins s σ H _ I h) fun d s1 hh9=>?_)
  obtain ⟨H1,I1,q1⟩:=hh9
  cases d with
  | true=>exact ha pins s1 σ H1 D I1 q1
  | false=>exact hb pins s1 σ H1 D I1 q1
noncomputable def zg0:TS:=fun _ _ _=>False
theorem zbF:PS X st zg0:=fun _ _ _ _ _ _ h=>h.elim
theorem zc5 {sts:List Stmt}:PSs X sts zg0:=fun _ _ _ _ _ _ h=>h.elim
end
noncomputable abbrev TG:=V→St→Hp→(St→Hp→Prop)→Prop
noncomputable abbrev TGs:=List V→St→Hp→(St→Hp→Prop)→Prop
noncomputable def PG (X:Cx)(target:Expr)(t:TG):Prop :=
  ∀ (pins:List (Addr × Obj)) (s:Shared) (σ:St) (H:Hp) (v:V) (u:Value) (Q:St→Hp→Prop),Inv X pins σ H s→xw v u→t v σ H Q →
    wpAny (model X.prog X.w) X.A (assign target X.env u) (fun _ s'=>∃ σ' H',Inv X pins σ' H' s'∧Q σ' H') X.xe s
noncomputable def PGs (X:Cx)(ts:List Expr)(t:TGs):Prop :=
  ∀ (pins:List (Addr × Obj)) (s:Shared) (σ:St) (H:Hp) (vs:List V) (us:List Value) (Q:St→Hp→Prop),Inv X pins σ H s→xj vs us→t vs σ H Q →
    wpAny (model X.prog X.w) X.A (assignInOrder ((assignEach ts X.env).map (·.2)) us) (fun _ s'=>∃ σ' H',Inv X pins σ' H' s'∧Q σ' H') X.xe s
noncomputable abbrev zkD:=V→V→V→Hp→(Hp→Prop)→Prop
noncomputable def PSet (X:Cx)(t:zkD):Prop :=
  ∀ (pins:List (Addr × Obj)) (s:Shared) (σ:St) (H:Hp) (o i v:V) (ov iv u:Value) (Q:Hp→Prop),Inv X pins σ H s→xw o ov→xw i iv→xw v u→t o i v H Q →
    wpAny (model X.prog X.w) X.A (setItem ov iv u) (fun _ s'=>∃ H',Inv X pins σ H' s'∧Q H') X.xe s
section
variable {X:Cx}{pos:Pos}
noncomputable def V7 (i:Nat):TG:=fun v σ H Q=>Q (σ.set i (some v)) H
theorem yI {i:Nat}{x:Str}(hN:X.N.Nodup)(hi:X.N[i]?=some x)(hx:Loc X.env.scope x)(hf:X.fn x=true∨X.env.scope.names.lookup x=some .local:=by first | exact .inl rfl | exact .inr rfl | assumption):PG X (.Name x pos) (V7 i):=by
  intro pins s σ H v u Q I r h
  exact wpAny_assign_Name (VJ I hN hi hx r (fun s' I'=>⟨_,H,I',h⟩) hf)
noncomputable def gNil:TGs:=fun vs σ H Q=>vs=[]∧Q σ H
noncomputable def zkl (t:TG)(u:TGs):TGs:=fun vs σ H Q=>∃ v r,vs=v::r∧t v σ H fun σ' H'=>u r σ' H' Q
theorem zh8:PGs X [] gNil:=by
  intro pins s σ H vs us Q I r h
  obtain ⟨e,h⟩:=h
  subst e
  cases r
  exact assignInOrder_nil ⟨σ,H,I,h⟩
theorem ze5 {e:Expr}{es:List Expr}{t:TG}{u:TGs}(h1:PG X e t)(h2:PGs X es u)
    (hs:(assignEach (e::es) X.env).map (·.2)=assign e X.env::(assignEach es X.env).map (·.2):=by rfl):PGs X (e::es) (zkl t u):=by
  intro pins s σ H vs us Q I r h
  obtain ⟨v,vr,e1,h⟩:=h
  subst e1
  cases r with
  | cons r rr =>
    rw [hs]
    refine assignInOrder_cons (thn (h1 pins s σ H _ _ _ I r h) fun _ s1 hh9=>?_)
    obtain ⟨σ1,H1,I1,q1⟩:=hh9
    exact h2 pins s1 σ1 H1 _ _ Q I1 rr q1
noncomputable def gTup (K:PySem.W.Frag)(n:Nat)(t:TGs):TG:=fun v σ H Q=>∃ a xs,v=.ref a∧SqT K H a xs∧xs.length=n∧t xs σ H Q
theorem zjH {es:List Expr}{k:Nat}{t:TGs}{n:Nat}(hc:X.calm=true)(h:PGs X es t)
    (hn:(assignEach es X.env).length=n:=by rfl) (hst:(assignEach es X.env).findIdx? (·.1)=none:=by rfl):PG X (.Tuple es k pos) (gTup X.K n t):=by
  intro pins s σ H v u Q I r hw
  obtain ⟨a,xs,e1,hq,hl,hw⟩:=hw
  subst e1
  cases r
  obtain ⟨its,rv,ht,hz⟩:=I.tuple hq
  refine assign_Tuple_tuple (I.ok.hd hc) ht (by simp [hn,← hl,rv.length]) hst fun h' hx=>?_
  have I1:Inv X pins σ H { s with heap:=h' }:=I.kept (t':=s.toks) fun b o e=>hx b o (Nat.ne_of_lt (Heap.lt_size e)) e
  exact h pins _ σ H xs _ Q I1 (by simpa using rv) hw
noncomputable def gSub (to ti:TE)(t:zkD):TG:=fun v σ H Q=>to σ H fun o H1=>ti σ H1 fun i H2=>t o i v H2 fun H3=>Q σ H3
theorem ziK {o i:Expr}{to ti:TE}{t:zkD}(ho:PE X o to)(hi:PE X i ti)(hs:PSet X t)
    (ha:∀ v,assign (.Subscript o i pos) X.env v=(do
      let ov←holding [v] (eval o X.env)
      let iv←holding [v,ov] (eval i X.env)
      standAt pos
      holding [v,ov,iv] (setItem ov iv v)
      release [v,ov,iv] []):=by intro _;rfl):PG X (.Subscript o i pos) (gSub to ti t):=by
  intro pins s σ H v u Q I r h
  rw [ha]
  refine wpAny_bind (wpAny_holding (thn (ho pins s σ H _ I h) fun ov s1 hh9=>?_))
  obtain ⟨x,H1,I1,r1,q1⟩:=hh9
  refine wpAny_bind (wpAny_holding (thn (hi pins s1 σ H1 _ I1 q1) fun iv s2 hh9=>?_))
  obtain ⟨y,H2,I2,r2,q2⟩:=hh9
  refine wpAny_bind (wpAny_standAt (wpAny_bind (wpAny_holding (thn (hs pins s2 σ H2 x y v ov iv u _ I2 r1 r2 r q2) fun _ s3 hh9=>?_))))
  obtain ⟨H3,I3,q3⟩:=hh9
  exact wpAny_release ⟨σ,H3,I3,q3⟩
noncomputable def zj9 (te:TE)(g:TG):TS:=fun D σ H=>te σ H fun x H1=>g x σ H1 D.nx
theorem zjR {tg e:Expr}{te:TE}{g:TG}(he:PE X e te)(hg:PG X tg g)(hs:swapsWithSole [tg] e pos.line X.env=pure false:=by rfl)(hw:swappedStores [tg] e X.env=pure none:=by rfl)
    (h1:(assignEach [tg] X.env).map (·.2)=[assign tg X.env]:=by rfl):PS X (.Assign [tg] e pos) (zj9 te g):=by
  intro pins s σ H D I h
  refine wpAny_Assign_stores (thn (he pins s σ H _ I h) fun v s1 hh9=>?_) hs hw
  obtain ⟨x,H1,I1,r1,q1⟩:=hh9
  rw [h1]
  exact thn (hg pins s1 σ H1 x v _ I1 r1 q1) fun _ s2 q=>q
theorem ZI {i:Nat}{x:Str}{e:Expr}{te:TE}{pos':Pos}(hN:X.N.Nodup)(hi:X.N[i]?=some x)(hx:Loc X.env.scope x)(he:PE X e te)(hs:swapsWith e (some (.Name x pos')) pos.line X.env=pure false:=by rfl)(hf:X.fn x=true∨X.env.scope.names.lookup x=some .local:=by first | exact .inl rfl | exact .inr rfl | assumption) :
    PS X (.Assign [.Name x pos'] e pos) (zj9 te (V7 i)):=by
  intro pins s σ H D I h
  refine wpAny_Assign_Name (thn (he pins s σ H _ I h) fun v s1 hh9=>?_) hs
  obtain ⟨y,H1,I1,r1,q1⟩:=hh9
  exact VJ I1 hN hi hx r1 (fun s2 I2=>⟨_,H1,I2,q1⟩) hf
end
section
variable {X:Cx}{pos:Pos}
noncomputable def ziN (c:TT)(tb:TS):TS:=fun D σ H=>∃ W:Nat→St→Hp→Prop,(∃ m,W m σ H)∧∀ m σ H,W m σ H →
  c σ H fun b H1=>if b=true then ∃ N:St→Hp→Prop,(∀ σ' H',N σ' H'→∃ m',m' < m∧W m' σ' H')∧tb { D with nx:=N,ct:=N,bk:=D.nx } σ H1 else D.nx σ H1
theorem zfQ {c:Expr}{body:List Stmt}{tc:TT}{tb:TS}(hp:PassesOwn (model X.prog X.w) X.A X.env X.xe)(hc:PT X c tc)(hb:PSs X body tb):PS X (.While c body [] pos) (ziN tc tb):=by
  intro pins s σ H D I h
  obtain ⟨W,⟨m0,w0⟩,turn⟩:=h
  refine wpAny_While (codeAny_whileLoop (fun n s'=>∃ σ' H',Inv X pins σ' H' s'∧W n σ' H') ?_ m0 ⟨σ,H,I,w0⟩)
  rintro n s1 ⟨σ1,H1,I1,w1⟩
  refine wpAny_passesOwn hp (thn (hc pins s1 σ1 H1 _ I1 (turn n σ1 H1 w1)) fun b s2 hh9=>?_)
  obtain ⟨H2,I2,q2⟩:=hh9
  cases b with
  | true =>
    obtain ⟨N,hN,q2⟩:=q2
    rw [if_pos rfl]
    refine wpAny_passesOwn hp (thn (hb pins s2 σ1 H2 _ I2 q2) fun f s3 q3=>?_)
    cases f with
    | next =>
      obtain ⟨σ3,H3,I3,n3⟩:=q3
      obtain ⟨m',hm,w3⟩:=hN σ3 H3 n3
      exact ⟨m',hm,σ3,H3,I3,w3⟩
    | cont =>
      obtain ⟨σ3,H3,I3,n3⟩:=q3
      obtain ⟨m',hm,w3⟩:=hN σ3 H3 n3
      exact ⟨m',hm,σ3,H3,I3,w3⟩
    | brk=>exact q3
    | ret v=>exact q3
  | false =>
    rw [if_neg Bool.false_ne_true]
    exact wpAny_execs_nil ⟨σ1,H2,I2,q2⟩
end
structure It where
  go:Nat→Hp→Prop
  yld:Nat→Hp→V→Hp→Prop
  stop:Nat→Hp→Prop
noncomputable def zaJ (X:Cx)(pins:List (Addr × Obj))(H:Hp)(b:Addr):Prop :=
  H b=none∧b≠X.env.locals∧b∉X.fs∧(b∈X.ex∨X.s₀.heap.objs.size≤b)∧(∀ x c,X.env.cells.lookup x=some c→c≠b)∧∀ p∈X.pn++pins,p.1≠b
theorem Inv.fpOk {X:Cx}{pins:List (Addr × Obj)}{σ:St}{H H':Hp}{s:Shared}{b:Addr}(I:Inv X pins σ H s)(hb:s.heap.objs.size≤b)(hn:H' b=none):zaJ X pins H' b:=by
  refine ⟨hn,Nat.ne_of_gt (Nat.lt_of_lt_of_le I.lt hb),I.nofs hb,.inr (Nat.le_trans I.sz hb),fun x c e z=>?_,fun p hp z=>?_⟩
  · obtain ⟨v,q⟩:=I.cell x c e
    exact absurd (Nat.lt_of_lt_of_le q.lt (by rw [z];exact hb)) (Nat.lt_irrefl _)
  · exact absurd (Nat.lt_of_lt_of_le (Heap.lt_size (I.pin p hp).1) (by rw [z];exact hb)) (Nat.lt_irrefl _)
set_option genInjectivity false in
set_option genSizeOf false in
set_option genCtorIdx false in
structure zgm (P:Program) (w:World) (K:PySem.W.Frag) (tg:Expr) (J:It) (fp:List Addr) (it:Addr) (tn:Nat→Heap→Prop):Prop where
  mem:it∈fp
  obj:∀ i h,tn i h→∀ b∈fp,∃ o,h.get? b=some o∧∀ v,o.data≠.cell v
  keep:∀ i h h',tn i h→(∀ b∈fp,∀ o,h.get? b=some o→h'.get? b=some o)→tn i h'
  item:∀ (X:Cx),X.prog=P→X.w=w→X.K=K→X.calm=true→∀ (i:Nat) (pins:List (Addr × Obj)) (s:Shared) (σ:St) (H:Hp) (E:Value→Shared→Prop),Inv X pins σ H s→(∀ b∈fp,zaJ X pins H b)→tn i s.heap→J.go i H →
    wpAny (model P w) X.A (pyNext (.ref it)) (fun r s1=>∃ u,r=some u ∧
      wpAny (model P w) X.A (letOwnedTupleGo tg (.ref it) u) (fun _ s2=>∃ x H',Inv X pins σ H' s2∧xw x u∧J.yld i H x H'∧tn (i+1) s2.heap∧∀ b∈fp,H' b=none) E s1) E s
  done:∀ (X:Cx),X.prog=P→X.w=w→X.K=K→X.calm=true→∀ (i:Nat) (pins:List (Addr × Obj)) (s:Shared) (σ:St) (H:Hp) (E:Value→Shared→Prop),Inv X pins σ H s→(∀ b∈fp,zaJ X pins H b)→tn i s.heap→J.stop i H →
    wpAny (model P w) X.A (pyNext (.ref it)) (fun r s1=>r=none∧Inv X pins σ H s1) E s
  self:∀ (A:Around) (i:Nat) (s:Shared) (Q:Value→Shared→Prop) (E:Value→Shared→Prop),tn i s.heap→Q (.ref it) s→wpAny (model P w) A (pyIter (.ref it)) Q E s
noncomputable abbrev TI:=St→Hp→(It→Hp→Prop)→Prop
noncomputable def PIE (X:Cx)(pins:List (Addr × Obj))(σ:St)(tg:Expr)(R:It→Hp→Prop)(itv:Value)(s2:Shared):Prop :=
  ∃ (it:Addr) (fp:List Addr) (tn:Nat→Heap→Prop) (J:It) (H':Hp),itv=.ref it∧Inv X pins σ H' s2∧zgm X.prog X.w X.K tg J fp it tn∧tn 0 s2.heap∧(∀ b∈fp,zaJ X pins H' b)∧R J H'
noncomputable def PI (X:Cx)(tg iter:Expr)(wi:TI):Prop :=
  ∀ (pins:List (Addr × Obj)) (s:Shared) (σ:St) (H:Hp) (R:It→Hp→Prop),Inv X pins σ H s→wi σ H R →
    wpAny (model X.prog X.w) X.A (eval iter X.env) (fun v s1=>wpAny (model X.prog X.w) X.A (pyIter v) (PIE X pins σ tg R) X.xe s1) X.xe s
theorem zfh {M:Model}{A:Around}{E:Value→Shared→Prop}{s:Shared}{tg:Expr}{it:Addr}{u:Value}{o:Obj}{n:String}{vs:Array Value}{Q:Unit→Shared→Prop}(ho:s.heap.get? it=some o)(hc:o.cls=.type n)(hd:o.data=.fields vs)
    (hn:["enumerate","zip","dict_itemiterator","dict_reverseitemiterator","odict_iterator","itertools.zip_longest","itertools.pairwise"].contains n=false) (hQ:Q () s):wpAny M A (letOwnedTupleGo tg (.ref it) u) Q E s:=by
  unfold letOwnedTupleGo
  cases tg <;> first
    | exact wpAny_pure hQ
    | (cases u <;> first
        | exact wpAny_pure hQ
        | (refine wpAny_bind (wpAny_load ho ?_)
           rw [hc,hd]
           show wpAny M A (if (["enumerate","zip","dict_itemiterator","dict_reverseitemiterator","odict_iterator","itertools.zip_longest","itertools.pairwise"].contains n&&vs[0]? == some (rawInt _))=true then _ else _) Q E s
           rw [if_neg (by intro h;rw [hn,Bool.false_and] at h;cases h)]
           exact wpAny_pure hQ))
noncomputable def Itl (K:PySem.W.Frag)(a:Addr):It :=
  ⟨fun i H=>∃ xs x,SqL K H a xs∧xs[i]?=some x,fun i H x H'=>H'=H∧∀ xs,SqL K H a xs→xs[i]?=some x,fun i H=>∃ xs,SqL K H a xs∧xs.length≤i⟩
noncomputable def Itt (K:PySem.W.Frag)(a:Addr):It :=
  ⟨fun i H=>∃ xs x,SqT K H a xs∧xs[i]?=some x,fun i H x H'=>H'=H∧∀ xs,SqT K H a xs→xs[i]?=some x,fun i H=>∃ xs,SqT K H a xs∧xs.length≤i⟩
noncomputable def Itr (lo:Int)(n:Nat):It:=⟨fun i _=>i < n,fun i H x H'=>H'=H∧x=.int (lo+i),fun i _=>n≤i⟩
theorem zej {P:Program}{w:World}{K:PySem.W.Frag}{tg:Expr}(a it:Addr):zgm P w K tg (Itl K a) [it] it (fun i h=>h.IsListIter it a i) where
  mem:=by simp
  obj:=fun i h st b hb=>by
    have e:b=it:=by simpa using hb
    subst e
    obtain ⟨o,e,c,d⟩:=st
    exact ⟨o,e,fun v z=>by rw [d] at z;cases z⟩
  keep:=fun i h h' st k=>st.at fun o e=>k it (by simp) o e
  item:=by
    intro X hP hw hK hc i pins s σ H E I hf st hg
    subst hP hw hK
    obtain ⟨xs,x,hq,hx⟩:=hg
    obtain ⟨its,rv,p,hz⟩:=I.list hq
    obtain ⟨u,hu,ru⟩:=rv.get hx
    obtain ⟨f0,f1,f2,f3,f4,f5⟩:=hf it (by simp)
    refine wpAny_pyNext_list_item st p.isList (x:=u) (by simpa using hu) fun h' st' sb=>?_
    have I1:Inv X pins σ H { s with heap:=h' }:=I.turned (t':=s.toks) (fun b o hb e=>(sb.2 b hb).trans e) f0 f1 f3 f4 f5
    obtain ⟨o,e,c,d⟩:=id st'
    exact ⟨u,rfl,zfh (s:={ s with heap:=h' }) e c d (by decide) ⟨x,H,I1,ru,⟨rfl,fun ys hy=>by rw [I.list_inj hy hq];exact hx⟩,st',fun b hb=>(hf b hb).1⟩⟩
  done:=by
    intro X hP hw hK hc i pins s σ H E I hf st hg
    subst hP hw hK
    obtain ⟨xs,hq,hx⟩:=hg
    obtain ⟨its,rv,p,hz⟩:=I.list hq
    obtain ⟨f0,f1,f2,f3,f4,f5⟩:=hf it (by simp)
    have hl:=rv.length
    exact wpAny_pyNext_list_end (I.ok.hd hc) st p.isList (by simp;omega) fun h' eb=>⟨rfl,I.turned (t':=s.toks) (fun b o hb e=>eb b o hb e) f0 f1 f3 f4 f5⟩
  self:=fun _ _ _ _ _ st h=>wpAny_pyIter_listiter st h
theorem zcO {P:Program}{w:World}{K:PySem.W.Frag}{tg:Expr}(a it:Addr):zgm P w K tg (Itt K a) [it] it (fun i h=>h.IsTupleIter it a i) where
  mem:=by simp
  obj:=fun i h st b hb=>by
    have e:b=it:=by simpa using hb
    subst e
    obtain ⟨o,e,c,d⟩:=st
    exact ⟨o,e,fun v z=>by rw [d] at z;cases z⟩
  keep:=fun i h h' st k=>st.at fun o e=>k it (by simp) o e
  item:=by
    intro X hP hw hK hc i pins s σ H E I hf st hg
    subst hP hw hK
    obtain ⟨xs,x,hq,hx⟩:=hg
    obtain ⟨its,rv,p,hz⟩:=I.tuple hq
    obtain ⟨u,hu,ru⟩:=rv.get hx
    obtain ⟨f0,f1,f2,f3,f4,f5⟩:=hf it (by simp)
    refine wpAny_pyNext_tuple_item st (show s.heap.IsTuple a its.toArray from p) (x:=u) (by simpa using hu) fun h' st' sb=>?_
    have I1:Inv X pins σ H { s with heap:=h' }:=I.turned (t':=s.toks) (fun b o hb e=>(sb.2 b hb).trans e) f0 f1 f3 f4 f5
    obtain ⟨o,e,c,d⟩:=id st'
    exact ⟨u,rfl,zfh (s:={ s with heap:=h' }) e c d (by decide) ⟨x,H,I1,ru,⟨rfl,fun ys hy=>by rw [I.tuple_inj hy hq];exact hx⟩,st',fun b hb=>(hf b hb).1⟩⟩
  done:=by
    intro X hP hw hK hc i pins s σ H E I hf st hg
    subst hP hw hK
    obtain ⟨xs,hq,hx⟩:=hg
    obtain ⟨its,rv,p,hz⟩:=I.tuple hq
    obtain ⟨f0,f1,f2,f3,f4,f5⟩:=hf it (by simp)
    have hl:=rv.length
    exact wpAny_pyNext_tuple_end (I.ok.hd hc) st (show s.heap.IsTuple a its.toArray from p) (by simp;omega) fun h' eb=>⟨rfl,I.turned (t':=s.toks) (fun b o hb e=>eb b o hb e) f0 f1 f3 f4 f5⟩
  self:=fun _ _ _ _ _ st h=>wpAny_pyIter_tupleiter st h
theorem zcx {P:Program}{w:World}{K:PySem.W.Frag}{tg:Expr}(it:Addr)(lo:Int)(n:Nat):zgm P w K tg (Itr lo n) [it] it (fun i h=>IsRangeIter h it (lo+(i:Nat)*1) ((n:Int) - (i:Nat)) 1) where
  mem:=by simp
  obj:=fun i h st b hb=>by
    have e:b=it:=by simpa using hb
    subst e
    exact ⟨_,st,fun v z=>by
      have z':Data.fields _=Data.cell v:=z
      cases z'⟩
  keep:=fun i h h' st k=>k it (by simp) _ st
  item:=by
    intro X hP hw hK hc i pins s σ H E I hf st hg
    subst hP hw hK
    obtain ⟨f0,f1,f2,f3,f4,f5⟩:=hf it (by simp)
    have W:=Walks.range (prog:=X.prog) (w:=X.w) (I.ok.hd hc) it lo 1 n
    refine W.item i s _ _ hg st fun v h' tk hv st' kk=>?_
    obtain ⟨t,rfl⟩:=hv
    have I1:Inv X pins σ H { s with heap:=h',toks:=tk }:=I.turned (fun b o hb e=>kk b o (by simpa using hb) e) f0 f1 f3 f4 f5
    refine ⟨_,rfl,zfh (s:={ s with heap:=h',toks:=tk }) (n:="range_iterator") st' rfl rfl (by decide) ⟨.int (lo+i),H,I1,⟨t,?_⟩,⟨rfl,rfl⟩,st',fun b hb=>(hf b hb).1⟩⟩
    rw [Int.mul_one]
  done:=by
    intro X hP hw hK hc i pins s σ H E I hf st hg
    subst hP hw hK
    obtain ⟨f0,f1,f2,f3,f4,f5⟩:=hf it (by simp)
    exact wpAny_pyNext_range_end (I.ok.hd hc) st (by have:n≤i:=hg;omega) fun h' eb=>⟨rfl,I.turned (t':=s.toks) (fun b o hb e=>eb b o hb e) f0 f1 f3 f4 f5⟩
  self:=fun _ _ _ _ _ st h=>wpAny_pyIter_rangeiter st h
end L2
namespace L2
open PySem PySem.Spec PyProof.Rows
section
variable {X:Cx}{tg:Expr}
theorem zbO {pins:List (Addr × Obj)}{σ:St}{H:Hp}{s:Shared}{R:It→Hp→Prop}{E:Value→Shared→Prop}{lo hi:Int}{t u v:Tok}{tk:Nat}(I:Inv X pins σ H s)(h1:-(2 ^ 62)≤lo)(h2:lo < 2 ^ 62)(h3:-(2 ^ 62)≤hi)(h4:hi < 2 ^ 62)
    (q:R (Itr lo (hi - lo).toNat) H):wpAny (model X.prog X.w) X.A (pyIter (.ref s.heap.objs.size)) (PIE X pins σ tg R) E { s with heap:=s.heap.push { cls:=.type "range",data:=.fields #[.int lo t,.int hi u,.int 1 v] },toks:=tk }:=by
  refine wpAny_pyIter_range (IsRange.new ..) (small_one h1 h2 h3 h4) ?_
  have I1:Inv X pins σ H { s with heap:=s.heap.push { cls:=.type "range",data:=.fields #[.int lo t,.int hi u,.int 1 v] },toks:=tk }:=I.kept fun b o e=>Heap.get?_push_of_some _ e
  refine ⟨(s.heap.push { cls:=.type "range",data:=.fields #[.int lo t,.int hi u,.int 1 v] }).objs.size,[(s.heap.push { cls:=.type "range",data:=.fields #[.int lo t,.int hi u,.int 1 v] }).objs.size],_,_,H,rfl,
    I1.kept (t':=tk) fun b o e=>Heap.get?_push_of_some _ e,zcx _ lo (hi - lo).toNat,?_,fun b hb=>?_,q⟩
  · have e1:lo+((0:Nat):Int)*1=lo:=by simp
    have e2:(((hi - lo).toNat:Nat):Int) - ((0:Nat):Int)=Builtin.Range.rangeSize lo hi 1:=by rw [rangeSize_one];split <;> omega
    show IsRangeIter _ _ (lo+((0:Nat):Int)*1) ((((hi - lo).toNat:Nat):Int) - ((0:Nat):Int)) 1
    rw [e1,e2]
    exact Heap.get?_push_size _ rfl
  · have e:b=(s.heap.push { cls:=.type "range",data:=.fields #[.int lo t,.int hi u,.int 1 v] }).objs.size:=by simpa using hb
    subst e
    exact I1.fpOk (Nat.le_refl _) (I1.hok.fresh (Nat.le_refl _))
noncomputable def zk3 (ta:TA):TI:=fun σ H R=>ta σ H fun vs H1=>∃ j:Int,vs=[.int j]∧-(2 ^ 62)≤j∧j < 2 ^ 62∧R (Itr 0 j.toNat) H1
noncomputable def zkB (ta:TA):TI:=fun σ H R=>ta σ H fun vs H1=>∃ i j:Int,vs=[.int i,.int j]∧(-(2 ^ 62)≤i∧i < 2 ^ 62∧-(2 ^ 62)≤j∧j < 2 ^ 62)∧R (Itr i (j - i).toNat) H1
theorem VV {a:Expr} {ta:TA} {p pos:Pos} (hg:Gl X "range") (hm:X.mg "range"=none) (ha:PA X [a] ta) (hs:starEach [a] X.env=[(false,eval a X.env)]:=by rfl):PI X tg (.Call (.Name "range" p) [a] [] pos) (zk3 ta):=by
  intro pins s σ H R I h
  refine Call_ (Wa I hg hm boot_range (PyProof.Rows.callWith_type1 (thn (ha pos pins s σ H _ I h) fun us s1 hh9=>?_) hs rfl))
  obtain ⟨vs,H1,I1,r1,q1⟩:=hh9
  obtain ⟨j,e,q1,q2,q⟩:=q1
  subst e
  cases r1 with
  | cons r rr =>
    cases rr
    obtain ⟨t,rfl⟩:=r
    exact call_range_1 (zbO I1 (by omega) (by omega) q1 q2 (by simpa using q))
theorem zea {a b:Expr} {ta:TA} {p pos:Pos} (hg:Gl X "range") (hm:X.mg "range"=none) (ha:PA X [a,b] ta) (hs:starEach [a,b] X.env=[(false,eval a X.env),(false,eval b X.env)]:=by rfl) (hs2:starEach [b] X.env=[(false,eval b X.env)]:=by rfl) :
    PI X tg (.Call (.Name "range" p) [a,b] [] pos) (zkB ta):=by
  intro pins s σ H R I h
  refine Call_ (Wa I hg hm boot_range (PyProof.Rows.callWith_type1 (thn (ha pos pins s σ H _ I h) fun us s1 hh9=>?_) (by rw [hs,hs2]) (by rw [hs2];rfl)))
  obtain ⟨vs,H1,I1,r1,q1⟩:=hh9
  obtain ⟨i,j,e,⟨q1,q2,q3,q4⟩,q⟩:=q1
  subst e
  cases r1 with
  | cons r rr =>
    cases rr with
    | cons r' rr =>
      cases rr
      obtain ⟨t,rfl⟩:=r
      obtain ⟨t',rfl⟩:=r'
      exact call_range_2 (zbO I1 q1 q2 q3 q4 q)
noncomputable def tFor (wi:TI)(g:TG)(tb:TS):TS:=fun D σ H=>wi σ H fun J H1=>∃ W:Nat→Nat→St→Hp→Prop,(∃ m,W 0 m σ H1)∧∀ i m σ H,W i m σ H →
  (J.stop i H∧D.nx σ H)∨(J.go i H∧∃ N:St→Hp→Prop,(∀ σ' H',N σ' H'→∃ m',m' < m∧W (i+1) m' σ' H')∧∀ x H',J.yld i H x H'→g x σ H' fun σ2 H2=>tb { D with nx:=N,ct:=N,bk:=D.nx } σ2 H2)
noncomputable def Xr (fp:List Addr)(h:Heap):List (Addr × Obj):=fp.filterMap fun b=>(h.get? b).map fun o=>(b,o)
theorem vi {fp:List Addr}{h:Heap}{b:Addr}{o:Obj}(hb:b∈fp)(e:h.get? b=some o):(b,o)∈Xr fp h:=List.mem_filterMap.mpr ⟨b,hb,by rw [e];rfl⟩
theorem zdb {fp:List Addr}{h:Heap}{p:Addr × Obj}(hp:p∈Xr fp h):p.1∈fp∧h.get? p.1=some p.2:=by
  obtain ⟨b,hb,e⟩:=List.mem_filterMap.mp hp
  cases q:h.get? b with
  | none=>rw [q] at e;cases e
  | some o =>
    rw [q] at e
    have e':(b,o)=p:=Option.some.inj e
    subst e'
    exact ⟨hb,q⟩
theorem Inv.pinned {pins:List (Addr × Obj)}{σ:St}{H:Hp}{s:Shared}{fp:List Addr}(I:Inv X pins σ H s)(hf:∀ b∈fp,zaJ X pins H b)(ho:∀ b∈fp,∃ o,s.heap.get? b=some o∧∀ v,o.data≠.cell v):Inv X (pins++Xr fp s.heap) σ H s :=
  I.pins_of fun p hp=>(List.mem_append.mp hp).elim (fun z=>I.pin p (List.mem_append_right _ z)) fun z=>by
    obtain ⟨hb,e⟩:=zdb z
    obtain ⟨f0,f1,f2,_⟩:=hf p.1 hb
    obtain ⟨o,e',d⟩:=ho p.1 hb
    rw [e] at e';cases e'
    exact ⟨e,f0,f1,f2,d⟩
theorem Inv.unpinned {pins pl:List (Addr × Obj)}{σ:St}{H:Hp}{s:Shared}(I:Inv X (pins++pl) σ H s):Inv X pins σ H s:=I.pins_of fun p hp=>I.pin p (List.mem_append_right _ (List.mem_append_left _ hp))
theorem zgH {iter:Expr}{body:List Stmt}{wi:TI}{g:TG}{tb:TS}{pos:Pos}(hp:PassesOwn (model X.prog X.w) X.A X.env X.xe)(hc:X.calm=true)(hi:PI X tg iter wi)(hg:PG X tg g)(hb:PSs X body tb)
    (hs:∀ x,foldedSetIterable iter X.env x=pure x:=by intro _;rfl):PS X (.For tg iter body [] pos) (tFor wi g tb):=by
  intro pins s σ H D I h
  refine wpAny_For (thn (hi pins s σ H _ I h) fun v s1 h1=>thn h1 fun itv s2 h2=>?_) hs
  obtain ⟨it,fp,tn,J,H2,e,I2,T,st2,f2,W,⟨m0,w0⟩,turn⟩:=h2
  subst e
  -- what stays true of the iterator's objects through the loop
  have stat:∀ {H':Hp},(∀ b∈fp,H' b=none)→∀ b∈fp,zaJ X pins H' b:=fun hn b hb=>⟨hn b hb,(f2 b hb).2⟩
  refine codeAny_forLoop_any (fun n s'=>∃ i σ' H',Inv X pins σ' H' s'∧tn i s'.heap∧(∀ b∈fp,H' b=none)∧W i n σ' H') ?_ m0 ⟨0,σ,H2,I2,st2,fun b hb=>(f2 b hb).1,w0⟩
  rintro n s3 ⟨i,σ3,H3,I3,st3,fr3,w3⟩
  rcases turn i n σ3 H3 w3 with ⟨stop,qn⟩ | ⟨go,N,hN,step⟩
  · refine wpAny_passesOwn hp (thn (T.done X rfl rfl rfl hc i pins s3 σ3 H3 X.xe I3 (stat fr3) st3 stop) fun r s4 hh9=>?_)
    obtain ⟨hr,I4⟩:=hh9
    subst hr
    exact wpAny_execs_nil ⟨σ3,H3,I4,qn⟩
  · refine wpAny_passesOwn hp (thn (T.item X rfl rfl rfl hc i pins s3 σ3 H3 X.xe I3 (stat fr3) st3 go) fun r s4 hh9=>?_)
    obtain ⟨u,hr,h4⟩:=hh9
    subst hr
    refine wpAny_passesOwn hp (thn h4 fun _ s5 hh9=>?_)
    obtain ⟨x,H5,I5,r5,y5,st5,fr5⟩:=hh9
    have I5':=I5.pinned (stat fr5) (T.obj _ _ st5)
    refine wpAny_passesOwn hp (thn (hg _ s5 σ3 H5 x u _ I5' r5 (step x H5 y5)) fun _ s6 hh9=>?_)
    obtain ⟨σ6,H6,I6,q6⟩:=hh9
    refine wpAny_passesOwn hp (thn (hb _ s6 σ6 H6 _ I6 q6) fun f s7 q7=>?_)
    have again:∀ {σ7:St} {H7:Hp},Inv X (pins++Xr fp s5.heap) σ7 H7 s7→N σ7 H7→∃ m,m < n∧∃ i σ' H',Inv X pins σ' H' s7∧tn i s7.heap∧(∀ b∈fp,H' b=none)∧W i m σ' H':=fun {σ7 H7} I7 n7=>by
      obtain ⟨m',hm,w7⟩:=hN σ7 H7 n7
      refine ⟨m',hm,i+1,σ7,H7,I7.unpinned,T.keep _ _ _ st5 fun b hb o e=>(I7.pin (b,o) (List.mem_append_right _ (List.mem_append_right _ (vi hb e)))).1,fun b hb=>?_,w7⟩
      obtain ⟨o,e,d⟩:=T.obj _ _ st5 b hb
      exact (I7.pin (b,o) (List.mem_append_right _ (List.mem_append_right _ (vi hb e)))).2.1
    cases f with
    | next=>obtain ⟨σ7,H7,I7,n7⟩:=q7;exact again I7 n7
    | cont=>obtain ⟨σ7,H7,I7,n7⟩:=q7;exact again I7 n7
    | brk=>obtain ⟨σ7,H7,I7,q7⟩:=q7;exact ⟨σ7,H7,I7.unpinned,q7⟩
    | ret v=>obtain ⟨x7,σ7,H7,I7,r7,q7⟩:=q7;exact ⟨x7,σ7,H7,I7.unpinned,r7,q7⟩
end
end L2
namespace L2
open PySem PySem.Spec PyProof.Rows
noncomputable abbrev R2:=V→V→Hp→VK→Prop
noncomputable def OpR (X:Cx)(f:Value→Value→Sem Value)(r:R2):Prop :=
  ∀ (pins:List (Addr × Obj)) (s:Shared) (σ:St) (H:Hp) (x y:V) (v u:Value) (Q:VK),Inv X pins σ H s→xw x v→xw y u→r x y H Q →
    wpAny (model X.prog X.w) X.A (f v u) (EP X pins σ Q) X.xe s
noncomputable def UnR (X:Cx)(f:Value→Sem Value)(r:V→Hp→VK→Prop):Prop :=
  ∀ (pins:List (Addr × Obj)) (s:Shared) (σ:St) (H:Hp) (x:V) (v:Value) (Q:VK),Inv X pins σ H s→xw x v→r x H Q →
    wpAny (model X.prog X.w) X.A (f v) (EP X pins σ Q) X.xe s
noncomputable def Zx (X:Cx)(f:Value)(r:List V→Hp→VK→Prop):Prop :=
  ∀ (pins:List (Addr × Obj)) (s:Shared) (σ:St) (H:Hp) (xs:List V) (us:List Value) (Q:VK),Inv X pins σ H s→xj xs us→r xs H Q →
    wpAny (model X.prog X.w) X.A (call f us) (EP X pins σ Q) X.xe s
noncomputable def tOp (r:R2)(ta tb:TE):TE:=fun σ H Q=>ta σ H fun x H1=>tb σ H1 fun y H2=>r x y H2 Q
noncomputable def tUn (r:V→Hp→VK→Prop)(ta:TE):TE:=fun σ H Q=>ta σ H fun x H1=>r x H1 Q
noncomputable def rI (C:Int→Int→Prop)(g:Int→Int→V):R2:=fun x y H Q=>∃ i j,x=.int i∧y=.int j∧C i j∧Q (g i j) H
noncomputable def rI0 (g:Int→Int→V):R2:=fun x y H Q=>∃ i j,x=.int i∧y=.int j∧Q (g i j) H
noncomputable def rU (g:Int→V):V→Hp→VK→Prop:=fun x H Q=>∃ i,x=.int i∧Q (g i) H
section
variable {X:Cx}{a b c:Expr}{ta tb tc:TE}{pos:Pos}
theorem zk4 (ha:PE X a ta)(hb:PE X b tb){pins:List (Addr × Obj)}{s:Shared}{σ:St}{H:Hp}{R:V→V→Hp→Prop}(I:Inv X pins σ H s)
    (h:ta σ H fun x H1=>tb σ H1 fun y H2=>R x y H2) {Q:Value→Shared→Prop} {f:Value→Value→Sem Value}
    (hf:∀ v u s2 x y H2,Inv X pins σ H2 s2→xw x v→xw y u→R x y H2→wpAny (model X.prog X.w) X.A (f v u) Q X.xe s2) :
    wpAny (model X.prog X.w) X.A (eval a X.env) (fun v s₁=>wpAny (model X.prog X.w) X.A (eval b X.env) (fun u s₂=>wpAny (model X.prog X.w) X.A (f v u) Q X.xe s₂) X.xe s₁) X.xe s:=by
  refine thn (ha pins s σ H _ I h) fun v s1 hh9=>?_
  obtain ⟨x,H1,I1,r1,q1⟩:=hh9
  refine thn (hb pins s1 σ H1 _ I1 q1) fun u s2 hh9=>?_
  obtain ⟨y,H2,I2,r2,q2⟩:=hh9
  exact hf v u s2 x y H2 I2 r1 r2 q2
theorem zgf {op:Operator}{r:R2}(ho:OpR X (binaryOp op) r)(ha:PE X a ta)(hb:PE X b tb):PE X (.BinOp a op b pos) (tOp r ta tb):=by
  intro pins s σ H Q I h
  exact wpAny_BinOp (zk4 ha hb I h fun v u s2 x y H2 I2 rx ry q=>ho pins s2 σ H2 x y v u Q I2 rx ry q)
theorem zjh {op:UnaryOp}{r:V→Hp→VK→Prop}(ho:UnR X (unaryOp op) r)(ha:PE X a ta):PE X (.UnaryOp op a pos) (tUn r ta):=by
  intro pins s σ H Q I h
  exact UnaryOp_ (thn (ha pins s σ H _ I h) fun v s1 ⟨x,H1,I1,r1,q1⟩=>ho pins s1 σ H1 x v Q I1 r1 q1)
theorem opI {f:Value→Value→Sem Value}{C:Int→Int→Prop}{g:Int→Int→Int}
    (rule:∀ (i j:Int) (t u:Tok) (s:Shared) (Q:Value→Shared→Prop) (E:Value→Shared→Prop),C i j→Q (.int (g i j) s.toks) { s with toks:=s.toks+1 }→wpAny (model X.prog X.w) X.A (f (.int i t) (.int j u)) Q E s) :
    OpR X f (rI C fun i j=>.int (g i j)):=by
  intro pins s σ H x y v u Q I rx ry h
  obtain ⟨i,j,rfl,rfl,hc,q⟩:=h
  obtain ⟨t,rfl⟩:=rx
  obtain ⟨t',rfl⟩:=ry
  exact rule i j t t' s _ _ hc ⟨.int (g i j),H,I.tok _,⟨_,rfl⟩,q⟩
theorem opI0 {f:Value→Value→Sem Value}{g:Int→Int→Int}
    (rule:∀ (i j:Int) (t u:Tok) (s:Shared) (Q:Value→Shared→Prop) (E:Value→Shared→Prop),Q (.int (g i j) s.toks) { s with toks:=s.toks+1 }→wpAny (model X.prog X.w) X.A (f (.int i t) (.int j u)) Q E s) :
    OpR X f (rI0 fun i j=>.int (g i j)):=by
  intro pins s σ H x y v u Q I rx ry h
  obtain ⟨i,j,rfl,rfl,q⟩:=h
  obtain ⟨t,rfl⟩:=rx
  obtain ⟨t',rfl⟩:=ry
  exact rule i j t t' s _ _ ⟨.int (g i j),H,I.tok _,⟨_,rfl⟩,q⟩
theorem zkh {f:Value→Value→Sem Value}{g:Int→Int→Bool}
    (rule:∀ (i j:Int) (t u:Tok) (s:Shared) (Q:Value→Shared→Prop) (E:Value→Shared→Prop),Q (.bool (g i j)) s→wpAny (model X.prog X.w) X.A (f (.int i t) (.int j u)) Q E s) :
    OpR X f (rI0 fun i j=>.bl (g i j)):=by
  intro pins s σ H x y v u Q I rx ry h
  obtain ⟨i,j,rfl,rfl,q⟩:=h
  obtain ⟨t,rfl⟩:=rx
  obtain ⟨t',rfl⟩:=ry
  exact rule i j t t' s _ _ ⟨.bl (g i j),H,I,rfl,q⟩
noncomputable def CPow (i j:Int):Prop:=0≤j∧j≤1000000∧i.natAbs < 2 ^ 64
noncomputable def zkM (i j:Int):Prop:=(-(2 ^ 64) < i∧i < 2 ^ 64)∨(-(2 ^ 64) < j∧j < 2 ^ 64)
theorem zkM.ok {i j:Int}(h:zkM i j):IntMulOk i j:=by
  rcases h with ⟨h1,h2⟩ | ⟨h1,h2⟩
  · exact .of_left (intBits_le_64 h1 h2)
  · exact .of_right (intBits_le_64 h1 h2)
theorem zct (k:Nat):(0:Int)≤2 ^ k:=by
  rw [two_pow_cast]
  exact Int.natCast_nonneg _
theorem zjv:OpR X (binaryOp .Add) (rI0 fun i j=>.int (i+j)):=opI0 fun _ _ _ _ _ _ _ q=>add_int q
theorem zjw:OpR X (binaryOp .Sub) (rI0 fun i j=>.int (i - j)):=opI0 fun _ _ _ _ _ _ _ q=>sub_int q
theorem zji:OpR X (binaryOp .Mult) (rI zkM fun i j=>.int (i*j)):=opI fun _ _ _ _ _ _ _ hc q=>mul_int q hc.ok
theorem zjO:OpR X (binaryOp .Mod) (rI (fun _ j=>0 < j) fun i j=>.int (i % j)):=opI fun i j _ _ _ _ _ hc q=>by
  have h1:(0:Int) < j:=hc
  exact mod_int' (by omega) (by rw [Int.fmod_eq_emod_of_nonneg i (by omega)];exact q)
theorem zjB:OpR X (binaryOp .Pow) (rI CPow fun i j=>.int (i ^ j.toNat)):=opI fun _ _ _ _ _ _ _ hc q=>pow_int_small hc.1 hc.2.1 hc.2.2 q
theorem ziA:OpR X (binaryOp .RShift) (rI (fun _ j=>0≤j) fun i j=>.int (i / 2 ^ j.toNat)):=opI fun i j _ _ _ _ _ hc q =>
  rshift_int hc (by rw [Int.fdiv_eq_ediv_of_nonneg i (zct _)];exact q)
theorem unI {f:Value→Sem Value}{g:Int→Int}
    (rule:∀ (i:Int) (t:Tok) (s:Shared) (Q:Value→Shared→Prop) (E:Value→Shared→Prop),Q (.int (g i) s.toks) { s with toks:=s.toks+1 }→wpAny (model X.prog X.w) X.A (f (.int i t)) Q E s) :
    UnR X f (rU fun i=>.int (g i)):=by
  intro pins s σ H x v Q I rx h
  obtain ⟨i,rfl,q⟩:=h
  obtain ⟨t,rfl⟩:=rx
  exact rule i t s _ _ ⟨.int (g i),H,I.tok _,⟨_,rfl⟩,q⟩
theorem zgP:UnR X (unaryOp .USub) (rU fun i=>.int (-i)):=unI fun _ _ _ _ _ q=>neg_int q
end
noncomputable def scal:V→V→Bool
  | .non,.non=>true | .non,.int _=>true | .int _,.non=>true | .non,.bl _=>true | .bl _,.non=>true | .non,.str _=>true | .str _,.non=>true
  | .int _,.int _=>true | .bl _,.bl _=>true | .str _,.str _=>true | .byt _,.byt _=>true
  | .int _,.str _=>true | .str _,.int _=>true | .bl _,.str _=>true | .str _,.bl _=>true
  | _,_=>false
noncomputable def rEq:R2:=fun x y H Q=>scal x y=true∧Q (.bl (decide (x=y))) H
noncomputable def rNe:R2:=fun x y H Q=>scal x y=true∧Q (.bl (!decide (x=y))) H
theorem Vf {i j:Int}:decide (V.int i=V.int j)=(i == j):=by
  rw [Bool.eq_iff_iff]
  simp
theorem zgI {i j:Bool}:decide (V.bl i=V.bl j)=(i == j):=by
  rw [Bool.eq_iff_iff]
  simp
theorem zep {i j:Str}:decide (V.str i=V.str j)=(i == j):=by
  rw [Bool.eq_iff_iff]
  simp
theorem zdG {i j:Array UInt8}:decide (V.byt i=V.byt j)=(i.toList == j.toList):=by
  rw [Bool.eq_iff_iff]
  cases i
  cases j
  simp
section
variable {X:Cx}{a b c:Expr}{ta tb tc:TE}{pos:Pos}
theorem ym {pins:List (Addr × Obj)}{σ:St}{H:Hp}{s:Shared}{Q:VK}{k k':Bool}(I:Inv X pins σ H s)(q:Q (.bl k) H)(e:k=k'):EP X pins σ Q (.bool k') s:=by
  subst e
  exact ⟨.bl k,H,I,rfl,q⟩
theorem zi3:OpR X (compareOp .Eq) rEq:=by
  intro pins s σ H x y v u Q I rx ry h
  obtain ⟨hs,q⟩:=h
  cases x with
  | non =>
    cases rx
    cases y with
    | non=>cases ry;exact PySem.EqNone.eq_none_none (ym I q (by simp))
    | bl j=>cases ry;exact PySem.EqNone.eq_none_bool (ym I q (by simp))
    | int j=>obtain ⟨t',rfl⟩:=ry;exact PySem.EqNone.eq_none_int (ym I q (by simp))
    | str j=>obtain ⟨t',rfl⟩:=ry;exact PySem.EqNone.eq_none_str (ym I q (by simp))
    | _=>exact absurd (show false=true from hs) Bool.false_ne_true
  | bl i =>
    cases rx
    cases y with
    | non=>cases ry;exact PySem.EqNone.eq_bool_none (ym I q (by simp))
    | bl j=>cases ry;exact eq_bool (ym I q zgI)
    | str j=>obtain ⟨t',rfl⟩:=ry;exact PySem.EqMixed.eq_bool_str (ym I q (by simp))
    | _=>exact absurd (show false=true from hs) Bool.false_ne_true
  | int i =>
    obtain ⟨t,rfl⟩:=rx
    cases y with
    | non=>cases ry;exact PySem.EqNone.eq_int_none (ym I q (by simp))
    | int j=>obtain ⟨t',rfl⟩:=ry;exact eq_int (ym I q Vf)
    | str j=>obtain ⟨t',rfl⟩:=ry;exact PySem.EqMixed.eq_int_str (ym I q (by simp))
    | _=>exact absurd (show false=true from hs) Bool.false_ne_true
  | str i =>
    obtain ⟨t,rfl⟩:=rx
    cases y with
    | non=>cases ry;exact PySem.EqNone.eq_str_none (ym I q (by simp))
    | bl j=>cases ry;exact PySem.EqMixed.eq_str_bool (ym I q (by simp))
    | int j=>obtain ⟨t',rfl⟩:=ry;exact PySem.EqMixed.eq_str_int (ym I q (by simp))
    | str j=>obtain ⟨t',rfl⟩:=ry;exact eq_str (ym I q zep)
    | _=>exact absurd (show false=true from hs) Bool.false_ne_true
  | byt i =>
    obtain ⟨t,rfl⟩:=rx
    cases y with
    | byt j=>obtain ⟨t',rfl⟩:=ry;exact PySem.W.eq_bytes (ym I q zdG)
    | _=>exact absurd (show false=true from hs) Bool.false_ne_true
  | _=>cases y <;> exact absurd (show false=true from hs) Bool.false_ne_true
theorem Vg:OpR X (compareOp .NotEq) rNe:=by
  intro pins s σ H x y v u Q I rx ry h
  obtain ⟨hs,q⟩:=h
  cases x with
  | non =>
    cases rx
    cases y with
    | non=>cases ry;exact PySem.EqNone.ne_none_none (ym I q (by simp))
    | bl j=>cases ry;exact PySem.EqNone.ne_none_bool (ym I q (by simp))
    | int j=>obtain ⟨t',rfl⟩:=ry;exact PySem.EqNone.ne_none_int (ym I q (by simp))
    | str j=>obtain ⟨t',rfl⟩:=ry;exact PySem.EqNone.ne_none_str (ym I q (by simp))
    | _=>exact absurd (show false=true from hs) Bool.false_ne_true
  | bl i =>
    cases rx
    cases y with
    | non=>cases ry;exact PySem.EqNone.ne_bool_none (ym I q (by simp))
    | bl j=>cases ry;exact ne_bool (ym I q (congrArg not zgI))
    | str j=>obtain ⟨t',rfl⟩:=ry;exact PySem.EqMixed.ne_bool_str (ym I q (by simp))
    | _=>exact absurd (show false=true from hs) Bool.false_ne_true
  | int i =>
    obtain ⟨t,rfl⟩:=rx
    cases y with
    | non=>cases ry;exact PySem.EqNone.ne_int_none (ym I q (by simp))
    | int j=>obtain ⟨t',rfl⟩:=ry;exact ne_int (ym I q (congrArg not Vf))
    | str j=>obtain ⟨t',rfl⟩:=ry;exact PySem.EqMixed.ne_int_str (ym I q (by simp))
    | _=>exact absurd (show false=true from hs) Bool.false_ne_true
  | str i =>
    obtain ⟨t,rfl⟩:=rx
    cases y with
    | non=>cases ry;exact PySem.EqNone.ne_str_none (ym I q (by simp))
    | bl j=>cases ry;exact PySem.EqMixed.ne_str_bool (ym I q (by simp))
    | int j=>obtain ⟨t',rfl⟩:=ry;exact PySem.EqMixed.ne_str_int (ym I q (by simp))
    | str j=>obtain ⟨t',rfl⟩:=ry;exact ne_str (ym I q (congrArg not zep))
    | _=>exact absurd (show false=true from hs) Bool.false_ne_true
  | byt i =>
    obtain ⟨t,rfl⟩:=rx
    cases y with
    | byt j=>obtain ⟨t',rfl⟩:=ry;exact PySem.W.ne_bytes (ym I q (congrArg not zdG))
    | _=>exact absurd (show false=true from hs) Bool.false_ne_true
  | _=>cases y <;> exact absurd (show false=true from hs) Bool.false_ne_true
theorem zhH:OpR X (compareOp .Lt) (rI0 fun i j=>.bl (decide (i < j))):=zkh fun _ _ _ _ _ _ _ q=>lt_int q
theorem zdp:OpR X (compareOp .LtE) (rI0 fun i j=>.bl (decide (i≤j))):=zkh fun _ _ _ _ _ _ _ q=>le_int q
theorem zcN:OpR X (compareOp .Gt) (rI0 fun i j=>.bl (decide (j < i))):=zkh fun _ _ _ _ _ _ _ q=>gt_int q
theorem zhG:OpR X (compareOp .GtE) (rI0 fun i j=>.bl (decide (j≤i))):=zkh fun _ _ _ _ _ _ _ q=>ge_int q
theorem zi5:OpR X (compareOp .Is) (fun x y H Q=>y=.non∧Q (.bl (decide (x=.non))) H):=by
  intro pins s σ H x y v u Q I rx ry h
  obtain ⟨rfl,q⟩:=h
  cases ry
  refine is_none_gen (ym I q ?_)
  cases x <;> first
    | (cases rx;rfl)
    | (obtain ⟨t,rfl⟩:=rx;rfl)
theorem OpR.or {f:Value→Value→Sem Value}{r r':R2}(h:OpR X f r)(h':OpR X f r'):OpR X f (fun x y H Q=>r x y H Q∨r' x y H Q):=by
  intro pins s σ H x y v u Q I rx ry q
  rcases q with q | q
  · exact h pins s σ H x y v u Q I rx ry q
  · exact h' pins s σ H x y v u Q I rx ry q
theorem zA (b:Expr){op:CmpOp}(h:op≠.In:=by decide)(h2:op≠.NotIn:=by decide):behindInMarks op b=false:=by
  have e1:(op == CmpOp.In)=false:=by cases op <;> first | rfl | exact absurd rfl h
  have e2:(op == CmpOp.NotIn)=false:=by cases op <;> first | rfl | exact absurd rfl h2
  cases b <;> simp [behindInMarks,e1,e2]
theorem zhV {op:CmpOp}{r:R2}(ho:OpR X (compareOp op) r)(ha:PE X a ta)(hb:PE X b tb)(hm:behindInMarks op b=false):PE X (.Compare a [op] [b] pos) (tOp r ta tb):=by
  intro pins s σ H Q I h
  exact wpAny_Compare1 (zk4 ha hb I h fun v u s2 x y H2 I2 rx ry q=>ho pins s2 σ H2 x y v u Q I2 rx ry q) hm
noncomputable def zf6 (t:TE):TT:=fun σ H Q=>t σ H fun x H'=>∃ k,x=.bl k∧Q k H'
theorem zbt {op:CmpOp}{r:R2}(ho:OpR X (compareOp op) r)(ha:PE X a ta)(hb:PE X b tb)(hm:behindInMarks op b=false):PT X (.Compare a [op] [b] pos) (zf6 (tOp r ta tb)):=by
  intro pins s σ H Q I h
  refine wpAny_isTrue_Compare1 (thn (ha pins s σ H _ I h) fun v s1 ⟨x,H1,I1,r1,q1⟩=>thn (hb pins s1 σ H1 _ I1 q1) fun u s2 ⟨y,H2,I2,r2,q2⟩ =>
    thn (ho pins s2 σ H2 x y v u _ I2 r1 r2 q2) fun c s3 ⟨z,H3,I3,r3,k,e,q3⟩=>?_) hm
  subst e
  cases r3
  exact wpAny_truthy_bool ⟨H3,I3,q3⟩
noncomputable def zd7 (r r':R2)(ta tb tc:TE):TE:=fun σ H Q=>ta σ H fun x H1=>tb σ H1 fun y H2=>r x y H2 fun z H3=>∃ k,z=.bl k ∧
  (if k=true then tc σ H3 fun w' H4=>r' y w' H4 Q else Q (.bl false) H3)
theorem zff {op op':CmpOp}{r r':R2}(ho:OpR X (compareOp op) r)(ho':OpR X (compareOp op') r')(ha:PE X a ta)(hb:PE X b tb)(hc:PE X c tc)
    (hm:lastMarks [op,op'] [b,c]=false:=by with_unfolding_all rfl):PE X (.Compare a [op,op'] [b,c] pos) (zd7 r r' ta tb tc):=by
  intro pins s σ H Q I h
  refine Compare_chain (thn (ha pins s σ H _ I h) fun v s1 ⟨x,H1,I1,r1,q1⟩=>chain_link (thn (hb pins s1 σ H1 _ I1 q1) fun u s2 ⟨y,H2,I2,r2,q2⟩ =>
    thn (ho pins s2 σ H2 x y v u _ I2 r1 r2 q2) fun d s3 ⟨z,H3,I3,r3,k,e,q3⟩=>?_)) hm
  subst e
  cases r3
  refine wpAny_truthy_bool ?_
  cases k with
  | false=>exact ite_ff ⟨.bl false,H3,I3,rfl,q3⟩
  | true=>exact ite_tt (chain_last (thn (hc pins s3 σ H3 _ I3 q3) fun w' s4 ⟨z',H4,I4,r4,q4⟩=>ho' pins s4 σ H4 y z' u w' Q I4 r2 r4 q4))
theorem WY:(sizeLine:Nat) < 2 ^ 63:=by rw [sizeLine_eq];decide
theorem zcG:OpR X (binaryOp .Add) (fun x y H Q=>∃ i j,x=.str i∧y=.str j∧i.length+j.length≤sizeLine∧Q (.str (i++j)) H):=by
  intro pins s σ H x y v u Q I rx ry h
  obtain ⟨i,j,rfl,rfl,hz,q⟩:=h
  obtain ⟨t,rfl⟩:=rx
  obtain ⟨t',rfl⟩:=ry
  exact add_str (fun t' tk=>⟨.str (i++j),H,I.tok _,⟨_,rfl⟩,q⟩) hz
theorem za0 {x:V}{us:List Value}(r:xj [x] us):∃ u,us=[u]∧xw x u:=by
  cases r with
  | cons r1 r2=>cases r2;exact ⟨_,rfl,r1⟩
theorem zfE {x y:V}{us:List Value}(r:xj [x,y] us):∃ u w',us=[u,w']∧xw x u∧xw y w':=by
  cases r with
  | cons r1 r2 =>
    cases r2 with
    | cons r3 r4=>cases r4;exact ⟨_,_,rfl,r1,r3⟩
theorem zdH (hc:X.calm=true):Zx X (.builtin "max") (fun xs H Q=>∃ i j,xs=[.int i,.int j]∧Q (.int (if j > i then j else i)) H):=by
  intro pins s σ H xs us Q I r h
  obtain ⟨i,j,rfl,q⟩:=h
  obtain ⟨u,w',rfl,⟨t,rfl⟩,⟨t',rfl⟩⟩:=zfE r
  refine max_two_ints (I.ok.hd hc) fun h' tk k=>⟨_,H,I.kept k,?_,q⟩
  by_cases hj:j > i
  · rw [if_pos hj,if_pos hj];exact ⟨_,rfl⟩
  · rw [if_neg hj,if_neg hj];exact ⟨_,rfl⟩
theorem zay (hc:X.calm=true):Zx X (.builtin "min") (fun xs H Q=>∃ i j,xs=[.int i,.int j]∧Q (.int (if j < i then j else i)) H):=by
  intro pins s σ H xs us Q I r h
  obtain ⟨i,j,rfl,q⟩:=h
  obtain ⟨u,w',rfl,⟨t,rfl⟩,⟨t',rfl⟩⟩:=zfE r
  refine min_two_ints (I.ok.hd hc) fun h' tk k=>⟨_,H,I.kept k,?_,q⟩
  by_cases hj:j < i
  · rw [if_pos hj,if_pos hj];exact ⟨_,rfl⟩
  · rw [if_neg hj,if_neg hj];exact ⟨_,rfl⟩
end
end L2
namespace L2
open PySem PySem.Spec PyProof.Rows
set_option genInjectivity false in
set_option genSizeOf false in
set_option genCtorIdx false in
structure zkR (h:Heap) (x dx C:Addr) (mA:Str→Option Value):Prop where
  obj:h.get? x=some (PySem.W.instObj C dx)
  ns:h.Ns1 dx mA
  ne:dx≠x
theorem zac {h:Heap}{dx:Addr}{mA:Str→Option Value}(n:h.Ns1 dx mA):∃ od,h.get? dx=some od∧∀ name,PySem.W.lookIn name od=some (mA name):=by
  obtain ⟨o,es,ep,ho,hd,hk,_,hm⟩:=n
  refine ⟨o,ho,fun name=>?_⟩
  have e:=hm name
  unfold nsFind findBy at e
  rw [←Array.find?_toList] at e
  unfold PySem.W.lookIn
  rw [hd]
  dsimp only
  split
  · rename_i y q
    rw [q] at e
    exact congrArg some e
  · rename_i q
    rw [q] at e
    have a:es.toList.any (·.refKey)=false:=by
      rw [List.any_eq_false]
      intro y hy
      obtain ⟨z,t,hkey⟩:=hk y (Array.mem_toList_iff.mp hy)
      simp [DictEntry.refKey,hkey]
    have a':¬ es.toList.any (·.refKey)=true:=by rw [a];exact Bool.false_ne_true
    rw [if_neg a']
    exact congrArg some e
theorem zkR.look {h:Heap}{x dx C:Addr}{mA:Str→Option Value}(I:zkR h x dx C mA):∃ od,PySem.W.InstAt h x (PySem.W.instObj C dx) C (some od)∧∀ name,PySem.W.lookIn name od=some (mA name) :=
  let ⟨od,ho,hl⟩:=zac I.ns
  ⟨od,⟨I.obj,rfl,rfl,ho⟩,hl⟩
section
variable {prog:Program}{w:World}{A:Around}{E:Value→Shared→Prop}{s:Shared}{K:PySem.W.Frag}{x dx C f:Addr}{mA:Str→Option Value}{name:Str}{v:Value}
end
noncomputable def zhi (f:Str)(v:V):List (Str × V)→List (Str × V)
  | []=>[(f,v)]
  | (g,x)::r=>if g=f then (g,v)::r else (g,x)::zhi f v r
theorem XW (f g:Str)(v:V):∀ fs:List (Str × V),(zhi f v fs).lookup g=if g=f then some v else fs.lookup g
  | []=>by
    show List.lookup g [(f,v)]=_
    by_cases h:g=f
    · have hb:(g == f)=true:=beq_iff_eq.mpr h
      simp only [List.lookup,hb,if_pos h]
    · have hb:(g == f)=false:=beq_eq_false_iff_ne.mpr h
      simp only [List.lookup,hb,if_neg h]
  | (k,x)::r=>by
    have ih:=XW f g v r
    rw [show zhi f v ((k,x)::r)=(if k=f then (k,v)::r else (k,x)::zhi f v r) from rfl]
    by_cases hk:k=f
    · rw [if_pos hk]
      by_cases h:g=k
      · have hb:(g == k)=true:=beq_iff_eq.mpr h
        simp only [List.lookup,hb,if_pos (h.trans hk)]
      · have hb:(g == k)=false:=beq_eq_false_iff_ne.mpr h
        simp only [List.lookup,hb,if_neg (fun e:g=f=>h (e.trans hk.symm))]
    · rw [if_neg hk]
      by_cases h:g=k
      · have hb:(g == k)=true:=beq_iff_eq.mpr h
        simp only [List.lookup,hb,if_neg (fun e:g=f=>hk (h.symm.trans e))]
      · have hb:(g == k)=false:=beq_eq_false_iff_ne.mpr h
        simp only [List.lookup,hb]
        exact ih
theorem zbR.some_of {v:V}{o:Option Value}(r:zbR (some v) o):∃ u,o=some u∧xw v u:=by
  cases o with
  | none=>exact (show False from r).elim
  | some u=>exact ⟨u,rfl,r⟩
theorem zbR.none_of {o:Option Value}(r:zbR none o):o=none:=by
  cases o with
  | none=>rfl
  | some u=>exact (show False from r).elim
theorem zdJ {v:V}{u:Value}(r:xw v u):PySem.W.handedIn u=true:=by
  cases v with
  | non=>cases (show u=Value.none from r);rfl
  | bl b=>cases (show u=Value.bool b from r);rfl
  | int i=>obtain ⟨t,e⟩:=(show ∃ t,u=Value.int i t from r);cases e;rfl
  | str x=>obtain ⟨t,e⟩:=(show ∃ t,u=Value.str x t from r);cases e;rfl
  | byt b=>obtain ⟨t,e⟩:=(show ∃ t,u=Value.bytes b t from r);cases e;rfl
  | flt b=>obtain ⟨t,e⟩:=(show ∃ t,u=Value.float b t from r);cases e;rfl
  | ref a=>cases (show u=Value.ref a from r);rfl
  | ty n=>cases (show u=Value.type n from r);rfl
section
variable {P:Program}{w:World}{H H':Hp}{h h':Heap}{a C dx:Addr}{fs fs':List (Str × V)}
theorem zg4 (hok:HOk P w H h)(e:H a=some (.ins C dx fs)):∃ mA,zkR h a dx C mA∧(∀ f,zbR (fs.lookup f) (mA f))∧PySem.Within mA (fs.map (·.1))∧fs.length≤1000∧H dx=some (.own a):=by
  obtain ⟨d,z,ne,ob,mA,n,r,q⟩:=(show xf P w H h a (.ins C dx fs) from hok a _ e)
  exact ⟨mA,⟨ob,n,ne⟩,r,q,z,d⟩
end
set_option genInjectivity false in
set_option genSizeOf false in
set_option genCtorIdx false in
structure Cls (K:PySem.W.Frag) (C:Addr):Prop where
  pg:PySem.W.plainGet K C Str.empty=true
  hd:PySem.W.hasDictIn K C=true
  po:PySem.W.plainOver K C=true
  sa:PySem.W.findIn K (.ref C) "__setattr__"=some (some (.builtin "object.__setattr__"))
theorem Cls.get {K:PySem.W.Frag}{C:Addr}(c:Cls K C)(f:Str):PySem.W.plainGet K C f=true:=c.pg
noncomputable def ZW (K:PySem.W.Frag)(C:Addr)(f:Str):Prop:=PySem.W.findIn K (.ref C) f=some none
section
variable {X:Cx}{pins:List (Addr × Obj)}{σ:St}{H:Hp}{s:Shared}{a C dx:Addr}{fs:List (Str × V)}{f:Str}{v:V}{A:Around}{E:Value→Shared→Prop}
theorem zhC {prog:Program}{w:World}{env:Env}{e:Expr}{f:Str}{pos:Pos}{s:Shared}{Q:Value→Shared→Prop}(hb:attributeBase e f env (eval e env)=eval e env)
    (h:wpAny (model prog w) A (eval e env) (fun o s₁=>wpAny (model prog w) A (getAttr o f true) Q E s₁) E s):wpAny (model prog w) A (eval (.Attribute e f pos) env) Q E s :=
  Attribute_any_ h (by rw [arm_eval_Attribute,hb])
end
section
variable {X:Cx}{o e value:Expr}{f:Str}{pos pos' tpos:Pos}{ta tv:TE}
end
section
variable {X:Cx}{pins:List (Addr × Obj)}{σ:St}{H:Hp}{s:Shared}{A:Around}{E:Value→Shared→Prop}{Q:Value→Shared→Prop}{c:Value}{b:Bool}
inductive zb0 (K:PySem.W.Frag) (H:Hp):V→Value→Prop where
  | non:zb0 K H .non (.type "NoneType")
  | bl (x:Bool):zb0 K H (.bl x) (.type "bool")
  | int (i:Int):zb0 K H (.int i) (.type "int")
  | str (x:Str):zb0 K H (.str x) (.type "str")
  | flt (x:UInt64):zb0 K H (.flt x) (.type "float")
  | lst {a:Addr} {xs:List V} (e:H a=some (.lst xs)):zb0 K H (.ref a) (.type "list")
  | frz {a:Addr} {o:Obj} {xs:List V} (e:H a=some (.frz o (.lst xs))):zb0 K H (.ref a) (.type "list")
  | tup {a:Addr} {xs:List V} (e:H a=some (.tup xs)):zb0 K H (.ref a) (.type "tuple")
  | dK {a:Addr} {kvs:List (Key × V)} (e:H a=some (.dK kvs)):zb0 K H (.ref a) (.type "dict")
  | dT {a:Addr} {kvs:List (List Key × V)} (e:H a=some (.dT kvs)):zb0 K H (.ref a) (.type "dict")
  | ins {a C dx:Addr} {fs:List (Str × V)} (e:H a=some (.ins C dx fs)) (cl:Cls K C) (ha:PySem.W.findIn K (.ref C) "__class__"=some (some (.builtin "object.__class__")))
      (hn:PySem.W.specialIn K (.builtin "object.__class__") "__get__"=some (some (.builtin "getset_descriptor.__get__"))) (htk:PySem.W.takesIn K (.builtin "object.__class__")=some true)
      (hm:PySem.W.mroIn K C (.type "object")=some true):zb0 K H (.ref a) (.ref C)
theorem zda {x:V}{u t:Value}(I:Inv X pins σ H s)(rx:xw x u)(ty:zb0 X.K H x t)(e:PySem.W.kitOne X.K t c=some b)(h:∀ tk,Q (.bool b) { s with toks:=tk }) :
    wpAny (model X.prog X.w) A (call (.builtin "isinstance") [u,c]) Q E s:=by
  cases ty with
  | non=>cases (show u=Value.none from rx);exact PySem.W.kia_one PySem.W.kitx_none I.kIn True.intro e (fun z=>nomatch z) h
  | bl y=>cases (show u=Value.bool y from rx);exact PySem.W.kia_one PySem.W.kitx_bool I.kIn True.intro e (fun z=>nomatch z) h
  | int i=>obtain ⟨t,q⟩:=(show ∃ t,u=Value.int i t from rx);cases q;exact PySem.W.kia_one PySem.W.kitx_int I.kIn True.intro e (fun z=>nomatch z) h
  | str y=>obtain ⟨t,q⟩:=(show ∃ t,u=Value.str y t from rx);cases q;exact PySem.W.kia_one PySem.W.kitx_str I.kIn True.intro e (fun z=>nomatch z) h
  | flt y=>obtain ⟨t,q⟩:=(show ∃ t,u=Value.float y t from rx);cases q;exact PySem.W.kia_one PySem.W.kitx_float I.kIn True.intro e (fun z=>nomatch z) h
  | @lst a xs ea =>
    cases (show u=Value.ref a from rx)
    obtain ⟨_,_,n,_,h1⟩:=(show xf X.prog X.w H s.heap a (.lst xs) from I.hok a _ ea)
    exact PySem.W.kia_one PySem.W.kitx_list I.kIn ⟨_,h1,rfl⟩ e (fun z=>nomatch z) h
  | @frz a ob xs ea =>
    cases (show u=Value.ref a from rx)
    obtain ⟨_,_,_,n,_,h1⟩:=(show xf X.prog X.w H s.heap a (.frz ob (.lst xs)) from I.hok a _ ea)
    exact PySem.W.kia_one PySem.W.kitx_list I.kIn ⟨_,h1,rfl⟩ e (fun z=>nomatch z) h
  | @tup a xs ea =>
    cases (show u=Value.ref a from rx)
    obtain ⟨_,_,_,p⟩:=(show xf X.prog X.w H s.heap a (.tup xs) from I.hok a _ ea)
    obtain ⟨o,h1,h2,_⟩:=p
    exact PySem.W.kia_one PySem.W.kitx_tuple I.kIn ⟨o,h1,h2⟩ e (fun z=>nomatch z) h
  | @dK a kvs ea =>
    cases (show u=Value.ref a from rx)
    obtain ⟨_,_,vs,_,p⟩:=(show xf X.prog X.w H s.heap a (.dK kvs) from I.hok a _ ea)
    obtain ⟨o,es,ep,h1,h2,_⟩:=p
    exact PySem.W.kia_one PySem.W.kitx_dict I.kIn ⟨o,h1,h2.1⟩ e (fun z=>nomatch z) h
  | @dT a kvs ea =>
    cases (show u=Value.ref a from rx)
    obtain ⟨_,_,xs,_,o,es,ep,h1,h2,_⟩:=(show xf X.prog X.w H s.heap a (.dT kvs) from I.hok a _ ea)
    exact PySem.W.kia_one PySem.W.kitx_dict I.kIn ⟨o,h1,h2.1⟩ e (fun z=>nomatch z) h
  | @ins a C dx fs ea cl ha hn htk hm =>
    cases (show u=Value.ref a from rx)
    obtain ⟨mA,O,_⟩:=zg4 I.hok ea
    obtain ⟨od,J,_⟩:=O.look
    exact PySem.W.kia_one (PySem.W.kitx_own (cl.get _) cl.hd ha hn htk hm) I.kIn J e (fun z=>nomatch z) h
end
end L2
namespace L2
open PySem PySem.Spec PyProof.Rows
set_option genInjectivity false in
set_option genSizeOf false in
set_option genCtorIdx false in
structure v0 (k:Nat) (A:Around):Prop where
  hd:A.handled=none
  dp:A.depth+3*k+5 < recursionLimit
  un:A.units+16*k+200 < cLine
theorem v0.mono {j k:Nat}{A:Around}(r:v0 k A)(h:j≤k):v0 j A:=⟨r.hd,by have:=r.dp;omega,by have:=r.un;omega⟩
theorem v0.deeper {k:Nat}{A:Around}(r:v0 (k+1) A)(env:Env):v0 k (A.deeper env) :=
  ⟨r.hd,by have:=r.dp;show A.depth+1+3*k+5 < _;omega,by have:=r.un;show A.units+3+16*k+200 < _;omega⟩
theorem zcg {A:Around} {C:Addr} {us:List Value} {kw:List (Str × Value)}:(A.under (.builtin "type.__call__" ⟨.ref C::us,kw⟩)).depth=A.depth+1:=by
  first | rfl | simp [Around.under,Code.weight,Code.isCreation,Code.isGuard,Code.isCaller,Code.frames,Code.isFrame,guardIds]
theorem zco {A:Around} {C:Addr} {us:List Value} {kw:List (Str × Value)}:(A.under (.builtin "type.__call__" ⟨.ref C::us,kw⟩)).units=A.units+1:=by
  first | rfl | simp [Around.under,Code.cUnits,Code.frames,Code.isFrame]
theorem v0.make {k:Nat} {A:Around} (r:v0 (k+1) A) (C:Addr) (us:List Value) (kw:List (Str × Value)):v0 k (A.under (.builtin "type.__call__" ⟨.ref C::us,kw⟩)) :=
  ⟨r.hd,by have:=r.dp;rw [zcg];omega,by have:=r.un;rw [zco];omega⟩
theorem v0.depth {k:Nat}{A:Around}(r:v0 k A):A.depth < recursionLimit:=by have:=r.dp;omega
theorem v0.units {k:Nat}{A:Around}(r:v0 k A):A.units+64 < cLine:=by have:=r.un;omega
theorem v0.units0 {k:Nat}{A:Around}(r:v0 k A):A.units < cLine:=by have:=r.un;omega
noncomputable def zfx:TA:=fun _ H Q=>Q [] H
noncomputable def XG (ta:TE)(tr:TA):TA:=fun σ H Q=>ta σ H fun x H1=>tr σ H1 fun xs H2=>Q (x::xs) H2
section
variable {X:Cx}{e:Expr}{es:List Expr}{te:TE}{t:TA}{pos:Pos}
theorem yL:PA X [] zfx:=fun _ _ _ _ H Q I h=>Calls.spliced_nil ⟨[],H,I,.nil,h⟩
theorem zr (ha:PE X e te)(hr:PA X es t)(hs:starEach (e::es) X.env=(false,eval e X.env)::starEach es X.env:=by rfl):PA X (e::es) (XG te t):=by
  intro pos pins s σ H Q I h
  rw [hs]
  show wpAny _ _ (spliced ((false,eval e X.env)::backTo pos (starEach es X.env))) _ _ s
  refine Calls.spliced_cons (thn (ha pins s σ H _ I h) fun u s1 hh9=>?_)
  obtain ⟨x,H1,I1,r1,q1⟩:=hh9
  exact thn (hr pos pins s1 σ H1 _ I1 q1) fun us s2 ⟨xs,H2,I2,r2,q2⟩=>⟨x::xs,H2,I2,.cons r1 r2,q2⟩
noncomputable def tTup (t:TA):TE:=fun σ H Q=>t σ H fun xs H1=>xs.length≤sizeLine∧∀ p,H1 p=none→Q (.ref p) (upd H1 p (.tup xs))
noncomputable def zj8 (t:TA):TE:=fun σ H Q=>t σ H fun xs H1=>xs.length≤sizeLine∧∀ p,H1 p=none→Q (.ref p) (upd H1 p (.lst xs))
theorem zjf {x1}(h:PA X es t):PE X (.Tuple es x1 pos) (tTup t):=by
  intro pins s σ H Q I hq
  refine wpAny_Tuple_spliced (thn (h pos pins s σ H _ I hq) fun us s1 ⟨xs,H1,I1,r,z,q⟩=>⟨by rw [←r.length];exact z,?_⟩)
  have hf:H1 s1.heap.objs.size=none:=I1.hok.fresh (Nat.le_refl _)
  refine ⟨.ref s1.heap.objs.size,upd H1 s1.heap.objs.size (.tup xs),I1.laid (t':=s1.toks) (fun b u e=>Heap.get?_push_of_some _ e) (Nat.le_refl _) ?_,rfl,q _ hf⟩
  exact ⟨z,us,r,⟨_,Heap.get?_push_size _ rfl,rfl,_,rfl⟩⟩
theorem X5 (h:PA X es t):PE X (.List es pos) (zj8 t):=by
  intro pins s σ H Q I hq
  refine wpAny_List_spliced (thn (h pos pins s σ H _ I hq) fun us s1 ⟨xs,H1,I1,r,z,q⟩=>⟨by rw [←r.length];exact z,?_⟩)
  have hf:H1 s1.heap.objs.size=none:=I1.hok.fresh (Nat.le_refl _)
  refine ⟨.ref s1.heap.objs.size,upd H1 s1.heap.objs.size (.lst xs),I1.laid (t':=s1.toks) (fun b u e=>Heap.get?_push_of_some _ e) (Nat.le_refl _) ?_,rfl,q _ hf⟩
  exact ⟨z,us,0,r,Heap.get?_push_size _ rfl⟩
end
noncomputable abbrev Sp:=List V→Hp→VK→XK→Prop
noncomputable abbrev CXT:=List Env→Hp→Shared→XK→Value→Shared→Prop
structure zgZ (P:Program) (w:World) (K:PySem.W.Frag) (mg:Str→Option Value) (base:Heap) (A:Around) (outer:List Env) (s:Shared) (H:Hp):Prop where
  frames:A.frames=some outer
  mod:Mod K mg base
  bs:∀ b o,base.get? b=some o→s.heap.get? b=some o∧H b=none
  bsz:base.objs.size≤s.heap.objs.size
  funs:s.heap.FunFrames base outer
  frf:∀ b∈frs outer,H b=none
  hok:HOk P w H s.heap
  bare:AllBare s.gens
noncomputable def CE (outer:List Env)(P:Program)(w:World)(H:Hp)(s:Shared)(Q:VK)(u:Value)(s':Shared):Prop :=
  ∃ v H',s'.os=s.os∧AllBare s'.gens∧Un (frs outer) [] H H' s.heap s'.heap∧HOk P w H' s'.heap∧xw v u∧Q v H'
noncomputable def CR (CX:CXT)(outer:List Env)(P:Program)(w:World)(H:Hp)(s:Shared)(Q:VK)(E:XK)(r:Result)(s':Shared):Prop :=
  match r with
  | .ok (.ret u)=>CE outer P w H s Q u s'
  | .ok _=>False
  | .error e=>CX outer H s E e s'
set_option genInjectivity false in
set_option genSizeOf false in
set_option genCtorIdx false in
structure xB (P:Program) (w:World) (K:PySem.W.Frag) (mg:Str→Option Value) (base:Heap) (CX:CXT) (k:Nat) (f:Addr) (fd:FuncData) (ps:List Str) (sp:Sp):Prop where
  len:∀ vs H Q E,sp vs H Q E→vs.length=ps.length
  run:∀ (A:Around) (outer:List Env) (s:Shared) (H:Hp) (args:Args) (us:List Value) (vs:List V) (Q:VK) (E:XK),v0 k A→zgZ P w K mg base A outer s H→BindsTo s fd args (ps.zip us)→xj vs us→sp vs H Q E →
    codeAny (model P w) A (.call (.ref f) args) (CR CX outer P w H s Q E) s
theorem xB.mono {P:Program}{w:World}{K:PySem.W.Frag}{mg:Str→Option Value}{base:Heap}{CX:CXT}{j k:Nat}{f:Addr}{fd:FuncData}{ps:List Str}{sp:Sp}(F:xB P w K mg base CX j f fd ps sp)(h:j≤k) :
    xB P w K mg base CX k f fd ps sp:=⟨F.len,fun A outer s H args us vs Q E hr=>F.run A outer s H args us vs Q E (hr.mono h)⟩
theorem xB.imp {P:Program}{w:World}{K:PySem.W.Frag}{mg:Str→Option Value}{base:Heap}{CX:CXT}{k:Nat}{f:Addr}{fd:FuncData}{ps:List Str}{sp sp':Sp}(F:xB P w K mg base CX k f fd ps sp)
    (h:∀ vs H Q E,sp' vs H Q E→sp vs H Q E):xB P w K mg base CX k f fd ps sp' :=
  ⟨fun vs H Q E q=>F.len vs H Q E (h _ _ _ _ q),fun A outer s H args us vs Q E hr he hb hv hs=>F.run A outer s H args us vs Q E hr he hb hv (h _ _ _ _ hs)⟩
theorem zgZ.make {P:Program}{w:World}{K:PySem.W.Frag}{mg:Str→Option Value}{base:Heap}{A:Around}{outer:List Env}{s:Shared}{H:Hp}(e:zgZ P w K mg base A outer s H)(C:Addr)(us:List Value)(kw:List (Str × Value)) :
    zgZ P w K mg base (A.under (.builtin "type.__call__" ⟨.ref C::us,kw⟩)) outer s H:=⟨by first | exact e.frames | (simpa [Around.under,Code.envs,Code.isFrame,pushEnvs] using e.frames),e.mod,e.bs,e.bsz,e.funs,e.frf,e.hok,e.bare⟩
section
variable {X:Cx}{pins:List (Addr × Obj)}{σ:St}{H:Hp}{s s':Shared}
theorem Inv.env0 (I:Inv X pins σ H s):zgZ X.prog X.w X.K X.mg X.base X.A X.stack s H :=
  ⟨I.ok.frames,I.ok.mod,I.bs,Nat.le_trans I.ok.bsz I.sz,I.stack,I.stkFree,I.hok,I.bare⟩
theorem Inv.after {Q:VK}{u:Value}(I:Inv X pins σ H s)(h:CE X.stack X.prog X.w H s Q u s'):EP X pins σ Q u s':=by
  obtain ⟨v,H',os,bare,un,hok,r,q⟩:=h
  obtain ⟨hh,g,d,t,os'⟩:=s'
  obtain rfl:os'=s.os:=os
  exact ⟨v,H',I.call (h':=hh) (g':=g) (d':=d) (t':=t) (ch:=[]) un hok bare (fun b z=>absurd z (by simp)),r,q⟩
end
noncomputable def zhg (sp:Sp)(dvs:List V)(E:XK)(t:TA):TE:=fun σ H Q=>t σ H fun vs H1=>sp (vs++dvs) H1 Q E
noncomputable def XH (K:PySem.W.Frag)(fd:FuncData)(ps:List Str)(ds:List Value):Prop :=
  ∀ (s:Shared) (us:List Value),K.In s.heap→(us++ds).length=ps.length→BindsTo s fd ⟨us,[]⟩ (ps.zip (us++ds))
theorem XH.all {K:PySem.W.Frag}{fd:FuncData}{ps:List Str}(h:∀ us:List Value,us.length=ps.length→bindArgs fd ⟨us,[]⟩=pure (ps.zip us)):XH K fd ps []:=fun s us _ hl=>by
  rw [List.append_nil] at hl ⊢
  exact .of_eq (h us hl)
noncomputable def Xs (CX:CXT)(X:Cx)(E:XK):Prop:=∀ (pins:List (Addr × Obj)) (σ:St) (H:Hp) (s:Shared) (e:Value) (s':Shared),Inv X pins σ H s→CX X.stack H s E e s'→X.xe e s'
section
variable {X:Cx}{CX:CXT}{k:Nat}{f C:Addr}{fd:FuncData}{ps:List Str}{sp:Sp}{dvs:List V}{ds:List Value}{E:XK}{x m:Str}{p pos apos:Pos}{e o:Expr}{es:List Expr}{ta:TE}{t:TA}
theorem ziO {pins:List (Addr × Obj)}{σ:St}{H:Hp}{s:Shared}{Q:VK}{us:List Value}{vs:List V}(F:xB X.prog X.w X.K X.mg X.base CX k f fd ps sp)(hr:v0 k X.A)(hb:XH X.K fd ps ds)(hd:xj dvs ds)(hx:Xs CX X E)
    (I:Inv X pins σ H s) (r:xj vs us) (h:sp (vs++dvs) H Q E):wpAny (model X.prog X.w) X.A (call (.ref f) us) (EP X pins σ Q) X.xe s:=by
  have r2:xj (vs++dvs) (us++ds):=r.append hd
  have hl:(us++ds).length=ps.length:=by rw [←r2.length];exact F.len _ _ _ _ h
  refine wpAny_call (codeAny_mono (F.run X.A X.stack s H ⟨us,[]⟩ (us++ds) (vs++dvs) Q E hr I.env0 (hb s us I.kIn hl) r2 h) fun r s' hq=>?_)
  cases r with
  | error e=>exact hx pins σ H s e s' I hq
  | ok fl =>
    cases fl with
    | ret u=>exact I.after hq
    | next=>exact False.elim hq
    | brk=>exact False.elim hq
    | cont=>exact False.elim hq
theorem zdf (F:xB X.prog X.w X.K X.mg X.base CX k f fd ps sp)(hr:v0 k X.A)(hg:Gl X x)(hm:X.mg x=some (.ref f))(hk:PySem.W.keepIn X.K (.ref f)=true)(hb:XH X.K fd ps ds)(hd:xj dvs ds)(hx:Xs CX X E)
    (ha:PA X (e::es) t) (hdb:(x == ("__debug__":Str))=false:=by decide) (he:starEach (e::es) X.env=(false,eval e X.env)::starEach es X.env:=by rfl) (hpl:(backTo pos (starEach es X.env)).any (·.1)=false:=by rfl) :
    PE X (.Call (.Name x p) (e::es) [] pos) (zhg sp dvs E t):=by
  intro pins s σ H Q I h
  refine wpAny_Call_Name_kw (Z9 I hg hm ?_ hdb)
  refine PySem.W.callWith_K (h₀:=X.base) I.ok.mod.kin hk (thn (ha pos pins s σ H _ I h) fun us s1 ⟨vs,H1,I1,r,q⟩=>⟨I1.kIn,?_⟩) he hpl
  exact ziO F hr hb hd hx I1 r q
end
section
variable {X:Cx}{CX:CXT}{k:Nat}{f C:Addr}{fd:FuncData}{ps ks:List Str}{sp:Sp}{E:XK}{x m:Str}{p pos apos kpos:Pos}{e o:Expr}{es:List Expr}{kws:List Keyword}{te ta:TE}{t tk:TA}{nm:Option Str}
variable {g:List Value→List Value→List Value}{gV:List V→List V→List V}
end
structure zu (N P:List Str) (sc:Scope):Prop where
  kind:sc.kind=.function
  co:sc.isCoroutine=false
  gen:sc.isGenerator=false
  nd:N.Nodup
  pre:N.take P.length=P
  par:∀ x∈P,sc.names.lookup x=some .local∨sc.names.lookup x=some .cell
  nofree:∀ y∈sc.names,y.2≠.free
theorem zan {kindOf:Str→Option NameKind}{x:Str}:∀ {binds:List (Str × Value)} {m:Str→Option Value},(∀ v,(x,v)∉binds)→bindL kindOf binds m x=m x
  | [],_,_=>rfl
  | (n,v)::r,m,h=>by
    unfold bindL
    rw [zan fun w hw=>h w (List.mem_cons_of_mem _ hw)]
    split
    · have:x≠n:=by rintro rfl;exact h v List.mem_cons_self
      simp [this]
    · rfl
theorem VR {kindOf:Str→Option NameKind}{x:Str}:∀ {binds:List (Str × Value)} {m:Str→Option Value},(∀ v,(x,v)∉binds)→bindC kindOf binds m x=m x
  | [],_,_=>rfl
  | (n,v)::r,m,h=>by
    unfold bindC
    rw [VR fun w hw=>h w (List.mem_cons_of_mem _ hw)]
    split
    · rfl
    · have:x≠n:=by rintro rfl;exact h v List.mem_cons_self
      simp [this]
theorem zav {kindOf:Str→Option NameKind}{x:Str}{v:Value}:∀ {P:List Str} {vs:List Value} {i:Nat} {m:Str→Option Value},P.Nodup→P[i]?=some x→vs[i]?=some v→kindOf x=some .local →
    bindL kindOf (P.zip vs) m x=some v
  | [],_,_,_,_,h,_,_=>by simp at h
  | _::_,[],_,_,_,_,h,_=>by simp at h
  | p::P,w::vs,0,m,nd,h1,h2,hk=>by
    simp at h1 h2;subst h1;subst h2
    show bindL kindOf ((p,w)::P.zip vs) m p=_
    unfold bindL
    rw [zan fun v hv=>(List.nodup_cons.mp nd).1 (List.of_mem_zip hv).1,if_pos hk]
    simp
  | p::P,w::vs,i+1,m,nd,h1,h2,hk=>by
    show bindL kindOf ((p,w)::P.zip vs) m x=_
    unfold bindL
    exact zav (i:=i) (List.nodup_cons.mp nd).2 (by simpa using h1) (by simpa using h2) hk
theorem zah {kindOf:Str→Option NameKind}{x:Str}{v:Value}:∀ {P:List Str} {vs:List Value} {i:Nat} {m:Str→Option Value},P.Nodup→P[i]?=some x→vs[i]?=some v→kindOf x≠some .local →
    bindC kindOf (P.zip vs) m x=some v
  | [],_,_,_,_,h,_,_=>by simp at h
  | _::_,[],_,_,_,_,h,_=>by simp at h
  | p::P,w::vs,0,m,nd,h1,h2,hk=>by
    simp at h1 h2;subst h1;subst h2
    show bindC kindOf ((p,w)::P.zip vs) m p=_
    unfold bindC
    rw [VR fun v hv=>(List.nodup_cons.mp nd).1 (List.of_mem_zip hv).1,if_neg hk]
    simp
  | p::P,w::vs,i+1,m,nd,h1,h2,hk=>by
    show bindC kindOf ((p,w)::P.zip vs) m x=_
    unfold bindC
    exact zah (i:=i) (List.nodup_cons.mp nd).2 (by simpa using h1) (by simpa using h2) hk
noncomputable def start (N:List Str)(vs:List V):St:=vs.map some++List.replicate (N.length - vs.length) none
noncomputable def YC (CX:CXT)(P:Program)(w:World)(K:PySem.W.Frag)(mg:Str→Option Value)(base:Heap)(N:List Str)(qual:Str)(scope:Scope)(f:Addr)(cd:Value)(A:Around)(outer:List Env)(s:Shared)(H:Hp)(E:XK):Cx where
  prog:=P
  w:=w
  K:=K
  mg:=mg
  base:=base
  A:=A.deeper (envOfC qual scope s.heap.objs.size f cd)
  N:=N
  s₀:=s
  H₀:=H
  env:=envOfC qual scope s.heap.objs.size f cd
  outer:=outer
  stack:=envOfC qual scope s.heap.objs.size f cd::outer
  ex:=[]
  calm:=true
  fn:=fun _=>true
  pn:=[]
  xe:=fun e s'=>wpAny (model P w) (A.deeper (envOfC qual scope s.heap.objs.size f cd)) (leaving (envOfC qual scope s.heap.objs.size f cd) e) (fun _ s''=>CX outer H s E e s'') (fun e' s''=>CX outer H s E e' s'') s'
theorem zb1 {sc:Scope}{n:Nat}{x:Str}(h:sc.names.lookup x=some .cell):∃ c,(cellsFrom n sc.names []).lookup x=some c:=by
  have q:=PySem.W.cellsFrom_some sc.names n [] (.inl h)
  exact Option.isSome_iff_exists.mp q
theorem V5 {CX:CXT}{P:Program}{w:World}{K:PySem.W.Frag}{mg:Str→Option Value}{base:Heap}{N ps:List Str}{qual:Str}{scope:Scope}{f:Addr}{cd:Value}{A:Around}{outer:List Env}{s s1:Shared}{H:Hp}{E:XK}{us:List Value}{vs:List V}
    (S:zu N ps scope) (hd:A.handled=none) (e0:zgZ P w K mg base A outer s H) (hl:vs.length=ps.length) (r:xj vs us)
    (x:InCallC s s.heap.objs.size (bindL (envOfC qual scope s.heap.objs.size f cd).kindOf (ps.zip us) fun _=>none) (cellsFrom (s.heap.objs.size+1) scope.names []) (bindC (envOfC qual scope s.heap.objs.size f cd).kindOf (ps.zip us) fun _=>none) s1) :
    Inv (YC CX P w K mg base N qual scope f cd A outer s H E) [] (start N vs) H s1:=by
  have hpl:ps.length≤N.length:=by have:=congrArg List.length S.pre;rw [List.length_take] at this;omega
  obtain ⟨h1,tk,rfl,hk⟩:=x.done
  have noA:∀ b:Addr,b∉(YC CX P w K mg base N qual scope f cd A outer s H E).ex:=fun b z=>absurd (show b∈([]:List Addr) from z) (by simp)
  refine ⟨⟨e0.mod,S.kind,rfl,rfl,Nat.le_refl _,fun y z c h1 h2=>?_,fun y hy=>?_,fun y c _ h=>?_,fun _=>hd,Around.frames_deeper e0.frames,.inr ⟨rfl,rfl⟩,fun b z=>absurd z (noA b),e0.bs,e0.bsz,fun b _ _=>noA b,fun b z=>absurd z (noA b),e0.funs,e0.frf⟩,
    rfl,e0.bare,Un.kept hk,⟨_,x.toInCall.ns,fun i y v h1 h2 h3=>?_⟩,fun y c h=>⟨_,x.cell y c h⟩,e0.hok.fresh (Nat.le_refl _),fun y c h=>?_,fun p hp=>absurd (show p∈([]:List (Addr × Obj)) from hp) (by simp),e0.hok.kept hk,?_⟩
  · exact name_of_addr x.apart (PySem.mem_of_lookup h1) (PySem.mem_of_lookup h2)
  · have hy:scope.names.lookup y=some .cell∨scope.names.lookup y=some .free:=hy
    rcases hy with hy | hy
    · exact zb1 hy
    · exact absurd rfl (S.nofree _ (PySem.mem_of_lookup hy))
  · exact Nat.le_of_lt (x.above y c (PySem.mem_of_lookup h))
  · have hi:i < vs.length:=by
      unfold start at h2
      by_cases hi:i < vs.length
      · exact hi
      · rw [List.getElem?_append_right (by simpa using hi)] at h2
        rw [List.getElem?_replicate] at h2
        split at h2 <;> cases h2
    have ha:vs[i]?=some v:=by
      unfold start at h2
      rw [List.getElem?_append_left (by simpa using hi),List.getElem?_map] at h2
      cases e:vs[i]? with
      | none=>rw [e] at h2;cases h2
      | some a=>rw [e] at h2;cases h2;rfl
    obtain ⟨u,hu,rv⟩:=r.get ha
    have hp:ps[i]?=some y:=by
      rw [←S.pre,List.getElem?_take_of_lt (by omega)];exact h1
    have ndP:ps.Nodup:=by rw [←S.pre];exact S.nd.sublist (List.take_sublist _ _)
    refine ⟨u,rv,?_⟩
    rcases S.par y (List.mem_of_getElem? hp) with k | k
    · exact .inl ⟨k,zav ndP hp hu k⟩
    · obtain ⟨c,e⟩:=zb1 (n:=s.heap.objs.size+1) k
      refine .inr ⟨.inl k,c,e,?_⟩
      have q:=x.cell y c e
      rw [zah ndP hp hu (by show scope.names.lookup y≠_;rw [k];decide)] at q
      exact q
  · exact e0.hok.fresh (Nat.le_of_lt (x.above y c (PySem.mem_of_lookup h)))
  · unfold start
    show _=N.length
    rw [List.length_append,List.length_map,List.length_replicate]
    omega
theorem ziX {CX:CXT}{P:Program}{w:World}{K:PySem.W.Frag}{mg:Str→Option Value}{base:Heap}{k:Nat}{f:Addr}{name qual:Str}{params:Arguments}{body:List Stmt}{scope:Scope}{dV kV doc pm cdv ct oc:Value}{an od:Option Addr}
    {osl:Array (Option Value)} {N ps:List Str} {sp:Sp} (lk:K.lookup f=some ⟨oc,od,.func (PySem.W.fnOf name qual params body scope dV kV doc pm an cdv ct),osl⟩) (hcd:PySem.W.codeIn K cdv qual=true) (S:zu N ps scope)
    (len:∀ vs H Q E,sp vs H Q E→vs.length=ps.length)
    (hbody:∀ (A:Around) (outer:List Env) (s:Shared) (H:Hp) (vs:List V) (Q:VK) (E:XK),v0 k (A.deeper (envOfC qual scope s.heap.objs.size f cdv))→sp vs H Q E →
      ∃ t,PSs (YC CX P w K mg base N qual scope f cdv A outer s H E) body t∧t { nx:=fun _ H'=>Q .non H',rt:=Q } (start N vs) H) :
    xB P w K mg base CX (k+1) f (PySem.W.fnOf name qual params body scope dV kV doc pm an cdv ct) ps sp:=by
  refine ⟨len,fun A outer s H args us vs Q E hr e0 hb r hsp=>?_⟩
  have hl:=len _ _ _ _ hsp
  have KX:K.In s.heap:=e0.mod.kin.keeps fun b o e=>(e0.bs b o e).1
  have lim:s.heap.NoLimit:=e0.mod.nolimit.keeps fun b o e=>(e0.bs b o e).1
  have hkind:∀ y∈ps.zip us,scope.names.lookup y.1=some .local∨(scope.names.lookup y.1=some .cell∧((cellsFrom (s.heap.objs.size+1) scope.names []).lookup y.1).isSome=true):=fun ⟨n,v⟩ hy=>by
    rcases S.par n (List.of_mem_zip hy).1 with q | q
    · exact .inl q
    · exact .inr ⟨q,PySem.W.cellsFrom_some _ _ _ (.inl q)⟩
  refine codeAny_call_function hr.depth (KX _ _ lk) rfl S.co S.gen rfl (PySem.W.codeRec_of KX hcd) (hb _ _ _ _ ?_)
  refine wpAny_newFunctionEnv_cells S.kind hkind fun env he s1 x=>?_
  subst he
  refine ⟨lim.keeps x.toInCall.keep,codeAny_func ?_⟩
  obtain ⟨t,ht,hq⟩:=hbody A outer s H vs Q E (hr.deeper _) hsp
  have I:Inv (YC CX P w K mg base N qual scope f cdv A outer s H E) [] (start N vs) H s1:=V5 S hr.hd e0 hl r x
  refine wpAny_mono (ht [] s1 (start N vs) H _ I hq) (fun fl s' hs=>?_) fun e s' hs=>hs
  have fin:∀ {σ':St} {H':Hp} {v:V} {u:Value},Inv (YC CX P w K mg base N qual scope f cdv A outer s H E) [] σ' H' s'→xw v u→Q v H'→CE outer P w H s Q u s' :=
    fun {σ' H' v u} J rv q=>⟨v,H',J.os,J.bare,J.base,J.hok,rv,q⟩
  cases fl with
  | ret u =>
    obtain ⟨v,σ',H',J,rv,q⟩:=hs
    exact fin J rv q
  | next =>
    obtain ⟨σ',H',J,q⟩:=hs
    exact fin (v:=V.non) (u:=Value.none) J rfl q
  | brk =>
    obtain ⟨_,_,_,q⟩:=hs
    exact False.elim q
  | cont =>
    obtain ⟨_,_,_,q⟩:=hs
    exact False.elim q
end L2
namespace L2
open PySem PySem.Spec PyProof.Rows
section
variable {X:Cx}{x:Str}{p pos:Pos}{e:Expr}{es:List Expr}{t:TA}{id T:String}{r:List V→Hp→VK→Prop}
noncomputable def tCB (r:List V→Hp→VK→Prop)(t:TA):TE:=fun σ H Q=>t σ H fun vs H1=>r vs H1 Q
theorem yN (hc:Zx X (.builtin id) r) (hg:Gl X x) (hm:X.mg x=none) (hv:bootBuiltins x=some (.builtin id)) (ha:PA X (e::es) t) (hn:x≠"__name__":=by decide) (hdb:(x == ("__debug__":Str))=false:=by decide)
    (he:starEach (e::es) X.env=(false,eval e X.env)::starEach es X.env:=by rfl) (hpl:(backTo pos (starEach es X.env)).any (·.1)=false:=by rfl):PE X (.Call (.Name x p) (e::es) [] pos) (tCB r t):=by
  intro pins s σ H Q I h
  refine wpAny_Call_Name_kw (Wa I hg hm hv ?_ hn hdb)
  exact PyProof.Rows.callWith_builtin1 (thn (ha pos pins s σ H _ I h) fun us s1 ⟨vs,H1,I1,r1,q1⟩=>hc pins s1 σ H1 vs us Q I1 r1 q1) he hpl
theorem VO (hc:Zx X (.type T) r) (hg:Gl X x) (hm:X.mg x=none) (hv:bootBuiltins x=some (.type T)) (ha:PA X (e::es) t) (hn:x≠"__name__":=by decide) (hdb:(x == ("__debug__":Str))=false:=by decide)
    (he:starEach (e::es) X.env=(false,eval e X.env)::starEach es X.env:=by rfl) (hpl:(backTo pos (starEach es X.env)).any (·.1)=false:=by rfl):PE X (.Call (.Name x p) (e::es) [] pos) (tCB r t):=by
  intro pins s σ H Q I h
  refine wpAny_Call_Name_kw (Wa I hg hm hv ?_ hn hdb)
  exact PyProof.Rows.callWith_type1 (thn (ha pos pins s σ H _ I h) fun us s1 ⟨vs,H1,I1,r1,q1⟩=>hc pins s1 σ H1 vs us Q I1 r1 q1) he hpl
end
end L2
namespace HT
open PySem PyProof.Rows
noncomputable def lexLt:List Int→List Int→Bool
  | [],[]=>false
  | [],_::_=>true
  | _::_,[]=>false
  | x::xs,y::ys=>if x=y then lexLt xs ys else decide (x < y)
theorem lexLt_cons (x y:Int)(xs ys:List Int):lexLt (x::xs) (y::ys)=if x=y then lexLt xs ys else decide (x < y):=rfl
theorem zf9 (A:Around)(s:Shared)(a:Int)(t:Tok)(c:Int)(u:Tok):∃ e,SeqAt.EqAt A s (.int a t) (.int c u) e∧(e=true↔a=c) :=
  ⟨(a == c),SeqAt.EqAt.int_int a t c u,by simp⟩
section
open PySem.SeqAt
open PySem.AutoSeq1 (wpAny_loadPart')
open PySem.MeetsSeq PySem.MeetsSeq2 PySem.MeetsSeq3
end
section
variable {prog:Program}{w:World}{A:Around}{E:Value→Shared→Prop}{s:Shared}
theorem cat_tup {t b:Addr}{vs ws:List Value}{Q:Value→Shared→Prop}(ht:IsTup s.heap t vs.toArray)(hb:IsTup s.heap b ws.toArray)(hv:vs≠[])
    (h1:ws=[]→Q (.ref t) s) (h2:ws≠[]→Q (.ref s.heap.objs.size) { s with heap:=s.heap.push { cls:=.type "tuple",data:=.seq (vs++ws).toArray } })
    (hsz:vs.length+ws.length≤sizeLine):wpAny (model prog w) A (binaryOp .Add (.ref t) (.ref b)) Q E s:=by
  obtain ⟨⟨cls,dd,data,sl⟩,ho,hc,n,hd⟩:=id ht
  obtain ⟨⟨cls2,dd2,data2,sl2⟩,ho2,hc2,n2,hd2⟩:=id hb
  simp only at hc hd hc2 hd2
  subst hc hd hc2 hd2
  have e:vs.toArray++ws.toArray=(vs++ws).toArray:=by simp
  by_cases hw:ws=[]
  · exact concat_meets ⟨_,ho,rfl⟩ ⟨_,ho2,rfl⟩ noFill_tuple_add seq_tuple_add PySem.F.slot_tuple_add PySem.F.entry_tuple_add (PySem.F.args_tuple_add_2 _ _)
      (tuple_addW1 t b vs.toArray ws.toArray n n2 dd dd2 sl sl2 (by simpa using hv) (by simp [hw])) ⟨ho,ho2,h1 hw⟩
  · refine concat_meets ⟨_,ho,rfl⟩ ⟨_,ho2,rfl⟩ noFill_tuple_add seq_tuple_add PySem.F.slot_tuple_add PySem.F.entry_tuple_add (PySem.F.args_tuple_add_2 _ _)
      (tuple_addW2 t b vs.toArray ws.toArray n n2 dd dd2 sl sl2 (by simpa using hv) (by simpa using hw) (by rw [List.size_toArray,List.size_toArray];exact hsz)) ⟨ho,ho2,?_⟩
    rw [e]
    exact h2 hw
noncomputable def sIx (n d:Nat):Option Int→Nat
  | none=>d
  | some v=>if v < 0 then (v+(n:Int)).toNat else min v.toNat n
theorem sIx_none (n d:Nat):sIx n d none=d:=rfl
theorem sIx_nat (n d k:Nat):sIx n d (some (k:Int))=min k n:=by
  show (if (k:Int) < 0 then ((k:Int)+(n:Int)).toNat else min (k:Int).toNat n)=min k n
  rw [if_neg (by omega),Int.toNat_natCast]
theorem zi4 (n d:Nat)(hd:d≤n)(o:Option Int):sIx n d o≤n:=by
  cases o with
  | none=>exact hd
  | some v =>
    show (if v < 0 then (v+(n:Int)).toNat else min v.toNat n)≤n
    by_cases hv:v < 0
    · rw [if_pos hv];omega
    · rw [if_neg hv];exact Nat.min_le_right _ _
theorem zde (v:Int)(n d:Nat):(if v < 0 then max (v+(n:Int)) 0 else min v (n:Int))=((sIx n d (some v):Nat):Int):=by
  show (if v < 0 then max (v+(n:Int)) 0 else min v (n:Int))=(((if v < 0 then (v+(n:Int)).toNat else min v.toNat n):Nat):Int)
  by_cases hv:v < 0
  · simp only [if_pos hv];omega
  · simp only [if_neg hv];omega
theorem zcn (lo hi:Option Int)(n:Nat):Builtin.Slice.sliceAdjust lo hi 1 (n:Int)=(((sIx n 0 lo:Nat):Int),((sIx n n hi:Nat):Int)):=by
  have h1:¬ ((1:Int) < 0):=by omega
  unfold Builtin.Slice.sliceAdjust
  simp only [h1,if_false]
  refine Prod.ext ?_ ?_
  · cases lo with
    | none=>rfl
    | some v=>exact zde v n 0
  · cases hi with
    | none=>rfl
    | some v=>exact zde v n n
theorem zch (i j:Nat):Builtin.Slice.slicePlaces (i:Int) (j:Int) 1=j - i:=by
  unfold Builtin.Slice.slicePlaces
  have h1:(1:Int) > 0:=by omega
  simp only [h1,if_true,Int.ediv_one]
  split <;> omega
theorem WS {v:Value}{o:Option Int}{Q:Option Int→Shared→Prop}(p:IsPart v o)(h:Q o s):wpAny (model prog w) A (Builtin.Slice.slicePartIndex v) Q E s:=by
  cases p with
  | none=>exact slicePart_none h
  | int i t=>exact slicePart_int h
theorem Yv {sl:Addr}{vl vu:Value}{lo hi:Option Int}{n:Nat}{Q:Int × Int × Nat→Shared→Prop}(hs:s.heap.IsSliceOf sl vl vu .none)(pl:IsPart vl lo)(pu:IsPart vu hi)
    (h:Q (((sIx n 0 lo:Nat):Int),1,sIx n n hi - sIx n 0 lo) s):wpAny (model prog w) A (Builtin.Slice.sliceApplied (.ref sl) (pure (n:Int))) Q E s:=by
  obtain ⟨os,hos,hcs,hds⟩:=id hs
  unfold Builtin.Slice.sliceApplied Builtin.Slice.sliceFields
  refine wpAny_bind (wpAny_bind (wpAny_field hos hds (x:=vl) rfl (wpAny_bind (wpAny_field hos hds (x:=vu) rfl (wpAny_bind (wpAny_field hos hds (x:=.none) rfl (wpAny_pure ?_)))))))
  refine wpAny_bind (slicePart_none ?_)
  show wpAny _ _ (if ((1:Int) == 0)=true then _ else _) _ _ s
  rw [if_neg (by decide)]
  refine wpAny_bind (WS pl (wpAny_bind (WS pu (wpAny_bind (wpAny_pure ?_)))))
  show wpAny _ _ (match Builtin.Slice.sliceAdjust lo hi 1 (n:Int) with | (lo,hi)=>pure (lo,(1:Int),Builtin.Slice.slicePlaces lo hi 1)) _ _ s
  rw [zcn lo hi n]
  show wpAny _ _ (pure (((sIx n 0 lo:Nat):Int),(1:Int),Builtin.Slice.slicePlaces ((sIx n 0 lo:Nat):Int) ((sIx n n hi:Nat):Int) 1)) _ _ s
  rw [zch]
  exact wpAny_pure h
theorem zfU (xs:Array Value)(i k:Nat):((List.range k).filterMap fun (m:Nat)=>xs[((i:Int)+(m:Int)*1).toNat]?).toArray=((xs.toList.drop i).take k).toArray:=by
  have e:(fun (m:Nat)=>xs[((i:Int)+(m:Int)*1).toNat]?)=fun m=>xs[i+m]?:=by
    funext m
    have:((i:Int)+(m:Int)*1).toNat=i+m:=by omega
    rw [this]
  rw [e]
  have:=pick_run xs i k
  rw [List.filterMap_map] at this
  have e2:((fun x=>xs[x]?) ∘ fun x=>i+x)=fun m=>xs[i+m]?:=rfl
  rw [e2] at this
  rw [this]
theorem getItem_tuple_cut {t sl:Addr}{items:Array Value}{vl vu:Value}{lo hi:Option Int}{Q:Value→Shared→Prop}(ht:IsTup s.heap t items)(hs:s.heap.IsSliceOf sl vl vu .none)(pl:IsPart vl lo)(pu:IsPart vu hi)
    (hw:¬ (sIx items.size 0 lo=0∧sIx items.size items.size hi=items.size))
    (h:Q (.ref s.heap.objs.size) { s with heap:=s.heap.push { cls:=.type "tuple",data:=.seq ((items.toList.drop (sIx items.size 0 lo)).take (sIx items.size items.size hi - sIx items.size 0 lo)).toArray } })
    (hsz:items.size≤sizeLine):wpAny (model prog w) A (getItem (.ref t) (.ref sl)) Q E s:=by
  have htake:sizeOk (.seq ((items.toList.drop (sIx items.size 0 lo)).take (sIx items.size items.size hi - sIx items.size 0 lo)).toArray):=by
    show ((items.toList.drop (sIx items.size 0 lo)).take (sIx items.size items.size hi - sIx items.size 0 lo)).toArray.size≤sizeLine
    rw [List.size_toArray,List.length_take,List.length_drop,Array.length_toList]
    omega
  have hj:sIx items.size items.size hi≤items.size:=zi4 _ _ (Nat.le_refl _) hi
  obtain ⟨os,hos,hcs,hds⟩:=id hs
  have hTs:s.TypeIs (.ref sl) "slice":=⟨os,hos,hcs⟩
  unfold getItem
  try with_reducible refine wpAny_holding ?_
  first | refine wpAny_bind (wpAny_pure ?_) | skip
  refine wpAny_bind (wpAny_sequenceKey ht.typeIs (by decide) ?_)
  refine wpAny_bind (wpAny_callSpecial?_slot (name:=Str.ofString "__getitem__") ht.typeIs PyProof.Rows.slot_tuple_getitem
    (wpAny_call_entry PyProof.Rows.slot_tuple_getitem ht.typeIs entry_tuple_getitem ?_ (args_tuple_getitem _ _)))
  show wpAny _ _ (Builtin.Tuple.tupleItemsOf (.ref t)>>=_) _ _ s
  refine wpAny_bind (tupleItemsOf_ ht ?_)
  refine wpAny_bind (wpAny_typeOf hTs ?_)
  rw [if_pos (by decide)]
  refine wpAny_bind (Yv hs pl pu ?_)
  have hno:¬ ((((sIx items.size 0 lo:Nat):Int) == 0&&(1:Int) == 1&&(sIx items.size items.size hi - sIx items.size 0 lo) == items.size)=true):=by
    intro q
    rw [Bool.and_eq_true,Bool.and_eq_true] at q
    have q1:((sIx items.size 0 lo:Nat):Int)=0:=eq_of_beq q.1.1
    have q2:sIx items.size items.size hi - sIx items.size 0 lo=items.size:=eq_of_beq q.2
    exact hw ⟨by omega,by omega⟩
  show wpAny _ _ (if (((sIx items.size 0 lo:Nat):Int) == 0&&(1:Int) == 1&&(sIx items.size items.size hi - sIx items.size 0 lo) == items.size)=true then _ else _) _ _ s
  rw [if_neg hno,zfU]
  first
    | exact wpAny_bind (m:=Builtin.Tuple.tupleExact _) (wpAny_newObj_type (wpAny_pure ⟨_,rfl,wpAny_pure h⟩) htake)
    | exact wpAny_bind (m:=Builtin.Tuple.tupleExact _) (wpAny_newObj_type (wpAny_bind (wpAny_pure (wpAny_pure ⟨_,rfl,wpAny_pure h⟩))) htake)
    | exact wpAny_bind (wpAny_bind (m:=Builtin.Tuple.tupleExact _) (wpAny_newObj_type (wpAny_pure (wpAny_pure ⟨_,rfl,wpAny_pure h⟩)) htake))
    | exact wpAny_bind (wpAny_bind (m:=Builtin.Tuple.tupleExact _) (wpAny_newObj_type (wpAny_pure ⟨_,rfl,wpAny_pure h⟩) htake))
end
end HT
namespace L2
open PySem PySem.Spec PyProof.Rows
noncomputable abbrev TO:=St→Hp→(Option Int→Hp→Prop)→Prop
noncomputable def PO (X:Cx)(e:Option Expr)(t:TO):Prop :=
  ∀ (pins:List (Addr × Obj)) (s:Shared) (σ:St) (H:Hp) (Q:Option Int→Hp→Prop),Inv X pins σ H s→t σ H Q →
    wpAny (model X.prog X.w) X.A (evalPart e X.env) (fun u s'=>∃ o H',Inv X pins σ H' s'∧IsPart u o∧Q o H') X.xe s
noncomputable def zic:TO:=fun _ H Q=>Q none H
noncomputable def zkp (t:TE):TO:=fun σ H Q=>t σ H fun x H1=>∃ i,x=.int i∧Q (some i) H1
theorem WQ {ns:List Int}:∀ {us:List Value},xj (ns.map V.int) us→IntsAre us ns:=by
  induction ns with
  | nil=>intro us r;rw [List.map_nil] at r;cases r;exact .nil
  | cons n ns ih =>
    intro us r
    rw [List.map_cons] at r
    cases r with
    | cons r1 r2 =>
      obtain ⟨t,e⟩:=r1
      subst e
      exact .cons n t (ih r2)
section
variable {X:Cx}{e:Expr}{te:TE}{lo hi:Option Expr}{tl th:TO}{pos p2:Pos}
theorem zhI:PO X none zic:=by
  intro pins s σ H Q I h
  rw [evalPart_none]
  exact wpAny_pure ⟨none,H,I,.none,h⟩
theorem zhf (h:PE X e te):PO X (some e) (zkp te):=by
  intro pins s σ H Q I hw
  rw [evalPart_some]
  refine thn (h pins s σ H _ I hw) fun u s1 hh9=>?_
  obtain ⟨x,H1,I1,r1,q1⟩:=hh9
  obtain ⟨i,rfl,q⟩:=q1
  obtain ⟨t,rfl⟩:=r1
  exact ⟨some i,H1,I1,.int i t,q⟩
noncomputable def SlR (X:Cx)(r:V→Option Int→Option Int→Hp→VK→Prop):Prop :=
  ∀ (pins:List (Addr × Obj)) (s:Shared) (σ:St) (H:Hp) (x:V) (v vl vu:Value) (lo hi:Option Int) (sl:Addr) (Q:VK),Inv X pins σ H s→xw x v→s.heap.IsSliceOf sl vl vu .none→IsPart vl lo→IsPart vu hi→r x lo hi H Q →
    ∃ T id,typeLookup (.type T) "__getitem__"=pure (some (.builtin id))∧s.TypeIs v T∧wpAny (model X.prog X.w) X.A (getItem v (.ref sl)) (EP X pins σ Q) X.xe s
theorem SlR.or {r r':V→Option Int→Option Int→Hp→VK→Prop}(h:SlR X r)(h':SlR X r'):SlR X (fun x lo hi H Q=>r x lo hi H Q∨r' x lo hi H Q):=by
  intro pins s σ H x v vl vu lo hi sl Q I rx hs pl pu q
  rcases q with q | q
  · exact h pins s σ H x v vl vu lo hi sl Q I rx hs pl pu q
  · exact h' pins s σ H x v vl vu lo hi sl Q I rx hs pl pu q
noncomputable def tSl (r:V→Option Int→Option Int→Hp→VK→Prop)(te:TE)(tl th:TO):TE:=fun σ H Q=>te σ H fun x H1=>tl σ H1 fun l H2=>th σ H2 fun u H3=>r x l u H3 Q
theorem zfL {r:V→Option Int→Option Int→Hp→VK→Prop}(hr:SlR X r)(he:PE X e te)(hl:PO X lo tl)(hu:PO X hi th):PE X (.Subscript e (.Slice lo hi none p2) pos) (tSl r te tl th):=by
  intro pins s σ H Q I h
  refine Subscript_ (thn (he pins s σ H _ I h) fun v s1 hh9=>?_)
  obtain ⟨x,H1,I1,r1,q1⟩:=hh9
  refine wpAny_Slice (thn (hl pins s1 σ H1 _ I1 q1) fun vl s2 ⟨l,H2,I2,pl,q2⟩=>thn (hu pins s2 σ H2 _ I2 q2) fun vu s3 hh9=>?_)
  obtain ⟨u,H3,I3,pu,q3⟩:=hh9
  rw [evalPart_none]
  refine wpAny_pure ?_
  have I4:Inv X pins σ H3 { s3 with heap:=s3.heap.push { cls:=.type "slice",data:=.fields #[vl,vu,.none] } }:=I3.kept (t':=s3.toks) fun b ob q=>Heap.get?_push_of_some _ q
  obtain ⟨T,id,hT,ht,hg⟩:=hr pins { s3 with heap:=s3.heap.push { cls:=.type "slice",data:=.fields #[vl,vu,.none] } } σ H3 x v vl vu l u s3.heap.objs.size Q I4 r1 (Heap.IsSliceOf.new ..) pl pu q3
  show wpAny (model X.prog X.w) X.A (subscriptTail e (.Slice lo hi none p2) v (.ref s3.heap.objs.size)) (EP X pins σ Q) X.xe { s3 with heap:=s3.heap.push { cls:=.type "slice",data:=.fields #[vl,vu,.none] } }
  exact tail_any (ops:=[.ref s3.heap.objs.size,v]) ht hT hg (by with_unfolding_all rfl)
noncomputable def za9 (xs:List V)(lo hi:Option Int):List V:=(xs.drop (HT.sIx xs.length 0 lo)).take (HT.sIx xs.length xs.length hi - HT.sIx xs.length 0 lo)
theorem X3 (xs:List V)(lo hi:Option Int):(za9 xs lo hi).length≤xs.length:=by
  unfold za9
  rw [List.length_take,List.length_drop]
  omega
noncomputable def rSlT (K:PySem.W.Frag):V→Option Int→Option Int→Hp→VK→Prop:=fun x lo hi H Q=>∃ a xs,x=.ref a∧SqT K H a xs ∧
  ¬ (HT.sIx xs.length 0 lo=0∧HT.sIx xs.length xs.length hi=xs.length)∧∀ p,H p=none→Q (.ref p) (upd H p (.tup (za9 xs lo hi)))
theorem ziu:SlR X (rSlT X.K):=by
  intro pins s σ H x v vl vu lo hi sl Q I rx hs pl pu h
  obtain ⟨a,xs,rfl,hx,hw,q⟩:=h
  cases rx
  obtain ⟨its,r,ht,hz⟩:=I.tuple hx
  have hlen:its.toArray.size=xs.length:=by rw [List.size_toArray];exact r.length.symm
  refine ⟨"tuple",_,PyProof.Rows.slot_tuple_getitem.lookup,ht.typeIs,?_⟩
  refine HT.getItem_tuple_cut ht hs pl pu (by rw [hlen];exact hw) ?_ (by rw [hlen];exact hz)
  rw [hlen]
  refine ⟨.ref s.heap.objs.size,_,I.laid (t':=s.toks) (o:=.tup (za9 xs lo hi)) (fun b ob q=>Heap.get?_push_of_some _ q) (Nat.le_refl _) ?_,rfl,q _ (I.hok.fresh (Nat.le_refl _))⟩
  exact ⟨Nat.le_trans (X3 xs lo hi) hz,_,(r.drop (HT.sIx xs.length 0 lo)).take (HT.sIx xs.length xs.length hi - HT.sIx xs.length 0 lo),IsTup.new _ _⟩
noncomputable def zkT (K:PySem.W.Frag):R2:=fun x y H Q=>∃ a b xs ys,x=.ref a∧y=.ref b∧SqT K H a xs∧SqT K H b ys∧xs≠[]∧xs.length+ys.length≤sizeLine ∧
  (ys=[]→Q (.ref a) H)∧(ys≠[]→∀ p,H p=none→Q (.ref p) (upd H p (.tup (xs++ys))))
theorem xj.nil_iff {xs:List V}{us:List Value}(r:xj xs us):us=[]↔xs=[]:=by
  cases r with
  | nil=>simp
  | cons _ _=>simp
theorem zh1:OpR X (binaryOp .Add) (zkT X.K):=by
  intro pins s σ H x y v u Q I rx ry h
  obtain ⟨a,b,xs,ys,rfl,rfl,ha,hb,hx,hz,q1,q2⟩:=h
  cases rx
  cases ry
  obtain ⟨its,r1,p1,_⟩:=I.tuple ha
  obtain ⟨its2,r2,p2,_⟩:=I.tuple hb
  refine HT.cat_tup p1 p2 (fun z=>hx (r1.nil_iff.mp z)) (fun z=>⟨.ref a,H,I,rfl,q1 (r2.nil_iff.mp z)⟩) (fun z=>?_) (by rw [←r1.length,← r2.length];exact hz)
  refine ⟨.ref s.heap.objs.size,_,I.laid (t':=s.toks) (o:=.tup (xs++ys)) (fun b ob q=>Heap.get?_push_of_some _ q) (Nat.le_refl _) ?_,rfl,q2 (fun w=>z (r2.nil_iff.mpr w)) _ (I.hok.fresh (Nat.le_refl _))⟩
  exact ⟨by rw [List.length_append];exact hz,_,r1.append r2,IsTup.new _ _⟩
end
end L2
namespace L2
open PySem PySem.Spec PyProof.Rows
noncomputable def ixN (n:Nat)(i:Int):Option Nat:=if 0≤i then (if i < n then some i.toNat else none) else if -(n:Int)≤i then some (i+n).toNat else none
noncomputable def atI {α:Type}(xs:List α)(i:Int):Option α:=(ixN xs.length i).bind fun j=>xs[j]?
theorem zd3 {n:Nat}{i:Int}{j:Nat}(h:ixN n i=some j):seqIndex? i n=some j∧j < n∧-(n:Int)≤i∧i < n:=by
  unfold ixN at h
  by_cases h0:0≤i
  · rw [if_pos h0] at h
    by_cases h1:i < n
    · rw [if_pos h1] at h
      have e:i.toNat=j:=Option.some.inj h
      exact ⟨by rw [seqIndex_of h0 h1,e],by omega,by omega,h1⟩
    · rw [if_neg h1] at h;cases h
  · rw [if_neg h0] at h
    by_cases h1:-(n:Int)≤i
    · rw [if_pos h1] at h
      have e:(i+n).toNat=j:=Option.some.inj h
      exact ⟨by rw [seqIndex_neg (by omega) h1,e],by omega,h1,by omega⟩
    · rw [if_neg h1] at h;cases h
theorem zbh {α:Type}{xs:List α}{i:Int}{v:α}(h:atI xs i=some v):∃ j,seqIndex? i xs.length=some j∧xs[j]?=some v∧j < xs.length∧-(xs.length:Int)≤i∧i < xs.length:=by
  unfold atI at h
  cases e:ixN xs.length i with
  | none=>rw [e] at h;cases h
  | some j =>
    rw [e] at h
    obtain ⟨h1,h2,h3,h4⟩:=zd3 e
    exact ⟨j,h1,h,h2,h3,h4⟩
theorem zhY {α:Type}{xs:List α}{j:Nat}{v:α}(h:xs[j]?=some v):atI xs (j:Int)=some v:=by
  have hj:j < xs.length:=(List.getElem?_eq_some_iff.mp h).1
  have e:ixN xs.length (j:Int)=some j:=by
    unfold ixN
    rw [if_pos (by omega),if_pos (by omega)];simp
  unfold atI;rw [e];exact h
noncomputable def zdy (b:Expr):Prop:=∀ o i,subscripted b false o i=operate [o,i] (getItem o i)
noncomputable def IxR (X:Cx)(r:R2):Prop :=
  ∀ (value slice:Expr) (pins:List (Addr × Obj)) (s:Shared) (σ:St) (H:Hp) (x y:V) (v u:Value) (Q:VK),Inv X pins σ H s→xw x v→xw y u→r x y H Q →
    subscripted slice false v u=operate [v,u] (getItem v u)→wpAny (model X.prog X.w) X.A (subscriptTail value slice v u) (EP X pins σ Q) X.xe s
noncomputable def MtR (X:Cx)(id:String)(r:V→List V→Hp→VK→Prop):Prop :=
  ∀ (pins:List (Addr × Obj)) (s:Shared) (σ:St) (H:Hp) (x:V) (xs:List V) (v:Value) (us:List Value) (Q:VK),Inv X pins σ H s→xw x v→xj xs us→r x xs H Q →
    wpAny (model X.prog X.w) X.A (call (.builtin id) (v::us)) (EP X pins σ Q) X.xe s
section
variable {X:Cx}{a b:Expr}{ta tb:TE}{pos:Pos}
theorem IxR.or {r r':R2}(h:IxR X r)(h':IxR X r'):IxR X (fun x y H Q=>r x y H Q∨r' x y H Q):=by
  intro value slice pins s σ H x y v u Q I rx ry q hs
  rcases q with q | q
  · exact h value slice pins s σ H x y v u Q I rx ry q hs
  · exact h' value slice pins s σ H x y v u Q I rx ry q hs
theorem zkw {r:R2}(hr:IxR X r)(ha:PE X a ta)(hb:PE X b tb)(hs:zdy b):PE X (.Subscript a b pos) (tOp r ta tb):=by
  intro pins s σ H Q I h
  exact Subscript_ (zk4 ha hb I h fun v u s2 x y H2 I2 rx ry q=>hr a b pins s2 σ H2 x y v u Q I2 rx ry q (hs _ _))
noncomputable def rIxL (K:PySem.W.Frag):R2:=fun x y H Q=>∃ p xs i v,x=.ref p∧y=.int i∧SqL K H p xs∧atI xs i=some v∧Q v H
noncomputable def rIxT (K:PySem.W.Frag):R2:=fun x y H Q=>∃ p xs i v,x=.ref p∧y=.int i∧SqT K H p xs∧atI xs i=some v∧Q v H
noncomputable def rIxS:R2:=fun x y H Q=>∃ z i c,x=.str z∧y=.int i∧z.length≤sizeLine∧atI z.cps.toList i=some c∧Q (.str ⟨#[c]⟩) H
theorem zhT:IxR X (rIxL X.K):=by
  intro value slice pins s σ H x y v u Q I rx ry h hs
  obtain ⟨p,xs,i,z,rfl,rfl,hq,he,q⟩:=h
  cases rx
  obtain ⟨t,rfl⟩:=ry
  obtain ⟨its,r,pl,hz⟩:=I.list hq
  obtain ⟨j,h1,h2,h3,h4,h5⟩:=zbh he
  obtain ⟨w,ew,rw'⟩:=r.get h2
  have hl:=r.length
  have hn:=WY
  have fin:EP X pins σ Q w s:=⟨z,H,I,rw',q⟩
  by_cases h0:0≤i
  · have hj:i.toNat=j:=by
      rw [seqIndex_of h0 h5] at h1
      exact Option.some.inj h1
    exact item_listR pl.isList h0 (by omega) (by rw [hj];simpa using ew) fin hs
  · have hj:(i+(its.toArray.size:Int)).toNat=j:=by
      rw [seqIndex_neg (by omega) h4] at h1
      rw [List.size_toArray,← hl]
      exact Option.some.inj h1
    exact subscriptTail_builtinR (x:=w) pl.isList.typeIs slot_list_getitem.lookup
      (wpAny_getItem_list_neg (Q:=fun r s'=>r=w∧EP X pins σ Q r s') pl.isList (by omega) (by rw [List.size_toArray] <;> omega) (by omega) (by rw [hj];simpa using ew) ⟨rfl,fin⟩) hs
theorem zi9:IxR X (rIxT X.K):=by
  intro value slice pins s σ H x y v u Q I rx ry h hs
  obtain ⟨p,xs,i,z,rfl,rfl,hq,he,q⟩:=h
  cases rx
  obtain ⟨t,rfl⟩:=ry
  obtain ⟨its,r,pl,hz⟩:=I.tuple hq
  obtain ⟨j,h1,h2,h3,h4,h5⟩:=zbh he
  obtain ⟨w,ew,rw'⟩:=r.get h2
  have hl:=r.length
  have hn:=WY
  have fin:EP X pins σ Q w s:=⟨z,H,I,rw',q⟩
  exact subscriptTail_builtinR (x:=w) pl.typeIs slot_tuple_getitem.lookup
    (getItem_tuple (j:=j) (Q:=fun r s'=>r=w∧EP X pins σ Q r s') pl (by omega) (by omega) (by rw [List.size_toArray,← hl];exact h1) (by simpa using ew) ⟨rfl,fin⟩) hs
theorem zjd:IxR X rIxS:=by
  intro value slice pins s σ H x y v u Q I rx ry h hs
  obtain ⟨z,i,c,rfl,rfl,hz,he,q⟩:=h
  obtain ⟨t,rfl⟩:=rx
  obtain ⟨t',rfl⟩:=ry
  obtain ⟨j,h1,h2,h3,h4,h5⟩:=zbh he
  have hl:z.cps.toList.length=z.length:=by simp [Str.length]
  rw [hl] at h1 h4 h5
  have hn:=WY
  exact tail_any (typeIs_str s z t) slot_str_getitem.lookup (getItem_str (c:=c) (by
    have e1:decide (i < -(2 ^ 63:Int))=false:=decide_eq_false (by omega)
    have e2:decide (i ≥ 2 ^ 63)=false:=decide_eq_false (by omega)
    rw [e1,e2,Bool.or_false]) (by rw [h1];simpa using h2) ⟨.str ⟨#[c]⟩,H,I.tok _,⟨_,rfl⟩,q⟩) hs
noncomputable def rIx (K:PySem.W.Frag):R2:=fun x y H Q=>rIxL K x y H Q∨rIxT K x y H Q∨rIxS x y H Q
theorem zjN:IxR X (rIx X.K):=zhT.or (zi9.or zjd)
theorem zcj (its:List Value) (n j:Nat) (u:Value):Obj.mapSeq (·.setIfInBounds j u) { cls:=.type "list",data:=.seq its.toArray n }={ cls:=.type "list",data:=.seq (its.set j u).toArray n }:=by
  simp [Obj.mapSeq]
theorem Inv.lst {pins:List (Addr × Obj)}{σ:St}{H:Hp}{s:Shared}{p:Addr}{xs:List V}(I:Inv X pins σ H s)(h:H p=some (.lst xs)) :
    ∃ (its:List Value) (n:Nat),xj xs its∧s.heap.get? p=some { cls:=.type "list",data:=.seq its.toArray n }∧xs.length≤sizeLine:=by
  obtain ⟨z,its,n,r,e⟩:=I.hok p _ h
  exact ⟨its,n,r,e,z⟩
theorem Inv.lstUpd {pins:List (Addr × Obj)}{σ:St}{H:Hp}{s:Shared}{p:Addr}{xs ys:List V}{its its':List Value}{n n':Nat}{f:Obj→Obj}(I:Inv X pins σ H s)(h:H p=some (.lst xs))
    (ho:s.heap.get? p=some { cls:=.type "list",data:=.seq its.toArray n }) (hf:f { cls:=.type "list",data:=.seq its.toArray n }={ cls:=.type "list",data:=.seq its'.toArray n' }) (r:xj ys its') (hz:ys.length≤sizeLine) (t:Nat) :
    Inv X pins σ (upd H p (.lst ys)) { s with heap:=s.heap.update p f,toks:=t }:=by
  have e:(s.heap.update p f).get? p=some { cls:=.type "list",data:=.seq its'.toArray n' }:=by
    rw [Heap.get?_update_self f ho (by rw [hf] <;> rfl),hf]
  refine I.write (x:=p) (e:=p) (by rw [h];trivial) (.inl rfl) (fun b u hb q=>(Heap.get?_update_other _ _ (Ne.symm hb)).trans q) ⟨_,e⟩ ?_
  exact ⟨hz,its',n',r,e⟩
noncomputable def zkZ:V→V→V→Hp→(Hp→Prop)→Prop:=fun o i v H Q=>∃ p xs k j,o=.ref p∧i=.int k∧H p=some (.lst xs)∧ixN xs.length k=some j∧Q (upd H p (.lst (xs.set j v)))
theorem zfM:PSet X zkZ:=by
  intro pins s σ H o i v ov iv u Q I ro ri rv h
  obtain ⟨p,xs,k,j,rfl,rfl,hp,hj,q⟩:=h
  cases ro
  obtain ⟨t,rfl⟩:=ri
  obtain ⟨its,n,r,ho,hz⟩:=I.lst hp
  obtain ⟨h1,h2,h3,h4⟩:=zd3 hj
  have hl:=r.length
  have hn:=WY
  have I':Inv X pins σ (upd H p (.lst (xs.set j v))) { s with heap:=s.heap.update p (Obj.mapSeq (·.setIfInBounds j u)) } :=
    I.lstUpd hp ho (zcj its n j u) (r.set rv j) (by rw [List.length_set];exact hz) s.toks
  by_cases h0:0≤k
  · have hk:k.toNat=j:=by
      rw [seqIndex_of h0 h4] at h1
      exact Option.some.inj h1
    exact PySem.W.ki_setAt ho h0 (by omega) (by rw [List.size_toArray,← hl];exact h4) (by rw [hk];exact ⟨_,I',q⟩)
  · have hk:(k+(its.toArray.size:Int)).toNat=j:=by
      rw [seqIndex_neg (by omega) h3] at h1
      rw [List.size_toArray,← hl]
      exact Option.some.inj h1
    exact PySem.W.ki_setBack ho (by omega) (by rw [List.size_toArray,← hl];exact h3) (by omega) (by rw [hk];exact ⟨_,I',q⟩)
theorem zaa (lo hi:Option Int)(n:Nat):(sliceBounds lo hi none n).1=((HT.sIx n 0 lo:Nat):Int)∧(sliceBounds lo hi none n).2.1=((HT.sIx n n hi:Nat):Int)∧(sliceBounds lo hi none n).2.2=1:=by
  refine ⟨?_,?_,rfl⟩
  · cases lo with
    | none=>simp [sliceBounds,HT.sIx]
    | some i =>
      simp only [sliceBounds,HT.sIx,Option.getD_none,show (1:Int) > 0 by decide,if_true]
      by_cases h:i < 0
      · simp only [h,if_true] <;> omega
      · simp only [h,if_false] <;> omega
  · cases hi with
    | none=>simp [sliceBounds,HT.sIx]
    | some i =>
      simp only [sliceBounds,HT.sIx,Option.getD_none,show (1:Int) > 0 by decide,if_true]
      by_cases h:i < 0
      · simp only [h,if_true] <;> omega
      · simp only [h,if_false] <;> omega
theorem W1 (its:List Value)(lo hi:Option Int):slicePick its.toArray lo hi none=((its.drop (HT.sIx its.length 0 lo)).take (HT.sIx its.length its.length hi - HT.sIx its.length 0 lo)).toArray:=by
  obtain ⟨h1,h2,h3⟩:=zaa lo hi its.toArray.size
  unfold slicePick
  rw [h1,h2,h3]
  simp only [sliceRange_one,pick_run,List.size_toArray] <;> rfl
noncomputable def rSlL (K:PySem.W.Frag):V→Option Int→Option Int→Hp→VK→Prop:=fun x lo hi H Q=>∃ a xs,x=.ref a∧SqL K H a xs∧∀ p,H p=none→Q (.ref p) (upd H p (.lst (za9 xs lo hi)))
theorem zg1:SlR X (rSlL X.K):=by
  intro pins s σ H x v vl vu lo hi sl Q I rx hs pl pu h
  obtain ⟨a,xs,rfl,hx,q⟩:=h
  cases rx
  obtain ⟨its,r,ht,hz⟩:=I.list hx
  have hlen:=r.length
  refine ⟨"list",_,slot_list_getitem.lookup,ht.isList.typeIs,?_⟩
  refine wpAny_getItem_list_slice ht.isList hs pl pu .none (by simp) ?_ (by rw [List.size_toArray] <;> omega)
  rw [W1,← hlen]
  refine ⟨.ref s.heap.objs.size,_,I.laid (t':=s.toks) (o:=.lst (za9 xs lo hi)) (fun b ob q=>Heap.get?_push_of_some _ q) (Nat.le_refl _) ?_,rfl,q _ (I.hok.fresh (Nat.le_refl _))⟩
  exact ⟨Nat.le_trans (X3 xs lo hi) hz,_,0,(r.drop (HT.sIx xs.length 0 lo)).take (HT.sIx xs.length xs.length hi - HT.sIx xs.length 0 lo),Heap.get?_push_size _ rfl⟩
noncomputable def zhy:V→Bool
  | .non=>true
  | .bl _=>true
  | .int _=>true
  | .str _=>true
  | _=>false
noncomputable def eqV:V→V→Bool
  | .non,.non=>true
  | .bl a,.bl b=>a == b
  | .bl a,.int b=>(if a then 1 else 0) == b
  | .int a,.bl b=>a == (if b then 1 else 0)
  | .int a,.int b=>a == b
  | .str a,.str b=>a == b
  | _,_=>false
theorem zgo {A:Around}{s:Shared}{y x:V}{u v:Value}(ry:xw y u)(rx:xw x v)(fy:zhy y=true)(fx:zhy x=true):SeqAt.EqAt A s u v (eqV y x):=by
  cases y with
  | non =>
    cases ry
    cases x with
    | non=>cases rx;exact SeqAt.EqAt.same _
    | bl b=>cases rx;exact SeqAt.EqAt.none_bool b
    | int b=>obtain ⟨t,rfl⟩:=rx;exact SeqAt.EqAt.none_int b t
    | str b=>obtain ⟨t,rfl⟩:=rx;exact SeqAt.EqAt.none_str b t
    | _=>exact absurd (show false=true from fx) Bool.false_ne_true
  | bl a =>
    cases ry
    cases x with
    | non=>cases rx;exact SeqAt.EqAt.bool_none a
    | bl b=>cases rx;exact SeqAt.EqAt.bool_bool a b
    | int b=>obtain ⟨t,rfl⟩:=rx;exact SeqAt.EqAt.bool_int a b t
    | str b=>obtain ⟨t,rfl⟩:=rx;exact SeqAt.EqAt.bool_str a b t
    | _=>exact absurd (show false=true from fx) Bool.false_ne_true
  | int a =>
    obtain ⟨t',rfl⟩:=ry
    cases x with
    | non=>cases rx;exact SeqAt.EqAt.int_none a t'
    | bl b=>cases rx;exact SeqAt.EqAt.int_bool a t' b
    | int b=>obtain ⟨t,rfl⟩:=rx;exact SeqAt.EqAt.int_int a t' b t
    | str b=>obtain ⟨t,rfl⟩:=rx;exact SeqAt.EqAt.int_str a t' b t
    | _=>exact absurd (show false=true from fx) Bool.false_ne_true
  | str a =>
    obtain ⟨t',rfl⟩:=ry
    cases x with
    | non=>cases rx;exact SeqAt.EqAt.str_none a t'
    | bl b=>cases rx;exact SeqAt.EqAt.str_bool a t' b
    | int b=>obtain ⟨t,rfl⟩:=rx;exact SeqAt.EqAt.str_int a t' b t
    | str b=>obtain ⟨t,rfl⟩:=rx;exact SeqAt.EqAt.str_str a t' b t
    | _=>exact absurd (show false=true from fx) Bool.false_ne_true
  | _=>exact absurd (show false=true from fy) Bool.false_ne_true
theorem x5:Zx X (.builtin "len") (fun xs H Q=>∃ p ys,xs=[.ref p]∧(SqL X.K H p ys∨SqT X.K H p ys)∧Q (.int ys.length) H):=by
  intro pins s σ H xs us Q I r h
  obtain ⟨p,ys,rfl,hq,q⟩:=h
  obtain ⟨u,rfl,rx⟩:=za0 r
  cases rx
  have hn:=WY
  rcases hq with hq | hq
  · obtain ⟨its,r',pl,hz⟩:=I.list hq
    have hlen:=r'.length
    exact Calls.call_len_list pl.isList (by simp only [List.size_toArray] <;> omega) ⟨.int ys.length,H,I.tok _,⟨s.toks+1,by rw [List.size_toArray,hlen]⟩,q⟩
  · obtain ⟨its,r',pl,hz⟩:=I.tuple hq
    have hlen:=r'.length
    exact len_tuple pl (by simp only [List.size_toArray] <;> omega) ⟨.int ys.length,H,I.tok _,⟨s.toks+1,by rw [List.size_toArray,hlen]⟩,q⟩
theorem zas:Zx X (.type "list") (fun xs H Q=>∃ p ys,xs=[.ref p]∧(SqL X.K H p ys∨SqT X.K H p ys)∧∀ l,H l=none→Q (.ref l) (upd H l (.lst ys))):=by
  intro pins s σ H xs us Q I r h
  obtain ⟨p,ys,rfl,hq,q⟩:=h
  obtain ⟨u,rfl,rx⟩:=za0 r
  cases rx
  have fin:∀ (its:List Value),xj ys its→ys.length≤sizeLine→∀ (h':Heap) (c':Nat),(∀ b o',s.heap.get? b=some o'→h'.get? b=some o') →
      h'.get? s.heap.objs.size=some { cls:=.type "list",dict:=none,data:=.seq its.toArray c',slots:=#[] }→EP X pins σ Q (.ref s.heap.objs.size) { s with heap:=h' }:=fun its r' hz h' c' kp e =>
    ⟨.ref s.heap.objs.size,_,I.laid (t':=s.toks) kp (Nat.le_refl _) (show xf X.prog X.w _ h' _ (.lst ys) from ⟨hz,its,c',r',e⟩),rfl,q _ (I.hok.fresh (Nat.le_refl _))⟩
  rcases hq with hq | hq
  · obtain ⟨its,r',pl,hz⟩:=I.list hq
    have hlen:=r'.length
    obtain ⟨o,ho,hc,n,hd⟩:=pl.isList
    exact call_list_seq p (.inl rfl) ho hc hd (fun h' c' kp e=>fin its r' hz h' c' kp e) (by simp only [List.size_toArray] <;> omega)
  · obtain ⟨its,r',pl,hz⟩:=I.tuple hq
    have hlen:=r'.length
    obtain ⟨o,ho,hc,n,hd⟩:=pl
    exact call_list_seq p (.inr rfl) ho hc hd (fun h' c' kp e=>fin its r' hz h' c' kp e) (by simp only [List.size_toArray] <;> omega)
theorem Yk:Zx X (.type "tuple") (fun xs H Q=>∃ p ys,xs=[.ref p]∧((SqL X.K H p ys∧∀ l,H l=none→Q (.ref l) (upd H l (.tup ys)))∨(SqT X.K H p ys∧Q (.ref p) H))):=by
  intro pins s σ H xs us Q I r h
  obtain ⟨p,ys,rfl,h⟩:=h
  obtain ⟨u,rfl,rx⟩:=za0 r
  cases rx
  rcases h with ⟨hq,q⟩ | ⟨hq,q⟩
  · obtain ⟨its,r',pl,hz⟩:=I.list hq
    have hlen:=r'.length
    refine call_tuple_list pl.isList (fun h' kp=>?_) (by simp only [List.size_toArray] <;> omega)
    have I1:Inv X pins σ H { s with heap:=h' }:=I.kept (t':=s.toks) kp
    have I2:Inv X pins σ (upd H h'.objs.size (.tup ys)) { s with heap:=h'.push { cls:=.type "tuple",data:=.seq its.toArray } } :=
      I1.laid (t':=s.toks) (fun b o e=>Heap.get?_push_of_some _ e) (Nat.le_refl _) (show xf X.prog X.w _ _ _ (.tup ys) from ⟨hz,its,r',IsTup.new _ _⟩)
    exact ⟨.ref h'.objs.size,_,I2,rfl,q _ (I1.hok.fresh (Nat.le_refl _))⟩
  · obtain ⟨its,r',pl,hz⟩:=I.tuple hq
    exact call_tuple_same pl ⟨.ref p,H,I,rfl,q⟩
noncomputable def tyV (K:PySem.W.Frag)(T:String)(x:V)(H:Hp):Prop:=match x with
  | .str _=>T="str"
  | .int _=>T="int"
  | .ref p=>(T="list"∧∃ xs,SqL K H p xs)∨(T="tuple"∧∃ o,K.lookup p=some o∧o.cls=.type "tuple"∧o.dict=none) ∨
      (T="dict"∧((∃ kvs,H p=some (.dK kvs))∨∃ kvs,H p=some (.dT kvs)))∨(T="set"∧∃ S n,H p=some (.set S n))
  | _=>False
theorem ziT {pins:List (Addr × Obj)}{σ:St}{H:Hp}{s:Shared}{T:String}{x:V}{v:Value}(I:Inv X pins σ H s)(r:xw x v)(ty:tyV X.K T x H) :
    s.TypeIs v T∧∀ a,v=.ref a→∃ ob,s.heap.get? a=some ob∧ob.dict=none:=by
  cases x with
  | str z =>
    obtain ⟨t,rfl⟩:=r
    cases (show T="str" from ty)
    exact ⟨typeIs_str s z t,fun _ e=>nomatch e⟩
  | int i =>
    obtain ⟨t,rfl⟩:=r
    cases (show T="int" from ty)
    exact ⟨typeIs_int s i t,fun _ e=>nomatch e⟩
  | ref p =>
    cases r
    rcases ty with ⟨rfl,xs,hq⟩ | ⟨rfl,o,hk,hc,hd⟩ | ⟨rfl,hk⟩ | ⟨rfl,S,n,hk⟩
    · obtain ⟨its,_,pl,_⟩:=I.list hq
      refine ⟨pl.isList.typeIs,fun a e=>?_⟩
      cases e
      obtain ⟨o,n,e,c,hd,_⟩:=pl
      exact ⟨o,e,hd⟩
    · refine ⟨⟨o,I.kIn p o hk,hc⟩,fun a e=>?_⟩
      cases e
      exact ⟨o,I.kIn _ o hk,hd⟩
    · have z:∃ o,s.heap.get? p=some o∧o.ExactDict:=by
        rcases hk with ⟨kvs,hk⟩ | ⟨kvs,hk⟩
        · obtain ⟨_,_,_,_,o,_,_,e,ex,_⟩:=I.hok p _ hk
          exact ⟨o,e,ex⟩
        · obtain ⟨_,_,_,_,o,_,_,e,ex,_⟩:=I.hok p _ hk
          exact ⟨o,e,ex⟩
      obtain ⟨o,e,ex⟩:=z
      refine ⟨⟨o,e,ex.1⟩,fun a e2=>?_⟩
      cases e2
      exact ⟨o,e,ex.2.1⟩
    · obtain ⟨o,_,_,_,e,ex,_⟩:=I.hok p _ hk
      refine ⟨⟨o,e,ex.1⟩,fun a e2=>?_⟩
      cases e2
      exact ⟨o,e,ex.2.1⟩
  | _=>exact False.elim ty
noncomputable def tBM (K:PySem.W.Frag)(T:String)(r:V→List V→Hp→VK→Prop)(to:TE)(t:TA):TE:=fun σ H Q=>to σ H fun x H1=>tyV K T x H1∧t σ H1 fun xs H2=>r x xs H2 Q
variable {o e:Expr}{es:List Expr}{to:TE}{t:TA}{name:Str}{apos cpos:Pos}{T id:String}{r:V→List V→Hp→VK→Prop}
theorem za3 (pa:PlainAttrs T) (slot:Slot T name id) (hty:typeOf (.builtin id)=pure (.type "method_descriptor")) (hm:MtR X id r) (ho:PE X o to) (ha:PA X (e::es) t)
    (hbase:attributeBase o name X.env (eval o X.env)=eval o X.env:=by rfl)
    (hfew:((backTo cpos (starEach (e::es) X.env)).all (fun x=>!x.1)&&(backToKw cpos (keywordEach [] X.env)).all (fun x=>x.1.isSome)
      && decide ((e::es).length+([]:List Keyword).length+(if ([]:List Keyword).isEmpty then 0 else 1) < 30))=true:=by rfl)
    (hline:(apos.endLine == cpos.line)=true:=by rfl) (hs:starEach (e::es) X.env=(false,eval e X.env)::starEach es X.env:=by rfl) (hplain:(backTo cpos (starEach es X.env)).any (·.1)=false:=by rfl) :
    PE X (.Call (.Attribute o name apos) (e::es) [] cpos) (tBM X.K T r to t):=by
  intro pins s σ H Q I h
  refine wpAny_Call_method_late hbase hfew hline rfl (thn (ho pins s σ H _ I h) fun v s1 hh9=>?_)
  obtain ⟨x,H1,I1,r1,ty,q1⟩:=hh9
  obtain ⟨h1,h2⟩:=ziT I1 r1 ty
  refine ⟨T,id,pa,slot,hty,h1,h2,?_⟩
  have hA:=ha cpos pins s1 σ H1 _ I1 q1
  rw [hs] at hA ⊢
  refine Calls.callWith_builtin (by show (false||(backTo cpos (starEach es X.env)).any (·.1))=false;rw [hplain] <;> rfl) (Calls.evalArgs_plain ?_)
  exact thn hA fun us s2 ⟨vs,H2,I2,r2,q2⟩=>hm pins s2 σ H2 x vs v us Q I2 r1 r2 q2
/- xs.append(e),list.index on a module's tuple .. are MtR facts of 06m -/
end
end L2
namespace L2
open PySem PySem.Spec PyProof.Rows
noncomputable def MtM (X:Cx)(id:String)(r:V→List V→Hp→VK→Prop):Prop :=
  ∀ (pins:List (Addr × Obj)) (s:Shared) (σ:St) (H:Hp) (x:V) (xs:List V) (v:Value) (us:List Value) (Q:VK),Inv X pins σ H s→xw x v→xj xs us→r x xs H Q →
    wpAny (model X.prog X.w) X.A (call (.builtin id) (v::us)) (EP X pins σ Q) X.xe s
theorem xj.one:∀ {x:V} {us:List Value},xj [x] us→∃ u,us=[u]∧xw x u:=by
  intro x us h
  cases h with | cons r t=>cases t;exact ⟨_,rfl,r⟩
theorem xj.rep {xs:List V}{us:List Value}(h:xj xs us):∀ k:Nat,xj (List.replicate k xs).flatten (List.replicate k us).flatten
  | 0=>.nil
  | k+1=>by
    rw [List.replicate_succ,List.replicate_succ,List.flatten_cons,List.flatten_cons]
    exact xj.append h (xj.rep h k)
theorem Wf (its:List Value):∀ (k:Nat) (acc:List Value),
    List.foldl (fun x1 x2=>x1++x2) acc.toArray (List.replicate k its.toArray)=(acc++(List.replicate k its).flatten).toArray
  | 0,acc=>by simp
  | k+1,acc=>by
    have e:acc.toArray++its.toArray=(acc++its).toArray:=by simp
    have e2:(acc++its)++(List.replicate k its).flatten=acc++(List.replicate (k+1) its).flatten:=by
      rw [List.replicate_succ,List.flatten_cons,List.append_assoc]
    rw [←e2,← Wf its k (acc++its),← e,List.replicate_succ,List.foldl_cons]
section
variable {X:Cx}{pins:List (Addr × Obj)}{σ:St}{H:Hp}{s:Shared}{l b:Addr}{xs ys zs:List V}
theorem Inv.lset {its its':List Value}{n:Nat}{f:Array Value→Array Value}{t':Nat}(I:Inv X pins σ H s)(hH:H l=some (.lst xs))
    (e:s.heap.get? l=some { cls:=.type "list",data:=.seq its.toArray n }) (hf:f its.toArray=its'.toArray) (hv:xj ys its') (hz:ys.length≤sizeLine) :
    Inv X pins σ (upd H l (.lst ys)) { s with heap:=s.heap.update l (Obj.mapSeq f),toks:=t' }:=by
  have q:=PySem.IsL.update e f
  rw [hf] at q
  refine I.write (x:=l) (e:=l) (by rw [hH];exact trivial) (.inl rfl) (fun b' u hb hu=>(Heap.get?_update_other s.heap (Obj.mapSeq f) (Ne.symm hb)).trans hu) ⟨_,q⟩ ?_
  exact ⟨hz,its',_,hv,q⟩
theorem Inv.lnew {its:List Value}{t':Nat}(I:Inv X pins σ H s)(hv:xj ys its)(hz:ys.length≤sizeLine) :
    Inv X pins σ (upd H s.heap.objs.size (.lst ys)) { s with heap:=s.heap.push { cls:=.type "list",data:=.seq its.toArray },toks:=t' } :=
  I.laid (fun _ _ q=>Heap.get?_push_of_some _ q) (Nat.le_refl _) ⟨hz,its,0,hv,Heap.get?_push_size _ rfl⟩
theorem Inv.fresh (I:Inv X pins σ H s):H s.heap.objs.size=none:=I.hok.fresh (Nat.le_refl _)
theorem Inv.lstM (I:Inv X pins σ H s) (hH:H l=some (.lst xs)):xs.length≤sizeLine∧∃ (its:List Value) (n:Nat),xj xs its∧xs.length=its.length∧s.heap.get? l=some { cls:=.type "list",data:=.seq its.toArray n }:=by
  obtain ⟨z,its,n,r,e⟩:=I.hok l _ hH
  exact ⟨z,its,n,r,r.length,e⟩
theorem zb5 {n:Nat}(h:n≤sizeLine):Builtin.List.listTooLong n=false:=by
  unfold Builtin.List.listTooLong
  exact decide_eq_false (by omega)
end
section
variable {X:Cx}
noncomputable def zeU:V→List V→Hp→VK→Prop:=fun x vs H Q=>∃ l xs y,x=.ref l∧vs=[y]∧H l=some (.lst xs)∧xs.length < sizeLine∧Q .non (upd H l (.lst (xs++[y])))
theorem ZJ:MtM X "list.append" zeU:=by
  intro pins s σ H x vs v us Q I rx rv h
  obtain ⟨l,xs,y,rfl,rfl,hH,hz,q⟩:=h
  cases rx
  obtain ⟨u,rfl,ru⟩:=rv.one
  obtain ⟨z,its,n,r,hl,e⟩:=I.lstM hH
  refine call_meets F.slot_list_append ⟨_,e,rfl⟩ F.entry_list_append (F.args_list_append_2 _ _) (PySem.list_append l its.toArray n u (by rw [List.size_toArray];omega)) ⟨e,?_⟩
  refine ⟨.non,_,I.lset (its':=its++[u]) hH e (by simp) (r.append (.cons ru .nil)) ?_,rfl,q⟩
  rw [List.length_append,List.length_singleton]
  omega
noncomputable def zei:V→List V→Hp→VK→Prop:=fun x vs H Q=>∃ l b xs zs,x=.ref l∧vs=[.ref b]∧H l=some (.lst xs)∧H b=some (.lst zs)∧xs.length+zs.length≤sizeLine∧Q .non (upd H l (.lst (xs++zs)))
theorem zem:MtM X "list.extend" zei:=by
  intro pins s σ H x vs v us Q I rx rv h
  obtain ⟨l,b,xs,zs,rfl,rfl,hH,hB,hz,q⟩:=h
  cases rx
  obtain ⟨u,rfl,ru⟩:=rv.one
  cases ru
  obtain ⟨z,its,n,r,hl,e⟩:=I.lstM hH
  obtain ⟨z2,its2,n2,r2,hl2,e2⟩:=I.lstM hB
  have hsz:its.toArray.size+its2.toArray.size≤sizeLine:=by rw [List.size_toArray,List.size_toArray];omega
  have hlong:¬ (!its.toArray.isEmpty&&Builtin.List.listTooLong (its.toArray.size+its2.toArray.size))=true:=by
    rw [zb5 hsz,Bool.and_false]
    exact Bool.false_ne_true
  refine call_meets F.slot_list_extend ⟨_,e,rfl⟩ F.entry_list_extend (F.args_list_extend_2 _ _)
    (AutoSeq1.list_extend_list_list_0 l its.toArray n b its2.toArray n2 hlong (by rw [List.size_toArray];omega) (by omega)) ⟨e,e2,?_⟩
  refine ⟨.non,_,I.lset (its':=its++its2) hH e (by simp) (r.append r2) ?_,rfl,q⟩
  rw [List.length_append]
  omega
noncomputable def zkt:R2:=fun x y H Q=>∃ l b xs zs,x=.ref l∧y=.ref b∧H l=some (.lst xs)∧H b=some (.lst zs)∧xs.length+zs.length≤sizeLine∧∀ p,H p=none→Q (.ref p) (upd H p (.lst (xs++zs)))
theorem zbN:OpR X (binaryOp .Add) zkt:=by
  intro pins s σ H x y v u Q I rx ry h
  obtain ⟨l,b,xs,zs,rfl,rfl,hH,hB,hz,q⟩:=h
  cases rx
  cases ry
  obtain ⟨z,its,n,r,hl,e⟩:=I.lstM hH
  obtain ⟨z2,its2,n2,r2,hl2,e2⟩:=I.lstM hB
  refine PySem.P.add_list e e2 ?_ (by rw [List.size_toArray,List.size_toArray];omega)
  have ea:its.toArray++its2.toArray=(its++its2).toArray:=by simp
  rw [ea]
  exact ⟨.ref _,_,I.lnew (t':=s.toks) (r.append r2) (by rw [List.length_append];omega),rfl,q _ I.fresh⟩
noncomputable def rRep:R2:=fun x y H Q=>∃ l k xs,x=.ref l∧y=.int k∧H l=some (.lst xs)∧-(2 ^ 63)≤k∧k < 2 ^ 63∧xs.length*k.toNat≤sizeLine ∧
  ∀ p,H p=none→Q (.ref p) (upd H p (.lst (List.replicate k.toNat xs).flatten))
theorem zaV {α:Type}(xs:List α)(k:Nat):(List.replicate k xs).flatten.length=k*xs.length:=by
  induction k with
  | zero=>simp
  | succ k ih=>rw [List.replicate_succ,List.flatten_cons,List.length_append,ih,Nat.succ_mul,Nat.add_comm]
theorem zjV:OpR X (binaryOp .Mult) rRep:=by
  intro pins s σ H x y v u Q I rx ry h
  obtain ⟨l,k,xs,rfl,rfl,hH,h1,h2,hz,q⟩:=h
  cases rx
  obtain ⟨t,rfl⟩:=ry
  obtain ⟨z,its,n,r,hl,e⟩:=I.lstM hH
  have hlen:its.toArray.size*k.toNat≤sizeLine:=by rw [List.size_toArray,← hl];exact hz
  have hcap:¬ its.toArray.size*k.toNat > (2 ^ 63 - 1) / 8:=by
    have:(sizeLine:Nat)≤(2 ^ 63 - 1) / 8:=by decide
    omega
  have hfit:¬ (!Builtin.List.listFitsIndex k)=true:=by
    rw [fitsIndex_both h1 h2]
    exact Bool.false_ne_true
  have hlong:¬ Builtin.List.listTooLong (its.toArray.size*k.toNat)=true:=by
    rw [zb5 hlen]
    exact Bool.false_ne_true
  have hnew:List.foldl (fun x1 x2=>x1++x2) #[] (List.replicate (if its.toArray.isEmpty=true then 0 else k.toNat) its.toArray)=(List.replicate k.toNat its).flatten.toArray:=by
    have f0:∀ m:Nat,List.foldl (fun x1 x2=>x1++x2) #[] (List.replicate m its.toArray)=(List.replicate m its).flatten.toArray:=fun m=>by
      have:=Wf its m []
      rw [List.nil_append] at this
      exact this
    rw [f0]
    cases its with
    | nil=>simp
    | cons a r'=>rw [if_neg (by simp)]
  refine wpAny_binaryOp_repeat_ref (T:="list") (U:="int") (by decide) ⟨_,e,rfl⟩ (fun s'=>typeIs_int s' k t) noFill_list_mul F.fills_int_mul F.slot_int_rmul repeat_list F.slot_int_index.lookup
    (call_meets F.slot_int_rmul (typeIs_int s k t) F.entry_int_rmul (F.args_int_rmul_2 _ _) (int___rmul___int_list k t l its.toArray n)
      ⟨e,rfl,⟨_,e,rfl⟩,call_meets F.slot_list_mul ⟨_,e,rfl⟩ F.entry_list_mul (F.args_list_mul_2 _ _) (AutoListH.list___mul___list_int_3 l its.toArray n k t hfit hcap hlong) ⟨e,?_⟩⟩)
  rw [hnew]
  exact ⟨.ref _,_,I.lnew (t':=s.toks) (r.rep k.toNat) (by rw [zaV,Nat.mul_comm];exact hz),rfl,q _ I.fresh⟩
end
section
variable {prog:Program}{w:World}{A:Around}{E:Value→Shared→Prop}{s:Shared}
end
section
variable {X:Cx}
end
end L2
namespace Att
open PySem PySem.W PySem.Calls PyProof.Rows
theorem X0 {P:Params}{h:Heap}:∀ (ns:List Int) (vs:List Value),WellAll P h vs (ns.map WData.int)→IntsAre vs ns:=by
  intro ns
  induction ns with
  | nil =>
    intro vs w
    rw [List.map_nil] at w
    cases w
    exact .nil
  | cons n ns ih =>
    intro vs w
    rw [List.map_cons] at w
    cases w with
    | cons a b =>
      cases a
      exact .cons _ _ (ih _ b)
theorem zdO {l:OpenLaw}{n:Nat}(hn:l.most=some n){P:Params}{h:Heap}{args:List WData}{vals:List Value}
    (hpre:l.row.toRowW.claim.pre args=true) (hwl:WellAll P h vals args) :
    ∃ a vs ns,vals=[Value.ref a]∧args=[WData.list (ns.map WData.int)]∧h.get? a=some { cls:=.type "list",data:=.seq vs.toArray }∧IntsAre vs ns∧ns.length≤n:=by
  have hsh:WShape.hasAll [] args [.list .int]=true:=(pre_splitW hpre).1
  have hc:l.pre.holds [] { args:=args }=true:=(pre_splitW hpre).2
  obtain ⟨d,r,rfl,h1,h2⟩:=hasAllW_cons hsh
  obtain rfl:=hasAllW_nil h2
  obtain ⟨xs,rfl,h3⟩:=hasW_list h1
  obtain ⟨ns,rfl⟩:=items_int h3
  have hlen:ns.length≤n:=by
    unfold OpenLaw.pre at hc
    have h4:(WTm.not (.lt (.lit (.int (n:Int))) (.len (.arg 0)))).holds [] { args:=[.list (ns.map .int)] }=true:=by
      have h4:=(holds_andW hc).1
      rw [hn] at h4
      exact h4
    have h5:=condW_of h4 (w_not (w_lt w_lit (w_len_list (w_arg rfl))))
    rw [List.length_map] at h5
    refine Nat.le_of_not_lt fun q=>?_
    have q':(n:Int) < ((ns.length:Nat):Int):=by omega
    first
      | (rw [decide_eq_true q'] at h5;exact absurd h5 (by decide))
      | (simp at h5;omega)
  cases hwl with
  | cons w1 w2 =>
    cases w2
    cases w1 with
    | list ho hall=>exact ⟨_,_,ns,rfl,rfl,ho,X0 ns _ hall,hlen⟩
theorem zd4 (l:OpenLaw)(args:List WData):l.row.toRowW.claim.post args (.bool true) args=true :=
  postW_of (r:=l.row.toRowW) (X:=(true == true))
    (show WShape.has [] (.bool true) .bool=true by first | rfl | decide | simp [WShape.has,WShape.arms,WShape.armsAll])
    (show (WTm.eq .res (.lit (.bool true))).value [] { args:=args,res:=some (.bool true),after:=args }=some (.bool (true == true)) from w_eq_bool (w_res rfl) w_lit) rfl
theorem attach_call {l:OpenLaw}{n:Nat}{q:Program}{loose:List Str}{XP:(Str→Option Value)→Heap→Prop}{YP:World→Heap→Prop}{d:DefRec}
    (hn:l.most=some n) (hdf:d.params.defaults=[])
    (call:∀ (w:World) (s₀ s₁:Shared) (mg mb:Str→Option Value) (fa:Addr) (o:Obj) (pm cd doc:Value) (a:Addr) (vs:List Value) (ns:List Int),
      Ground q loose [] XP w s₀ mg mb s₁.heap→YP w s₁.heap →
      s₁.heap.get? fa=some o→o.data=.func (docDef d.name d.params d.body d.scope pm cd doc)→s₁.heap.CodeRec cd d.name→mg d.name=some (.ref fa) →
      s₁.heap.get? a=some { cls:=.type "list",data:=.seq vs.toArray }→IntsAre vs ns→ns.length≤n→s₁.gens=#[] →
      codeAny (model l.prog w) callerA (.call (.ref fa) ⟨[.ref a],[]⟩) (fun r s'=>r=.ok (.ret (.bool true))∧OldK s₁.heap s'.heap∧s'.os=s₁.os∧AllBare s'.gens) s₁) :
    WalkO q loose XP YP l.row.toRowW d [] (fun f vs=>PySem.call f vs):=by
  intro w s₀ s₁ mg mb G Y fa o pm cd doc dV kV ho hd hcd hD hmg hg args vals as hpre hlay hrd hwl hlo
  obtain rfl:dV=.none:=Dflts.none hD hdf
  obtain rfl:kV=.none:=Dflts.noKw hD
  obtain ⟨a,vs,ns,rfl,rfl,hobj,hints,hlen⟩:=zdO hn hpre hwl
  refine enter_call (codeAny_mono (call w s₀ s₁ mg mb fa o pm cd doc a vs ns G Y ho (fd_plain hd) hcd hmg hobj hints hlen hg) fun r s' hq=>?_)
  obtain ⟨rfl,h2,h3,h4⟩:=hq
  exact ⟨.inl ⟨.bool true,.bool true,[],rfl,fun _=>rfl,.bool true,zd4 l _,fun _=>⟨List.Pairwise.nil,fun _ hm=>(nomatch hm)⟩⟩,h2,h3,h4⟩
section
variable {prog:Program}{w:World}{A:Around}{E:Value→Shared→Prop}{s:Shared}{K:Frag}
noncomputable def ledger (h:Heap)(L d:Addr):List (Addr × Obj):=(List.range h.objs.size).filterMap fun a=>if a=L∨a=d then none else (h.get? a).map fun o=>(a,o)
end
end Att
namespace L2
open PySem PySem.Spec PyProof.Rows
theorem zdZ:∀ {vs:List Value} {ns:List Int},IntsAre vs ns→xj (ns.map V.int) vs:=by
  intro vs ns h
  induction h with
  | nil=>exact .nil
  | cons n t h ih=>exact .cons ⟨t,rfl⟩ ih
noncomputable def zkL (H:Hp):Prop:=∀ b,H b=none∨∃ o xs,H b=some (.frz o (.lst xs))
theorem zfB {P:Program}{w:World}{K:PySem.W.Frag}{mg mb:Str→Option Value}{CX:CXT}{k:Nat}{fa a:Addr}{fd:FuncData}{x:Str}{sp:Sp}{s₁:Shared}{vs:List Value}{ns:List Int}
    (KX:K.In s₁.heap) (hns:s₁.heap.Ns mainGlobals mg) (hb:s₁.heap.Ns builtinsNs mb) (hbb:∀ x:Str,x≠"__name__"→mb x=bootBuiltins x) (hlim:s₁.heap.NoLimit) (hg:s₁.gens=#[])
    (ha:s₁.heap.get? a=some { cls:=.type "list",data:=.seq vs.toArray }) (hi:IntsAre vs ns) (hl:ns.length≤sizeLine) (hr:v0 k callerA)
    (F:∀ base:Heap,K.In base→base.Ns mainGlobals mg→xB P w K mg base CX k fa fd [x] sp) (hbind:∀ (s:Shared) (u:Value),BindsTo s fd ⟨[u],[]⟩ [(x,u)])
    (hsp:∀ H:Hp,zkL H→SqL K H a (ns.map V.int)→sp [.ref a] H (fun v _=>v=.bl true) fun _ _ _=>False)
    (hCX:∀ H e s',CX [] H s₁ (fun _ _ _=>False) e s'→False) :
    codeAny (model P w) callerA (.call (.ref fa) ⟨[.ref a],[]⟩) (fun r s'=>r=.ok (.ret (.bool true))∧OldK s₁.heap s'.heap∧s'.os=s₁.os∧AllBare s'.gens) s₁:=by
  have rv:=zdZ hi
  have lenV:=hi.length
  -- from an abstract heap in which nothing but the script may be tracked
  have core:∀ H:Hp,zkL H→SqL K H a (ns.map V.int)→HOk P w H s₁.heap→(∀ b,H b≠none→b=a)→(H a≠none→K.lookup a=none) →
      codeAny (model P w) callerA (.call (.ref fa) ⟨[.ref a],[]⟩) (fun r s'=>r=.ok (.ret (.bool true))∧OldK s₁.heap s'.heap∧s'.os=s₁.os∧AllBare s'.gens) s₁:=by
    intro H hO hS hok hA hK
    have base_of:∀ {b:Addr} {o:Obj},s₁.heap.get? b=some o→H b=none→(zfV s₁.heap H).get? b=some o:=fun e n=>ze7 e n
    have noA:∀ {b:Addr} {o:Obj} {es:Array DictEntry} {ep:Nat},s₁.heap.get? b=some o→o.data=.dict es ep→H b=none:=fun {b o es ep} e d=>by
      cases q:H b with
      | none=>rfl
      | some u =>
        have e':b=a:=hA b (by rw [q];simp)
        subst e'
        rw [ha] at e;cases e
        have d':Data.seq vs.toArray _=Data.dict es ep:=d
        cases d'
    have nsK:∀ {b:Addr} {m:Str→Option Value},s₁.heap.Ns b m→(zfV s₁.heap H).Ns b m:=fun {b m} ⟨o,es,ep,e,d,r⟩=>⟨o,es,ep,base_of e (noA e d),d,r⟩
    have hKb:K.In (zfV s₁.heap H):=fun b o e=>base_of (KX b o e) (by
      cases q:H b with
      | none=>rfl
      | some u =>
        have e':b=a:=hA b (by rw [q];simp)
        subst e'
        rw [hK (by rw [q];simp)] at e;cases e)
    have hM:Mod K mg (zfV s₁.heap H):=⟨hKb,nsK hns,⟨mb,nsK hb,hbb⟩,let ⟨mc,h1,h2⟩:=hlim;⟨mc,nsK h1,h2⟩⟩
    have e0:zgZ P w K mg (zfV s₁.heap H) callerA [] s₁ H:=⟨rfl,hM,fun b o e=>zhK e,Nat.le_of_eq (zdP _ _),trivial,fun b hb=>absurd (show b∈([]:List Addr) from hb) (by simp),hok,.of_eq hg⟩
    refine codeAny_mono ((F _ hKb (nsK hns)).run callerA [] s₁ H ⟨[.ref a],[]⟩ [.ref a] [.ref a] _ _ hr e0 (hbind s₁ (.ref a)) (.cons rfl .nil) (hsp H hO hS)) fun r s' h=>?_
    cases r with
    | error e=>exact (hCX H e s' h).elim
    | ok fl =>
      cases fl with
      | next=>exact False.elim h
      | brk=>exact False.elim h
      | cont=>exact False.elim h
      | ret u =>
        obtain ⟨v,H',os,bare,un,hok',r',q⟩:=h
        have q':v=.bl true:=q
        subst q'
        obtain rfl:u=Value.bool true:=r'
        refine ⟨rfl,OldK.of_keep fun b o e=>?_,os,bare⟩
        cases q:H b with
        | none=>exact un.keep b o e q (by intro z;exact absurd (show b∈([]:List Addr) from z) (by simp)) (by simp)
        | some u =>
          rcases hO b with z | ⟨ob,xs,z⟩
          · rw [q] at z;cases z
          · have z2:=un.frzs b ob _ z
            obtain ⟨e1,_⟩:=hok b _ z
            obtain ⟨e2,_⟩:=hok' b _ z2
            rw [e] at e1;cases e1
            exact e2
  cases hk:K.lookup a with
  | some o =>
    -- the script is one of the module's own objects
    have e:=KX a o hk
    rw [ha] at e
    cases e
    refine core (fun _=>none) (fun _=>.inl rfl) (.inr ⟨_,vs.toArray,_,hk,rfl,rfl,rfl,by rw [List.size_toArray,lenV];exact hl,by simpa using rv⟩) (fun b u z=>by have z':(none:Option HO)=some u:=z;cases z') (fun b z=>absurd rfl z) fun z=>absurd rfl z
  | none =>
    refine core (fun b=>if b=a then some (.frz { cls:=.type "list",data:=.seq vs.toArray } (.lst (ns.map V.int))) else none) (fun b=>?_) (.inl (.inr ⟨{ cls:=.type "list",data:=.seq vs.toArray },if_pos rfl⟩)) (fun b u z=>?_) (fun b z=>?_) fun _=>hk
    · by_cases hb:b=a
      · exact .inr ⟨_,_,if_pos hb⟩
      · exact .inl (if_neg hb)
    · by_cases hb:b=a
      · have z':=(if_pos hb).symm.trans z
        cases z'
        subst hb
        exact ⟨ha,by rw [List.length_map];exact hl,vs,_,rv,ha⟩
      · have z':=(if_neg hb).symm.trans z
        cases z'
    · by_cases hb:b=a
      · exact hb
      · exact absurd (if_neg hb) z
end L2
namespace L2
open PySem PySem.Spec PyProof.Rows
theorem walk_of {l:PySem.W.OpenLaw}{n k:Nat}{q:Program}{loose:List Str}{XP:(Str→Option Value)→Heap→Prop}{YP:World→Heap→Prop}{d:DefRec}{K:Params→PySem.W.Frag}{CX:World→CXT}{sp:World→Sp}{x:Str}
    (hn:l.most=some n) (hn2:n≤sizeLine) (hdf:d.params.defaults=[]) (hr:v0 k callerA)
    (hY:∀ (w:World) (h:Heap),YP w h→(K w.params).In h)
    (F:∀ (w:World) (mg:Str→Option Value) (fa:Addr) (h:Heap),(K w.params).In h→h.Ns mainGlobals mg→mg d.name=some (.ref fa) →
      ∃ fd:FuncData,(∀ (s:Shared) (u:Value),BindsTo s fd ⟨[u],[]⟩ [(x,u)]) ∧
        ∀ base:Heap,(K w.params).In base→base.Ns mainGlobals mg→xB l.prog w (K w.params) mg base (CX w) k fa fd [x] (sp w))
    (hsp:∀ (w:World) (H:Hp) (a:Addr) (ns:List Int),ns.length≤n→zkL H→SqL (K w.params) H a (ns.map V.int)→sp w [.ref a] H (fun v _=>v=.bl true) fun _ _ _=>False)
    (hCX:∀ (w:World) (H:Hp) (s:Shared) (e:Value) (s':Shared),CX w [] H s (fun _ _ _=>False) e s'→False) :
    PySem.W.WalkO q loose XP YP l.row.toRowW d [] (fun f vs=>PySem.call f vs):=by
  refine Att.attach_call hn hdf fun w s₀ s₁ mg mb fa o pm cd doc a vs ns G Y ho hd hcd hmg hobj hints hlen hg=>?_
  have KX:=hY w _ Y
  obtain ⟨fd,hb,hF⟩:=F w mg fa _ KX G.T.g hmg
  exact zfB KX G.T.g G.T.b G.T.builtins G.T.nolimit hg hobj hints (Nat.le_trans hlen hn2) hr hF hb (fun H hO hS=>hsp w H a ns hlen hO hS) fun H e s'=>hCX w H s₁ e s'
end L2
namespace L2
open PySem PySem.Spec PyProof.Rows
noncomputable def zx (s:Stmt):Arguments:=match s with
  | .FunctionDef _ a _ _ _ _ _ _ _ _=>a
  | _=>{ posonlyargs:=[],args:=[],vararg:=none,kwonlyargs:=[],kw_defaults:=[],kwarg:=none,defaults:=[] }
noncomputable def zt (s:Stmt):List Stmt:=match s with
  | .FunctionDef _ _ b _ _ _ _ _ _ _=>b
  | _=>[]
noncomputable def ze (s:Stmt):Scope:=match s with
  | .FunctionDef _ _ _ _ _ _ sc _ _ _=>sc
  | _=>{ kind:=.function,names:=[],isGenerator:=false,isCoroutine:=false }
noncomputable abbrev CX0:CXT:=fun _ _ _ _ _ _=>False
noncomputable abbrev E0:XK:=fun _ _ _=>False
theorem zkH {X:Cx}:Xs CX0 X E0:=fun _ _ _ _ _ _ _ h=>h.elim
set_option genInjectivity false in
set_option genSizeOf false in
set_option genCtorIdx false in
structure Fun (K:PySem.W.Frag) (x qual:Str) (st:Stmt) (f:Addr) (fd:FuncData):Prop where
  ex:∃ (oc:Value) (od:Option Addr) (kV doc pm:Value) (an:Option Addr) (cdv ct:Value) (osl:Array (Option Value)),
    fd=PySem.W.fnOf x qual (zx st) (zt st) (ze st) .none kV doc pm an cdv ct∧K.lookup f=some ⟨oc,od,.func fd,osl⟩∧PySem.W.codeIn K cdv qual=true
  kp:PySem.W.keepIn K (.ref f)=true
section
variable {P:Program}{w:World}{K:PySem.W.Frag}{mg:Str→Option Value}{base:Heap}
theorem Fun.ok {x qual:Str}{st:Stmt}{f:Addr}{fd:FuncData}{N ps:List Str}{k:Nat}{sp:Sp}(F:Fun K x qual st f fd)(S:zu N ps (ze st))(len:∀ vs H Q E,sp vs H Q E→vs.length=ps.length)
    (hbody:∀ (cdv:Value) (A:Around) (outer:List Env) (s:Shared) (H:Hp) (vs:List V) (Q:VK) (E:XK),v0 k (A.deeper (envOfC qual (ze st) s.heap.objs.size f cdv))→sp vs H Q E →
      ∃ t,PSs (YC CX0 P w K mg base N qual (ze st) f cdv A outer s H E).nox (zt st) t∧t { nx:=fun _ H'=>Q .non H',rt:=Q } (start N vs) H):xB P w K mg base CX0 (k+1) f fd ps sp:=by
  obtain ⟨oc,od,kV,doc,pm,an,cdv,ct,osl,rfl,lk,hcd⟩:=F.ex
  refine ziX lk hcd S len fun A outer s H vs Q E hr hsp=>?_
  obtain ⟨t,h,q⟩:=hbody cdv A outer s H vs Q E hr hsp
  exact ⟨t,h.nox,q⟩
theorem Fun.binds {x qual:Str}{st:Stmt}{f:Addr}{fd:FuncData}{ps:List Str}(F:Fun K x qual st f fd)
    (h:∀ (kV doc pm:Value) (an:Option Addr) (cdv ct:Value) (us:List Value),us.length=ps.length→bindArgs (PySem.W.fnOf x qual (zx st) (zt st) (ze st) .none kV doc pm an cdv ct) ⟨us,[]⟩=pure (ps.zip us)):XH K fd ps []:=by
  obtain ⟨oc,od,kV,doc,pm,an,cdv,ct,osl,rfl,lk,hcd⟩:=F.ex
  exact .all (h kV doc pm an cdv ct)
theorem zW {x qual:Str}{st:Stmt}{f:Addr}{oc:Value}{od an:Option Addr}{osl:Array (Option Value)}{kV doc pm cdv ct:Value}(l:K.lookup f=some ⟨oc,od,.func (PySem.W.fnOf x qual (zx st) (zt st) (ze st) .none kV doc pm an cdv ct),osl⟩)
    (c:PySem.W.codeIn K cdv qual=true) (k:PySem.W.keepIn K (.ref f)=true):Fun K x qual st f (PySem.W.fnOf x qual (zx st) (zt st) (ze st) .none kV doc pm an cdv ct):=⟨⟨oc,od,kV,doc,pm,an,cdv,ct,osl,rfl,l,c⟩,k⟩
end
theorem zfq {A:Around}{k:Nat}(hr:v0 k A):A.units+1 < cLine:=Nat.lt_of_le_of_lt (Nat.add_le_add_left (by decide:1≤64) _) hr.units
theorem YK {n:Nat}(h:n≤1000):n < sizeLine:=Nat.lt_of_le_of_lt h (by decide)
section
variable {X:Cx}
theorem pv (i:Nat) {x:Str} {pos:Pos} (hN:X.N[i]?=some x:=by rfl) (hv:Vis X.env.scope x:=by first | exact Or.inl rfl | exact Or.inr (Or.inl rfl) | exact Or.inr (Or.inr rfl)) (hd:(x == ("__debug__":Str))=false:=by decide)
    (hcd:(x == ("__classdict__":Str))=false:=by decide):PE X (.Name x pos) (Vb i):=zjZ hN hv hd hcd
end
noncomputable def yJ (H H':Hp):Prop:=∀ b o,H b=some o→H' b=some o
theorem yJ.refl (H:Hp):yJ H H:=fun _ _ h=>h
theorem yJ.trans {H H1 H2:Hp}(a:yJ H H1)(b:yJ H1 H2):yJ H H2:=fun c o h=>b c o (a c o h)
theorem yJ.free {H H':Hp}(e:yJ H H'){l:Addr}(h:H' l=Option.none):H l=Option.none:=by
  cases q:H l with
  | none=>rfl
  | some o =>
    rw [e l o q] at h
    cases h
theorem yJ.seq {K:PySem.W.Frag}{H H':Hp}{a:Addr}{xs:List V}(e:yJ H H')(h:SqL K H a xs):SqL K H' a xs:=by
  rcases h with (h | ⟨o,h⟩) | h
  · exact .inl (.inl (e _ _ h))
  · exact .inl (.inr ⟨o,e _ _ h⟩)
  · exact .inr h
end L2
namespace L2
open PySem PySem.Spec PyProof.Rows
end L2
namespace L2
open PySem PySem.Spec PyProof.Rows
section
variable (P:Program)(w:World)
end
section
variable {P:Program}{w:World}{H H':Hp}{h h':Heap}{a:Addr}{o:HO}
end
section
variable {P:Program}{w:World}{H:Hp}{h h':Heap}{x e:Addr}{o':HO}
end
section
variable {fs fs' ex ex':List Addr}{H H1 H2:Hp}{h h1 h2 h':Heap}{a x e:Addr}{o:HO}
end
end L2
namespace L2
open PySem PySem.Spec PyProof.Rows
section
variable {X:Cx}{pins:List (Addr × Obj)}{σ:List (Option V)}{H H':Hp}{s:Shared}{h':Heap}
end
end L2
namespace L2
open PySem PySem.Spec PyProof.Rows
section
variable {X:Cx}
variable {a b:Expr}{ta tb:TE}{pos:Pos}
variable {tA tB':TT}{rest:List Expr}
end
end L2
namespace L2
open PySem PySem.Spec PyProof.Rows
section
variable {X:Cx}{pins:List (Addr × Obj)}{σ:St}{H:Hp}{s:Shared}{a:Addr}{xs ys:List V}
end
section
variable {X:Cx}{pins:List (Addr × Obj)}{σ:St}{H:Hp}{s:Shared}{E:Value→Shared→Prop}
end
section
variable {X:Cx}{st:Stmt}{rest:List Stmt}{t u:TS}{e:Expr}{te:TE}{pos:Pos}
end
section
variable {X:Cx}{pos:Pos}
end
section
variable {X:Cx}{pos:Pos}
end
end L2
namespace L2
open PySem PySem.Spec PyProof.Rows
section
variable {X:Cx}{tg:Expr}
end
end L2
namespace L2
open PySem PySem.Spec PyProof.Rows
section
variable {X:Cx}{a b c:Expr}{ta tb tc:TE}{pos:Pos}
end
section
variable {X:Cx}{a b c:Expr}{ta tb tc:TE}{pos:Pos}
end
end L2
namespace L2
open PySem PySem.Spec PyProof.Rows
section
variable {prog:Program}{w:World}{A:Around}{E:Value→Shared→Prop}{s:Shared}{K:PySem.W.Frag}{x dx C f:Addr}{mA:Str→Option Value}{name:Str}{v:Value}
end
section
variable {P:Program}{w:World}{H H':Hp}{h h':Heap}{a C dx:Addr}{fs fs':List (Str × V)}
end
section
variable {X:Cx}{pins:List (Addr × Obj)}{σ:St}{H:Hp}{s:Shared}{a C dx:Addr}{fs:List (Str × V)}{f:Str}{v:V}{A:Around}{E:Value→Shared→Prop}
end
section
variable {X:Cx}{o e value:Expr}{f:Str}{pos pos' tpos:Pos}{ta tv:TE}
end
section
variable {X:Cx}{pins:List (Addr × Obj)}{σ:St}{H:Hp}{s:Shared}{A:Around}{E:Value→Shared→Prop}{Q:Value→Shared→Prop}{c:Value}{b:Bool}
end
end L2
namespace L2
open PySem PySem.Spec PyProof.Rows
section
variable {X:Cx}{e:Expr}{es:List Expr}{te:TE}{t:TA}{pos:Pos}
end
section
variable {X:Cx}{pins:List (Addr × Obj)}{σ:St}{H:Hp}{s s':Shared}
end
section
variable {X:Cx}{CX:CXT}{k:Nat}{f C:Addr}{fd:FuncData}{ps:List Str}{sp:Sp}{dvs:List V}{ds:List Value}{E:XK}{x m:Str}{p pos apos:Pos}{e o:Expr}{es:List Expr}{ta:TE}{t:TA}
end
section
variable {X:Cx}{CX:CXT}{k:Nat}{f C:Addr}{fd:FuncData}{ps ks:List Str}{sp:Sp}{E:XK}{x m:Str}{p pos apos kpos:Pos}{e o:Expr}{es:List Expr}{kws:List Keyword}{te ta:TE}{t tk:TA}{nm:Option Str}
variable {g:List Value→List Value→List Value}{gV:List V→List V→List V}
end
end L2
namespace L2
open PySem PySem.Spec PyProof.Rows
section
variable {X:Cx}{x:Str}{p pos:Pos}{e:Expr}{es:List Expr}{t:TA}{id T:String}{r:List V→Hp→VK→Prop}
end
end L2
namespace L2
open PySem PySem.Spec PyProof.Rows
section
variable {κ:Type}[DecidableEq κ]
noncomputable def zbY (kvs:List (κ × V))(k:κ):Option V:=(kvs.find? fun kv=>decide (kv.1=k)).map (·.2)
noncomputable def zaZ (kvs:List (κ × V))(k:κ)(v:V):List (κ × V) :=
  if (kvs.any fun kv=>decide (kv.1=k))=true then kvs.map (fun kv=>if kv.1=k then (kv.1,v) else kv) else kvs++[(k,v)]
theorem XQ {p:κ × V}{r:List (κ × V)}{k:κ}(e:p.1=k):zbY (p::r) k=some p.2:=by simp [zbY,List.find?_cons,e]
theorem XL {p:κ × V}{r:List (κ × V)}{k:κ}(e:¬ p.1=k):zbY (p::r) k=zbY r k:=by simp [zbY,List.find?_cons,e]
theorem Vy (k:κ):∀ kvs:List (κ × V),(kvs.any fun kv=>decide (kv.1=k))=(zbY kvs k).isSome
  | []=>rfl
  | p::r=>by
    rw [List.any_cons]
    by_cases e:p.1=k
    · simp only [XQ e,decide_eq_true e,Bool.true_or,Option.isSome_some]
    · rw [XL e,decide_eq_false e,Bool.false_or];exact Vy k r
theorem XZ (kvs:List (κ × V))(k:κ)(v:V):(zaZ kvs k v).length≤kvs.length+1:=by
  unfold zaZ
  split
  · rw [List.length_map];omega
  · rw [List.length_append,List.length_cons,List.length_nil];omega
theorem zbR.isSome_eq {o:Option V}{u:Option Value}(r:zbR o u):o.isSome=u.isSome:=by
  cases o with
  | none=>cases u with
    | none=>rfl
    | some _=>exact (show False from r).elim
  | some _=>cases u with
    | none=>exact (show False from r).elim
    | some _=>rfl
theorem KV.val {kvs:List (κ × V)}{vs:List (κ × Value)}(r:KV kvs vs)(k:κ):zbR (zbY kvs k) (valueAt vs k):=by
  unfold KV at r
  induction r with
  | nil=>exact True.intro
  | @cons p q ps qs h t ih =>
    obtain ⟨h1,h2⟩:=h
    by_cases e:p.1=k
    · have e':q.1=k:=h1.symm.trans e
      have b:valueAt (q::qs) k=some q.2:=by simp [valueAt,List.find?_cons,e']
      rw [XQ e,b];exact h2
    · have e':¬ q.1=k:=fun z=>e (h1.trans z)
      have b:valueAt (q::qs) k=valueAt qs k:=by simp [valueAt,List.find?_cons,e']
      rw [XL e,b];exact ih
theorem KV.any {kvs:List (κ × V)}{vs:List (κ × Value)}(r:KV kvs vs)(k:κ):(kvs.any fun kv=>decide (kv.1=k))=vs.any fun kv=>decide (kv.1=k):=by
  unfold KV at r
  induction r with
  | nil=>rfl
  | cons h t ih=>rw [List.any_cons,List.any_cons,ih,h.1]
theorem KV.repl {kvs:List (κ × V)}{vs:List (κ × Value)}(r:KV kvs vs)(k:κ){y:V}{u:Value}(ry:xw y u) :
    KV (kvs.map fun kv=>if kv.1=k then (kv.1,y) else kv) (vs.map fun kv=>if kv.1=k then (kv.1,u) else kv):=by
  unfold KV at r ⊢
  induction r with
  | nil=>exact .nil
  | @cons p q ps qs h t ih =>
    rw [List.map_cons,List.map_cons]
    refine .cons ?_ ih
    obtain ⟨h1,h2⟩:=h
    by_cases e:p.1=k
    · rw [if_pos e,if_pos (h1.symm.trans e)];exact ⟨h1,ry⟩
    · rw [if_neg e,if_neg (fun z=>e (h1.trans z))];exact ⟨h1,h2⟩
theorem KV.put {kvs:List (κ × V)}{vs:List (κ × Value)}(r:KV kvs vs)(k:κ){y:V}{u:Value}(ry:xw y u):KV (zaZ kvs k y) (stored vs k u):=by
  unfold zaZ stored
  rw [r.any k]
  by_cases e:(vs.any fun kv=>decide (kv.1=k))=true
  · rw [if_pos e,if_pos e];exact r.repl k ry
  · rw [if_neg e,if_neg e];exact Paired.snoc r ⟨rfl,ry⟩
theorem KV.keys {kvs:List (κ × V)}{vs:List (κ × Value)}(r:KV kvs vs):kvs.map (·.1)=vs.map (·.1):=by
  unfold KV at r
  induction r with
  | nil=>rfl
  | cons h t ih=>rw [List.map_cons,List.map_cons,ih,h.1]
theorem KV.length {kvs:List (κ × V)}{vs:List (κ × Value)}(r:KV kvs vs):kvs.length=vs.length:=Paired.length r
end
theorem zf8 {P:Program}{w:World}{k:Key}{u:Value}(r:xw (kV k) u):(xx P w).is k u=true:=by
  cases k with
  | inl i=>obtain ⟨t,e⟩:=(show ∃ t,u=Value.int i t from r);subst e;exact zbr P w i t
  | inr x=>obtain ⟨t,e⟩:=(show ∃ t,u=Value.str x t from r);subst e;exact zbn P w x t
theorem zaG {P:Program}{w:World}:∀ {ks:List Key} {us:List Value},xj (ks.map kV) us→ItemsAre (xx P w) ks us
  | [],_,r=>by rw [List.map_nil] at r;cases r;exact .nil
  | k::ks,_,r=>by
    rw [List.map_cons] at r
    cases r with
    | cons h t=>exact .cons (zf8 h) (zaG t)
noncomputable abbrev KT (H:Hp):List (List Key × V)→List (List Key × Addr × Value)→Prop:=Paired fun p q=>p.1=q.1∧H q.2.1=some (.tup (p.1.map kV))∧xw p.2 q.2.2
theorem KT.val {H:Hp}{kvs:List (List Key × V)}{xs:List (List Key × Addr × Value)}(r:KT H kvs xs)(k:List Key):zbR (zbY kvs k) ((atKey xs k).map (·.2)):=by
  induction r with
  | nil=>exact True.intro
  | @cons p q ps qs h t ih =>
    obtain ⟨h1,_,h2⟩:=h
    by_cases e:p.1=k
    · have e':q.1=k:=h1.symm.trans e
      have b:atKey (q::qs) k=some q.2:=by simp [atKey,List.find?_cons,e']
      rw [XQ e,b];exact h2
    · have e':¬ q.1=k:=fun z=>e (h1.trans z)
      have b:atKey (q::qs) k=atKey qs k:=by simp [atKey,List.find?_cons,e']
      rw [XL e,b];exact ih
theorem KT.repl {H:Hp}{kvs:List (List Key × V)}{xs:List (List Key × Addr × Value)}(r:KT H kvs xs)(k:List Key){y:V}{u:Value}(ry:xw y u) :
    KT H (kvs.map fun kv=>if kv.1=k then (kv.1,y) else kv) (xs.map (putAt k u)):=by
  induction r with
  | nil=>exact .nil
  | @cons p q ps qs h t ih =>
    rw [List.map_cons,List.map_cons]
    refine .cons ?_ ih
    obtain ⟨h1,h2,h3⟩:=h
    unfold putAt
    by_cases e:p.1=k
    · rw [if_pos e,if_pos (h1.symm.trans e)];exact ⟨h1,h2,ry⟩
    · rw [if_neg e,if_neg (fun z=>e (h1.trans z))];exact ⟨h1,h2,h3⟩
theorem KT.put {H:Hp}{kvs:List (List Key × V)}{xs:List (List Key × Addr × Value)}(r:KT H kvs xs)(k:List Key){b:Addr}{y:V}{u:Value}(hb:H b=some (.tup (k.map kV)))(ry:xw y u) :
    KT H (zaZ kvs k y) (storedH xs k b u):=by
  have e:(kvs.any fun kv=>decide (kv.1=k))=(atKey xs k).isSome:=by
    rw [Vy,(r.val k).isSome_eq,Option.isSome_map]
  unfold zaZ storedH
  rw [e]
  by_cases q:(atKey xs k).isSome=true
  · rw [if_pos q,if_pos q];exact r.repl k ry
  · rw [if_neg q,if_neg q];exact Paired.snoc r ⟨rfl,hb,ry⟩
theorem KT.keeps {H H':Hp}{kvs:List (List Key × V)}{xs:List (List Key × Addr × Value)}(r:KT H kvs xs)(ht:∀ b ys,H b=some (.tup ys)→H' b=some (.tup ys)):KT H' kvs xs :=
  Paired.mapP r fun _ _ z=>⟨z.1,ht _ _ z.2.1,z.2.2⟩
section
variable {P:Program}{w:World}{H:Hp}{h:Heap}{a:Addr}
theorem ziW {u:HO}(ok:HOk P w H h)(e:Rd H a u):xf P w H h a u:=e.ok ok
theorem zhe {kvs:List (Key × V)}(ok:HOk P w H h)(e:Rd H a (.dK kvs)):kvs.length≤sizeLine∧(a == sysModules)=false∧∃ vs,KV kvs vs∧h.DictOf (xx P w) a vs :=
  show xf P w H h a (.dK kvs) from ziW ok e
theorem zku {kvs:List (Key × V)}(ok:HOk P w H h)(e:H a=some (.dK kvs)):kvs.length≤sizeLine∧(a == sysModules)=false∧∃ vs,KV kvs vs∧h.DictOf (xx P w) a vs:=zhe ok (.inl e)
theorem VP {ks:List Key}(ok:HOk P w H h)(e:H a=some (.tup (ks.map kV))):(tupleKind (xx P w)).is h ks a:=by
  obtain ⟨_,its,r,o,h1,h2,n,h3⟩:=(show xf P w H h a (.tup (ks.map kV)) from ok a _ e)
  exact ⟨o,its.toArray,n,h1,h2,h3,by simpa using zaG r⟩
theorem zhv {kvs:List (List Key × V)}(ok:HOk P w H h)(e:Rd H a (.dT kvs)):kvs.length≤sizeLine∧(a == sysModules)=false ∧
    ∃ xs,KT H kvs xs∧h.DictOfH (tupleKind (xx P w)) a xs:=by
  obtain ⟨z,y,xs,r,o,es,ep,h1,h2,h3,h4,h5⟩:=(show xf P w H h a (.dT kvs) from ziW ok e)
  refine ⟨z,y,xs,r,o,es,ep,h1,h2,h3,h4,fun x hx=>?_,h5⟩
  have all:∀ {l:List (List Key × V)} {m:List (List Key × Addr × Value)},KT H l m→∀ x∈m,(tupleKind (xx P w)).is h x.1 x.2.1:=by
    intro l m q
    induction q with
    | nil=>intro x hx;exact nomatch hx
    | @cons p q ps qs hq t ih =>
      intro x hx
      rcases List.mem_cons.mp hx with e | hx
      · subst e
        exact VP ok (by rw [←hq.1];exact hq.2.1)
      · exact ih x hx
  exact all r x hx
theorem zjX {kvs:List (List Key × V)}(ok:HOk P w H h)(e:H a=some (.dT kvs)):kvs.length≤sizeLine∧(a == sysModules)=false ∧
    ∃ xs,KT H kvs xs∧h.DictOfH (tupleKind (xx P w)) a xs:=zhv ok (.inl e)
end
noncomputable def zkk (H:Hp)(a:Addr)(y:V)(r:Option V):Prop :=
  (∃ kvs k,Rd H a (.dK kvs)∧y=kV k∧r=zbY kvs k)∨∃ kvs k b,Rd H a (.dT kvs)∧y=.ref b∧H b=some (.tup (k.map kV))∧r=zbY kvs k
noncomputable def zfD (H:Hp)(a:Addr)(y v:V)(H':Hp):Prop :=
  (∃ kvs k,H a=some (.dK kvs)∧y=kV k∧kvs.length < sizeLine∧H'=upd H a (.dK (zaZ kvs k v))) ∨
  ∃ kvs k b,H a=some (.dT kvs)∧y=.ref b∧H b=some (.tup (k.map kV))∧kvs.length < sizeLine∧H'=upd H a (.dT (zaZ kvs k v))
theorem zfD.k {H:Hp}{a:Addr}{kvs:List (Key × V)}{k:Key}{v:V}(e:H a=some (.dK kvs))(hl:kvs.length < sizeLine):zfD H a (kV k) v (upd H a (.dK (zaZ kvs k v))):=.inl ⟨kvs,k,e,rfl,hl,rfl⟩
theorem zfD.t {H:Hp}{a b:Addr}{kvs:List (List Key × V)}{k:List Key}{v:V}(e:H a=some (.dT kvs))(eb:H b=some (.tup (k.map kV)))(hl:kvs.length < sizeLine) :
    zfD H a (.ref b) v (upd H a (.dT (zaZ kvs k v))):=.inr ⟨kvs,k,b,e,rfl,eb,hl,rfl⟩
section
variable {X:Cx}{pins:List (Addr × Obj)}{σ:St}{H:Hp}{s:Shared}{a:Addr}{y v:V}{u r:Value}{o:Option V}{A:Around}{E:Value→Shared→Prop}
theorem Inv.big (I:Inv X pins σ H s):sysModules < s.heap.objs.size:=by
  have h:mainGlobals < s.heap.objs.size:=(I.mod.glob.keeps I.bk).lt
  exact Nat.lt_trans (by decide) h
theorem d_in {Q:Value→Shared→Prop}(hu:A.units+1 < cLine)(I:Inv X pins σ H s)(g:zkk H a y o)(ry:xw y u)(h:∀ s',Inv X pins σ H s'→Q (.bool o.isSome) s') :
    wpAny (model X.prog X.w) A (compareOp .In u (.ref a)) Q E s:=by
  rcases g with ⟨kvs,k,e,ey,l⟩ | ⟨kvs,k,b,e,ey,eb,l⟩
  · subst ey
    obtain ⟨z,hd,vs,rel,dd⟩:=zhe I.hok e
    refine wpAny_in_of (zf8 ry) hd dd.mapOf ?_
    rw [←(rel.val k).isSome_eq,← l]
    exact h _ (I.tok _)
  · subst ey
    cases (show u=Value.ref b from ry)
    obtain ⟨z,hd,xs,rel,dd⟩:=zhv I.hok e
    refine wpAny_in_heap (tupleKind_room_in1 hu) (VP I.hok eb) hd dd ?_
    have q:=(rel.val k).isSome_eq
    rw [Option.isSome_map] at q
    rw [←q,← l]
    exact h _ (I.tok _)
theorem zhx {Q:Value→Shared→Prop}(hu:A.units+1 < cLine)(I:Inv X pins σ H s)(g:zkk H a y o)(ry:xw y u)(h:∀ s',Inv X pins σ H s'→Q (.bool (!o.isSome)) s') :
    wpAny (model X.prog X.w) A (compareOp .NotIn u (.ref a)) Q E s:=by
  rcases g with ⟨kvs,k,e,ey,l⟩ | ⟨kvs,k,b,e,ey,eb,l⟩
  · subst ey
    obtain ⟨z,hd,vs,rel,dd⟩:=zhe I.hok e
    refine wpAny_notIn_of (zf8 ry) hd dd.mapOf ?_
    rw [←(rel.val k).isSome_eq,← l]
    exact h _ (I.tok _)
  · subst ey
    cases (show u=Value.ref b from ry)
    obtain ⟨z,hd,xs,rel,dd⟩:=zhv I.hok e
    refine wpAny_notIn_heap (tupleKind_room_in1 hu) (VP I.hok eb) hd dd ?_
    have q:=(rel.val k).isSome_eq
    rw [Option.isSome_map] at q
    rw [←q,← l]
    exact h _ (I.tok _)
theorem za7 {h':Heap}{t':Nat}{ob:HO}(I:Inv X pins σ H s)(mu:Mut (H a))(hs:Heap.SameBut a s.heap h')(he:∃ q,h'.get? a=some q)(new:xf X.prog X.w (upd H a ob) h' a ob) :
    Inv X pins σ (upd H a ob) { s with heap:=h',toks:=t' } :=
  I.write (x:=a) (e:=a) mu (.inl rfl) (fun b q hb z=>(hs.2 b hb).trans z) he new
theorem ziI {P:Program}{w:World}{H':Hp}{h':Heap}{kvs:List (Key × V)}{vs:List (Key × Value)}(z:kvs.length≤sizeLine)(hd:(a == sysModules)=false)(rel:KV kvs vs)(dd:h'.DictOf (xx P w) a vs) :
    xf P w H' h' a (.dK kvs):=⟨z,hd,vs,rel,dd⟩
theorem zeB {H':Hp}{Q:Unit→Shared→Prop}(hu:A.units+1 < cLine)(I:Inv X pins σ H s)(g:zfD H a y v H')(ry:xw y u)(rv:xw v r)(h:∀ s',Inv X pins σ H' s'→Q () s') :
    wpAny (model X.prog X.w) A (setItem (.ref a) u r) Q E s:=by
  rcases g with ⟨kvs,k,e,ey,l,eH⟩ | ⟨kvs,k,b,e,ey,eb,l,eH⟩
  · subst ey eH
    obtain ⟨z,hd,vs,rel,dd⟩:=zku I.hok e
    have hz:vs.length≤sizeLine:=by rw [←rel.length];exact z
    have hl:(zaZ kvs k v).length≤sizeLine:=by have:=XZ kvs k v;omega
    refine wpAny_setItem_pairs (hsz:=hz) (zf8 ry) dd fun h' dd' hs=>h _ ?_
    have he:∃ q,h'.get? a=some q:=let ⟨q,_,_,hq,_⟩:=dd';⟨q,hq⟩
    exact za7 I (by rw [e];exact True.intro) hs he (ziI hl hd (rel.put k rv) dd')
  · subst ey eH
    cases (show u=Value.ref b from ry)
    obtain ⟨z,hd,xs,rel,dd⟩:=zjX I.hok e
    have hz:xs.length≤sizeLine:=by rw [←Paired.length rel];exact z
    have hl:(zaZ kvs k v).length≤sizeLine:=by have:=XZ kvs k v;omega
    refine wpAny_setItem_heap (hsz:=hz) (tupleKind_room_in1 hu) (VP I.hok eb) dd fun h' dd' hs=>h _ ?_
    obtain ⟨q,es,ep,hq,h2,h3,h4,_,h5⟩:=dd'
    refine za7 I (by rw [e];exact True.intro) hs ⟨q,hq⟩ ⟨hl,hd,_,(rel.put k eb rv).keeps fun c ys ec=>?_,q,es,ep,hq,h2,h3,h4,h5⟩
    rw [zm (zfA ec e (fun z=>nomatch z))]
    exact ec
end
section
variable {X:Cx}{pins:List (Addr × Obj)}{σ:St}{H:Hp}{s:Shared}{a:Addr}{kvs:List (Key × V)}{k:Key}{u:Value}{A:Around}{E:Value→Shared→Prop}
end
noncomputable def zkS (td ty tv:TE):TS:=fun D σ H=>tv σ H fun v H1=>td σ H1 fun x H2=>ty σ H2 fun y H3=>∃ a H4,x=.ref a∧zfD H3 a y v H4∧D.nx σ H4
section
variable {X:Cx}{o i e value:Expr}{pos pos' tpos:Pos}{td ty tv:TE}
theorem zh7 (hu:X.A.units+1 < cLine)(ho:PE X o td)(hi:PE X i ty)(hv:PE X value tv)(hs:swapsWith value (some (.Subscript o i pos')) pos.line X.env=pure false) :
    PS X (.Assign [.Subscript o i pos'] value pos) (zkS td ty tv):=by
  intro pins s σ H D I h
  refine wpAny_Assign_Subscript (thn (hv pins s σ H _ I h) fun r s1 ⟨v,H1,I1,rv,q1⟩=>thn (ho pins s1 σ H1 _ I1 q1) fun u s2 ⟨x,H2,I2,rx,q2⟩=>thn (hi pins s2 σ H2 _ I2 q2) fun iv s3 hh9=>?_) hs
  obtain ⟨y,H3,I3,ry,a,H4,ex,g,q3⟩:=hh9
  subst ex
  obtain rfl:u=Value.ref a:=rx
  exact zeB hu I3 g ry rv fun s4 I4=>⟨σ,H4,I4,q3⟩
end
theorem zf1 {P:Program} {w:World} {H:Hp} (h:Heap) (hb:sysModules < h.objs.size):xf P w H (h.push { cls:=.type "dict",data:=.dict #[] }) h.objs.size (.dK []) :=
  ⟨Nat.zero_le _,beq_eq_false_iff_ne.mpr (Ne.symm (Nat.ne_of_lt hb)),[],.nil,Heap.DictOf.new h⟩
theorem zbV {P:Program} {w:World} {H:Hp} (h:Heap) (hb:sysModules < h.objs.size):xf P w H (h.push { cls:=.type "dict",data:=.dict #[] }) h.objs.size (.dT []) :=
  ⟨Nat.zero_le _,beq_eq_false_iff_ne.mpr (Ne.symm (Nat.ne_of_lt hb)),[],.nil,_,#[],0,Heap.get?_push_size _ rfl,⟨rfl,rfl,rfl⟩,rfl,rfl,List.nodup_nil⟩
noncomputable def zje:TE:=fun _ H Q=>∀ p,H p=none→Q (.ref p) (upd H p (.dK []))
noncomputable def zja:TE:=fun _ H Q=>∀ p,H p=none→Q (.ref p) (upd H p (.dT []))
section
variable {X:Cx}{pos:Pos}
theorem zfo:PE X (.Dict [] [] pos) zje:=fun pins s σ H Q I h =>
  wpAny_Dict_empty ⟨.ref s.heap.objs.size,_,I.laid (a:=s.heap.objs.size) (o:=.dK []) (t':=s.toks) (fun _ _ q=>Heap.get?_push_of_some _ q) (Nat.le_refl _) (zf1 s.heap I.big),rfl,h _ (I.hok.fresh (Nat.le_refl _))⟩
theorem zge:PE X (.Dict [] [] pos) zja:=fun pins s σ H Q I h =>
  wpAny_Dict_empty ⟨.ref s.heap.objs.size,_,I.laid (a:=s.heap.objs.size) (o:=.dT []) (t':=s.toks) (fun _ _ q=>Heap.get?_push_of_some _ q) (Nat.le_refl _) (zbV s.heap I.big),rfl,h _ (I.hok.fresh (Nat.le_refl _))⟩
end
section
variable {X:Cx}{pins:List (Addr × Obj)}{σ:St}{H:Hp}{s:Shared}{a:Addr}{y d:V}{u r:Value}{o:Option V}{A:Around}{E:Value→Shared→Prop}
end
section
variable {X:Cx}{o e f:Expr}{apos cpos:Pos}{td ty tx:TE}
end
section
variable {X:Cx}{pins:List (Addr × Obj)}{σ:St}{H:Hp}{s:Shared}{a:Addr}{kvs:List (Key × V)}{A:Around}{E:Value→Shared→Prop}
end
section
variable {X:Cx}{pins:List (Addr × Obj)}{σ:St}{H:Hp}{s:Shared}{a:Addr}{y:V}{u:Value}{A:Around}{E:Value→Shared→Prop}
end
end L2
namespace Att
open PySem PySem.W PySem.Calls PyProof.Rows
section
variable {prog:Program}{w:World}{A:Around}{E:Value→Shared→Prop}{s:Shared}{K:Frag}
end
end Att
namespace L2
open PySem PySem.Spec PyProof.Rows
end L2
namespace L2
open PySem PySem.Spec PyProof.Rows
end L2
namespace L2
open PySem PySem.Spec PyProof.Rows
section
variable {P:Program}{w:World}{K:PySem.W.Frag}{mg:Str→Option Value}{base:Heap}
end
section
variable {X:Cx}
end
section
variable {κ:Type}[DecidableEq κ]
end
end L2
namespace L2
open PySem PySem.Spec PyProof.Rows
theorem zbj {X:Cx}:Zx X (.builtin "isinstance") (fun xs H Q=>∃ x n t b,xs=[x,.ty n]∧zb0 X.K H x t∧PySem.W.kitOne X.K t (.type n)=some b∧Q (.bl b) H):=by
  intro pins s σ H xs us Q I r h
  obtain ⟨x,n,t,b,rfl,ty,e,q⟩:=h
  obtain ⟨u,w',rfl,rx,rt⟩:=zfE r
  cases (show w'=Value.type n from rt)
  exact zda I rx ty e fun tk=>⟨.bl b,H,I.tok _,rfl,q⟩
theorem ze1 {X:Cx}:OpR X (compareOp .Is) (fun x y H Q=>∃ i j,x=.bl i∧y=.bl j∧Q (.bl (i == j)) H):=by
  intro pins s σ H x y v u Q I rx ry h
  obtain ⟨i,j,rfl,rfl,q⟩:=h
  cases rx
  cases ry
  refine wpAny_is_plain (by rfl) ⟨.bl (i == j),H,I,?_,q⟩
  cases i <;> cases j <;> rfl
noncomputable def zgC (K:PySem.W.Frag):R2:=fun x y H Q=>∃ a b xs ys,x=.ref a∧y=.ref b∧SqT K H a xs∧SqT K H b ys∧xs.length+ys.length≤sizeLine ∧
  (xs=[]→Q (.ref b) H)∧(xs≠[]→ys=[]→Q (.ref a) H)∧(xs≠[]→ys≠[]→∀ p,H p=none→Q (.ref p) (upd H p (.tup (xs++ys))))
theorem ze2 {X:Cx}:OpR X (binaryOp .Add) (zgC X.K):=by
  intro pins s σ H x y v u Q I rx ry h
  obtain ⟨a,b,xs,ys,rfl,rfl,ha,hb,hz,q0,q1,q2⟩:=h
  by_cases hx:xs=[]
  · subst hx
    cases rx
    cases ry
    obtain ⟨its,r,p,_⟩:=I.tuple ha
    obtain ⟨its',r',p',_⟩:=I.tuple hb
    cases r
    obtain ⟨⟨cls,dd,data,sl⟩,ho,hc,n,hd⟩:=id p
    obtain ⟨⟨cls2,dd2,data2,sl2⟩,ho2,hc2,n2,hd2⟩:=id p'
    simp only at hc hd hc2 hd2
    subst hc hd hc2 hd2
    exact concat_meets ⟨_,ho,rfl⟩ ⟨_,ho2,rfl⟩ noFill_tuple_add seq_tuple_add PySem.F.slot_tuple_add PySem.F.entry_tuple_add (PySem.F.args_tuple_add_2 _ _)
      (tuple_addW0 a b #[] its'.toArray n n2 dd dd2 sl sl2 rfl) ⟨ho,ho2,⟨.ref b,H,I,rfl,q0 rfl⟩⟩
  · refine zh1 pins s σ H (.ref a) (.ref b) v u Q I rx ry ⟨a,b,xs,ys,rfl,rfl,ha,hb,hx,hz,?_⟩
    exact ⟨fun e=>q1 hx e,fun e=>q2 hx e⟩
end L2
namespace L2
open PySem PySem.Spec PyProof.Rows
inductive Z5:St→St→Prop where
  | nil:Z5 [] []
  | non {a:Option V} {s t:St}:Z5 s t→Z5 (none::s) (a::t)
  | same {a:Option V} {s t:St}:Z5 s t→Z5 (a::s) (a::t)
theorem Z5.refl:∀ s:St,Z5 s s
  | []=>.nil
  | _::r=>.same (Z5.refl r)
theorem Z5.length {s t:St}(h:Z5 s t):s.length=t.length:=by
  induction h with
  | nil=>rfl
  | non _ ih=>simp [ih]
  | same _ ih=>simp [ih]
theorem Z5.get {s t:St}(h:Z5 s t):∀ (i:Nat) (v:V),s[i]?=some (some v)→t[i]?=some (some v):=by
  induction h with
  | nil=>intro i v e;exact e
  | non _ ih =>
    intro i v e
    cases i with
    | zero=>simp at e
    | succ i=>simpa using ih i v (by simpa using e)
  | same _ ih =>
    intro i v e
    cases i with
    | zero=>simpa using e
    | succ i=>simpa using ih i v (by simpa using e)
theorem Z5.set {n:Nat}{v:V}:∀ {s t:St},Z5 s t→s[n]?=some none→Z5 s (t.set n (some v))
  | _,_,.nil,_=>.nil
  | _,_,.non (a:=a) h,e=>by
    cases n with
    | zero=>exact .non h
    | succ n=>exact .non (Z5.set h (by simpa using e))
  | _,_,.same (a:=a) h,e=>by
    cases n with
    | zero =>
      have e':a=none:=by simpa using e
      subst e'
      exact .non h
    | succ n=>exact .same (Z5.set h (by simpa using e))
theorem Inv.sub {X:Cx}{pins:List (Addr × Obj)}{σ σ':St}{H:Hp}{s:Shared}(I:Inv X pins σ H s)(h:Z5 σ' σ):Inv X pins σ' H s:=I.weak h.length h.get
noncomputable def PIf (X:Cx)(ifs:List Expr)(t:TT):Prop :=
  ∀ (pins:List (Addr × Obj)) (s:Shared) (σ:St) (H:Hp) (Q:Bool→Hp→Prop),Inv X pins σ H s→t σ H Q →
    wpAny (model X.prog X.w) X.A (forIn ifs true fun c r=>if r=true then do let ok←isTrue c X.env (eval c X.env);pure (ForInStep.yield ok) else pure (ForInStep.yield r)) (TP X pins σ Q) X.xe s
noncomputable def tYes:TT:=fun _ H Q=>Q true H
theorem zg5 {X:Cx}:PIf X [] tYes:=by
  intro pins s σ H Q I h
  rw [List.forIn_nil]
  exact wpAny_pure ⟨H,I,h⟩
theorem zeO {X:Cx}{c:Expr}{t:TT}(hc:PT X c t):PIf X [c] t:=by
  intro pins s σ H Q I h
  rw [List.forIn_cons]
  refine wpAny_bind ?_
  rw [if_pos rfl]
  refine wpAny_bind (thn (hc pins s σ H Q I h) fun b s1 q=>wpAny_pure ?_)
  show wpAny _ _ (forIn [] b _) _ _ _
  rw [List.forIn_nil]
  exact wpAny_pure q
section
variable {prog:Program}{w:World}{A:Around}{R:Result→Shared→Prop}{s:Shared}
theorem w6 {elt target iter:Expr}{ifs:List Expr}{scope:Scope}{pos:Pos}{it acc:Value}{env:Env}(I:Nat→Shared→Prop)
    (turn:∀ n s,I n s→wpAny (model prog w) A (pyNext it) (fun r s₁=>match r with
      | none=>R (.ok .next) s₁
      | some v=>wpAny (model prog w) A (letOwnedTupleGo target it v) (fun _ s₁'=>wpAny (model prog w) A (assign target env v) (fun _ s₂ =>
          wpAny (model prog w) A (forIn ifs true fun c r=>if r=true then do let ok←isTrue c env (eval c env);pure (ForInStep.yield ok) else pure (ForInStep.yield r)) (fun ok s₃ =>
            if ok=true then wpAny (model prog w) A (eval elt env) (fun x s₄ =>
              wpAny (model prog w) A (call (.builtin "list.append") [acc,x]) (fun _ s₅=>∃ m,m < n∧I m s₅) (fun _ _=>False) s₄) (fun _ _=>False) s₃
            else ∃ m,m < n∧I m s₃) (fun _ _=>False) s₂) (fun _ _=>False) s₁') (fun _ _=>False) s₁) (fun _ _=>False) s)
    (n:Nat) (h:I n s) :
    codeAny (model prog w) A (.compLoop (.ListComp elt [⟨target,iter,ifs,0⟩] scope pos) 0 it acc env) R s:=by
  refine codeAny_loop rfl I (fun n s hI=>?_) n h
  show wpAny _ A ((compTurn (.ListComp elt [⟨target,iter,ifs,0⟩] scope pos) 0 it acc env).onRaise (fun x=>do noteFrame x env;theTreesLotGoes x)) _ _ s
  refine wpAny_noted ?_
  rw [compTurn_list]
  refine wpAny_bind (wpAny_standAt (wpAny_bind (wpAny_mono (turn n s hI) (fun r s₁ h₁=>?_) fun _ _ h'=>h'.elim)))
  cases r with
  | none=>exact wpAny_pure h₁
  | some v =>
    refine wpAny_bind (wpAny_mono h₁ (fun _ s₁' h₁'=>?_) fun _ _ h'=>h'.elim)
    refine wpAny_bind (wpAny_mono h₁' (fun _ s₂ h₂=>wpAny_bind (wpAny_mono h₂ (fun ok s₃ h₃=>?_) fun _ _ h'=>h'.elim)) fun _ _ h'=>h'.elim)
    cases ok with
    | false=>exact wpAny_pure ⟨rfl,h₃⟩
    | true =>
      exact wpAny_bind (wpAny_bind (wpAny_mono h₃ (fun x s₄ h₄=>wpAny_bind (wpAny_mono h₄ (fun _ s₅ h₅=>wpAny_pure (wpAny_pure ⟨rfl,h₅⟩)) fun _ _ h'=>h'.elim)) fun _ _ h'=>h'.elim))
end
noncomputable def tLC (wi:TI)(n:Nat)(g:TG)(tt:TT)(te:TE):TE:=fun σ H Q=>wi σ H fun J H1=>∀ D,H1 D=none→∃ W:Nat→Nat→List V→Hp→Prop,(∃ m,W 0 m [] (upd H1 D (.lst []))) ∧
  ∀ i m ys H2,W i m ys H2→(J.stop i H2∧Q (.ref D) H2)∨(J.go i H2∧ys.length < sizeLine∧∀ x H3,J.yld i H2 x H3→g x (List.replicate n none++σ) H3 fun σ2 H4=>tt σ2 H4 fun b H5 =>
    if b=true then te σ2 H5 fun y H6=>H6 D=some (.lst ys)∧∃ m',m' < m∧W (i+1) m' (ys++[y]) (upd H6 D (.lst (ys++[y]))) else ∃ m',m' < m∧W (i+1) m' ys H5)
theorem vO {α:Type}:∀ {l:List (Str × α)} {y:Str},y∈l.map Prod.fst→∃ c,l.lookup y=some c
  | [],_,h=>by simp at h
  | (k,v)::r,y,h=>by
    by_cases e:y=k
    · exact ⟨v,by simp [List.lookup,e]⟩
    · obtain ⟨c,hc⟩:=vO (l:=r) (y:=y) (by simpa [e] using h)
      have hb:(y == k)=false:=beq_eq_false_iff_ne.mpr e
      exact ⟨c,by simp only [List.lookup,hb];exact hc⟩
theorem ZD {α:Type}{P:α→Prop}:∀ p∈([]:List α),P p:=fun _ h=>nomatch h
theorem all_cons {α:Type}{P:α→Prop}{a:α}{l:List α}(h:P a)(t:∀ p∈l,P p):∀ p∈a::l,P p:=fun p hp=>by
  rcases List.mem_cons.mp hp with e | hp
  · rw [e];exact h
  · exact t p hp
theorem gs1 (σ:St)(v:V)(H:Hp)(Q:St→Hp→Prop)(h:V7 0 v (List.replicate 1 none++σ) H Q):V7 0 v (List.replicate 1 none++σ) H (fun σ2 H2=>Z5 (List.replicate 1 none++σ) σ2∧Q σ2 H2):=⟨.set (.refl _) rfl,h⟩
end L2
namespace L2
open PySem PySem.Spec PyProof.Rows
noncomputable def zcR (X:Cx)(L M:List Str)(scope:Scope)(cl:List (Str × Addr))(s₀:Shared)(H₀:Hp)(ex:List Addr)(pn:List (Addr × Obj)):Cx :=
  { X with N:=L++M,s₀:=s₀,H₀:=H₀,env:=compEnvC scope cl s₀.heap.objs.size X.env,outer:=X.stack,stack:=X.stack,ex:=ex,fn:=fun _=>false,pn:=pn,xe:=fun _ _=>False }
structure vT (X:Cx) (L M:List Str) (scope:Scope) (cl:List (Str × Addr)):Prop where
  clos:closureFor scope X.env=pure cl
  cell:∀ y∈scope.names,y.2≠.cell
  kind:scope.kind=.function
  names:∀ y∈scope.names,y.2=.local→scope.names.lookup y.1=some .local
  sub:∀ y c,cl.lookup y=some c→X.env.cells.lookup y=some c
  has:∀ y,((relabel scope X.env).names.lookup y=some .cell∨(relabel scope X.env).names.lookup y=some .free)→∃ c,cl.lookup y=some c
  mlen:M.length=X.N.length
  msk:∀ (i:Nat) y,M[i]?=some y→Vis (relabel scope X.env) y→X.N[i]?=some y
  vis:∀ (i:Nat) y,M[i]?=some y→Vis (relabel scope X.env) y→((relabel scope X.env).names.lookup y=some .cell∨(relabel scope X.env).names.lookup y=some .free)
  out:∀ (i:Nat) y,M[i]?=some y→Vis (relabel scope X.env) y→Vis X.env.scope y∧X.env.kindOf y≠some .local
theorem Inv.letGo {X:Cx}{pins:List (Addr × Obj)}{σ:St}{H:Hp}{s:Shared}{C:Addr}{h':Heap}(I:Inv X pins σ H s)(f:zaJ X pins H C)(sb:Heap.SameBut C s.heap h'):Inv X pins σ H { s with heap:=h' }:=by
  obtain ⟨f0,f1,f2,f3,f4,f5⟩:=f
  have ne:∀ b,b∉[C]→b≠C:=fun b hb z=>hb (by rw [z];exact List.mem_singleton.mpr rfl)
  refine I.call' (s':={ s with heap:=h' }) (ch:=[C]) rfl ⟨fun b o e _ _ hx=>(sb.2 b (ne b hx)).trans e,fun b o e _ _ hx=>⟨o.slots,(sb.2 b (ne b hx)).trans e⟩,fun _ _ _ n _=>n,fun b o e hx=>⟨o,(sb.2 b (ne b hx)).trans e⟩,fun _ _ q=>q,fun _ _ _ q=>q,fun _ ps q=>⟨#[],by rw [q];simp⟩⟩ ?_ I.bare fun b hb=>?_
  · intro b ob e
    refine (I.hok b ob e).stay (fun c v hc q=>(sb.2 c ?_).trans q) (fun _ q=>q) fun _ _ q=>q
    rintro rfl
    rcases hc with z | z
    · rw [←z,f0] at e;cases e
    · rw [f0] at z;cases z
  · rw [List.mem_singleton.mp hb]
    exact ⟨f3,f1,f4,f5⟩
theorem zhs {use:Option (Value→Sem Unit)}{Qf:Value→Shared→Prop}{X:Cx}{elt tg iter:Expr}{ifs:List Expr}{L M:List Str}{scope:Scope}{cl:List (Str × Addr)}{pos:Pos}{wi:TI}{g:TG}{tt:TT}{te:TE}
    (hc:X.calm=true) (S:vT X L M scope cl) (hi:PI X tg iter wi)
    (hgS:∀ (σ:St) (v:V) (H:Hp) (Q:St→Hp→Prop),g v (List.replicate L.length none++σ) H Q→g v (List.replicate L.length none++σ) H (fun σ2 H2=>Z5 (List.replicate L.length none++σ) σ2∧Q σ2 H2))
    (hg:∀ s₀ H₀ ex pn,PG (zcR X L M scope cl s₀ H₀ ex pn) tg g) (ht:∀ s₀ H₀ ex pn,PIf (zcR X L M scope cl s₀ H₀ ex pn) ifs tt) (he:∀ s₀ H₀ ex pn,PE (zcR X L M scope cl s₀ H₀ ex pn) elt te)
    (hs:∀ x,foldedSetIterable iter X.env x=pure x:=by intro _;rfl) :
    ∀ (pos':Pos) (pins:List (Addr × Obj)) (s:Shared) (σ:St) (H:Hp) (Q:VK),Inv X pins σ H s→tLC wi L.length g tt te σ H Q →
      (∀ (D C:Addr) (H':Hp) (s':Shared),Inv X pins σ H' s'→(∃ m,s'.heap.Ns C m)→zaJ X pins H' C→Q (.ref D) H'→compPost (model X.prog X.w) X.A X.xe use Qf (.ref D) C (.ok .next) s') →
      wpAny (model X.prog X.w) X.A (comprehension (.ListComp elt [⟨tg,iter,ifs,0⟩] scope pos) scope X.env pos' (newList []) false (eval iter X.env) use) Qf X.xe s:=by
  intro pos' pins s σ H Q I h fin
  refine wpAny_comprehension_free (use:=use) rfl hs S.clos S.kind S.names (thn (hi pins s σ H _ I h) fun v s1 h1=>thn h1 fun itv s2 h2=>?_)
  obtain ⟨it,fp,tn,J,H2,e,I2,T,st2,f2,q⟩:=h2
  subst e
  have hD:H2 s2.heap.objs.size=none:=I2.hok.fresh (Nat.le_refl _)
  obtain ⟨W,⟨m0,w0⟩,turn⟩:=q _ hD
  refine wpAny_newObj_type (wpAny_newFunctionEnv S.cell (by intro y hy;simp at hy) (fun h₁ hns₁ hsb₁=>?_) S.kind)
  have I3:Inv X pins σ (upd H2 s2.heap.objs.size (.lst [])) { s2 with heap:=s2.heap.push { cls:=.type "list",data:=.seq ([]:List Value).toArray } }:=by
    refine I2.laid (t':=s2.toks) (fun b u e=>Heap.get?_push_of_some _ e) (Nat.le_refl _) ?_
    exact ⟨Nat.zero_le _,[],0,.nil,Heap.get?_push_size _ rfl⟩
  generalize hs3:({ s2 with heap:=s2.heap.push { cls:=.type "list",data:=.seq ([]:List Value).toArray } }:Shared)=s3 at I3 hns₁ hsb₁ ⊢
  have hobj:∀ b∈fp,b < s2.heap.objs.size:=fun b hb=>by
    obtain ⟨o,ho,_⟩:=T.obj _ _ st2 b hb
    exact Heap.lt_size ho
  have hz3:s3.heap.objs.size=s2.heap.objs.size+1:=by rw [←hs3];exact Heap.size_push ..
  have k23:∀ b o,s2.heap.get? b=some o→s3.heap.get? b=some o:=fun b o e=>by rw [←hs3];exact Heap.get?_push_of_some _ e
  have k34:∀ b o,s3.heap.get? b=some o→h₁.get? b=some o:=fun b o e=>(hsb₁.2 b (Nat.ne_of_lt (Heap.lt_size e))).trans (Heap.get?_push_of_some _ e)
  generalize hH3:upd H2 s2.heap.objs.size (.lst [])=H3 at I3 w0
  have hfp3:∀ b∈fp,H3 b=none:=fun b hb=>by
    rw [←hH3,zm (Nat.ne_of_lt (hobj b hb))]
    exact (f2 b hb).1
  have nfs:∀ b∈fp,b∉frs X.stack:=fun b hb z=>by
    obtain ⟨_,n1,n2,_⟩:=f2 b hb
    rcases List.mem_cons.mp (I3.stkSub b z) with e | e
    · exact n1 e
    · exact n2 e
  let Y:Cx:=zcR X L M scope cl s3 H3 fp (X.pn++pins)
  have OkY:Y.Ok:=by
    refine ⟨I.ok.mod,S.kind,I.ok.glob,I.ok.blt,Nat.le_refl _,fun x y c h1 h2=>I.ok.inj x y c (S.sub x c h1) (S.sub y c h2),fun x hx=>S.has x hx,(fun x c h _=>absurd h Bool.false_ne_true),I.ok.hd,I.ok.frames,.inl rfl,fun b hb=>⟨?_,fun x c e z=>?_⟩,
      fun b o e=>I3.bs b o e,Nat.le_trans I.ok.bsz I3.sz,fun b o e hb=>?_,nfs,I3.stack,I3.stkFree⟩
    · show b≠s3.heap.objs.size
      exact Nat.ne_of_lt (Nat.lt_of_lt_of_le (hobj b hb) (by rw [hz3];exact Nat.le_succ _))
    · exact (f2 b hb).2.2.2.2.1 x c (S.sub x c e) z
    · rcases (f2 b hb).2.2.2.1 with z | z
      · exact I.ok.noex b o e z
      · have h1:=Heap.lt_size e
        have h2:=I.ok.bsz
        exact absurd (Nat.lt_of_lt_of_le h1 (Nat.le_trans h2 z)) (Nat.lt_irrefl _)
  have I4:Inv Y [] (List.replicate L.length none++σ) H3 { s3 with heap:=h₁,toks:=s3.toks+([]:List (Str × Value)).length }:=by
    refine ⟨OkY,rfl,I3.bare,Un.kept k34,⟨_,hns₁,fun i y v e1 e2 e3=>?_⟩,fun x c e=>?_,I3.hok.fresh (Nat.le_refl _),fun x c e=>I3.freeC x c (S.sub x c e),fun p hp=>?_,I3.hok.kept k34,?_⟩
    · have hi:¬ i < L.length:=fun hlt=>by
        rw [List.getElem?_append_left (by simpa using hlt),List.getElem?_replicate] at e2
        split at e2 <;> cases e2
      have e0':M[i - L.length]?=some y:=by
        have e1:(L++M)[i]?=some y:=e1
        rw [List.getElem?_append_right (by omega)] at e1
        exact e1
      have e2':σ[i - L.length]?=some (some v):=by rw [List.getElem?_append_right (by simpa using Nat.le_of_not_lt hi)] at e2;simpa using e2
      have e1':=S.msk _ y e0' e3
      obtain ⟨ov,ok⟩:=S.out _ y e0' e3
      obtain ⟨m,hn,hl⟩:=I3.loc
      obtain ⟨u,ru,lk⟩:=hl _ y v e1' e2' ov
      refine ⟨u,ru,?_⟩
      rcases lk with ⟨hk,_⟩ | ⟨_,c,hc',hcell⟩
      · exact absurd hk ok
      · have kn:=S.vis _ y e0' e3
        obtain ⟨c',hc2⟩:=S.has y kn
        have:=S.sub y c' hc2
        rw [hc'] at this
        cases this
        refine .inr ⟨kn,c,hc2,?_⟩
        obtain ⟨o,ho,hd⟩:=hcell
        exact ⟨o,k34 _ _ ho,hd⟩
    · obtain ⟨v,o,ho,hd⟩:=I3.cell x c (S.sub x c e)
      exact ⟨v,o,k34 _ _ ho,hd⟩
    · have hp':p∈X.pn++pins:=List.append_nil (X.pn++pins) ▸ hp
      obtain ⟨a1,a2,a3,a4,a5⟩:=I3.pin p hp'
      refine ⟨k34 _ _ a1,a2,Nat.ne_of_lt (Heap.lt_size a1),fun z=>?_,a5⟩
      rcases List.mem_cons.mp (I3.stkSub p.1 z) with e | e
      · exact a3 e
      · exact a4 e
    · show (List.replicate L.length none++σ).length=(L++M).length
      rw [List.length_append,List.length_append,List.length_replicate,I.len,S.mlen]
  have fpY:∀ {H':Hp},(∀ b∈fp,H' b=none)→∀ b∈fp,zaJ Y [] H' b:=fun {H'} hn b hb=>by
    refine ⟨hn b hb,(OkY.exf b hb).1,nfs b hb,.inl hb,(OkY.exf b hb).2,fun p hp=>?_⟩
    have hp':p∈X.pn++pins:=List.append_nil (X.pn++pins) ▸ hp
    exact (f2 b hb).2.2.2.2.2 p hp'
  have st4:tn 0 h₁:=T.keep _ _ _ st2 fun b hb o e=>k34 b o (k23 b o e)
  -- behind the loop
  have back:∀ (H':Hp) (s':Shared),Inv Y [] (List.replicate L.length none++σ) H' s'→Q (.ref s2.heap.objs.size) H'→compPost (model X.prog X.w) X.A X.xe use Qf (.ref s2.heap.objs.size) s3.heap.objs.size (.ok .next) s':=fun H' s' J' q'=>by
    obtain ⟨m,hn,_⟩:=J'.loc
    refine fin _ _ H' s' (I3.call' (ch:=fp) J'.os J'.base J'.hok J'.bare fun b hb=>?_) ⟨m,hn⟩ (I3.fpOk (Nat.le_refl _) J'.free) q'
    obtain ⟨_,n1,_,n3,n4,n5⟩:=f2 b hb
    exact ⟨n3,n1,n4,n5⟩
  have loop:codeAny (model X.prog X.w) X.A (.compLoop (.ListComp elt [⟨tg,iter,ifs,0⟩] scope pos) 0 (.ref it) (.ref s2.heap.objs.size) (compEnvC scope cl s3.heap.objs.size X.env))
      (compPost (model X.prog X.w) X.A X.xe use Qf (.ref s2.heap.objs.size) s3.heap.objs.size) { s3 with heap:=h₁,toks:=s3.toks+([]:List (Str × Value)).length }:=by
    refine w6 (fun n s'=>∃ i ys H',Inv Y [] (List.replicate L.length none++σ) H' s'∧tn i s'.heap∧(∀ b∈fp,H' b=none)∧W i n ys H') ?_ m0 ⟨0,[],H3,I4,st4,hfp3,w0⟩
    rintro n s5 ⟨i,ys,H5,I5,st5,fr5,w5⟩
    rcases turn i n ys H5 w5 with ⟨stop,qn⟩ | ⟨go,hlen,step⟩
    · refine thn (T.done Y rfl rfl rfl hc i [] s5 _ H5 _ I5 (fpY fr5) st5 stop) fun r s6 hh9=>?_
      obtain ⟨hr,I6⟩:=hh9
      subst hr
      exact back H5 s6 I6 qn
    · refine thn (T.item Y rfl rfl rfl hc i [] s5 _ H5 _ I5 (fpY fr5) st5 go) fun r s6 hh9=>?_
      obtain ⟨u,hr,h6⟩:=hh9
      subst hr
      refine thn h6 fun _ s7 hh9=>?_
      obtain ⟨x,H7,I7,r7,y7,st7,fr7⟩:=hh9
      have I7':=I7.pinned (fpY fr7) (T.obj _ _ st7)
      have g7:=hgS σ x H7 _ (step x H7 y7)
      refine thn (hg _ _ _ _ _ s7 _ H7 x u _ I7' r7 g7) fun _ s8 hh9=>?_
      obtain ⟨σ8,H8,I8,sub8,q8⟩:=hh9
      have again:∀ {σ9:St} {H9:Hp} {s9:Shared} {zs:List V},Inv Y ([]++Xr fp s7.heap) σ9 H9 s9→Z5 (List.replicate L.length none++σ) σ9→(∃ m',m' < n∧W (i+1) m' zs H9) →
          ∃ m,m < n∧∃ i ys H',Inv Y [] (List.replicate L.length none++σ) H' s9∧tn i s9.heap∧(∀ b∈fp,H' b=none)∧W i m ys H':=fun {σ9 H9 s9 zs} I9 sub9 w9=>by
        obtain ⟨m',hm,w9⟩:=w9
        refine ⟨m',hm,i+1,zs,H9,(I9.sub sub9).unpinned,T.keep _ _ _ st7 fun b hb o e=>(I9.pin (b,o) (List.mem_append_right _ (List.mem_append_right _ (vi hb e)))).1,fun b hb=>?_,w9⟩
        obtain ⟨o,e,d⟩:=T.obj _ _ st7 b hb
        exact (I9.pin (b,o) (List.mem_append_right _ (List.mem_append_right _ (vi hb e)))).2.1
      refine thn (ht _ _ _ _ _ s8 σ8 H8 _ I8 q8) fun b s9 hh9=>?_
      obtain ⟨H9,I9,q9⟩:=hh9
      cases b with
      | false =>
        rw [if_neg Bool.false_ne_true] at q9
        rw [if_neg Bool.false_ne_true]
        exact again I9 sub8 q9
      | true =>
        rw [if_pos rfl] at q9
        rw [if_pos rfl]
        refine thn (he _ _ _ _ _ s9 σ8 H9 _ I9 q9) fun y s10 hh9=>?_
        obtain ⟨yv,H10,I10,r10,hD10,w10⟩:=hh9
        obtain ⟨z10,its,k,rv,e10⟩:ys.length≤sizeLine∧∃ (its:List Value) (n:Nat),xj ys its∧s10.heap.get? s2.heap.objs.size=some { cls:=.type "list",data:=.seq its.toArray n }:=I10.hok _ _ hD10
        have hl10:s10.heap.PlainList s2.heap.objs.size its.toArray:=⟨k,e10⟩
        refine wpAny_list_append_plain (hsz:=by rw [List.size_toArray,← rv.length];exact z10) hl10 fun h11 hl11 sb11=>?_
        obtain ⟨k',e11⟩:=hl11
        have I11:Inv Y ([]++Xr fp s7.heap) σ8 (upd H10 s2.heap.objs.size (.lst (ys++[yv]))) { s10 with heap:=h11 }:=by
          refine I10.write (x:=s2.heap.objs.size) (e:=s2.heap.objs.size) (t':=s10.toks) (by rw [hD10];exact True.intro) (.inl rfl) (fun b u hb e=>(sb11.2 b hb).trans e) ⟨_,e11⟩ ?_
          refine ⟨by rw [List.length_append];show ys.length+1≤sizeLine;exact hlen,its++[y],k',rv.append (.cons r10 .nil),?_⟩
          rw [e11]
          simp
        exact again I11 sub8 w10
  exact codeAny_compStart_list loop (T.self _ 0 _ _ _ st4 loop)
theorem zgD {X:Cx}{elt tg iter:Expr}{ifs:List Expr}{L M:List Str}{scope:Scope}{cl:List (Str × Addr)}{pos:Pos}{wi:TI}{g:TG}{tt:TT}{te:TE}
    (hc:X.calm=true) (S:vT X L M scope cl) (hi:PI X tg iter wi)
    (hgS:∀ (σ:St) (v:V) (H:Hp) (Q:St→Hp→Prop),g v (List.replicate L.length none++σ) H Q→g v (List.replicate L.length none++σ) H (fun σ2 H2=>Z5 (List.replicate L.length none++σ) σ2∧Q σ2 H2))
    (hg:∀ s₀ H₀ ex pn,PG (zcR X L M scope cl s₀ H₀ ex pn) tg g) (ht:∀ s₀ H₀ ex pn,PIf (zcR X L M scope cl s₀ H₀ ex pn) ifs tt) (he:∀ s₀ H₀ ex pn,PE (zcR X L M scope cl s₀ H₀ ex pn) elt te)
    (hs:∀ x,foldedSetIterable iter X.env x=pure x:=by intro _;rfl) :
    PE X (.ListComp elt [⟨tg,iter,ifs,0⟩] scope pos) (tLC wi L.length g tt te):=by
  intro pins s σ H Q I h
  rw [eval_ListComp]
  refine zhs hc S hi hgS hg ht he hs _ pins s σ H Q I h fun D C H' s' I' ⟨m,hn⟩ f q=>⟨m,hn,fun h' sb=>⟨.ref D,_,I'.letGo f sb,rfl,q⟩⟩
noncomputable def WW (names rn dn:List (Str × NameKind))(N M cn:List Str):Bool :=
  names.all (fun y=>decide (y.2≠.cell))&&names.all (fun y=>decide (y.2=.local→names.lookup y.1=some .local)) &&
  rn.all (fun y=>decide ((y.2=.cell∨y.2=.free)→y.1∈cn)) &&
  (M.length == N.length)&&(M.zip N).all (fun p=>decide ((rn.lookup p.1=some .local∨rn.lookup p.1=some .cell∨rn.lookup p.1=some .free)→p.1=p.2)) &&
  M.all (fun y=>decide ((rn.lookup y=some .local∨rn.lookup y=some .cell∨rn.lookup y=some .free) →
    (rn.lookup y=some .cell∨rn.lookup y=some .free)∧(dn.lookup y=some .local∨dn.lookup y=some .cell∨dn.lookup y=some .free)∧dn.lookup y≠some .local))
theorem WZ {X:Cx}{L N M cn:List Str}{scope:Scope}{cl:List (Str × Addr)}{rn dn:List (Str × NameKind)}(hr:(relabel scope X.env).names=rn)(hd:X.env.scope.names=dn)(hN:X.N=N)
    (clos:closureFor scope X.env=pure cl) (kind:scope.kind=.function) (hc:cl.map Prod.fst=cn) (good:WW scope.names rn dn N M cn=true) (sub:∀ p∈cl,X.env.cells.lookup p.1=some p.2):vT X L M scope cl:=by
  unfold WW at good
  simp only [Bool.and_eq_true,List.all_eq_true,decide_eq_true_eq] at good
  obtain ⟨⟨⟨⟨⟨g1,g2⟩,g3⟩,g5⟩,g6⟩,g4⟩:=good
  have g5:M.length=N.length:=by simpa using g5
  refine ⟨clos,g1,kind,g2,fun y c h=>sub (y,c) (PySem.mem_of_lookup h),fun y h=>?_,by rw [hN];exact g5,fun i y e v=>?_,fun i y e v=>?_,fun i y e v=>?_⟩
  · rw [hr] at h
    have hy:y∈cn:=by
      rcases h with h | h
      · exact g3 _ (PySem.mem_of_lookup h) (.inl rfl)
      · exact g3 _ (PySem.mem_of_lookup h) (.inr rfl)
    exact vO (by rw [hc];exact hy)
  · unfold Vis at v
    rw [hr] at v
    have hi:=(List.getElem?_eq_some_iff.mp e).1
    have hj:i < N.length:=by rw [←g5];exact hi
    have hz:(M.zip N)[i]?=some (y,N[i]):=by
      rw [List.getElem?_zip_eq_some]
      exact ⟨e,List.getElem?_eq_getElem hj⟩
    have:=g6 _ (List.mem_of_getElem? hz) v
    rw [hN,List.getElem?_eq_getElem hj]
    exact congrArg some this.symm
  · unfold Vis at v
    rw [hr] at v ⊢
    exact (g4 y (List.mem_of_getElem? e) v).1
  · unfold Vis at v
    rw [hr] at v
    obtain ⟨_,k1,k2⟩:=g4 y (List.mem_of_getElem? e) v
    refine ⟨?_,?_⟩
    · unfold Vis;rw [hd];exact k1
    · show X.env.scope.names.lookup y≠_;rw [hd];exact k2
end L2
namespace PySem
open Sem (wp)
open AutoSeq1 (wpAny_loadPart')
section
variable {prog:Program}{w:World}{A:Around}{E:Value→Shared→Prop}{s:Shared}
theorem YS {it l:Addr}{i:Nat}{items}{x:Value}{Q:Value→Shared→Prop}(hit:s.heap.IsTupleIter it l i)
    (hl:s.heap.IsTuple l items) (hx:items[i]?=some x)
    (hQ:∀ h',h'.IsTupleIter it l (i+1)→Heap.SameBut it s.heap h'→Q x { s with heap:=h' }) :
    wpAny (model prog w) A (Builtin.SmallTypes.nextOf (.ref it)) Q E s:=by
  obtain ⟨o,ho,hc,hd⟩:=id hit
  obtain ⟨ol,hol,_,nl,hdl⟩:=hl
  unfold Builtin.SmallTypes.nextOf
  refine wpAny_bind (wpAny_callSpecial?_slot (name:=Str.ofString "__next__") hit.typeIs F.slot_tuple_iterator_next
    (wpAny_call_entry F.slot_tuple_iterator_next hit.typeIs F.entry_tuple_iterator_next ?_ (F.args_tuple_iterator_next_1 _)))
  show wpAny _ _ (field (.ref it) 0>>=_) _ _ s
  refine wpAny_bind (wpAny_field ho hd (x:=.ref l) rfl ?_)
  show wpAny _ _ (if (Value.ref l == Value.none)=true then _ else _) _ _ s
  rw [if_neg (show ¬ ((Value.ref l == Value.none)=true) from Bool.false_ne_true)]
  show wpAny _ _ (field (.ref it) 1>>=_) _ _ s
  refine wpAny_bind (wpAny_field ho hd (x:=.int i 0) rfl ?_)
  show wpAny _ _ (seqItems? (.ref l)>>=_) _ _ s
  refine wpAny_bind (wpAny_seqItems hol hdl ?_)
  simp only [Int.toNat_natCast,hx]
  refine wpAny_bind (wpAny_setField ho hd (by simp) (wpAny_pure ⟨x,rfl,wpAny_pure (hQ _ ?_ (Heap.SameBut.update ..))⟩))
  exact ⟨_,Heap.get?_update_self _ ho (Obj.isFreed_of_fields (Obj.data_mapFields hd _)),(Obj.cls_mapFields ..).trans hc,by
    rw [Obj.data_mapFields hd];simp [rawInt]⟩
theorem w8 {it l:Addr}{i:Nat}{items}{Q:Value→Shared→Prop}(hh:A.handled=none)
    (hit:s.heap.IsTupleIter it l i) (hl:s.heap.IsTuple l items) (hx:items[i]?=none)
    (hE:∀ h' e,Heap.ExtBut it s.heap h'→(∃ o,h'.get? e=some o∧o.cls=.type "StopIteration")→E (.ref e) { s with heap:=h' }) :
    wpAny (model prog w) A (Builtin.SmallTypes.nextOf (.ref it)) Q E s:=by
  obtain ⟨o,ho,hc,hd⟩:=id hit
  obtain ⟨ol,hol,_,nl,hdl⟩:=hl
  unfold Builtin.SmallTypes.nextOf
  refine wpAny_bind (wpAny_callSpecial?_slot (name:=Str.ofString "__next__") hit.typeIs F.slot_tuple_iterator_next
    (wpAny_call_entry F.slot_tuple_iterator_next hit.typeIs F.entry_tuple_iterator_next ?_ (F.args_tuple_iterator_next_1 _)))
  show wpAny _ _ (field (.ref it) 0>>=_) _ _ s
  refine wpAny_bind (wpAny_field ho hd (x:=.ref l) rfl ?_)
  show wpAny _ _ (if (Value.ref l == Value.none)=true then _ else _) _ _ s
  rw [if_neg (show ¬ ((Value.ref l == Value.none)=true) from Bool.false_ne_true)]
  show wpAny _ _ (field (.ref it) 1>>=_) _ _ s
  refine wpAny_bind (wpAny_field ho hd (x:=.int i 0) rfl ?_)
  show wpAny _ _ (seqItems? (.ref l)>>=_) _ _ s
  refine wpAny_bind (wpAny_seqItems hol hdl ?_)
  simp only [Int.toNat_natCast,hx]
  refine wpAny_bind (wpAny_rule (wpAny_bind (wpAny_setField ho hd (by simp) ?_)))
  show wpAny _ _ (newExc (.type "StopIteration") []>>=_) _ _ _
  refine wpAny_bind ?_
  simp only [newExc,newTuple]
  refine wpAny_bind (wpAny_newObj_type ?_ (by size_fits))
  refine wpAny_bind (m:=firstArgMember _ _) (wpAny_of_eq (a:=Value.none) (by first | rfl | (simp only [firstArgMember];rfl)) ?_)
  refine wpAny_newObj_type ?_ (by size_fits)
  simp only [raiseNew]
  refine wpAny_bind (wpAny_handled ?_)
  first | rw [show A.in1.handled=none from hh] | rw [hh]
  refine wpAny_bind (wpAny_pure (wpAny_throw ?_))
  exact hE _ _ (((Heap.SameBut.update ..).extBut.push _).push _) ⟨_,Heap.get?_push_size _ rfl,rfl⟩
end
theorem Zg {prog:Program}{w:World}{A:Around}{E:Value→Shared→Prop}{s:Shared}{e it l:Addr}{i:Nat}{items:Array Value}{old:Value}{Q:Option Value→Shared→Prop}(hh:A.handled=none)
    (he:IsEnum s.heap e it i old) (hit:s.heap.IsTupleIter it l i) (hl:s.heap.IsTuple l items) (hx:items[i]?=none)
    (hQ:∀ h',Heap.ExtBut it s.heap h'→Q none { s with heap:=h' }):wpAny (model prog w) A (pyNext (.ref e)) Q E s:=by
  have hT:s.TypeIs (.ref e) "enumerate":=⟨_,he,rfl⟩
  unfold pyNext
  refine wpAny_bind (wpAny_attempt (wpAny_callSpecial?_slot (name:=Str.ofString "__next__") hT F.slot_enumerate_next
    (wpAny_call_entry F.slot_enumerate_next hT F.entry_enumerate_next ?_ (F.args_enumerate_next_1 _))))
  show wpAny _ _ (field (.ref e) 2>>=_) _ _ _
  refine wpAny_bind (wpAny_field he rfl (x:=.ref it) rfl ?_)
  refine wpAny_bind (w8 hh hit hl hx fun h' x he' hx'=>?_)
  obtain ⟨o,ho,hc⟩:=hx'
  refine wpAny_bind (wpAny_isInstance (T:="StopIteration") (b:=true) ⟨o,ho,hc⟩ isSubtype_stop ?_)
  exact wpAny_pure (hQ _ he')
theorem YT {prog:Program}{w:World}{A:Around}(hh:A.handled=none)(it l:Addr)(hne:l≠it)(items:Array Value) :
    Draws prog w A it [it,l] items.size (fun i v=>items[i]?=some v) (fun i h=>h.IsTupleIter it l i∧h.IsTuple l items) where
  live:=fun _ _ st=>let ⟨o,ho,_⟩:=st.1;⟨o,ho⟩
  frame:=fun _ _ _ st hk=>by
    obtain ⟨⟨o,ho,r⟩,⟨o2,ho2,r2⟩⟩:=st
    exact ⟨⟨o,hk it (by simp) o ho,r⟩,⟨o2,hk l (by simp) o2 ho2,r2⟩⟩
  item:=fun i s Q E hi st hQ=>by
    refine YS st.1 st.2 (x:=items[i]) (by simp [hi]) fun h' hit' hs'=>?_
    exact hQ _ h' s.toks (by simp [hi]) ⟨hit',st.2.extBut hs'.extBut hne⟩ hs'
  done:=fun s Q E st hE=>w8 hh st.1 st.2 (by simp) hE
theorem ZZ (l:Addr)(items:Array Value)(n:Nat)(dd:Option Addr)(sl:Array (Option Value)) :
    Meets (Builtin.«enumerate.__new__» ⟨[.type "enumerate",.ref l],[]⟩) (fun _ R s=>s.heap.get? l=some { cls:=.type "tuple",dict:=dd,data:=.seq items n,slots:=sl } ∧
      R (.ok (.ret (.ref (s.heap.push { cls:=.type "tuple_iterator",data:=.fields #[.ref l,.int 0 0] }).objs.size)))
        { s with heap:=(s.heap.push { cls:=.type "tuple_iterator",data:=.fields #[.ref l,.int 0 0] }).push { cls:=.type "enumerate",data:=.fields #[.none,.bool false,.ref s.heap.objs.size,rawInt 0,.none,.none] } }) :=
  .of_wp fun prog w A R s h=>by
    obtain ⟨hp,g,d,tk,os⟩:=s;obtain ⟨hl,h⟩:=h
    have hsub:=sub_enumerate
    have hL:Heap.IsTuple (Shared.heap ⟨hp,g,d,tk,os⟩) l items:=⟨_,hl,rfl,n,rfl⟩
    wp_walk using wpAny_loadPart' hl
    refine wpAny_stack_any fun st=>wpAny_pure ?_
    split
    · rename_i c _ _ _ _ _
      cases (c == Value.type "enumerate")
      · wp_walk using wpAny_loadPart' hl,wpAny_pyIter_tuple hL
        exact ⟨_,rfl,h⟩
      · wp_walk using wpAny_loadPart' hl,wpAny_pyIter_tuple hL
        exact ⟨_,rfl,h⟩
    · wp_walk using wpAny_loadPart' hl,wpAny_pyIter_tuple hL
      exact ⟨_,rfl,h⟩
section
variable {prog:Program}{w:World}{A:Around}{E:Value→Shared→Prop}{s:Shared}
theorem Zf {l:Addr}{items:Array Value}{Q:Value→Shared→Prop}
    (hl:s.heap.IsTuple l items)
    (h:∀ h',IsEnum h' (s.heap.objs.size+1) s.heap.objs.size 0 .none→h'.IsTupleIter s.heap.objs.size l 0→h'.objs.size=s.heap.objs.size+2 →
      (∀ b o,s.heap.get? b=some o→h'.get? b=some o)→Q (.ref (s.heap.objs.size+1)) { s with heap:=h' }) :
    wpAny (model prog w) A (call (.type "enumerate") [.ref l]) Q E s:=by
  obtain ⟨⟨cls,dd,data,sl⟩,ho,hc,n,hd⟩:=hl
  simp only at hc hd
  subst hc hd
  refine callType_new F.called_enumerate (by decide) (F.typeCall_enumerate_1 _) (F.newCall_enumerate_1 _) (fun obj=>F.args_object_init_2 obj _) F.entry_enumerate_new
    (ZZ l items n dd sl) ⟨ho,?_⟩
  have hz:(s.heap.push { cls:=.type "tuple_iterator",data:=.fields #[.ref l,.int 0 0] }).objs.size=s.heap.objs.size+1:=Heap.size_push ..
  show _∧_
  rw [hz]
  have he:IsEnum ((s.heap.push { cls:=.type "tuple_iterator",data:=.fields #[.ref l,.int 0 0] }).push
      { cls:=.type "enumerate",data:=.fields #[.none,.bool false,.ref s.heap.objs.size,rawInt 0,.none,.none] }) (s.heap.objs.size+1) s.heap.objs.size 0 .none:=by
    have:=Heap.get?_push_size (s.heap.push { cls:=.type "tuple_iterator",data:=.fields #[.ref l,.int 0 0] })
      (o:={ cls:=.type "enumerate",data:=.fields #[.none,.bool false,.ref s.heap.objs.size,rawInt 0,.none,.none] }) rfl
    rw [hz] at this;exact this
  refine ⟨⟨_,he,rfl⟩,h _ he ⟨_,Heap.get?_push_of_some _ (Heap.get?_push_size _ rfl),rfl,rfl⟩ (by rw [Heap.size_push,hz]) fun b o x=>Heap.get?_push_of_some _ (Heap.get?_push_of_some _ x)⟩
end
end PySem
namespace L2
open PySem PySem.Spec PyProof.Rows
section
variable {X:Cx}{pins:List (Addr × Obj)}{σ:St}{H:Hp}{s:Shared}{h':Heap}
theorem Inv.grown {ch:List Addr}{T:Addr}{o:HO}{t':Nat}(I:Inv X pins σ H s)(hch:∀ b∈ch,zaJ X pins H b)(hT:s.heap.objs.size≤T)(k:∀ b u,b∉ch→s.heap.get? b=some u→h'.get? b=some u)
    (new:xf X.prog X.w (upd H T o) h' T o):Inv X pins σ (upd H T o) { s with heap:=h',toks:=t' }:=by
  have hn:H T=none:=I.hok.fresh hT
  have neT:∀ b u,s.heap.get? b=some u→b≠T:=fun b u e=>Nat.ne_of_lt (Nat.lt_of_lt_of_le (Heap.lt_size e) hT)
  have nch:∀ b u,H b=some u→b∉ch:=fun b u e z=>by rw [(hch b z).1] at e;cases e
  refine I.step (g':=s.gens) (d':=s.drawn) (ch:=ch) (fun b hb=>?_) (fun b u _ _ hc e _=>k b u hc e) (fun b u _ _ hc e _=>⟨u.slots,k b u hc e⟩) (fun b u _ e n=>by rw [zm (neT b u e)];exact n)
    (fun b u hc e=>⟨u,k b u hc e⟩) (fun b xs e=>by rw [zm (zk e hn)];exact e) (fun b u xs e=>by rw [zm (zk e hn)];exact e) (fun b ps e=>⟨#[],by rw [zm (zk e hn),e];simp⟩) (fun m hm=>?_) (fun b u e=>?_) I.bare
  · obtain ⟨_,n1,_,n3,n4,n5⟩:=hch b hb
    exact ⟨n3,n1,n4,n5⟩
  · obtain ⟨ob,es,ep,ho,r⟩:=hm
    exact ⟨ob,es,ep,k _ ob (fun z=>(hch _ z).2.1 rfl) ho,r⟩
  · by_cases hb:b=T
    · subst hb;rw [zn] at e;cases e;exact new
    · rw [zm hb] at e
      refine (I.hok b u e).stay (fun c v hc q=>k c v ?_ q) (fun c q=>by rw [zm (zk q hn)];exact q) fun c xs q=>by rw [zm (zk q hn)];exact q
      rcases hc with z | z
      · rw [z];exact nch b u e
      · exact nch c _ z
theorem Inv.turnedN {ch:List Addr}{t':Nat}(I:Inv X pins σ H s)(hch:∀ b∈ch,zaJ X pins H b)(k:∀ b u,b∉ch→s.heap.get? b=some u→h'.get? b=some u):Inv X pins σ H { s with heap:=h',toks:=t' }:=by
  have nch:∀ b u,H b=some u→b∉ch:=fun b u e z=>by rw [(hch b z).1] at e;cases e
  refine I.step (g':=s.gens) (d':=s.drawn) (ch:=ch) (fun b hb=>?_) (fun b u _ _ hc e _=>k b u hc e) (fun b u _ _ hc e _=>⟨u.slots,k b u hc e⟩) (fun b u _ e n=>n)
    (fun b u hc e=>⟨u,k b u hc e⟩) (fun b xs e=>e) (fun b u xs e=>e) (fun b ps e=>⟨#[],by rw [e];simp⟩) (fun m hm=>?_) (fun b u e=>?_) I.bare
  · obtain ⟨_,n1,_,n3,n4,n5⟩:=hch b hb
    exact ⟨n3,n1,n4,n5⟩
  · obtain ⟨ob,es,ep,ho,r⟩:=hm
    exact ⟨ob,es,ep,k _ ob (fun z=>(hch _ z).2.1 rfl) ho,r⟩
  · refine (I.hok b u e).stay (fun c v hc q=>k c v ?_ q) (fun c q=>q) fun c xs q=>q
    rcases hc with z | z
    · rw [z];exact nch b u e
    · exact nch c _ z
end
noncomputable def Iel (K:PySem.W.Frag)(a:Addr):It :=
  ⟨fun i H=>∃ xs x,SqL K H a xs∧xs[i]?=some x,fun i H v H'=>∃ T x,v=.ref T∧H T=none∧H'=upd H T (.tup [.int i,x])∧∀ xs,SqL K H a xs→xs[i]?=some x,fun i H=>∃ xs,SqL K H a xs∧xs.length≤i⟩
noncomputable def Iet (K:PySem.W.Frag)(a:Addr):It :=
  ⟨fun i H=>∃ xs x,SqT K H a xs∧xs[i]?=some x,fun i H v H'=>∃ T x,v=.ref T∧H T=none∧H'=upd H T (.tup [.int i,x])∧∀ xs,SqT K H a xs→xs[i]?=some x,fun i H=>∃ xs,SqT K H a xs∧xs.length≤i⟩
theorem zcK {P:Program}{w:World}{K:PySem.W.Frag}{es:List Expr}{k:Nat}{tp:Pos}(a e it:Addr)(hne:e≠it) :
    zgm P w K (.Tuple es k tp) (Iel K a) [e,it] e (fun i h=>(∃ old,IsEnum h e it i old)∧h.IsListIter it a i) where
  mem:=by simp
  obj:=fun i h st b hb=>by
    obtain ⟨⟨old,he⟩,o,ho,_,hd⟩:=st
    rcases List.mem_cons.mp hb with rfl | hb
    · exact ⟨_,he,fun v z=>by cases z⟩
    · rw [List.mem_singleton.mp hb]
      exact ⟨o,ho,fun v z=>by rw [hd] at z;cases z⟩
  keep:=fun i h h' st kk=>by
    obtain ⟨⟨old,he⟩,hit⟩:=st
    exact ⟨⟨old,kk e (by simp) _ he⟩,hit.at fun o q=>kk it (by simp) o q⟩
  item:=by
    intro X hP hw hK hc i pins s σ H E I hf st hg
    subst hP hw hK
    obtain ⟨⟨old,he⟩,hit⟩:=st
    obtain ⟨xs,x,hq,hx⟩:=hg
    obtain ⟨its,rv,p,hz⟩:=I.list hq
    obtain ⟨u,hu,ru⟩:=rv.get hx
    refine wpAny_pyNext_enum_item he hit p.isList (x:=u) (by simpa using hu) hne fun h1 ho1 hit1 hT1 hz1 hk1=>?_
    refine ⟨_,rfl,wpAny_letOwnedTupleGo_enum ho1 fun h2 he2 hs2=>?_⟩
    have hfr:H s.heap.objs.size=none:=I.hok.fresh (Nat.le_refl _)
    have neE:s.heap.objs.size≠e:=Nat.ne_of_gt (Heap.lt_size he)
    have hT2:h2.get? s.heap.objs.size=some { cls:=.type "tuple",data:=.seq #[.int i s.toks,u] }:=(hs2.2 _ neE).trans hT1
    refine ⟨.ref s.heap.objs.size,upd H s.heap.objs.size (.tup [.int i,x]),?_,rfl,⟨_,x,rfl,hfr,rfl,fun ys hy=>by rw [I.list_inj hy hq];exact hx⟩,⟨⟨_,by simpa using he2⟩,hit1.at fun o q=>(hs2.2 it (Ne.symm hne)).trans q⟩,fun b hb=>?_⟩
    · refine I.grown (ch:=[e,it]) hf (Nat.le_refl _) (fun b v hb q=>?_) ?_
      · have n1:b≠e:=fun z=>hb (by simp [z])
        have n2:b≠it:=fun z=>hb (by simp [z])
        exact (hs2.2 b n1).trans (hk1 b v n1 n2 q)
      · exact ⟨by show 2≤sizeLine;decide,[.int i s.toks,u],.cons ⟨_,rfl⟩ (.cons ru .nil),⟨_,hT2,rfl,0,rfl⟩⟩
    · obtain ⟨o,hb2,_⟩:∃ o,s.heap.get? b=some o∧True:=by
        rcases List.mem_cons.mp hb with rfl | hb
        · exact ⟨_,he,trivial⟩
        · rw [List.mem_singleton.mp hb]
          obtain ⟨o,ho,_⟩:=hit
          exact ⟨o,ho,trivial⟩
      rw [zm (Nat.ne_of_lt (Heap.lt_size hb2))]
      exact (hf b hb).1
  done:=by
    intro X hP hw hK hc i pins s σ H E I hf st hg
    subst hP hw hK
    obtain ⟨⟨old,he⟩,hit⟩:=st
    obtain ⟨xs,hq,hx⟩:=hg
    obtain ⟨its,rv,p,hz⟩:=I.list hq
    have hl:=rv.length
    exact wpAny_pyNext_enum_end (I.ok.hd hc) he hit p.isList (by simp;omega) fun h1 hx1=>⟨rfl,I.turnedN (ch:=[e,it]) (t':=s.toks) hf fun b v hb q=>hx1 b v (fun z=>hb (by simp [z])) q⟩
  self:=fun _ _ _ _ _ st h=>wpAny_pyIter_enum st.1.choose_spec h
theorem zcC {P:Program}{w:World}{K:PySem.W.Frag}{es:List Expr}{k:Nat}{tp:Pos}(a e it:Addr)(hne:e≠it)(hai:a≠it)(hae:a≠e) :
    zgm P w K (.Tuple es k tp) (Iet K a) [e,it] e (fun i h=>(∃ old,IsEnum h e it i old)∧h.IsTupleIter it a i) where
  mem:=by simp
  obj:=fun i h st b hb=>by
    obtain ⟨⟨old,he⟩,o,ho,_,hd⟩:=st
    rcases List.mem_cons.mp hb with rfl | hb
    · exact ⟨_,he,fun v z=>by cases z⟩
    · rw [List.mem_singleton.mp hb]
      exact ⟨o,ho,fun v z=>by rw [hd] at z;cases z⟩
  keep:=fun i h h' st kk=>by
    obtain ⟨⟨old,he⟩,o,ho,r⟩:=st
    exact ⟨⟨old,kk e (by simp) _ he⟩,o,kk it (by simp) o ho,r⟩
  item:=by
    intro X hP hw hK hc i pins s σ H E I hf st hg
    subst hP hw hK
    obtain ⟨⟨old,he⟩,hit⟩:=st
    obtain ⟨xs,x,hq,hx⟩:=hg
    obtain ⟨its,rv,p,hz⟩:=I.tuple hq
    obtain ⟨u,hu,ru⟩:=rv.get hx
    have p':s.heap.IsTuple a its.toArray:=p
    have D:=YT (prog:=X.prog) (w:=X.w) (A:=X.A.in1) (I.ok.hd hc) it a hai its.toArray
    have hlt:i < its.toArray.size:=by
      obtain ⟨h1,_⟩:=List.getElem?_eq_some_iff.mp hu
      simpa using h1
    refine wpAny_pyNext_enum_itemD D he ⟨hit,p'⟩ hlt hne (by simp [hne,Ne.symm hae]) fun u' h1 tk hP1 ho1 hit1 hT1 hz1 hk1=>?_
    have eu:u'=u:=by
      have:its[i]?=some u':=by simpa using hP1
      rw [hu] at this
      exact (Option.some.inj this).symm
    subst eu
    refine ⟨_,rfl,wpAny_letOwnedTupleGo_enum ho1 fun h2 he2 hs2=>?_⟩
    have hfr:H s.heap.objs.size=none:=I.hok.fresh (Nat.le_refl _)
    have neE:s.heap.objs.size≠e:=Nat.ne_of_gt (Heap.lt_size he)
    have hT2:h2.get? s.heap.objs.size=some { cls:=.type "tuple",data:=.seq #[.int i tk,u'] }:=(hs2.2 _ neE).trans hT1
    refine ⟨.ref s.heap.objs.size,upd H s.heap.objs.size (.tup [.int i,x]),?_,rfl,⟨_,x,rfl,hfr,rfl,fun ys hy=>by rw [I.tuple_inj hy hq];exact hx⟩,⟨⟨_,by simpa using he2⟩,?_⟩,fun b hb=>?_⟩
    · refine I.grown (ch:=[e,it]) hf (Nat.le_refl _) (fun b v hb q=>?_) ?_
      · have n1:b≠e:=fun z=>hb (by simp [z])
        have n2:b≠it:=fun z=>hb (by simp [z])
        exact (hs2.2 b n1).trans (hk1 b v n1 n2 q)
      · exact ⟨by show 2≤sizeLine;decide,[.int i tk,u'],.cons ⟨_,rfl⟩ (.cons ru .nil),⟨_,hT2,rfl,0,rfl⟩⟩
    · obtain ⟨o,ho,r⟩:=hit1.1
      exact ⟨o,(hs2.2 it (Ne.symm hne)).trans ho,r⟩
    · obtain ⟨o,hb2,_⟩:∃ o,s.heap.get? b=some o∧True:=by
        rcases List.mem_cons.mp hb with rfl | hb
        · exact ⟨_,he,trivial⟩
        · rw [List.mem_singleton.mp hb]
          obtain ⟨o,ho,_⟩:=hit
          exact ⟨o,ho,trivial⟩
      rw [zm (Nat.ne_of_lt (Heap.lt_size hb2))]
      exact (hf b hb).1
  done:=by
    intro X hP hw hK hc i pins s σ H E I hf st hg
    subst hP hw hK
    obtain ⟨⟨old,he⟩,hit⟩:=st
    obtain ⟨xs,hq,hx⟩:=hg
    obtain ⟨its,rv,p,hz⟩:=I.tuple hq
    have hl:=rv.length
    have p':s.heap.IsTuple a its.toArray:=p
    exact Zg (I.ok.hd hc) he hit p' (by simp;omega) fun h1 hx1=>⟨rfl,I.turnedN (ch:=[e,it]) (t':=s.toks) hf fun b v hb q=>hx1 b v (fun z=>hb (by simp [z])) q⟩
  self:=fun _ _ _ _ _ st h=>wpAny_pyIter_enum st.1.choose_spec h
noncomputable def zk5 (K:PySem.W.Frag)(ta:TA):TI:=fun σ H R=>ta σ H fun vs H1=>∃ a,vs=[.ref a]∧((∃ xs,H1 a=some (.lst xs)∧R (Iel K a) H1)∨(∃ xs,SqT K H1 a xs∧R (Iet K a) H1))
theorem zh5 {X:Cx} {es:List Expr} {k:Nat} {tp:Pos} {a:Expr} {ta:TA} {p pos:Pos} (hg:Gl X "enumerate") (hm:X.mg "enumerate"=none) (hb:bootBuiltins "enumerate"=some (.type "enumerate")) (ha:PA X [a] ta)
    (hs:starEach [a] X.env=[(false,eval a X.env)]:=by rfl):PI X (.Tuple es k tp) (.Call (.Name "enumerate" p) [a] [] pos) (zk5 X.K ta):=by
  intro pins s σ H R I h
  refine Call_ (Wa I hg hm hb (PyProof.Rows.callWith_type1 (thn (ha pos pins s σ H _ I h) fun us s1 hh9=>?_) hs rfl))
  obtain ⟨vs,H1,I1,r1,q1⟩:=hh9
  obtain ⟨l,e,q⟩:=q1
  subst e
  obtain ⟨u,rfl,ru⟩:=za0 r1
  cases ru
  have hn:∀ b,s1.heap.objs.size≤b→zaJ X pins H1 b:=fun b hb=>I1.fpOk hb (I1.hok.fresh hb)
  have hne:s1.heap.objs.size+1≠s1.heap.objs.size:=by omega
  have hfp:∀ b∈[s1.heap.objs.size+1,s1.heap.objs.size],zaJ X pins H1 b:=fun b hb=>by
    rcases List.mem_cons.mp hb with rfl | hb
    · exact hn _ (Nat.le_succ _)
    · rw [List.mem_singleton.mp hb];exact hn _ (Nat.le_refl _)
  rcases q with ⟨xs,hx,q⟩ | ⟨xs,hx,q⟩
  · obtain ⟨_,its,n,_,e⟩:xs.length≤sizeLine∧∃ (its:List Value) (n:Nat),xj xs its∧s1.heap.get? l=some { cls:=.type "list",data:=.seq its.toArray n }:=I1.hok _ _ hx
    refine call_enumerate_1 e fun h2 he hit hz hk=>wpAny_pyIter_enum he ?_
    exact ⟨_,_,_,_,H1,rfl,I1.kept (t':=s1.toks) hk,zcK l _ _ hne,⟨⟨_,he⟩,hit⟩,hfp,q⟩
  · obtain ⟨its,_,p1,_⟩:=I1.tuple hx
    have lt:l < s1.heap.objs.size:=by
      obtain ⟨o,ho,_⟩:=p1
      exact Heap.lt_size ho
    refine Zf (show s1.heap.IsTuple l its.toArray from p1) fun h2 he hit hz hk=>wpAny_pyIter_enum he ?_
    exact ⟨_,_,_,_,H1,rfl,I1.kept (t':=s1.toks) hk,zcC l _ _ hne (Nat.ne_of_lt lt) (Nat.ne_of_lt (Nat.lt_succ_of_lt lt)),⟨⟨_,he⟩,hit⟩,hfp,q⟩
end L2
namespace HT
open PySem PyProof.Rows
noncomputable def lexLe:List Int→List Int→Bool
  | [],_=>true
  | _::_,[]=>false
  | x::xs,y::ys=>if x=y then lexLe xs ys else decide (x≤y)
theorem zcy (x y:Int)(xs ys:List Int):lexLe (x::xs) (y::ys)=if x=y then lexLe xs ys else decide (x≤y):=rfl
theorem zfT (A:Around)(s:Shared)(a:Int)(t:Tok)(c:Int)(u:Tok)(prog:Program)(w:World)(E:Value→Shared→Prop)(Q:Value→Shared→Prop)(h:Q (.bool (decide (a≤c))) s) :
    wpAny (model prog w) A (richCompare .LtE (.int a t) (.int c u)) Q E s :=
  (PyProof.Rows.le_int h:wpAny (model prog w) A (compareOp .LtE (.int a t) (.int c u)) Q E s)
section
open PySem.SeqAt
open PySem.AutoSeq1 (wpAny_loadPart')
open PySem.MeetsSeq PySem.MeetsSeq2 PySem.MeetsSeq3
theorem Vq (l b:Addr)(items items2:Array Value)(n n2:Nat)(dd dd2:Option Addr)(sl sl2:Array (Option Value))(ns ms:List Int)(hi:IntsAre items.toList ns)(hj:IntsAre items2.toList ms) :
    Meets (Builtin.«tuple.__le__» ⟨[.ref l,.ref b],[]⟩)
      (fun _ R s=>s.heap.get? l=some { cls:=.type "tuple",dict:=dd,data:=.seq items n,slots:=sl }∧s.heap.get? b=some { cls:=.type "tuple",dict:=dd2,data:=.seq items2 n2,slots:=sl2 } ∧
        R (.ok (.ret (.bool (lexLe ns ms)))) s) :=
  .of_wp fun prog w A R s h=>by
    obtain ⟨hp,g,d,tk,os⟩:=s;obtain ⟨hl,hb,h⟩:=h
    have f2:=AutoSeq1.sub_tuple_tuple
    have z1:items.size=ns.length:=by rw [←hi.length];simp
    have z2:items2.size=ms.length:=by rw [←hj.length];simp
    wp_walk using wpAny_loadPart' hl,wpAny_loadPart' hb,wpAny_forIn_list _ (fun rest b s'=>b.1=none∧s'=⟨hp,g,d,tk,os⟩∧∃ (vs ws:List Value) (ns' ms':List Int),rest=vs.zip ws ∧
      IntsAre vs ns'∧IntsAre ws ms'∧ns'.length+items2.size=ms'.length+items.size∧R (.ok (.ret (.bool (lexLe ns' ms')))) ⟨hp,g,d,tk,os⟩) _
    case turn =>
      rintro ⟨y,x⟩ rest b s' ⟨hb',rfl,vs,ws,ns',ms',hz,hvi,hwi,hlen,hR⟩
      cases hvi with
      | nil=>rw [List.zip_nil_left] at hz;cases hz
      | cons a t hvi' =>
        cases hwi with
        | nil=>rw [List.zip_nil_right] at hz;cases hz
        | cons c u hwi' =>
          rw [List.zip_cons_cons] at hz
          injection hz with hyx hrest
          injection hyx with hy hx
          subst hy hx
          rw [zcy] at hR
          simp only [List.length_cons] at hlen
          obtain ⟨e,he,hiff⟩:=zf9 A.in1 ⟨hp,g,d,tk,os⟩ a t c u
          refine wpAny_bind (he prog w _ _ ?_)
          cases e with
          | true =>
            rw [if_pos (hiff.mp rfl)] at hR
            wp_walk
            exact ⟨rfl,rfl,_,_,_,_,hrest,hvi',hwi',by omega,hR⟩
          | false =>
            rw [if_neg (fun q=>absurd (hiff.mpr q) Bool.false_ne_true)] at hR
            have hri:=zfT A.in1 ⟨hp,g,d,tk,os⟩ a t c u prog w
            wp_walk using hri
            exact ⟨_,rfl,by simpa using hR⟩
    case fin =>
      rintro ⟨b1,b2⟩ s' ⟨hb',rfl,vs,ws,ns',ms',hz,hvi,hwi,hlen,hR⟩
      simp only at hb'
      subst hb'
      have hv:lexLe ns' ms'=decide (items.size≤items2.size):=by
        cases hvi with
        | nil =>
          simp only [List.length_nil] at hlen
          show true=_
          exact (decide_eq_true (by omega)).symm
        | cons a t hv =>
          cases hwi with
          | nil =>
            simp only [List.length_nil,List.length_cons] at hlen
            show false=_
            exact (decide_eq_false (by omega)).symm
          | cons c u hw =>
            rw [List.zip_cons_cons] at hz
            cases hz
      rw [hv] at hR
      wp_walk
      exact ⟨_,rfl,by simpa [Builtin.Tuple.tupleCompareSizes] using hR⟩
    case h =>
      exact ⟨rfl,rfl,items.toList,items2.toList,ns,ms,rfl,hi,hj,by omega,h⟩
end
section
variable {prog:Program}{w:World}{A:Around}{E:Value→Shared→Prop}{s:Shared}
theorem le_tupInts {l b:Addr}{items items2:Array Value}{ns ms:List Int}{Q:Value→Shared→Prop}(hl:IsTup s.heap l items)(hb:IsTup s.heap b items2)(hi:IntsAre items.toList ns)(hj:IntsAre items2.toList ms)
    (hu:A.units < cLine) (h:Q (.bool (lexLe ns ms)) s):wpAny (model prog w) A (compareOp .LtE (.ref l) (.ref b)) Q E s:=by
  obtain ⟨⟨cls,dd,data,sl⟩,ho,hc,n,hd⟩:=id hl
  obtain ⟨⟨cls2,dd2,data2,sl2⟩,ho2,hc2,n2,hd2⟩:=id hb
  simp only at hc hd hc2 hd2
  subst hc hd hc2 hd2
  exact richCompare_meets_room (op:=.LtE) ⟨_,ho,rfl⟩ ⟨_,ho2,rfl⟩ PySem.F.slot_tuple_le PySem.F.entry_tuple_le (PySem.F.args_tuple_le_2 _ _) (Vq l b items items2 n n2 dd dd2 sl sl2 ns ms hi hj)
    ⟨ho,ho2,show Value.bool (lexLe ns ms)≠Value.notImplemented∧Q (.bool (lexLe ns ms)) s from ⟨(fun x=>nomatch x),h⟩⟩ hu
end
end HT
namespace L2
open PySem PySem.Spec PyProof.Rows
noncomputable def rLeT (K:PySem.W.Frag):R2:=fun x y H Q=>∃ a b ns ms,x=.ref a∧y=.ref b∧SqT K H a (ns.map V.int)∧SqT K H b (ms.map V.int)∧Q (.bl (HT.lexLe ns ms)) H
theorem zj3 {X:Cx}(hu:X.A.units < cLine):OpR X (compareOp .LtE) (rLeT X.K):=by
  intro pins s σ H x y v u Q I rx ry h
  obtain ⟨a,b,ns,ms,rfl,rfl,ha,hb,q⟩:=h
  cases rx
  cases ry
  obtain ⟨its,r1,p1,_⟩:=I.tuple ha
  obtain ⟨its2,r2,p2,_⟩:=I.tuple hb
  have i1:IntsAre its.toArray.toList ns:=WQ r1
  have i2:IntsAre its2.toArray.toList ms:=WQ r2
  exact HT.le_tupInts p1 p2 i1 i2 hu ⟨.bl (HT.lexLe ns ms),H,I,rfl,q⟩
end L2
namespace HT
open PySem PyProof.Rows
section
variable {prog:Program}{w:World}{A:Around}{E:Value→Shared→Prop}{s:Shared}
theorem own_getItem_whole {t sl:Addr}{items:Array Value}{vl vu:Value}{lo hi:Option Int}{Q:Value→Shared→Prop}(ht:IsTup s.heap t items)(hs:s.heap.IsSliceOf sl vl vu .none)(pl:IsPart vl lo)(pu:IsPart vu hi)
    (hw:sIx items.size 0 lo=0∧sIx items.size items.size hi=items.size) (h:Q (.ref t) s):wpAny (model prog w) A (getItem (.ref t) (.ref sl)) Q E s:=by
  obtain ⟨os,hos,hcs,hds⟩:=id hs
  have hTs:s.TypeIs (.ref sl) "slice":=⟨os,hos,hcs⟩
  unfold getItem
  try with_reducible refine wpAny_holding ?_
  first | refine wpAny_bind (wpAny_pure ?_) | skip
  refine wpAny_bind (wpAny_sequenceKey ht.typeIs (by decide) ?_)
  refine wpAny_bind (wpAny_callSpecial?_slot (name:=Str.ofString "__getitem__") ht.typeIs PyProof.Rows.slot_tuple_getitem
    (wpAny_call_entry PyProof.Rows.slot_tuple_getitem ht.typeIs entry_tuple_getitem ?_ (args_tuple_getitem _ _)))
  show wpAny _ _ (Builtin.Tuple.tupleItemsOf (.ref t)>>=_) _ _ s
  refine wpAny_bind (tupleItemsOf_ ht ?_)
  refine wpAny_bind (wpAny_typeOf hTs ?_)
  rw [if_pos (by decide)]
  refine wpAny_bind (Yv hs pl pu ?_)
  have hyes:(((sIx items.size 0 lo:Nat):Int) == 0&&(1:Int) == 1&&(sIx items.size items.size hi - sIx items.size 0 lo) == items.size)=true:=by
    rw [hw.1,hw.2]
    simp
  show wpAny _ _ (if (((sIx items.size 0 lo:Nat):Int) == 0&&(1:Int) == 1&&(sIx items.size items.size hi - sIx items.size 0 lo) == items.size)=true then _ else _) _ _ s
  rw [if_pos hyes]
  refine wpAny_bind (m:=Builtin.Tuple.tupleIsExact (.ref t)) ?_
  unfold Builtin.Tuple.tupleIsExact
  refine wpAny_bind (wpAny_typeOf ht.typeIs (wpAny_pure ?_))
  rw [if_pos (by decide)]
  refine wpAny_bind (wpAny_rule ?_)
  first
    | exact wpAny_pure ⟨_,rfl,wpAny_pure h⟩
    | exact wpAny_bind (wpAny_pure (wpAny_pure ⟨_,rfl,wpAny_pure h⟩))
end
end HT
namespace L2
open PySem PySem.Spec PyProof.Rows
end L2
namespace PySem
open Sem (wp)
theorem wb {prog:Program}{w:World}{A:Around}{it a:Addr}{fp:List Addr}{n k:Nat}{P:Nat→Value→Prop}{St:Nat→Heap→Prop}(D:Draws prog w A it fp n P St){h h':Heap}(st:St k h)(sb:Heap.SameBut a h h')(na:a∉fp):St k h' :=
  D.frame _ _ _ st fun b hb o e=>(sb.2 b fun z=>na (z ▸ hb)).trans e
set_option genInjectivity false in
set_option genSizeOf false in
set_option genCtorIdx false in
structure zfv (z TI TO i1 i2:Addr) (fp1 fp2:List Addr):Prop where
  nd:[z,TI,TO,i1,i2].Nodup
  z1:z∉fp1
  z2:z∉fp2
  o1:TO∉fp1
  o2:TO∉fp2
  i12:i1∉fp2
  i21:i2∉fp1
section
variable {prog:Program}{w:World}{A:Around}{E:Value→Shared→Prop}{s:Shared}{z TI TO i1 i2:Addr}{fp1 fp2:List Addr}{n1 n2 k1 k2:Nat}{P1 P2:Nat→Value→Prop}{St1 St2:Nat→Heap→Prop}{a b:Value}
theorem zak {Q:Value→Shared→Prop}(D1:Draws prog w A i1 fp1 n1 P1 St1)(D2:Draws prog w A i2 fp2 n2 P2 St2)(ap:zfv z TI TO i1 i2 fp1 fp2)
    (hz:IsZip s.heap z TI TO .none) (hTI:IsPair s.heap TI (.ref i1) (.ref i2)) (hTO:IsPair s.heap TO a b) (h1:St1 k1 s.heap) (h2:St2 k2 s.heap) (l1:k1 < n1) (l2:k2 < n2)
    (hQ:∀ x y h' tk,P1 k1 x→P2 k2 y→IsZip h' z TI TO (rawInt s.heap.objs.size)→IsPair h' TO x y→St1 (k1+1) h'→St2 (k2+1) h'→IsPair h' s.heap.objs.size x y →
      (∀ c o,c∉[z,TO,i1,i2]→s.heap.get? c=some o→h'.get? c=some o)→Q (.ref s.heap.objs.size) { s with heap:=h',toks:=tk }) :
    wpAny (model prog w) A (Builtin.«zip.__next__» ⟨[.ref z],[]⟩) (fun fin s'=>∃ v,fin=.done (.ret v)∧Q v s') E s:=by
  obtain ⟨nd,az1,az2,ao1,ao2,a12,a21⟩:=ap
  simp only [List.nodup_cons,List.mem_cons,List.not_mem_nil,or_false,not_or,not_false_eq_true,List.nodup_nil,and_true] at nd
  obtain ⟨⟨n1',n2',n3',n4'⟩,⟨n5,n6,n7⟩,⟨n8,n9⟩,n10⟩:=nd
  show wpAny _ _ (field (.ref z) 2>>=_) _ _ _
  refine wpAny_bind (wpAny_field hz rfl (x:=.bool false) rfl ?_)
  show wpAny _ _ (field (.ref z) 3>>=_) _ _ _
  refine wpAny_bind (wpAny_field hz rfl (x:=.ref TI) rfl (wpAny_bind (wpAny_seqItems hTI rfl ?_)))
  show wpAny _ _ (Builtin.SmallTypes.ownedTupleIsFree (.ref z)>>=_) _ _ _
  refine wpAny_bind ?_
  unfold Builtin.SmallTypes.ownedTupleIsFree
  refine wpAny_bind (wpAny_field hz rfl (x:=.none) rfl (wpAny_pure ?_))
  simp only [if_true]
  refine wpAny_bind (wpAny_rule (wpAny_bind (wpAny_field hz rfl (x:=.ref TO) rfl (wpAny_bind (wpAny_setField_rec hz (by simp) fun g1 z1 b1=>?_)))))
  refine wpAny_bind ?_
  simp only [List.zipIdx_cons,List.zipIdx_nil,List.forIn_cons,List.forIn_nil]
  refine wpAny_bind (wpAny_bind (wpAny_onRaise ?_))
  show wpAny _ _ (Builtin.SmallTypes.nextOf (.ref i1)>>=_) _ _ _
  refine wpAny_bind (D1.item k1 _ _ _ l1 (wb D1 h1 b1 az1) fun x g2 tk2 px st2 b2=>wpAny_pure ?_)
  have o2:IsPair g2 TO a b:=(b2.2 TO n8).trans ((b1.2 TO (Ne.symm n2')).trans hTO)
  refine wpAny_bind (wpAny_seqItems o2 rfl (wpAny_bind (wpAny_updateSeq_pair o2 fun g3 o3 b3=>?_)))
  refine wpAny_bind (wpAny_letGo (wpAny_pure ?_))
  refine wpAny_bind (wpAny_bind (wpAny_onRaise ?_))
  show wpAny _ _ (Builtin.SmallTypes.nextOf (.ref i2)>>=_) _ _ _
  have s23:St2 k2 g3:=wb D2 (wb D2 (wb D2 h2 b1 az2) b2 a12) b3 ao2
  refine wpAny_bind (D2.item k2 _ _ _ l2 s23 fun y g4 tk4 py st4 b4=>wpAny_pure ?_)
  have o4:IsPair g4 TO x b:=(b4.2 TO n9).trans o3
  refine wpAny_bind (wpAny_seqItems o4 rfl (wpAny_bind (wpAny_updateSeq_pair o4 fun g5 o5 b5=>?_)))
  replace o5:IsPair g5 TO x y:=o5
  refine wpAny_bind (wpAny_letGo (wpAny_pure (wpAny_pure ?_)))
  refine wpAny_bind (wpAny_seqItems o5 rfl ?_)
  show wpAny _ _ (newTuple [x,y]>>=_) _ _ _
  refine wpAny_bind (wpAny_newTuple ?_)
  have hsz:g5.objs.size=s.heap.objs.size:=by rw [b5.1,b4.1,b3.1,b2.1,b1.1]
  have z5:IsZip g5 z TI TO .ellipsis:=(b5.2 z n2').trans ((b4.2 z n4').trans ((b3.2 z n2').trans ((b2.2 z n3').trans z1)))
  have zlt:z < g5.objs.size:=Heap.lt_size z5
  show wpAny _ _ (Builtin.SmallTypes.ownedTupleHandOut (.ref z) (.ref g5.objs.size)>>=_) _ _ _
  refine wpAny_bind ?_
  unfold Builtin.SmallTypes.ownedTupleHandOut
  have z6:IsZip (g5.push { cls:=.type "tuple",data:=.seq #[x,y] }) z TI TO .ellipsis:=Heap.get?_push_of_some _ z5
  refine wpAny_bind (wpAny_setField_rec z6 (by simp) fun g7 z7 b7=>?_)
  refine wpAny_setField_rec z7 (by simp) fun g8 z8 b8=>?_
  have up:∀ c o,c≠z→g5.get? c=some o→g8.get? c=some o:=fun c o n e=>(b8.2 c n).trans ((b7.2 c n).trans (Heap.get?_push_of_some _ e))
  have t8:IsPair g8 g5.objs.size x y:=(b8.2 _ (Nat.ne_of_gt zlt)).trans ((b7.2 _ (Nat.ne_of_gt zlt)).trans (Heap.get?_push_size _ rfl))
  have e8:IsZip g8 z TI TO (rawInt g5.objs.size):=z8
  rw [hsz] at e8 t8
  refine wpAny_pure ⟨_,rfl,?_⟩
  show Q (.ref g5.objs.size) _
  rw [hsz]
  have f1:St1 (k1+1) g5:=wb D1 (wb D1 (wb D1 st2 b3 ao1) b4 a21) b5 ao1
  have f2:St2 (k2+1) g5:=wb D2 st4 b5 ao2
  refine hQ x y g8 _ px py e8 (up _ _ (Ne.symm n2') o5) (D1.frame _ _ _ f1 fun c hc o e=>up c o (fun q=>az1 (q ▸ hc)) e) (D2.frame _ _ _ f2 fun c hc o e=>up c o (fun q=>az2 (q ▸ hc)) e) t8 fun c o hc e=>?_
  simp only [List.mem_cons,List.not_mem_nil,or_false,not_or] at hc
  obtain ⟨c1,c2,c3,c4⟩:=hc
  exact up c o c1 ((b5.2 c c2).trans ((b4.2 c c4).trans ((b3.2 c c2).trans ((b2.2 c c3).trans ((b1.2 c c1).trans e)))))
theorem zbx {Q:Fin→Shared→Prop}(D1:Draws prog w A i1 fp1 n1 P1 St1)(az1:z∉fp1)(nz:i1≠z)
    (hz:IsZip s.heap z TI TO .none) (hTI:IsPair s.heap TI (.ref i1) (.ref i2)) (h1:St1 n1 s.heap)
    (hE:∀ h' e,(∀ c o,c≠z→c≠i1→s.heap.get? c=some o→h'.get? c=some o)→(∃ o,h'.get? e=some o∧o.cls=.type "StopIteration")→E (.ref e) { s with heap:=h' }) :
    wpAny (model prog w) A (Builtin.«zip.__next__» ⟨[.ref z],[]⟩) Q E s:=by
  show wpAny _ _ (field (.ref z) 2>>=_) _ _ _
  refine wpAny_bind (wpAny_field hz rfl (x:=.bool false) rfl ?_)
  show wpAny _ _ (field (.ref z) 3>>=_) _ _ _
  refine wpAny_bind (wpAny_field hz rfl (x:=.ref TI) rfl (wpAny_bind (wpAny_seqItems hTI rfl ?_)))
  show wpAny _ _ (Builtin.SmallTypes.ownedTupleIsFree (.ref z)>>=_) _ _ _
  refine wpAny_bind ?_
  unfold Builtin.SmallTypes.ownedTupleIsFree
  refine wpAny_bind (wpAny_field hz rfl (x:=.none) rfl (wpAny_pure ?_))
  simp only [if_true]
  refine wpAny_bind (wpAny_rule (wpAny_bind (wpAny_field hz rfl (x:=.ref TO) rfl (wpAny_bind (wpAny_setField_rec hz (by simp) fun g1 z1 b1=>?_)))))
  refine wpAny_bind ?_
  simp only [List.zipIdx_cons,List.zipIdx_nil,List.forIn_cons,List.forIn_nil]
  refine wpAny_bind (wpAny_bind (wpAny_onRaise ?_))
  show wpAny _ _ (Builtin.SmallTypes.nextOf (.ref i1)>>=_) _ _ _
  refine wpAny_bind (D1.done _ _ _ (wb D1 h1 b1 az1) fun g2 e b2 he=>?_)
  obtain ⟨oe,hoe,hce⟩:=he
  have z2:IsZip g2 z TI TO .ellipsis:=b2 _ _ (Ne.symm nz) z1
  have nez:e≠z:=fun q=>by subst q;rw [z2] at hoe;cases hoe;simp at hce
  exact wpAny_setField_rec z2 (by simp) fun g3 _ b3=>hE g3 e (fun c o c1 c2 q=>(b3.2 c c1).trans (b2 c o c2 ((b1.2 c c1).trans q))) ⟨oe,(b3.2 e nez).trans hoe,hce⟩
end
noncomputable def VM (b:Bool)(h:Heap)(it l:Addr)(k:Nat):Prop:=if b=true then h.IsListIter it l k else h.IsTupleIter it l k
noncomputable def zcH (b:Bool)(h:Heap)(l:Addr)(items:Array Value):Prop:=if b=true then h.IsList l items else h.IsTuple l items
theorem Ws {prog:Program}{w:World}{A:Around}(hh:A.handled=none)(b:Bool)(it l:Addr)(hne:l≠it)(items:Array Value) :
    Draws prog w A it [it,l] items.size (fun i v=>items[i]?=some v) (fun i h=>VM b h it l i∧zcH b h l items):=by
  cases b with
  | true=>exact Draws.list hh it l hne items
  | false=>exact YT hh it l hne items
noncomputable def zdo (b:Bool) (l:Addr):Obj:={ cls:=.type (if b=true then "list_iterator" else "tuple_iterator"),data:=.fields #[.ref l,.int 0 0] }
noncomputable abbrev zpA (h:Heap)(b1:Bool)(l1:Addr):Heap:=h.push (zdo b1 l1)
noncomputable abbrev zpB (h:Heap)(b1 b2:Bool)(l1 l2:Addr):Heap:=(zpA h b1 l1).push (zdo b2 l2)
noncomputable abbrev zpC (h:Heap) (b1 b2:Bool) (l1 l2:Addr):Heap:=(zpB h b1 b2 l1 l2).push (Obj.mk (.type "tuple") none (.seq #[.ref h.objs.size,.ref (zpA h b1 l1).objs.size]) #[])
noncomputable abbrev zpD (h:Heap) (b1 b2:Bool) (l1 l2:Addr):Heap:=(zpC h b1 b2 l1 l2).push (Obj.mk (.type "tuple") none (.seq #[.none,.none]) #[])
noncomputable abbrev zpE (h:Heap) (b1 b2:Bool) (l1 l2:Addr):Heap:=(zpD h b1 b2 l1 l2).push (Obj.mk (.type "zip") none (.fields #[.none,.bool false,.bool false,.ref (zpB h b1 b2 l1 l2).objs.size,.ref (zpC h b1 b2 l1 l2).objs.size]) #[])
theorem zaR (b1 b2:Bool)(l1 l2:Addr)(xs ys:Array Value) :
    Meets (Builtin.«zip.__new__» ⟨[.type "zip",.ref l1,.ref l2],[]⟩) (fun _ R s=>zcH b1 s.heap l1 xs∧zcH b2 s.heap l2 ys ∧
      R (.ok (.ret (.ref (zpD s.heap b1 b2 l1 l2).objs.size))) { s with heap:=zpE s.heap b1 b2 l1 l2 }) :=
  .of_wp fun prog w A R s h=>by
    obtain ⟨hp,g,d,tk,os⟩:=s;obtain ⟨hl1,hl2,h⟩:=h
    have hsub:=sub_zip
    cases b1 with
    | true =>
      have hL1:Heap.IsList (Shared.heap ⟨hp,g,d,tk,os⟩) l1 xs:=hl1
      cases b2 with
      | true =>
        have hL2:Heap.IsList (Shared.heap ⟨hp.push { cls:=.type "list_iterator",data:=.fields #[.ref l1,.int 0 0] },g,d,tk,os⟩) l2 ys:=Heap.IsList.push hl2 _
        wp_walk using wpAny_pyIter_list hL1,wpAny_pyIter_list hL2
        exact ⟨_,rfl,h⟩
      | false =>
        have hL2:Heap.IsTuple (Shared.heap ⟨hp.push { cls:=.type "list_iterator",data:=.fields #[.ref l1,.int 0 0] },g,d,tk,os⟩) l2 ys:=Heap.IsTuple.push hl2 _
        wp_walk using wpAny_pyIter_list hL1,wpAny_pyIter_tuple hL2
        exact ⟨_,rfl,h⟩
    | false =>
      have hL1:Heap.IsTuple (Shared.heap ⟨hp,g,d,tk,os⟩) l1 xs:=hl1
      cases b2 with
      | true =>
        have hL2:Heap.IsList (Shared.heap ⟨hp.push { cls:=.type "tuple_iterator",data:=.fields #[.ref l1,.int 0 0] },g,d,tk,os⟩) l2 ys:=Heap.IsList.push hl2 _
        wp_walk using wpAny_pyIter_tuple hL1,wpAny_pyIter_list hL2
        exact ⟨_,rfl,h⟩
      | false =>
        have hL2:Heap.IsTuple (Shared.heap ⟨hp.push { cls:=.type "tuple_iterator",data:=.fields #[.ref l1,.int 0 0] },g,d,tk,os⟩) l2 ys:=Heap.IsTuple.push hl2 _
        wp_walk using wpAny_pyIter_tuple hL1,wpAny_pyIter_tuple hL2
        exact ⟨_,rfl,h⟩
end PySem
namespace PySem
section
variable {prog:Program}{w:World}{A:Around}{E:Value→Shared→Prop}{s:Shared}
theorem zam {b1 b2:Bool}{l1 l2:Addr}{xs ys:Array Value}{Q:Value→Shared→Prop}(hl1:zcH b1 s.heap l1 xs)(hl2:zcH b2 s.heap l2 ys)
    (h:∀ h',IsZip h' (s.heap.objs.size+4) (s.heap.objs.size+2) (s.heap.objs.size+3) .none→IsPair h' (s.heap.objs.size+2) (.ref s.heap.objs.size) (.ref (s.heap.objs.size+1)) →
      IsPair h' (s.heap.objs.size+3) .none .none→VM b1 h' s.heap.objs.size l1 0→VM b2 h' (s.heap.objs.size+1) l2 0 →
      (∀ c o,s.heap.get? c=some o→h'.get? c=some o)→Q (.ref (s.heap.objs.size+4)) { s with heap:=h' }) :
    wpAny (model prog w) A (call (.type "zip") [.ref l1,.ref l2]) Q E s:=by
  refine callType_new F.called_zip (by decide) (F.typeCall_zip_2 _ _) (F.newCall_zip_2 _ _) (fun obj=>F.args_object_init_3 obj _ _) F.entry_zip_new
    (zaR b1 b2 l1 l2 xs ys) ⟨hl1,hl2,?_⟩
  have z1:(zpA s.heap b1 l1).objs.size=s.heap.objs.size+1:=Heap.size_push ..
  have z2:(zpB s.heap b1 b2 l1 l2).objs.size=s.heap.objs.size+2:=by rw [Heap.size_push,z1]
  have z3:(zpC s.heap b1 b2 l1 l2).objs.size=s.heap.objs.size+3:=by rw [Heap.size_push,z2]
  have z4:(zpD s.heap b1 b2 l1 l2).objs.size=s.heap.objs.size+4:=by rw [Heap.size_push,z3]
  have g5:(zpE s.heap b1 b2 l1 l2).get? (zpD s.heap b1 b2 l1 l2).objs.size=some _:=Heap.get?_push_size _ rfl
  have g4:(zpE s.heap b1 b2 l1 l2).get? (zpC s.heap b1 b2 l1 l2).objs.size=some _:=Heap.get?_push_of_some _ (Heap.get?_push_size _ rfl)
  have g3:(zpE s.heap b1 b2 l1 l2).get? (zpB s.heap b1 b2 l1 l2).objs.size=some _:=Heap.get?_push_of_some _ (Heap.get?_push_of_some _ (Heap.get?_push_size _ rfl))
  have g2:(zpE s.heap b1 b2 l1 l2).get? (zpA s.heap b1 l1).objs.size=some (zdo b2 l2):=Heap.get?_push_of_some _ (Heap.get?_push_of_some _ (Heap.get?_push_of_some _ (Heap.get?_push_size _ rfl)))
  have g1:(zpE s.heap b1 b2 l1 l2).get? s.heap.objs.size=some (zdo b1 l1):=Heap.get?_push_of_some _ (Heap.get?_push_of_some _ (Heap.get?_push_of_some _ (Heap.get?_push_of_some _ (Heap.get?_push_size _ rfl))))
  show _∧_
  rw [z2,z3,z4] at g5
  rw [z1,z2] at g3
  rw [z3] at g4
  rw [z1] at g2
  rw [z4]
  have it0:∀ {b:Bool} {l c:Addr},(zpE s.heap b1 b2 l1 l2).get? c=some (zdo b l)→VM b (zpE s.heap b1 b2 l1 l2) c l 0:=fun {b l c} e=>by
    cases b
    · exact ⟨_,e,rfl,rfl⟩
    · exact ⟨_,e,rfl,rfl⟩
  exact ⟨⟨_,g5,rfl⟩,h _ g5 g3 g4 (it0 g1) (it0 g2) fun c o x =>
    Heap.get?_push_of_some _ (Heap.get?_push_of_some _ (Heap.get?_push_of_some _ (Heap.get?_push_of_some _ (Heap.get?_push_of_some _ x))))⟩
variable {z TI TO i1 i2:Addr}{fp1 fp2:List Addr}{n1 n2 k1 k2:Nat}{P1 P2:Nat→Value→Prop}{St1 St2:Nat→Heap→Prop}{a b:Value}
theorem ZC {Q:Option Value→Shared→Prop}(D1:Draws prog w A.in1 i1 fp1 n1 P1 St1)(D2:Draws prog w A.in1 i2 fp2 n2 P2 St2)(ap:zfv z TI TO i1 i2 fp1 fp2)
    (hz:IsZip s.heap z TI TO .none) (hTI:IsPair s.heap TI (.ref i1) (.ref i2)) (hTO:IsPair s.heap TO a b) (h1:St1 k1 s.heap) (h2:St2 k2 s.heap) (l1:k1 < n1) (l2:k2 < n2)
    (hQ:∀ x y h' tk,P1 k1 x→P2 k2 y→IsZip h' z TI TO (rawInt s.heap.objs.size)→IsPair h' TO x y→St1 (k1+1) h'→St2 (k2+1) h'→IsPair h' s.heap.objs.size x y →
      (∀ c o,c∉[z,TO,i1,i2]→s.heap.get? c=some o→h'.get? c=some o)→Q (some (.ref s.heap.objs.size)) { s with heap:=h',toks:=tk }) :
    wpAny (model prog w) A (pyNext (.ref z)) Q E s:=by
  have hT:s.TypeIs (.ref z) "zip":=⟨_,hz,rfl⟩
  unfold pyNext
  exact wpAny_bind (wpAny_attempt (wpAny_callSpecial?_slot (name:=Str.ofString "__next__") hT F.slot_zip_next
    (wpAny_call_entry F.slot_zip_next hT F.entry_zip_next
      (zak D1 D2 ap hz hTI hTO h1 h2 l1 l2 fun x y h' tk a1 a2 a3 a4 a5 a6 a7 a8=>wpAny_pure (hQ x y h' tk a1 a2 a3 a4 a5 a6 a7 a8)) (F.args_zip_next_1 _))))
theorem Z3 {Q:Option Value→Shared→Prop}(D1:Draws prog w A.in1 i1 fp1 n1 P1 St1)(az1:z∉fp1)(nz:i1≠z)
    (hz:IsZip s.heap z TI TO .none) (hTI:IsPair s.heap TI (.ref i1) (.ref i2)) (h1:St1 n1 s.heap)
    (hQ:∀ h',(∀ c o,c≠z→c≠i1→s.heap.get? c=some o→h'.get? c=some o)→Q none { s with heap:=h' }):wpAny (model prog w) A (pyNext (.ref z)) Q E s:=by
  have hT:s.TypeIs (.ref z) "zip":=⟨_,hz,rfl⟩
  unfold pyNext
  refine wpAny_bind (wpAny_attempt (wpAny_callSpecial?_slot (name:=Str.ofString "__next__") hT F.slot_zip_next
    (wpAny_call_entry F.slot_zip_next hT F.entry_zip_next (zbx D1 az1 nz hz hTI h1 fun h' e hk he=>?_) (F.args_zip_next_1 _))))
  obtain ⟨o,ho,hc⟩:=he
  refine wpAny_bind (wpAny_isInstance (T:="StopIteration") (b:=true) ⟨o,ho,hc⟩ isSubtype_stop ?_)
  exact wpAny_pure (hQ _ hk)
end
end PySem
namespace L2
open PySem PySem.Spec PyProof.Rows
noncomputable def Sq (b:Bool)(K:PySem.W.Frag)(H:Hp)(a:Addr)(xs:List V):Prop:=if b=true then SqL K H a xs else SqT K H a xs
theorem Inv.sq {X:Cx}{pins:List (Addr × Obj)}{σ:St}{H:Hp}{s:Shared}{a:Addr}{xs:List V}{b:Bool}(I:Inv X pins σ H s)(h:Sq b X.K H a xs):∃ its:List Value,xj xs its∧zcH b s.heap a its.toArray∧a < s.heap.objs.size:=by
  cases b with
  | true =>
    obtain ⟨its,r,p,_⟩:=I.list (show SqL X.K H a xs from h)
    exact ⟨its,r,p.isList,by obtain ⟨o,n,ho,_⟩:=p;exact Heap.lt_size ho⟩
  | false =>
    obtain ⟨its,r,p,_⟩:=I.tuple (show SqT X.K H a xs from h)
    exact ⟨its,r,p,by obtain ⟨o,ho,_⟩:=p;exact Heap.lt_size ho⟩
theorem Inv.sq_inj {X:Cx}{pins:List (Addr × Obj)}{σ:St}{H:Hp}{s:Shared}{a:Addr}{xs ys:List V}{b:Bool}(I:Inv X pins σ H s)(h:Sq b X.K H a xs)(h':Sq b X.K H a ys):xs=ys:=by
  cases b with
  | true=>exact I.list_inj h h'
  | false=>exact I.tuple_inj h h'
noncomputable def Izp (K:PySem.W.Frag)(b1 b2:Bool)(l1 l2:Addr):It :=
  ⟨fun i H=>∃ xs ys x y,Sq b1 K H l1 xs∧Sq b2 K H l2 ys∧xs[i]?=some x∧ys[i]?=some y,
   fun i H v H'=>∃ T x y,v=.ref T∧H T=none∧H'=upd H T (.tup [x,y])∧(∀ xs,Sq b1 K H l1 xs→xs[i]?=some x)∧(∀ ys,Sq b2 K H l2 ys→ys[i]?=some y),
   fun i H=>∃ xs,Sq b1 K H l1 xs∧i=xs.length⟩
theorem Z4 {b:Bool}{h:Heap}{it l:Addr}{k:Nat}(x:VM b h it l k):∃ o,h.get? it=some o∧∀ v,o.data≠.cell v:=by
  cases b
  · obtain ⟨o,ho,_,hd⟩:=x
    exact ⟨o,ho,fun v z=>by rw [hd] at z;cases z⟩
  · obtain ⟨o,ho,_,hd⟩:=x
    exact ⟨o,ho,fun v z=>by rw [hd] at z;cases z⟩
theorem XT {b:Bool}{h h':Heap}{it l:Addr}{k:Nat}(x:VM b h it l k)(e:∀ o,h.get? it=some o→h'.get? it=some o):VM b h' it l k:=by
  cases b
  · obtain ⟨o,ho,r⟩:=x
    exact ⟨o,e o ho,r⟩
  · obtain ⟨o,ho,r⟩:=x
    exact ⟨o,e o ho,r⟩
theorem zfj {P:Program}{w:World}{K:PySem.W.Frag}{es:List Expr}{k:Nat}{tp:Pos}(b1 b2:Bool)(l1 l2 z TI TO i1 i2:Addr)(ap:zfv z TI TO i1 i2 [i1,l1] [i2,l2])(n1:l1≠i1)(n2:l2≠i2) :
    zgm P w K (.Tuple es k tp) (Izp K b1 b2 l1 l2) [z,TI,TO,i1,i2] z (fun i h=>IsZip h z TI TO .none∧IsPair h TI (.ref i1) (.ref i2)∧(∃ a b,IsPair h TO a b)∧VM b1 h i1 l1 i∧VM b2 h i2 l2 i) where
  mem:=by simp
  obj:=fun i h st b hb=>by
    obtain ⟨hz,hTI,⟨a,c,hTO⟩,h1,h2⟩:=st
    simp only [List.mem_cons,List.not_mem_nil,or_false] at hb
    rcases hb with rfl | rfl | rfl | rfl | rfl
    · exact ⟨_,hz,fun v z=>by cases z⟩
    · exact ⟨_,hTI,fun v z=>by cases z⟩
    · exact ⟨_,hTO,fun v z=>by cases z⟩
    · exact Z4 h1
    · exact Z4 h2
  keep:=fun i h h' st kk=>by
    obtain ⟨hz,hTI,⟨a,c,hTO⟩,h1,h2⟩:=st
    exact ⟨kk z (by simp) _ hz,kk TI (by simp) _ hTI,⟨a,c,kk TO (by simp) _ hTO⟩,XT h1 fun o q=>kk i1 (by simp) o q,XT h2 fun o q=>kk i2 (by simp) o q⟩
  item:=by
    intro X hP hw hK hc i pins s σ H E I hf st hg
    subst hP hw hK
    obtain ⟨hz,hTI,⟨a,c,hTO⟩,h1,h2⟩:=st
    obtain ⟨xs,ys,x,y,hq1,hq2,hx,hy⟩:=hg
    obtain ⟨its,rv,p,_⟩:=I.sq hq1
    obtain ⟨its2,rv2,p2,_⟩:=I.sq hq2
    obtain ⟨u,hu,ru⟩:=rv.get hx
    obtain ⟨u2,hu2,ru2⟩:=rv2.get hy
    have hl1:i < its.toArray.size:=by simpa using (List.getElem?_eq_some_iff.mp hu).1
    have hl2:i < its2.toArray.size:=by simpa using (List.getElem?_eq_some_iff.mp hu2).1
    have hh:X.A.in1.handled=none:=I.ok.hd hc
    refine ZC (Ws hh b1 i1 l1 n1 its.toArray) (Ws hh b2 i2 l2 n2 its2.toArray) ap hz hTI hTO ⟨h1,p⟩ ⟨h2,p2⟩ hl1 hl2 fun v1 v2 h' tk e1 e2 hz' hTO' s1 s2 hT' hk=>?_
    have eu:v1=u:=by
      have:its[i]?=some v1:=by simpa using e1
      rw [hu] at this
      exact (Option.some.inj this).symm
    have eu2:v2=u2:=by
      have:its2[i]?=some v2:=by simpa using e2
      rw [hu2] at this
      exact (Option.some.inj this).symm
    subst eu eu2
    obtain ⟨nd,az1,az2,ao1,ao2,a12,a21⟩:=ap
    simp only [List.nodup_cons,List.mem_cons,List.not_mem_nil,or_false,not_or,not_false_eq_true,List.nodup_nil,and_true] at nd
    obtain ⟨⟨m1,m2,m3,m4⟩,⟨m5,m6,m7⟩,⟨m8,m9⟩,m10⟩:=nd
    refine ⟨_,rfl,wpAny_letOwnedTupleGo_zip hz' fun h2' hz2 hs2=>?_⟩
    have hfr:H s.heap.objs.size=none:=I.hok.fresh (Nat.le_refl _)
    have neZ:s.heap.objs.size≠z:=Nat.ne_of_gt (Heap.lt_size hz)
    have hT2:IsPair h2' s.heap.objs.size v1 v2:=(hs2.2 _ neZ).trans hT'
    have hTI':IsPair h' TI (.ref i1) (.ref i2):=hk TI _ (by simp [Ne.symm m1,m5,m6,m7]) hTI
    have lt:∀ b∈[z,TI,TO,i1,i2],b < s.heap.objs.size:=fun b hb=>by
      simp only [List.mem_cons,List.not_mem_nil,or_false] at hb
      rcases hb with rfl | rfl | rfl | rfl | rfl
      · exact Heap.lt_size hz
      · exact Heap.lt_size hTI
      · exact Heap.lt_size hTO
      · obtain ⟨o,ho,_⟩:=Z4 h1;exact Heap.lt_size ho
      · obtain ⟨o,ho,_⟩:=Z4 h2;exact Heap.lt_size ho
    refine ⟨.ref s.heap.objs.size,upd H s.heap.objs.size (.tup [x,y]),?_,rfl,⟨_,x,y,rfl,hfr,rfl,fun zs hz=>by rw [I.sq_inj hz hq1];exact hx,fun zs hz=>by rw [I.sq_inj hz hq2];exact hy⟩,
      ⟨hz2,(hs2.2 TI (Ne.symm m1)).trans hTI',⟨_,_,(hs2.2 TO (Ne.symm m2)).trans hTO'⟩,XT s1.1 fun o q=>(hs2.2 i1 (Ne.symm m3)).trans q,XT s2.1 fun o q=>(hs2.2 i2 (Ne.symm m4)).trans q⟩,fun b hb=>?_⟩
    · refine I.grown (ch:=[z,TI,TO,i1,i2]) hf (Nat.le_refl _) (fun b v hb q=>?_) ?_
      · have nb:b≠z:=fun w=>hb (by simp [w])
        refine (hs2.2 b nb).trans (hk b v (fun w=>hb ?_) q)
        simp only [List.mem_cons,List.not_mem_nil,or_false] at w ⊢
        rcases w with w | w | w | w
        · exact .inl w
        · exact .inr (.inr (.inl w))
        · exact .inr (.inr (.inr (.inl w)))
        · exact .inr (.inr (.inr (.inr w)))
      · exact ⟨by show 2≤sizeLine;decide,[v1,v2],.cons ru (.cons ru2 .nil),⟨_,hT2,rfl,0,rfl⟩⟩
    · rw [zm (Nat.ne_of_lt (lt b hb))]
      exact (hf b hb).1
  done:=by
    intro X hP hw hK hc i pins s σ H E I hf st hg
    subst hP hw hK
    obtain ⟨hz,hTI,⟨a,c,hTO⟩,h1,h2⟩:=st
    obtain ⟨xs,hq,rfl⟩:=hg
    obtain ⟨its,rv,p,_⟩:=I.sq hq
    have hl:=rv.length
    have hh:X.A.in1.handled=none:=I.ok.hd hc
    have D:=Ws (prog:=X.prog) (w:=X.w) hh b1 i1 l1 n1 its.toArray
    refine Z3 D ap.z1 ?_ hz hTI ⟨by rw [List.size_toArray,← hl];exact h1,p⟩ fun h' hk=>⟨rfl,I.turnedN (ch:=[z,TI,TO,i1,i2]) (t':=s.toks) hf fun b v hb q=>hk b v (fun w=>hb (by simp [w])) (fun w=>hb (by simp [w])) q⟩
    have nd:=ap.nd
    simp only [List.nodup_cons,List.mem_cons,List.not_mem_nil,or_false,not_or,not_false_eq_true,List.nodup_nil,and_true] at nd
    exact Ne.symm nd.1.2.2.1
  self:=fun _ _ _ _ _ st h=>wpAny_pyIter_zip st.1 h
noncomputable def iZip (K:PySem.W.Frag)(ta:TA):TI:=fun σ H R=>ta σ H fun vs H1=>∃ b1 b2 l1 l2 xs ys,vs=[.ref l1,.ref l2]∧Sq b1 K H1 l1 xs∧Sq b2 K H1 l2 ys∧R (Izp K b1 b2 l1 l2) H1
theorem zjS {X:Cx} {es:List Expr} {k:Nat} {tp:Pos} {a b:Expr} {ta:TA} {p pos:Pos} (hg:Gl X "zip") (hm:X.mg "zip"=none) (hb:bootBuiltins "zip"=some (.type "zip")) (ha:PA X [a,b] ta)
    (hs:starEach [a,b] X.env=[(false,eval a X.env),(false,eval b X.env)]:=by rfl) (hs2:starEach [b] X.env=[(false,eval b X.env)]:=by rfl):PI X (.Tuple es k tp) (.Call (.Name "zip" p) [a,b] [] pos) (iZip X.K ta):=by
  intro pins s σ H R I h
  refine Call_ (Wa I hg hm hb (PyProof.Rows.callWith_type1 (thn (ha pos pins s σ H _ I h) fun us s1 hh9=>?_) (by rw [hs,hs2]) (by rw [hs2];rfl)))
  obtain ⟨vs,H1,I1,r1,q1⟩:=hh9
  obtain ⟨b1,b2,l1,l2,xs,ys,e,hq1,hq2,q⟩:=q1
  subst e
  obtain ⟨u,u2,rfl,ru,ru2⟩:=zfE r1
  cases ru
  cases ru2
  obtain ⟨its,rv,p1,lt1⟩:=I1.sq hq1
  obtain ⟨its2,rv2,p2,lt2⟩:=I1.sq hq2
  refine zam p1 p2 fun h2 hz hTI hTO hi1 hi2 hk=>wpAny_pyIter_zip hz ?_
  have hn:∀ b,s1.heap.objs.size≤b→zaJ X pins H1 b:=fun b hb=>I1.fpOk hb (I1.hok.fresh hb)
  have ap:zfv (s1.heap.objs.size+4) (s1.heap.objs.size+2) (s1.heap.objs.size+3) s1.heap.objs.size (s1.heap.objs.size+1) [s1.heap.objs.size,l1] [s1.heap.objs.size+1,l2]:=by
    have q1:l1≠s1.heap.objs.size:=Nat.ne_of_lt lt1
    have q2:∀ j:Nat,s1.heap.objs.size+j≠l1:=fun j e=>Nat.lt_irrefl _ (Nat.lt_of_lt_of_le (by rw [←e] at lt1;exact lt1) (Nat.le_add_right _ _))
    have q3:∀ j:Nat,s1.heap.objs.size+j≠l2:=fun j e=>Nat.lt_irrefl _ (Nat.lt_of_lt_of_le (by rw [←e] at lt2;exact lt2) (Nat.le_add_right _ _))
    have ne:∀ i j:Nat,i≠j→s1.heap.objs.size+i≠s1.heap.objs.size+j:=fun i j h e=>h (Nat.add_left_cancel e)
    have n0:∀ i:Nat,i≠0→s1.heap.objs.size+i≠s1.heap.objs.size:=fun i h e=>h (Nat.add_left_cancel (n:=s1.heap.objs.size) (m:=i) (k:=0) e)
    refine ⟨?_,?_,?_,?_,?_,?_,?_⟩
    · simp only [List.nodup_cons,List.mem_cons,List.not_mem_nil,or_false,not_or,not_false_eq_true,List.nodup_nil,and_true]
      exact ⟨⟨ne 4 2 (by decide),ne 4 3 (by decide),n0 4 (by decide),ne 4 1 (by decide)⟩,⟨ne 2 3 (by decide),n0 2 (by decide),ne 2 1 (by decide)⟩,⟨n0 3 (by decide),ne 3 1 (by decide)⟩,Ne.symm (n0 1 (by decide))⟩
    · simp only [List.mem_cons,List.not_mem_nil,or_false,not_or];exact ⟨n0 4 (by decide),q2 4⟩
    · simp only [List.mem_cons,List.not_mem_nil,or_false,not_or];exact ⟨ne 4 1 (by decide),q3 4⟩
    · simp only [List.mem_cons,List.not_mem_nil,or_false,not_or];exact ⟨n0 3 (by decide),q2 3⟩
    · simp only [List.mem_cons,List.not_mem_nil,or_false,not_or];exact ⟨ne 3 1 (by decide),q3 3⟩
    · simp only [List.mem_cons,List.not_mem_nil,or_false,not_or];exact ⟨Ne.symm (n0 1 (by decide)),q3 0⟩
    · simp only [List.mem_cons,List.not_mem_nil,or_false,not_or];exact ⟨n0 1 (by decide),q2 1⟩
  refine ⟨_,_,_,_,H1,rfl,I1.kept (t':=s1.toks) hk,zfj b1 b2 l1 l2 _ _ _ _ _ ap (Nat.ne_of_lt lt1) (Nat.ne_of_lt (Nat.lt_succ_of_lt lt2)),⟨hz,hTI,⟨_,_,hTO⟩,hi1,hi2⟩,fun b hb=>?_,q⟩
  simp only [List.mem_cons,List.not_mem_nil,or_false] at hb
  rcases hb with rfl | rfl | rfl | rfl | rfl
  · exact hn _ (Nat.le_add_right _ _)
  · exact hn _ (Nat.le_add_right _ _)
  · exact hn _ (Nat.le_add_right _ _)
  · exact hn _ (Nat.le_refl _)
  · exact hn _ (Nat.le_add_right _ _)
end L2
namespace OwnSort
open PySem PyProof.Rows
section pure
variable {κ:KeyKind}{xs:Array Keyed}
theorem turned {n:Nat}(hn:n≤xs.size)(h:NonIncK κ xs n):SortedToK κ (mirror xs 0 n ((n - 0) / 2)) n:=fun i j hij hj=>by
  rw [KK_mirror hn,KK_mirror hn,if_pos ⟨by omega,by omega⟩,if_pos ⟨by omega,by omega⟩]
  exact h _ _ (by omega) (by omega)
end pure
section
variable {prog:Program}{w:World}{A:Around}{E:Value→Shared→Prop}{s:Shared}{a₀:Array Keyed}{κ:KeyKind}{k:SortKind}{st:SortSt}
end
end OwnSort
namespace OwnSort
open PySem PyProof.Rows
noncomputable abbrev Pr:=Int × Int
noncomputable def zit (s t:Pr):Bool:=decide (s.1 < t.1∨(s.1=t.1∧s.2 < t.2))
noncomputable def TP (h:Heap) (v:Value) (t:Pr):Prop:=∃ a o n tx ty,v=.ref a∧h.get? a=some o∧o.cls=.type "tuple"∧o.data=.seq #[.int t.1 tx,.int t.2 ty] n
theorem TP.uniq {h:Heap}{v:Value}{s t:Pr}(x:TP h v s)(y:TP h v t):s=t:=by
  obtain ⟨a,o,n,tx,ty,rfl,e1,_,d1⟩:=x
  obtain ⟨b,o2,n2,ux,uy,e,e2,_,d2⟩:=y
  cases e
  rw [e1] at e2
  cases e2
  rw [d1] at d2
  injection d2 with d2 _
  have:=congrArg Array.toList d2
  simp at this
  exact Prod.ext this.1.1 this.2.1
open Classical in
noncomputable def keyP (h:Heap)(v:Value):Option Pr:=if x:∃ t,TP h v t then some x.choose else none
@[reducible] noncomputable def kindP (h:Heap):KeyKind where
  α:=Pr
  blt:=zit
  irrefl a:=by unfold zit;exact decide_eq_false (by omega)
  trans a b c h1 h2:=by unfold zit at *;rw [decide_eq_true_eq] at *;omega
  negTrans a b c h:=by unfold zit at *;rw [decide_eq_true_eq] at *;rw [decide_eq_true_eq];omega
  total a b h1 h2:=by
    unfold zit at *
    rw [decide_eq_false_iff_not] at *
    exact Prod.ext (by omega) (by omega)
  keyOf:=keyP h
  dflt:=(0,0)
section
variable {prog:Program}{w:World}{A:Around}{E:Value→Shared→Prop}{s:Shared}
end
end OwnSort
namespace OwnSort
open PySem PyProof.Rows
section
variable {prog:Program}{w:World}{A:Around}{E:Value→Shared→Prop}{s:Shared}
end
end OwnSort
namespace Dl
open PySem L2
class KK where
  K:PySem.W.Frag
inductive D where
  | non | bl (b:Bool) | int (i:Int) | str (x:Str) | tup (ds:List D) | lst (ds:List D) | scr (ns:List Int)
    | dct (z t:Bool) (ks:List (List Key)) (vs:List D)
  deriving Inhabited
section
variable [KK]
noncomputable def zal (o:HO)(t:Bool)(ks:List (List Key))(xs:List V):Prop :=
  if t=true then ∃ kvs,o=.dT kvs∧kvs.map (·.1)=ks∧kvs.map (·.2)=xs else ∃ kvs:List (Key × V),o=.dK kvs∧kvs.map (fun p=>[p.1])=ks∧kvs.map (·.2)=xs
noncomputable def zag (H:Hp)(a:Addr)(z t:Bool)(ks:List (List Key))(xs:List V):Prop :=
  ∃ u,zal u t ks xs∧if z=true then ∃ ob,H a=some (.frz ob u) else H a=some u
theorem zag.mono {H H':Hp}{a:Addr}{z t:Bool}{ks:List (List Key)}{xs:List V}(s:yJ H H')(h:zag H a z t ks xs):zag H' a z t ks xs:=by
  obtain ⟨u,h1,h2⟩:=h
  refine ⟨u,h1,?_⟩
  cases z with
  | true =>
    rw [if_pos rfl] at h2 ⊢
    obtain ⟨ob,h2⟩:=h2
    exact ⟨ob,s _ _ h2⟩
  | false =>
    rw [if_neg Bool.false_ne_true] at h2 ⊢
    exact s _ _ h2
theorem zag.rd {H:Hp}{a:Addr}{z t:Bool}{ks:List (List Key)}{xs:List V}(h:zag H a z t ks xs):∃ u,zal u t ks xs∧Rd H a u:=by
  obtain ⟨u,h1,h2⟩:=h
  refine ⟨u,h1,?_⟩
  cases z with
  | true =>
    rw [if_pos rfl] at h2
    obtain ⟨ob,h2⟩:=h2
    exact .inr ⟨ob,h2⟩
  | false =>
    rw [if_neg Bool.false_ne_true] at h2
    exact .inl h2
mutual
noncomputable def At (H:Hp):D→V→Prop
  | .non,v=>v=.non
  | .bl b,v=>v=.bl b
  | .int i,v=>v=.int i
  | .str x,v=>v=.str x
  | .tup ds,v=>∃ a xs,v=.ref a∧H a=some (.tup xs)∧AtL H ds xs
  | .lst ds,v=>∃ a xs,v=.ref a∧H a=some (.lst xs)∧AtL H ds xs
  | .scr ns,v=>∃ a,v=.ref a∧SqL KK.K H a (ns.map V.int)
  | .dct z t ks vs,v=>∃ a xs,v=.ref a∧zag H a z t ks xs∧AtL H vs xs
noncomputable def AtL (H:Hp):List D→List V→Prop
  | [],xs=>xs=[]
  | d::ds,xs=>∃ x r,xs=x::r∧At H d x∧AtL H ds r
end
mutual
theorem At.mono {H H':Hp}(s:yJ H H'):∀ {d:D} {v:V},At H d v→At H' d v
  | .non,_,h=>by unfold At at h ⊢;exact h
  | .bl _,_,h=>by unfold At at h ⊢;exact h
  | .int _,_,h=>by unfold At at h ⊢;exact h
  | .str _,_,h=>by unfold At at h ⊢;exact h
  | .tup ds,_,h=>by
    unfold At at h ⊢
    obtain ⟨a,xs,e,hx,hl⟩:=h
    exact ⟨a,xs,e,s _ _ hx,AtL.mono s hl⟩
  | .lst ds,_,h=>by
    unfold At at h ⊢
    obtain ⟨a,xs,e,hx,hl⟩:=h
    exact ⟨a,xs,e,s _ _ hx,AtL.mono s hl⟩
  | .scr ns,_,h=>by
    unfold At at h ⊢
    obtain ⟨a,e,hx⟩:=h
    exact ⟨a,e,s.seq hx⟩
  | .dct z t ks vs,_,h=>by
    unfold At at h ⊢
    obtain ⟨a,xs,e,hx,hl⟩:=h
    exact ⟨a,xs,e,hx.mono s,AtL.mono s hl⟩
theorem AtL.mono {H H':Hp}(s:yJ H H'):∀ {ds:List D} {xs:List V},AtL H ds xs→AtL H' ds xs
  | [],_,h=>by unfold AtL at h ⊢;exact h
  | d::ds,_,h=>by
    unfold AtL at h ⊢
    obtain ⟨x,r,e,h1,h2⟩:=h
    exact ⟨x,r,e,At.mono s h1,AtL.mono s h2⟩
end
mutual
noncomputable def noL:D→Bool
  | .tup ds=>zkg ds
  | .lst _=>false
  | .scr _=>false
  | .dct _ _ _ _=>false
  | _=>true
noncomputable def zkg:List D→Bool
  | []=>true
  | d::ds=>noL d&&zkg ds
end
mutual
theorem At.flat {G F:Hp}(h:∀ q xs,G q=some (.tup xs)→F q=some (.tup xs)):∀ {d:D} {v:V},noL d=true→At G d v→At F d v
  | .non,_,_,a=>by unfold At at a ⊢;exact a
  | .bl _,_,_,a=>by unfold At at a ⊢;exact a
  | .int _,_,_,a=>by unfold At at a ⊢;exact a
  | .str _,_,_,a=>by unfold At at a ⊢;exact a
  | .tup ds,_,n,a=>by
    unfold At at a ⊢
    unfold noL at n
    obtain ⟨p,xs,e,hx,hl⟩:=a
    exact ⟨p,xs,e,h _ _ hx,AtL.flat h n hl⟩
  | .lst ds,_,n,_=>by unfold noL at n;cases n
  | .scr ds,_,n,_=>by unfold noL at n;cases n
  | .dct _ _ _ _,_,n,_=>by unfold noL at n;cases n
theorem AtL.flat {G F:Hp}(h:∀ q xs,G q=some (.tup xs)→F q=some (.tup xs)):∀ {ds:List D} {xs:List V},zkg ds=true→AtL G ds xs→AtL F ds xs
  | [],_,_,a=>by unfold AtL at a ⊢;exact a
  | d::ds,_,n,a=>by
    unfold AtL at a ⊢
    unfold zkg at n
    rw [Bool.and_eq_true] at n
    obtain ⟨x,r,e,h1,h2⟩:=a
    exact ⟨x,r,e,At.flat h n.1 h1,AtL.flat h n.2 h2⟩
end
section
variable {H H':Hp}{d:D}{ds es:List D}{v x:V}{xs ys:List V}
theorem At.int {i:Int}:At H (.int i) (.int i):=by unfold At;rfl
theorem At.bl {b:Bool}:At H (.bl b) (.bl b):=by unfold At;rfl
theorem At.non:At H .non .non:=by unfold At;rfl
theorem At.str {y:Str}:At H (.str y) (.str y):=by unfold At;rfl
theorem At.tup {a:Addr}(h:H a=some (.tup xs))(hl:AtL H ds xs):At H (.tup ds) (.ref a):=by unfold At;exact ⟨a,xs,rfl,h,hl⟩
theorem At.lst {a:Addr}(h:H a=some (.lst xs))(hl:AtL H ds xs):At H (.lst ds) (.ref a):=by unfold At;exact ⟨a,xs,rfl,h,hl⟩
theorem AtL.nil:AtL H [] []:=by unfold AtL;rfl
theorem AtL.cons (h:At H d x)(hl:AtL H ds xs):AtL H (d::ds) (x::xs):=by unfold AtL;exact ⟨x,xs,rfl,h,hl⟩
theorem At.int_inv {i:Int}(h:At H (.int i) v):v=.int i:=by unfold At at h;exact h
theorem At.bl_inv {b:Bool}(h:At H (.bl b) v):v=.bl b:=by unfold At at h;exact h
theorem At.non_inv (h:At H .non v):v=.non:=by unfold At at h;exact h
theorem At.str_inv {y:Str}(h:At H (.str y) v):v=.str y:=by unfold At at h;exact h
theorem At.tup_inv (h:At H (.tup ds) v):∃ a xs,v=.ref a∧H a=some (.tup xs)∧AtL H ds xs:=by unfold At at h;exact h
theorem At.lst_inv (h:At H (.lst ds) v):∃ a xs,v=.ref a∧H a=some (.lst xs)∧AtL H ds xs:=by unfold At at h;exact h
theorem At.scr_inv {ns:List Int}(h:At H (.scr ns) v):∃ a,v=.ref a∧SqL KK.K H a (ns.map V.int):=by unfold At at h;exact h
theorem At.dct_inv {z t:Bool}{ks:List (List Key)}{vs:List D}(h:At H (.dct z t ks vs) v):∃ a xs,v=.ref a∧zag H a z t ks xs∧AtL H vs xs:=by unfold At at h;exact h
theorem AtL.nil_inv (h:AtL H [] xs):xs=[]:=by unfold AtL at h;exact h
theorem AtL.cons_inv (h:AtL H (d::ds) xs):∃ x r,xs=x::r∧At H d x∧AtL H ds r:=by unfold AtL at h;exact h
theorem AtL.length:∀ {ds:List D} {xs:List V},AtL H ds xs→xs.length=ds.length
  | [],_,h=>by rw [h.nil_inv];rfl
  | _::_,_,h=>by
    obtain ⟨x,r,rfl,_,h2⟩:=h.cons_inv
    rw [List.length_cons,List.length_cons,AtL.length h2]
theorem AtL.get:∀ {ds:List D} {xs:List V} {i:Nat} {d:D},AtL H ds xs→ds[i]?=some d→∃ x,xs[i]?=some x∧At H d x
  | [],_,_,_,_,e=>by simp at e
  | _::_,_,i,_,h,e=>by
    obtain ⟨x,r,rfl,h1,h2⟩:=h.cons_inv
    cases i with
    | zero =>
      simp at e
      subst e
      exact ⟨x,rfl,h1⟩
    | succ i =>
      obtain ⟨y,hy,ha⟩:=AtL.get (i:=i) h2 (by simpa using e)
      exact ⟨y,by simpa using hy,ha⟩
theorem AtL.append:∀ {ds es:List D} {xs ys:List V},AtL H ds xs→AtL H es ys→AtL H (ds++es) (xs++ys)
  | [],_,_,_,h,k=>by rw [h.nil_inv];exact k
  | _::_,_,_,_,h,k=>by
    obtain ⟨x,r,rfl,h1,h2⟩:=h.cons_inv
    exact .cons h1 (AtL.append h2 k)
theorem AtL.snoc (h:AtL H ds xs)(k:At H d v):AtL H (ds++[d]) (xs++[v]):=h.append (.cons k .nil)
theorem AtL.take:∀ (n:Nat) {ds:List D} {xs:List V},AtL H ds xs→AtL H (ds.take n) (xs.take n)
  | 0,_,_,_=>by simpa using AtL.nil
  | n+1,[],_,h=>by rw [h.nil_inv];simpa using AtL.nil
  | n+1,_::_,_,h=>by
    obtain ⟨x,r,rfl,h1,h2⟩:=h.cons_inv
    rw [List.take_succ_cons,List.take_succ_cons]
    exact .cons h1 (AtL.take n h2)
theorem AtL.drop:∀ (n:Nat) {ds:List D} {xs:List V},AtL H ds xs→AtL H (ds.drop n) (xs.drop n)
  | 0,_,_,h=>h
  | n+1,[],_,h=>by rw [h.nil_inv];simpa using AtL.nil
  | n+1,_::_,_,h=>by
    obtain ⟨x,r,rfl,h1,h2⟩:=h.cons_inv
    rw [List.drop_succ_cons,List.drop_succ_cons]
    exact AtL.drop n h2
theorem AtL.set:∀ (n:Nat) {ds:List D} {xs:List V},AtL H ds xs→At H d v→AtL H (ds.set n d) (xs.set n v)
  | _,[],_,h,_=>by rw [h.nil_inv];simpa using AtL.nil
  | 0,_::_,_,h,k=>by
    obtain ⟨x,r,rfl,h1,h2⟩:=h.cons_inv
    exact .cons k h2
  | n+1,_::_,_,h,k=>by
    obtain ⟨x,r,rfl,h1,h2⟩:=h.cons_inv
    exact .cons h1 (AtL.set n h2 k)
theorem AtL.rep (h:AtL H ds xs):∀ k:Nat,AtL H (List.replicate k ds).flatten (List.replicate k xs).flatten
  | 0=>.nil
  | k+1=>by
    rw [List.replicate_succ,List.replicate_succ,List.flatten_cons,List.flatten_cons]
    exact h.append (AtL.rep h k)
theorem AtL.ints (ns:List Int):AtL H (ns.map D.int) (ns.map V.int):=by
  induction ns with
  | nil=>exact .nil
  | cons n r ih=>exact .cons .int ih
theorem AtL.of_ints:∀ {ns:List Int} {xs:List V},AtL H (ns.map D.int) xs→xs=ns.map V.int
  | [],_,h=>h.nil_inv
  | n::r,_,h=>by
    obtain ⟨x,r',rfl,h1,h2⟩:=AtL.cons_inv (by simpa using h)
    rw [h1.int_inv,AtL.of_ints h2]
    rfl
end
noncomputable def tyN:D→String
  | .non=>"NoneType" | .bl _=>"bool" | .int _=>"int" | .str _=>"str" | .tup _=>"tuple" | .lst _=>"list" | .scr _=>"list" | .dct _ _ _ _=>"dict"
noncomputable def Hid (F':Hp)(p:Addr)(o:HO):Prop:=F' p=none∨((∃ xs,o=.tup xs)∧F' p=some o)
noncomputable def Keep (F H F' H':Hp):Prop:=∀ p o,F p=none→H p=some o→Hid F' p o∧H' p=some o
set_option genInjectivity false in
set_option genSizeOf false in
set_option genCtorIdx false in
structure Gr (F H F' H':Hp):Prop where
  ff:yJ F F'
  fh:yJ F' H'
  kp:Keep F H F' H'
theorem Gr.refl {F H:Hp}(s:yJ F H):Gr F H F H:=⟨yJ.refl _,s,fun _ _ a b=>⟨.inl a,b⟩⟩
theorem Gr.trans {F H F1 H1 F2 H2:Hp}(a:Gr F H F1 H1)(b:Gr F1 H1 F2 H2):Gr F H F2 H2 :=
  ⟨a.ff.trans b.ff,b.fh,fun p o e1 e2=>by
    obtain ⟨x,y⟩:=a.kp p o e1 e2
    rcases x with x | ⟨x1,x2⟩
    · exact b.kp p o x y
    · exact ⟨.inr ⟨x1,b.ff _ _ x2⟩,b.fh _ _ (b.ff _ _ x2)⟩⟩
theorem Gr.kl {F H F' H':Hp}{p:Addr}{o:HO}(g:Gr F H F' H')(n:∀ xs,o≠.tup xs)(e1:F p=none)(e2:H p=some o):F' p=none∧H' p=some o:=by
  obtain ⟨x,y⟩:=g.kp p o e1 e2
  rcases x with x | ⟨⟨xs,x1⟩,_⟩
  · exact ⟨x,y⟩
  · exact absurd x1 (n xs)
theorem Gr.alloc {F H:Hp}{p:Addr}(s:yJ F H)(h:H p=none)(o:HO):Gr F H (upd F p o) (upd H p o):=by
  have hF:F p=none:=s.free h
  refine ⟨fun b u q=>?_,fun b u q=>?_,fun b u q r=>?_⟩
  · rw [zm (zk q hF)];exact q
  · by_cases e:b=p
    · subst e;rw [zn] at q ⊢;exact q
    · rw [zm e] at q ⊢;exact s b u q
  · have e:b≠p:=zk r h
    rw [zm e];exact ⟨.inl (by rw [zm e];exact q),r⟩
theorem Gr.hide {F H:Hp}{p:Addr}(s:yJ F H)(h:H p=none)(o:HO):Gr F H F (upd H p o):=by
  refine ⟨yJ.refl _,fun b u q=>?_,fun b u q r=>?_⟩
  · rw [zm (zk (s b u q) h)];exact s b u q
  · have e:b≠p:=zk r h
    rw [zm e];exact ⟨.inl q,r⟩
theorem Gr.show {F H:Hp}{p:Addr}{o:HO}{F0 H0:Hp}(g:Gr F0 H0 F H)(h0:H0 p=none)(hF:F p=none)(h:H p=some o):Gr F0 H0 (upd F p o) H:=by
  refine ⟨fun b u q=>?_,fun b u q=>?_,fun b u q r=>?_⟩
  · have:=g.ff b u q
    rw [zm (zk this hF)];exact this
  · by_cases e:b=p
    · subst e;rw [zn] at q;rw [←q];exact h
    · rw [zm e] at q;exact g.fh b u q
  · have e:b≠p:=zk r h0
    obtain ⟨x,y⟩:=g.kp b u q r
    refine ⟨?_,y⟩
    unfold Hid
    rw [zm e]
    exact x
noncomputable abbrev Ev:=List (Option D)
noncomputable def VAt (F:Hp)(ρ:Ev)(σ:St):Prop:=∀ (i:Nat) (d:D),ρ[i]?=some (some d)→∃ v,σ[i]?=some (some v)∧At F d v
theorem VAt.mono {F F':Hp}{ρ:Ev}{σ:St}(h:VAt F ρ σ)(s:yJ F F'):VAt F' ρ σ:=fun i d e=>let ⟨v,e1,a⟩:=h i d e;⟨v,e1,a.mono s⟩
noncomputable def RE (t:TE)(f:Ev→Option D):Prop :=
  ∀ (σ:St) (ρ:Ev) (F H:Hp) (d:D) (Q:VK),yJ F H→VAt F ρ σ→f ρ=some d→(∀ F' H' v,Gr F H F' H'→At F' d v→Q v H')→t σ H Q
noncomputable def RT (t:TT)(f:Ev→Option Bool):Prop :=
  ∀ (σ:St) (ρ:Ev) (F H:Hp) (b:Bool) (Q:Bool→Hp→Prop),yJ F H→VAt F ρ σ→f ρ=some b→(∀ F' H',Gr F H F' H'→Q b H')→t σ H Q
noncomputable def RA (t:TA)(f:Ev→Option (List D)):Prop :=
  ∀ (σ:St) (ρ:Ev) (F H:Hp) (ds:List D) (Q:List V→Hp→Prop),yJ F H→VAt F ρ σ→f ρ=some ds→(∀ F' H' vs,Gr F H F' H'→AtL F' ds vs→Q vs H')→t σ H Q
noncomputable def RF (t:TE)(f:Ev→Option (List D)):Prop :=
  ∀ (σ:St) (ρ:Ev) (F H:Hp) (ds:List D) (Q:VK),yJ F H→VAt F ρ σ→f ρ=some ds→(∀ F' H' p xs,Gr F H F' H'→H p=none→F' p=none→H' p=some (.lst xs)→AtL F' ds xs→Q (.ref p) H')→t σ H Q
noncomputable def ED (X:Cx)(e:Expr)(f:Ev→Option D):Prop:=∃ t,PE X e t∧RE t f
noncomputable def TD (X:Cx)(e:Expr)(f:Ev→Option Bool):Prop:=∃ t,PT X e t∧RT t f
noncomputable def WD (X:Cx)(e:Expr)(f:Ev→Option Bool):Prop:=∃ t,PW X e t∧RT t f
noncomputable def AD (X:Cx)(es:List Expr)(f:Ev→Option (List D)):Prop:=∃ t,PA X es t∧RA t f
noncomputable def FL (X:Cx)(e:Expr)(f:Ev→Option (List D)):Prop:=∃ t,PE X e t∧RF t f
section
variable {X:Cx}{a b c:Expr}{pos:Pos}
noncomputable def wK (f:Ev→Option (List D)):Ev→Option D:=fun ρ=>(f ρ).map .lst
theorem vX {f:Ev→Option (List D)}(h:FL X a f):ED X a (wK f):=by
  obtain ⟨t,ht,r⟩:=h
  refine ⟨t,ht,fun σ ρ F H d Q s va e q=>?_⟩
  obtain ⟨ds,e1,rfl⟩:=Option.map_eq_some_iff.mp e
  refine r σ ρ F H ds Q s va e1 fun F' H' p xs g h0 hF hH hx=>?_
  have g2:=g.show h0 hF hH
  exact q _ _ _ g2 (At.lst zn (hx.mono (fun b u e=>by rw [zm (zk e hF)];exact e)))
noncomputable def zd (i:Nat):Ev→Option D:=fun ρ=>(ρ[i]?).getD none
theorem zb (i:Nat)(h:PE X a (Vb i)):ED X a (zd i):=by
  refine ⟨_,h,fun σ ρ F H d Q s va e q=>?_⟩
  have e':ρ[i]?=some (some d):=by
    unfold zd at e
    cases h:ρ[i]? with
    | none=>rw [h] at e;cases e
    | some x=>rw [h] at e;cases x with
      | none=>cases e
      | some y=>cases e;rfl
  obtain ⟨v,e1,a1⟩:=va i d e'
  exact ⟨v,e1,q _ _ _ (.refl s) a1⟩
noncomputable def eC (d:D):Ev→Option D:=fun _=>some d
theorem zg {i:Int}(h:PE X a (tC (.int i))):ED X a (eC (.int i)):=⟨_,h,fun _ _ _ _ _ _ s _ e q=>by cases e;exact q _ _ _ (.refl s) .int⟩
theorem vY {i:Bool}(h:PE X a (tC (.bl i))):ED X a (eC (.bl i)):=⟨_,h,fun _ _ _ _ _ _ s _ e q=>by cases e;exact q _ _ _ (.refl s) .bl⟩
theorem zin {i:Str}(h:PE X a (tC (.str i))):ED X a (eC (.str i)):=⟨_,h,fun _ _ _ _ _ _ s _ e q=>by cases e;exact q _ _ _ (.refl s) .str⟩
theorem zcf (h:PE X a (tC .non)):ED X a (eC .non):=⟨_,h,fun _ _ _ _ _ _ s _ e q=>by cases e;exact q _ _ _ (.refl s) .non⟩
noncomputable def OpD (r:R2)(g:D→D→Option D):Prop :=
  ∀ (F H:Hp) (x y:V) (d e z:D) (Q:VK),yJ F H→At F d x→At F e y→g d e=some z→(∀ F' H' v,Gr F H F' H'→At F' z v→Q v H')→r x y H Q
noncomputable def zp (g:D→D→Option D)(f h:Ev→Option D):Ev→Option D:=fun ρ=>(f ρ).bind fun x=>(h ρ).bind fun y=>g x y
theorem zfJ {r:R2}{g:D→D→Option D}{ta tb:TE}{f h:Ev→Option D}(hg:OpD r g)(ra:RE ta f)(rb:RE tb h):RE (tOp r ta tb) (zp g f h):=by
  intro σ ρ F H z Q s va e q
  obtain ⟨x,e1,e⟩:=Option.bind_eq_some_iff.mp e
  obtain ⟨y,e2,e⟩:=Option.bind_eq_some_iff.mp e
  refine ra σ ρ F H x _ s va e1 fun F1 H1 v g1 a1=>?_
  refine rb σ ρ F1 H1 y _ g1.fh (va.mono g1.ff) e2 fun F2 H2 u g2 a2=>?_
  exact hg F2 H2 v u x y z Q g2.fh (a1.mono g2.ff) a2 e fun F3 H3 w g3 a3=>q F3 H3 w ((g1.trans g2).trans g3) a3
theorem Xz {op:Operator}{r:R2}{g:D→D→Option D}{f h:Ev→Option D}(ho:OpR X (binaryOp op) r)(hg:OpD r g)(ha:ED X a f)(hb:ED X b h):ED X (.BinOp a op b pos) (zp g f h) :=
  let ⟨_,pa,ra⟩:=ha
  let ⟨_,pb,rb⟩:=hb
  ⟨_,zgf ho pa pb,zfJ hg ra rb⟩
theorem ZV {op:CmpOp}{r:R2}{g:D→D→Option D}{f h:Ev→Option D}(ho:OpR X (compareOp op) r)(hg:OpD r g)(hm:behindInMarks op b=false)(ha:ED X a f)(hb:ED X b h):ED X (.Compare a [op] [b] pos) (zp g f h) :=
  let ⟨_,pa,ra⟩:=ha
  let ⟨_,pb,rb⟩:=hb
  ⟨_,zhV ho pa pb hm,zfJ hg ra rb⟩
noncomputable def asB:D→Option Bool
  | .bl b=>some b
  | _=>none
theorem XO {d:D}{b:Bool}(h:asB d=some b):d=.bl b:=by
  cases d <;> first | (cases h;rfl) | cases h
noncomputable def tOf (f:Ev→Option D):Ev→Option Bool:=fun ρ=>(f ρ).bind asB
theorem ziM {t:TE}{f:Ev→Option D}(r:RE t f):RT (zf6 t) (tOf f):=by
  intro σ ρ F H b Q s va e q
  obtain ⟨x,e1,e⟩:=Option.bind_eq_some_iff.mp e
  cases XO e
  exact r σ ρ F H _ _ s va e1 fun F1 H1 v g1 a1=>⟨b,a1.bl_inv,q F1 H1 g1⟩
theorem zL {op:CmpOp}{r:R2}{g:D→D→Option D}{f h:Ev→Option D}(ho:OpR X (compareOp op) r)(hg:OpD r g)(hm:behindInMarks op b=false)(ha:ED X a f)(hb:ED X b h):TD X (.Compare a [op] [b] pos) (tOf (zp g f h)) :=
  let ⟨_,pa,ra⟩:=ha
  let ⟨_,pb,rb⟩:=hb
  ⟨_,zbt ho pa pb hm,ziM (zfJ hg ra rb)⟩
theorem wx {f:Ev→Option D}(ha:ED X a f)(he:∀ whole,isTrue a X.env whole=(do let v←whole;standAt a.pos;holding [v] (truthy v)):=by intro _;rfl):TD X a (tOf f) :=
  let ⟨_,pa,ra⟩:=ha
  ⟨_,zgp pa he,ziM ra⟩
noncomputable def yA (f g:Ev→Option Bool):Ev→Option Bool:=fun ρ=>(f ρ).bind fun c=>if c=true then g ρ else some false
noncomputable def YB (f g:Ev→Option Bool):Ev→Option Bool:=fun ρ=>(f ρ).bind fun c=>if c=true then some true else g ρ
noncomputable def yr (f:Ev→Option Bool):Ev→Option Bool:=fun ρ=>(f ρ).map (!·)
theorem Xm {f:Ev→Option Bool}(ha:TD X a f):WD X (.BoolOp .And [a] pos) f:=let ⟨_,pa,ra⟩:=ha;⟨_,zh9 pa,ra⟩
theorem Wn {f:Ev→Option Bool}(ha:TD X a f):WD X (.BoolOp .Or [a] pos) f:=let ⟨_,pa,ra⟩:=ha;⟨_,zgO pa,ra⟩
theorem WP {rest:List Expr}{f g:Ev→Option Bool}(ha:TD X a f)(hb:WD X (.BoolOp .And (b::rest) pos) g):WD X (.BoolOp .And (a::b::rest) pos) (yA f g):=by
  obtain ⟨ta,pa,ra⟩:=ha
  obtain ⟨tb,pb,rb⟩:=hb
  refine ⟨_,ziy pa pb,fun σ ρ F H z Q s va e q=>?_⟩
  obtain ⟨x,e1,e⟩:=Option.bind_eq_some_iff.mp e
  refine ra σ ρ F H x _ s va e1 fun F1 H1 g1=>?_
  cases x with
  | true =>
    rw [if_pos rfl] at e ⊢
    exact rb σ ρ F1 H1 z Q g1.fh (va.mono g1.ff) e fun F2 H2 g2=>q F2 H2 (g1.trans g2)
  | false =>
    rw [if_neg Bool.false_ne_true] at e ⊢
    cases e
    exact q F1 H1 g1
theorem zbw {rest:List Expr}{f g:Ev→Option Bool}(ha:TD X a f)(hb:WD X (.BoolOp .Or (b::rest) pos) g):WD X (.BoolOp .Or (a::b::rest) pos) (YB f g):=by
  obtain ⟨ta,pa,ra⟩:=ha
  obtain ⟨tb,pb,rb⟩:=hb
  refine ⟨_,zj6 pa pb,fun σ ρ F H z Q s va e q=>?_⟩
  obtain ⟨x,e1,e⟩:=Option.bind_eq_some_iff.mp e
  refine ra σ ρ F H x _ s va e1 fun F1 H1 g1=>?_
  cases x with
  | false =>
    rw [if_neg Bool.false_ne_true] at e ⊢
    exact rb σ ρ F1 H1 z Q g1.fh (va.mono g1.ff) e fun F2 H2 g2=>q F2 H2 (g1.trans g2)
  | true =>
    rw [if_pos rfl] at e ⊢
    cases e
    exact q F1 H1 g1
theorem zcA {f:Ev→Option Bool}(h:WD X a f):TD X a f:=let ⟨_,p,r⟩:=h;⟨_,p.pt,r⟩
theorem vK {f:Ev→Option Bool}(ha:TD X a f):TD X (.UnaryOp .Not a pos) (yr f):=by
  obtain ⟨ta,pa,ra⟩:=ha
  refine ⟨_,zgz pa,fun σ ρ F H z Q s va e q=>?_⟩
  obtain ⟨x,e1,rfl⟩:=Option.map_eq_some_iff.mp e
  exact ra σ ρ F H x _ s va e1 fun F1 H1 g1=>q F1 H1 g1
noncomputable def vF (f g:Ev→Option D):Ev→Option D:=fun ρ=>((f ρ).bind asB).bind fun c=>if c=true then g ρ else some (.bl false)
noncomputable def eOr (f g:Ev→Option D):Ev→Option D:=fun ρ=>((f ρ).bind asB).bind fun c=>if c=true then some (.bl true) else g ρ
noncomputable def ZF (f:Ev→Option D):Ev→Option D:=fun ρ=>((f ρ).bind asB).map fun c=>.bl (!c)
theorem Zn {op}{f:Ev→Option D}(ha:ED X a f):ED X (.BoolOp op [a] pos) f:=let ⟨_,pa,ra⟩:=ha;⟨_,zio pa,ra⟩
theorem Yy {rest:List Expr}{f g:Ev→Option D}(ha:ED X a f)(hb:ED X (.BoolOp .And (b::rest) pos) g):ED X (.BoolOp .And (a::b::rest) pos) (vF f g):=by
  obtain ⟨ta,pa,ra⟩:=ha
  obtain ⟨tb,pb,rb⟩:=hb
  refine ⟨_,zj4 pa pb,fun σ ρ F H z Q s va e q=>?_⟩
  obtain ⟨x,e1,e⟩:=Option.bind_eq_some_iff.mp e
  obtain ⟨y,e1,e2⟩:=Option.bind_eq_some_iff.mp e1
  cases XO e2
  refine ra σ ρ F H _ _ s va e1 fun F1 H1 v g1 a1=>⟨x,a1.bl_inv,?_⟩
  cases x with
  | true =>
    rw [if_pos rfl] at e ⊢
    exact rb σ ρ F1 H1 z Q g1.fh (va.mono g1.ff) e fun F2 H2 w g2 a2=>q F2 H2 w (g1.trans g2) a2
  | false =>
    rw [if_neg Bool.false_ne_true] at e ⊢
    cases e
    exact q F1 H1 _ g1 .bl
theorem zgR {f:Ev→Option D}(ha:ED X a f):ED X (.UnaryOp .Not a pos) (ZF f):=by
  obtain ⟨ta,pa,ra⟩:=ha
  refine ⟨_,ziF pa,fun σ ρ F H z Q s va e q=>?_⟩
  obtain ⟨x,e1,rfl⟩:=Option.map_eq_some_iff.mp e
  obtain ⟨y,e1,e2⟩:=Option.bind_eq_some_iff.mp e1
  cases XO e2
  exact ra σ ρ F H _ _ s va e1 fun F1 H1 v g1 a1=>⟨x,a1.bl_inv,q F1 H1 _ g1 .bl⟩
noncomputable def eIf (t:Ev→Option Bool)(f g:Ev→Option D):Ev→Option D:=fun ρ=>(t ρ).bind fun c=>if c=true then f ρ else g ρ
noncomputable def eUn (g:D→Option D)(f:Ev→Option D):Ev→Option D:=fun ρ=>(f ρ).bind g
noncomputable def Z2:D→Option D
  | .int i=>some (.int (-i))
  | _=>none
theorem zir {f:Ev→Option D}(ha:ED X a f):ED X (.UnaryOp .USub a pos) (eUn Z2 f):=by
  obtain ⟨ta,pa,ra⟩:=ha
  refine ⟨_,zjh zgP pa,fun σ ρ F H z Q s va e q=>?_⟩
  obtain ⟨x,e1,e⟩:=Option.bind_eq_some_iff.mp e
  cases x <;> try cases e
  exact ra σ ρ F H _ _ s va e1 fun F1 H1 v g1 a1=>⟨_,a1.int_inv,q F1 H1 _ g1 .int⟩
noncomputable def zq:Ev→Option (List D):=fun _=>some []
noncomputable def zc (f:Ev→Option D)(g:Ev→Option (List D)):Ev→Option (List D):=fun ρ=>(f ρ).bind fun d=>(g ρ).map (d::·)
theorem zf:AD X [] zq:=⟨_,yL,fun _ _ _ _ _ _ s _ e q=>by cases e;exact q _ _ _ (.refl s) .nil⟩
theorem za {e:Expr}{es:List Expr}{f:Ev→Option D}{g:Ev→Option (List D)}(ha:ED X e f)(hr:AD X es g)(hs:starEach (e::es) X.env=(false,eval e X.env)::starEach es X.env:=by rfl):AD X (e::es) (zc f g):=by
  obtain ⟨ta,pa,ra⟩:=ha
  obtain ⟨tb,pb,rb⟩:=hr
  refine ⟨_,zr pa pb hs,fun σ ρ F H z Q s va e q=>?_⟩
  obtain ⟨x,e1,e⟩:=Option.bind_eq_some_iff.mp e
  obtain ⟨ds,e2,rfl⟩:=Option.map_eq_some_iff.mp e
  refine ra σ ρ F H x _ s va e1 fun F1 H1 v g1 a1=>?_
  exact rb σ ρ F1 H1 ds _ g1.fh (va.mono g1.ff) e2 fun F2 H2 w g2 a2=>q F2 H2 _ (g1.trans g2) (.cons (a1.mono g2.ff) a2)
noncomputable def lim (n:Nat):Bool:=decide (n≤sizeLine)
noncomputable def vC (g:Ev→Option (List D)):Ev→Option D:=fun ρ=>(g ρ).bind fun ds=>if lim ds.length=true then some (.tup ds) else none
noncomputable def yd (g:Ev→Option (List D)):Ev→Option (List D):=fun ρ=>(g ρ).bind fun ds=>if lim ds.length=true then some ds else none
theorem YX {es:List Expr}{x1}{g:Ev→Option (List D)}(h:AD X es g):ED X (.Tuple es x1 pos) (vC g):=by
  obtain ⟨ta,pa,ra⟩:=h
  refine ⟨_,zjf pa,fun σ ρ F H z Q s va e q=>?_⟩
  obtain ⟨ds,e1,e⟩:=Option.bind_eq_some_iff.mp e
  split at e <;> cases e
  rename_i hl
  refine ra σ ρ F H ds _ s va e1 fun F1 H1 vs g1 a1=>⟨by rw [a1.length];exact of_decide_eq_true hl,fun p hp=>?_⟩
  have g2:=Gr.alloc g1.fh hp (.tup vs)
  exact q _ _ _ (g1.trans g2) (.tup zn (a1.mono g2.ff))
theorem wM {es:List Expr}{g:Ev→Option (List D)}(h:AD X es g):FL X (.List es pos) (yd g):=by
  obtain ⟨ta,pa,ra⟩:=h
  refine ⟨_,X5 pa,fun σ ρ F H z Q s va e q=>?_⟩
  obtain ⟨ds,e1,e⟩:=Option.bind_eq_some_iff.mp e
  split at e <;> cases e
  rename_i hl
  refine ra σ ρ F H _ _ s va e1 fun F1 H1 vs g1 a1=>⟨by rw [a1.length];exact of_decide_eq_true hl,fun p hp=>?_⟩
  have g2:=Gr.hide g1.fh hp (.lst vs)
  have h0:H p=none:=by
    cases e:H p with
    | none=>rfl
    | some o =>
      cases e2:F p with
      | none=>rw [(g1.kp p o e2 e).2] at hp;cases hp
      | some u=>rw [g1.fh _ _ (g1.ff _ _ e2)] at hp;cases hp
  exact q _ _ _ _ (g1.trans g2) h0 (g1.fh.free hp) zn a1
end
end
end Dl
namespace Dl
open PySem L2
variable [KK]
inductive Sl where
  | no | v (d:D) | o (ds:List D) | m (t:Bool) (ks:List (List Key)) (vs:List D)
  deriving Inhabited
noncomputable abbrev SE:=List Sl
noncomputable def Sl.f:Sl→Option D
  | .v d=>some d
  | _=>none
noncomputable def Sl.g:Sl→Option D
  | .v d=>some d
  | .o ds=>some (.lst ds)
  | .m t ks vs=>some (.dct false t ks vs)
  | .no=>none
noncomputable def Sl.isO:Sl→Bool
  | .o _=>true
  | .m _ _ _=>true
  | _=>false
noncomputable def visF (ρ:SE):Ev:=ρ.map Sl.f
noncomputable def visG (ρ:SE):Ev:=ρ.map Sl.g
noncomputable def zb4 (F:Hp)(o:HO):Sl→Prop
  | .o ds=>∃ xs,o=.lst xs∧AtL F ds xs
  | .m t ks ds=>∃ xs,zal o t ks xs∧AtL F ds xs
  | _=>False
theorem zb4.mono {F F':Hp}{o:HO}{s:Sl}(h:zb4 F o s)(k:yJ F F'):zb4 F' o s:=by
  cases s with
  | no=>exact h
  | v d=>exact h
  | o ds=>obtain ⟨xs,e,a⟩:=h;exact ⟨xs,e,a.mono k⟩
  | m t ks ds=>obtain ⟨xs,e,a⟩:=h;exact ⟨xs,e,a.mono k⟩
theorem zb4.isO {F:Hp}{o:HO}{s:Sl}(h:zb4 F o s):s.isO=true:=by
  cases s with
  | no=>exact h.elim
  | v d=>exact h.elim
  | o ds=>rfl
  | m t ks ds=>rfl
theorem zb4.ntup {F:Hp}{o:HO}{s:Sl}(h:zb4 F o s)(xs:List V):o≠.tup xs:=by
  cases s with
  | no=>exact h.elim
  | v d=>exact h.elim
  | o ds=>obtain ⟨ys,rfl,_⟩:=h;intro e;cases e
  | m t ks ds =>
    obtain ⟨ys,e,_⟩:=h
    unfold zal at e
    split at e
    · obtain ⟨kvs,rfl,_⟩:=e;intro e;cases e
    · obtain ⟨kvs,rfl,_⟩:=e;intro e;cases e
theorem zb4.at {F G:Hp}{o:HO}{s:Sl}{d:D}{p:Addr}(h:zb4 F o s)(e:s.g=some d)(hp:G p=some o)(k:yJ F G):At G d (.ref p):=by
  cases s with
  | no=>exact h.elim
  | v d=>exact h.elim
  | o ds =>
    cases e
    obtain ⟨xs,rfl,a⟩:=h
    exact .lst hp (a.mono k)
  | m t ks ds =>
    cases e
    obtain ⟨xs,e,a⟩:=h
    unfold At
    exact ⟨p,xs,rfl,⟨o,e,hp⟩,a.mono k⟩
set_option genInjectivity false in
set_option genSizeOf false in
set_option genCtorIdx false in
structure Rl (Fb Hb F H:Hp) (ρ:SE) (σ:St):Prop where
  gr:Gr Fb Hb F H
  vals:∀ (i:Nat) (d:D),ρ[i]?=some (.v d)→∃ v,σ[i]?=some (some v)∧At F d v
  ows:∀ (i:Nat) (s:Sl),ρ[i]?=some s→s.isO=true→∃ p o,σ[i]?=some (some (.ref p))∧Hb p=none∧F p=none∧H p=some o∧zb4 F o s
  dis:∀ (i j:Nat) (p:Addr) (s t:Sl),ρ[i]?=some s→ρ[j]?=some t→s.isO=true→t.isO=true→σ[i]?=some (some (.ref p))→σ[j]?=some (some (.ref p))→i=j
  len:ρ.length=σ.length
section
variable {Fb Hb F H F' H':Hp}{ρ ρ':SE}{σ σ':St}
theorem Rl.owns (r:Rl Fb Hb F H ρ σ)(i:Nat)(ds:List D)(e:ρ[i]?=some (.o ds)):∃ p xs,σ[i]?=some (some (.ref p))∧Hb p=none∧F p=none∧H p=some (.lst xs)∧AtL F ds xs:=by
  obtain ⟨p,o,e1,e2,e3,e4,xs,rfl,a⟩:=r.ows i _ e rfl
  exact ⟨p,xs,e1,e2,e3,e4,a⟩
theorem Rl.grow (r:Rl Fb Hb F H ρ σ)(g:Gr F H F' H'):Rl Fb Hb F' H' ρ σ:=by
  refine ⟨r.gr.trans g,fun i d e=>?_,fun i s e h=>?_,r.dis,r.len⟩
  · obtain ⟨v,e1,a⟩:=r.vals i d e
    exact ⟨v,e1,a.mono g.ff⟩
  · obtain ⟨p,o,e1,e2,e3,e4,a⟩:=r.ows i s e h
    obtain ⟨k1,k2⟩:=g.kl a.ntup e3 e4
    exact ⟨p,o,e1,e2,k1,k2,a.mono g.ff⟩
theorem Rl.visF (r:Rl Fb Hb F H ρ σ):VAt F (visF ρ) σ:=fun i d e=>by
  unfold Dl.visF at e
  rw [List.getElem?_map] at e
  cases h:ρ[i]? with
  | none=>rw [h] at e;cases e
  | some x =>
    rw [h] at e
    cases x with
    | no=>cases e
    | v d' =>
      cases e
      exact r.vals i d h
    | o ds=>cases e
    | m t ks ds=>cases e
noncomputable def Own (ρ:SE)(σ:St)(p:Addr):Prop:=∃ (i:Nat) (s:Sl),ρ[i]?=some s∧s.isO=true∧σ[i]?=some (some (.ref p))
open Classical in
noncomputable def gOf (ρ:SE)(σ:St)(F H:Hp):Hp:=fun p=>if Own ρ σ p then H p else F p
open Classical in
noncomputable def fOf (ρ:SE)(σ:St)(G:Hp):Hp:=fun p=>if Own ρ σ p then none else G p
theorem Rl.own (r:Rl Fb Hb F H ρ σ){p:Addr}(h:Own ρ σ p):Hb p=none∧F p=none∧∃ o,H p=some o∧∀ xs,o≠.tup xs:=by
  obtain ⟨i,s,e1,e2,e3⟩:=h
  obtain ⟨q,o,e4,e5,e6,e7,a⟩:=r.ows i s e1 e2
  rw [e3] at e4
  cases e4
  exact ⟨e5,e6,o,e7,a.ntup⟩
theorem Rl.notown (r:Rl Fb Hb F H ρ σ){q:Addr}(h:H q=none)(j:Nat)(s:Sl)(e1:ρ[j]?=some s)(e2:s.isO=true):σ[j]?≠some (some (.ref q)):=fun e=>by
  obtain ⟨p,o,f1,_,_,f4,_⟩:=r.ows j s e1 e2
  rw [e] at f1
  cases f1
  rw [h] at f4
  cases f4
theorem Rl.notbase (r:Rl Fb Hb F H ρ σ){q:Addr}(h:H q=none):Hb q=none:=by
  cases z:Hb q with
  | none=>rfl
  | some o =>
    cases z2:Fb q with
    | none=>rw [(r.gr.kp q o z2 z).2] at h;cases h
    | some u=>rw [r.gr.fh _ _ (r.gr.ff _ _ z2)] at h;cases h
theorem Rl.fg (r:Rl Fb Hb F H ρ σ):yJ F (gOf ρ σ F H):=fun p o e=>by
  unfold gOf
  split
  · exact r.gr.fh p o e
  · exact e
theorem Rl.gh (r:Rl Fb Hb F H ρ σ):yJ (gOf ρ σ F H) H:=fun p o e=>by
  unfold gOf at e
  split at e
  · exact e
  · exact r.gr.fh p o e
theorem Rl.visG (r:Rl Fb Hb F H ρ σ):VAt (gOf ρ σ F H) (visG ρ) σ:=fun i d e=>by
  unfold Dl.visG at e
  rw [List.getElem?_map] at e
  cases h:ρ[i]? with
  | none=>rw [h] at e;cases e
  | some x =>
    rw [h] at e
    have e:x.g=some d:=Option.some.inj e
    have own:x.isO=true→∃ v,σ[i]?=some (some v)∧At (gOf ρ σ F H) d v:=fun hx=>by
      obtain ⟨p,o,e1,e2,e3,e4,a⟩:=r.ows i x h hx
      refine ⟨_,e1,a.at e ?_ r.fg⟩
      unfold gOf
      rw [if_pos ⟨i,x,h,hx,e1⟩]
      exact e4
    cases x with
    | no=>cases e
    | v d' =>
      cases e
      obtain ⟨v,e1,a⟩:=r.vals i d h
      exact ⟨v,e1,a.mono r.fg⟩
    | o ds=>exact own rfl
    | m t ks ds=>exact own rfl
theorem Rl.back {G':Hp}(r:Rl Fb Hb F H ρ σ)(g:Gr (gOf ρ σ F H) H G' H'):Gr F H (fOf ρ σ G') H'∧∀ q xs,G' q=some (.tup xs)→fOf ρ σ G' q=some (.tup xs):=by
  refine ⟨⟨fun p o e=>?_,fun p o e=>?_,fun p o e1 e2=>?_⟩,fun q xs e=>?_⟩
  · unfold fOf
    rw [if_neg (fun h=>by rw [(r.own h).2.1] at e;cases e)]
    exact g.ff p o (r.fg p o e)
  · unfold fOf at e
    split at e
    · cases e
    · exact g.fh p o e
  · by_cases h:Own ρ σ p
    · refine ⟨.inl (by unfold fOf;rw [if_pos h]),g.fh p o (g.ff p o ?_)⟩
      unfold gOf
      rw [if_pos h]
      exact e2
    · obtain ⟨x,y⟩:=g.kp p o (by unfold gOf;rw [if_neg h];exact e1) e2
      refine ⟨?_,y⟩
      unfold Hid fOf
      rw [if_neg h]
      exact x
  · unfold fOf
    rw [if_neg (fun h=>?_)]
    · exact e
    · obtain ⟨_,_,o,e2,n⟩:=r.own h
      have:G' q=some o:=g.ff q _ (by unfold gOf;rw [if_pos h];exact e2)
      rw [this] at e
      cases e
      exact n xs rfl
theorem Rl.out {G':Hp}(r:Rl Fb Hb F H ρ σ)(g:Gr (gOf ρ σ F H) H G' H'):Gr Fb Hb G' H':=by
  refine ⟨fun p o e=>g.ff p o (r.fg p o (r.gr.ff p o e)),g.fh,fun p o e1 e2=>?_⟩
  obtain ⟨k1,k2⟩:=r.gr.kp p o e1 e2
  have e3:gOf ρ σ F H p=F p:=by
    unfold gOf
    rw [if_neg (fun h=>by rw [(r.own h).1] at e2;cases e2)]
  rcases k1 with k1 | ⟨k1,k3⟩
  · exact g.kp p o (by rw [e3];exact k1) k2
  · have:=g.ff p o (by rw [e3];exact k3)
    exact ⟨.inr ⟨k1,this⟩,g.fh _ _ this⟩
theorem Rl.set (r:Rl Fb Hb F H ρ σ){i:Nat}{d:D}{v:V}(a:At F d v):Rl Fb Hb F H (ρ.set i (.v d)) (σ.set i (some v)):=by
  have nj:∀ {j:Nat} {s:Sl},(ρ.set i (.v d))[j]?=some s→s.isO=true→i≠j:=fun {j s} h ho e=>by
    subst e
    rw [List.getElem?_set] at h
    simp only [if_true] at h
    split at h <;> cases h
    cases ho
  refine ⟨r.gr,fun j e h=>?_,fun j s h ho=>?_,fun j k p s t h1 h2 o1 o2 h3 h4=>?_,by simp [r.len]⟩
  · by_cases hj:i=j
    · subst hj
      rw [List.getElem?_set] at h
      simp only [if_true] at h
      split at h
      · rename_i hl
        cases h
        refine ⟨v,?_,a⟩
        rw [List.getElem?_set]
        simp [←r.len,hl]
      · cases h
    · rw [List.getElem?_set_ne hj] at h ⊢
      exact r.vals j e h
  · have hj:=nj h ho
    rw [List.getElem?_set_ne hj] at h ⊢
    exact r.ows j s h ho
  · have a1:=nj h1 o1
    have a2:=nj h2 o2
    rw [List.getElem?_set_ne a1] at h1 h3
    rw [List.getElem?_set_ne a2] at h2 h4
    exact r.dis j k p s t h1 h2 o1 o2 h3 h4
theorem Rl.setW (r:Rl Fb Hb F H ρ σ){i:Nat}{w:Sl}{p:Addr}{o:HO}(h0:Hb p=none)(hF:F p=none)(hH:H p=some o)(a:zb4 F o w)
    (nw:∀ (j:Nat) (s:Sl),ρ[j]?=some s→s.isO=true→σ[j]?≠some (some (.ref p))):Rl Fb Hb F H (ρ.set i w) (σ.set i (some (.ref p))):=by
  have at_i:∀ {s:Sl},(ρ.set i w)[i]?=some s→i < ρ.length∧s=w:=fun {s} h=>by
    rw [List.getElem?_set] at h
    simp only [if_true] at h
    split at h
    · rename_i hl
      cases h
      exact ⟨hl,rfl⟩
    · cases h
  have st_i:i < ρ.length→(σ.set i (some (V.ref p)))[i]?=some (some (.ref p)):=fun hl=>by
    rw [List.getElem?_set]
    simp [←r.len,hl]
  refine ⟨r.gr,fun j e h=>?_,fun j s h ho=>?_,fun j k q s t h1 h2 o1 o2 h3 h4=>?_,by simp [r.len]⟩
  · by_cases hj:i=j
    · subst hj
      have e:=(at_i h).2
      have:=a.isO
      rw [←e] at this
      cases this
    · rw [List.getElem?_set_ne hj] at h ⊢
      exact r.vals j e h
  · by_cases hj:i=j
    · subst hj
      obtain ⟨hl,e⟩:=at_i h
      subst e
      exact ⟨p,o,st_i hl,h0,hF,hH,a⟩
    · rw [List.getElem?_set_ne hj] at h ⊢
      exact r.ows j s h ho
  · by_cases hj:i=j
    · subst hj
      by_cases hk:i=k
      · exact hk
      · obtain ⟨hl,_⟩:=at_i h1
        rw [st_i hl] at h3
        cases h3
        rw [List.getElem?_set_ne hk] at h2 h4
        exact absurd h4 (nw k t h2 o2)
    · by_cases hk:i=k
      · subst hk
        obtain ⟨hl,_⟩:=at_i h2
        rw [st_i hl] at h4
        cases h4
        rw [List.getElem?_set_ne hj] at h1 h3
        exact absurd h3 (nw j s h1 o1)
      · rw [List.getElem?_set_ne hj] at h1 h3
        rw [List.getElem?_set_ne hk] at h2 h4
        exact r.dis j k q s t h1 h2 o1 o2 h3 h4
theorem Rl.setO (r:Rl Fb Hb F H ρ σ){i:Nat}{ds:List D}{p:Addr}{xs:List V}(h0:Hb p=none)(hF:F p=none)(hH:H p=some (.lst xs))(a:AtL F ds xs)
    (nw:∀ (j:Nat) (s:Sl),ρ[j]?=some s→s.isO=true→σ[j]?≠some (some (.ref p))):Rl Fb Hb F H (ρ.set i (.o ds)) (σ.set i (some (.ref p))):=r.setW h0 hF hH ⟨xs,rfl,a⟩ nw
theorem Rl.mutW (r:Rl Fb Hb F H ρ σ){i:Nat}{w w':Sl}{p:Addr}{o':HO}(e:ρ[i]?=some w)(hw:w.isO=true)(e1:σ[i]?=some (some (.ref p)))(a:zb4 F o' w'):Rl Fb Hb F (upd H p o') (ρ.set i w') σ:=by
  obtain ⟨q,o,e2,h0,hF,hH,_⟩:=r.ows i w e hw
  rw [e1] at e2
  cases e2
  have hi:i < ρ.length:=(List.getElem?_eq_some_iff.mp e).1
  have neP:∀ {j:Nat} {s:Sl} {q:Addr},i≠j→ρ[j]?=some s→s.isO=true→σ[j]?=some (some (.ref q))→q≠p:=fun {j s q} hne h1 ho h2 z=>by
    subst z
    exact hne (r.dis i j q w s e h1 hw ho e1 h2)
  refine ⟨⟨r.gr.ff,fun b o z=>?_,fun b o z1 z2=>?_⟩,fun j d h=>?_,fun j s h ho=>?_,fun j k q s t h1 h2 o1 o2 h3 h4=>?_,by simp [r.len]⟩
  · rw [zm (zk z hF)]
    exact r.gr.fh b o z
  · rw [zm (zk z2 h0)]
    exact r.gr.kp b o z1 z2
  · by_cases hj:i=j
    · subst hj
      rw [List.getElem?_set_self hi] at h
      cases h
      exact (Bool.noConfusion a.isO)
    · rw [List.getElem?_set_ne hj] at h
      exact r.vals j d h
  · by_cases hj:i=j
    · subst hj
      rw [List.getElem?_set_self hi] at h
      cases h
      exact ⟨p,o',e1,h0,hF,zn,a⟩
    · rw [List.getElem?_set_ne hj] at h
      obtain ⟨q,z,f1,f2,f3,f4,f5⟩:=r.ows j s h ho
      refine ⟨q,z,f1,f2,f3,?_,f5⟩
      rw [zm (neP hj h ho f1)]
      exact f4
  · have back:∀ {j:Nat} {s:Sl},(ρ.set i w')[j]?=some s→s.isO=true→∃ s',ρ[j]?=some s'∧s'.isO=true:=fun {j s} h ho=>by
      by_cases hj:i=j
      · subst hj;exact ⟨w,e,hw⟩
      · rw [List.getElem?_set_ne hj] at h;exact ⟨s,h,ho⟩
    obtain ⟨f1,g1,g1'⟩:=back h1 o1
    obtain ⟨f2,g2,g2'⟩:=back h2 o2
    exact r.dis j k q f1 f2 g1 g2 g1' g2' h3 h4
theorem Rl.mutate (r:Rl Fb Hb F H ρ σ){i:Nat}{ds es:List D}{p:Addr}{ys:List V}(e:ρ[i]?=some (.o ds))(e1:σ[i]?=some (some (.ref p)))(a:AtL F es ys):Rl Fb Hb F (upd H p (.lst ys)) (ρ.set i (.o es)) σ :=
  r.mutW e rfl e1 ⟨ys,rfl,a⟩
noncomputable def Sl.fz:Sl→Sl
  | .o ds=>.v (.lst ds)
  | .m t ks vs=>.v (.dct false t ks vs)
  | s=>s
noncomputable def zkb (ρ:SE)(i:Nat):SE:=ρ.set i ((ρ[i]?).getD .no).fz
theorem Rl.freeze (r:Rl Fb Hb F H ρ σ)(i:Nat):∃ F',Rl Fb Hb F' H (zkb ρ i) σ:=by
  unfold zkb
  cases h:ρ[i]? with
  | none =>
    refine ⟨F,?_⟩
    rw [List.set_eq_of_length_le (List.getElem?_eq_none_iff.mp h)]
    exact r
  | some s =>
    have hi:i < ρ.length:=(List.getElem?_eq_some_iff.mp h).1
    have same:s.fz=s→∃ F',Rl Fb Hb F' H (ρ.set i ((some s).getD .no).fz) σ:=fun e=>by
      refine ⟨F,?_⟩
      show Rl Fb Hb F H (ρ.set i s.fz) σ
      rw [e]
      have:ρ.set i s=ρ:=by
        apply List.ext_getElem?
        intro j
        by_cases hj:i=j
        · subst hj;rw [List.getElem?_set_self hi,h]
        · rw [List.getElem?_set_ne hj]
      rw [this]
      exact r
    have give:∀ d,s.isO=true→s.g=some d→s.fz=.v d→∃ F',Rl Fb Hb F' H (ρ.set i ((some s).getD .no).fz) σ:=fun d ho hg hz=>by
      obtain ⟨p,o,e1,e2,e3,e4,a⟩:=r.ows i s h ho
      have sF:yJ F (upd F p o):=fun b u e=>by rw [zm (zk e e3)];exact e
      show ∃ F',Rl Fb Hb F' H (ρ.set i s.fz) σ
      rw [hz]
      have nj:∀ {j:Nat} {t:Sl},(ρ.set i (.v d))[j]?=some t→t.isO=true→i≠j:=fun {j t} h ht e=>by
        subst e
        rw [List.getElem?_set_self hi] at h
        cases h
        cases ht
      refine ⟨upd F p o,r.gr.show e2 e3 e4,fun j e z=>?_,fun j t z ht=>?_,fun j k q t u h1 h2 o1 o2 h3 h4=>?_,by simp [r.len]⟩
      · by_cases hj:i=j
        · subst hj
          rw [List.getElem?_set_self hi] at z
          cases z
          exact ⟨_,e1,a.at hg zn sF⟩
        · rw [List.getElem?_set_ne hj] at z
          obtain ⟨v,f1,f2⟩:=r.vals j e z
          exact ⟨v,f1,f2.mono sF⟩
      · have hj:=nj z ht
        rw [List.getElem?_set_ne hj] at z
        obtain ⟨q,y,f1,f2,f3,f4,f5⟩:=r.ows j t z ht
        refine ⟨q,y,f1,f2,?_,f4,f5.mono sF⟩
        rw [zm (fun w=>hj (r.dis i j p s t h z ho ht e1 (by rw [←w];exact f1)))]
        exact f3
      · have a1:=nj h1 o1
        have a2:=nj h2 o2
        rw [List.getElem?_set_ne a1] at h1
        rw [List.getElem?_set_ne a2] at h2
        exact r.dis j k q t u h1 h2 o1 o2 h3 h4
    cases s with
    | no=>exact same rfl
    | v d=>exact same rfl
    | o ds=>exact give _ rfl rfl rfl
    | m t ks ds=>exact give _ rfl rfl rfl
end
inductive Ctl where
  | nx (ρ:SE) | rt (d:D) | bk (ρ:SE) | ct (ρ:SE) | no
  deriving Inhabited
noncomputable def SOk (Fb Hb:Hp)(E:zae):Ctl→Prop
  | .nx ρ=>∀ F H σ,Rl Fb Hb F H ρ σ→E.nx σ H
  | .bk ρ=>∀ F H σ,Rl Fb Hb F H ρ σ→E.bk σ H
  | .ct ρ=>∀ F H σ,Rl Fb Hb F H ρ σ→E.ct σ H
  | .rt d=>∀ F H v,Gr Fb Hb F H→At F d v→E.rt v H
  | .no=>False
noncomputable def RS (t:TS)(g:SE→Ctl):Prop:=∀ (Fb Hb F H:Hp) (ρ:SE) (σ:St) (E:zae),Rl Fb Hb F H ρ σ→SOk Fb Hb E (g ρ)→t E σ H
noncomputable def SD (X:Cx)(st:Stmt)(g:SE→Ctl):Prop:=∃ t,PS X st t∧RS t g
noncomputable def SDs (X:Cx)(sts:List Stmt)(g:SE→Ctl):Prop:=∃ t,PSs X sts t∧RS t g
section
variable {X:Cx}{st:Stmt}{sts:List Stmt}{a b c e:Expr}{pos pos':Pos}
noncomputable def zJ:SE→Ctl:=.nx
noncomputable def zT (g h:SE→Ctl):SE→Ctl:=fun ρ=>match g ρ with
  | .nx ρ'=>h ρ'
  | .rt d=>.rt d
  | .bk ρ'=>.bk ρ'
  | .ct ρ'=>.ct ρ'
  | .no=>.no
theorem zB:SDs X [] zJ:=⟨_,zbq,fun _ _ F H ρ σ E r h=>h F H σ r⟩
theorem zh {g h:SE→Ctl}(h1:SD X st g)(h2:SDs X sts h):SDs X (st::sts) (zT g h):=by
  obtain ⟨t,p,r⟩:=h1
  obtain ⟨u,p2,r2⟩:=h2
  refine ⟨_,wL p p2,fun Fb Hb F H ρ σ E rl k=>?_⟩
  refine r Fb Hb F H ρ σ { E with nx:=u E } rl ?_
  unfold zT at k
  cases e:g ρ with
  | nx ρ' =>
    rw [e] at k
    exact fun F' H' σ' rl'=>r2 Fb Hb F' H' ρ' σ' E rl' k
  | rt d=>rw [e] at k;exact k
  | bk d=>rw [e] at k;exact k
  | ct d=>rw [e] at k;exact k
  | no=>rw [e] at k;exact k
theorem zj {g:SE→Ctl}(h1:SD X st g):SDs X [st] g:=let ⟨_,p,r⟩:=h1;⟨_,ZA p,r⟩
noncomputable def sFz (i:Nat)(g:SE→Ctl):SE→Ctl:=fun ρ=>g (zkb ρ i)
theorem zao {g:SE→Ctl}(i:Nat)(h:SDs X sts g):SDs X sts (sFz i g):=by
  obtain ⟨t,p,r⟩:=h
  refine ⟨_,p,fun Fb Hb F H ρ σ E rl k=>?_⟩
  obtain ⟨F',rl'⟩:=rl.freeze i
  exact r Fb Hb F' H _ σ E rl' k
noncomputable def sNo:SE→Ctl:=fun _=>.no
theorem ZK:SD X st sNo:=⟨_,zbF,fun _ _ _ _ _ _ _ _ h=>h.elim⟩
noncomputable def xp (f:Ev→Option D):SE→Ctl:=fun ρ=>match f (visG ρ) with
  | some d=>.rt d
  | none=>.no
theorem zN {f:Ev→Option D}(h:ED X e f):SD X (.Return (some e) pos) (xp f):=by
  obtain ⟨t,p,r⟩:=h
  refine ⟨_,zai p,fun Fb Hb F H ρ σ E rl k=>?_⟩
  unfold xp at k
  cases h:f (visG ρ) with
  | none=>rw [h] at k;exact k.elim
  | some d =>
    rw [h] at k
    exact r σ _ _ H d _ rl.gh rl.visG h fun F' H' v g av=>k F' H' v (rl.out g) av
noncomputable def wE:SE→Ctl:=fun _=>.rt .non
noncomputable def vEv (m:Bool)(f:Ev→Option D)(ρ:SE):Option D:=if m=true then (f (visG ρ)).bind fun d=>if noL d=true then some d else none else f (visF ρ)
theorem RE.at {Fb Hb F H:Hp}{ρ:SE}{σ:St}{m:Bool}{f:Ev→Option D}{t:TE}{d:D}{Q:VK}(r:RE t f)(rl:Rl Fb Hb F H ρ σ)(h:vEv m f ρ=some d)(q:∀ F' H' v,Gr F H F' H'→At F' d v→Q v H'):t σ H Q:=by
  unfold vEv at h
  cases m with
  | false =>
    rw [if_neg Bool.false_ne_true] at h
    exact r σ _ _ H d _ rl.gr.fh rl.visF h q
  | true =>
    rw [if_pos rfl] at h
    obtain ⟨d',h1,h2⟩:=Option.bind_eq_some_iff.mp h
    split at h2 <;> cases h2
    rename_i hn
    refine r σ _ _ H d _ rl.gh rl.visG h1 fun F' H' v g av=>?_
    obtain ⟨g2,fl⟩:=rl.back g
    exact q _ H' v g2 (av.flat fl hn)
noncomputable def wu (m:Bool)(i:Nat)(f:Ev→Option D):SE→Ctl:=fun ρ=>match vEv m f ρ with
  | some d=>.nx (ρ.set i (.v d))
  | none=>.no
theorem xy {m:Bool}{i:Nat}{x:Str}{f:Ev→Option D}(hN:X.N.Nodup)(hi:X.N[i]?=some x)(hx:Loc X.env.scope x)(he:ED X e f)(hs:swapsWith e (some (.Name x pos')) pos.line X.env=pure false:=by rfl)
    (hf:X.fn x=true∨X.env.scope.names.lookup x=some .local:=by first | exact .inl rfl | exact .inr rfl | assumption):SD X (.Assign [.Name x pos'] e pos) (wu m i f):=by
  obtain ⟨t,p,r⟩:=he
  refine ⟨_,ZI hN hi hx p hs hf,fun Fb Hb F H ρ σ E rl k=>?_⟩
  unfold wu at k
  cases h:vEv m f ρ with
  | none=>rw [h] at k;exact k.elim
  | some d =>
    rw [h] at k
    exact r.at rl h fun F' H' v g av=>k F' H' _ ((rl.grow g).set av)
noncomputable def xJ (f:Ev→Option D):SE→Ctl:=fun ρ=>match f (visG ρ) with
  | some _=>.nx ρ
  | none=>.no
theorem zF {f:Ev→Option D}(he:ED X e f)(hs:swapsWith e none pos.line X.env=pure false:=by rfl):SD X (.Expr e pos) (xJ f):=by
  obtain ⟨t,p,r⟩:=he
  refine ⟨_,Vx p hs,fun Fb Hb F H ρ σ E rl k=>?_⟩
  unfold xJ at k
  cases h:f (visG ρ) with
  | none=>rw [h] at k;exact k.elim
  | some d =>
    rw [h] at k
    exact r σ _ _ H d _ rl.gh rl.visG h fun F' H' v g av=>k _ H' σ (rl.grow (rl.back g).1)
noncomputable def Zb (i:Nat)(f:Ev→Option (List D)):SE→Ctl:=fun ρ=>match f (visF ρ) with
  | some ds=>.nx (ρ.set i (.o ds))
  | none=>.no
theorem zaC {i:Nat}{x:Str}{f:Ev→Option (List D)}(hN:X.N.Nodup)(hi:X.N[i]?=some x)(hx:Loc X.env.scope x)(he:FL X e f)(hs:swapsWith e (some (.Name x pos')) pos.line X.env=pure false:=by rfl)
    (hf:X.fn x=true∨X.env.scope.names.lookup x=some .local:=by first | exact .inl rfl | exact .inr rfl | assumption):SD X (.Assign [.Name x pos'] e pos) (Zb i f):=by
  obtain ⟨t,p,r⟩:=he
  refine ⟨_,ZI hN hi hx p hs hf,fun Fb Hb F H ρ σ E rl k=>?_⟩
  unfold Zb at k
  cases h:f (visF ρ) with
  | none=>rw [h] at k;exact k.elim
  | some ds =>
    rw [h] at k
    refine r σ _ _ H ds _ rl.gr.fh rl.visF h fun F' H' q xs g h0 hF hH hx=>?_
    have rl2:=rl.grow g
    exact k F' H' _ (rl2.setO (rl.notbase h0) hF hH hx (rl.notown h0))
noncomputable def sIf (t:Ev→Option Bool)(g h:SE→Ctl):SE→Ctl:=fun ρ=>match t (visG ρ) with
  | some true=>g ρ
  | some false=>h ρ
  | none=>.no
theorem xn {as bs:List Stmt}{t:Ev→Option Bool}{g h:SE→Ctl}(hc:TD X c t)(ha:SDs X as g)(hb:SDs X bs h):SD X (.If c as bs pos) (sIf t g h):=by
  obtain ⟨tc,pc,rc⟩:=hc
  obtain ⟨ta,pa,ra⟩:=ha
  obtain ⟨tb,pb,rb⟩:=hb
  refine ⟨_,zfp pc pa pb,fun Fb Hb F H ρ σ E rl k=>?_⟩
  unfold sIf at k
  cases h:t (visG ρ) with
  | none=>rw [h] at k;exact k.elim
  | some d =>
    rw [h] at k
    refine rc σ _ _ H d _ rl.gh rl.visG h fun F' H' g=>?_
    have rl2:=rl.grow (rl.back g).1
    cases d with
    | true=>rw [if_pos rfl];exact ra Fb Hb _ H' ρ σ E rl2 k
    | false=>rw [if_neg Bool.false_ne_true];exact rb Fb Hb _ H' ρ σ E rl2 k
noncomputable def Wb (t:Ev→Option Bool)(g:SE→Ctl):Nat→SE→Ctl
  | 0,_=>.no
  | n+1,ρ=>match t (visG ρ) with
    | some true=>match g ρ with
      | .nx ρ'=>Wb t g n ρ'
      | .ct ρ'=>Wb t g n ρ'
      | .bk ρ'=>.nx ρ'
      | .rt d=>.rt d
      | .no=>.no
    | some false=>.nx ρ
    | none=>.no
theorem zf3 {as:List Stmt}{t:Ev→Option Bool}{g:SE→Ctl}(n:Nat)(hp:PassesOwn (model X.prog X.w) X.A X.env X.xe)(hc:TD X c t)(ha:SDs X as g):SD X (.While c as [] pos) (Wb t g n):=by
  obtain ⟨tc,pc,rc⟩:=hc
  obtain ⟨ta,pa,ra⟩:=ha
  refine ⟨_,zfQ hp pc pa,fun Fb Hb F H ρ σ E rl k=>?_⟩
  refine ⟨fun m σ H=>∃ F ρ,Rl Fb Hb F H ρ σ∧SOk Fb Hb E (Wb t g m ρ),⟨n,F,ρ,rl,k⟩,?_⟩
  rintro m σ H ⟨F,ρ,rl,k⟩
  cases m with
  | zero=>exact k.elim
  | succ m =>
    unfold Wb at k
    cases h:t (visG ρ) with
    | none=>rw [h] at k;exact k.elim
    | some d =>
      rw [h] at k
      refine rc σ _ _ H d _ rl.gh rl.visG h fun F' H' gr=>?_
      have rl2:=rl.grow (rl.back gr).1
      cases d with
      | false=>rw [if_neg Bool.false_ne_true];exact k _ H' σ rl2
      | true =>
        rw [if_pos rfl]
        refine ⟨fun σ H=>∃ F ρ,Rl Fb Hb F H ρ σ∧SOk Fb Hb E (Wb t g m ρ),fun σ' H' w=>⟨m,Nat.lt_succ_self m,w⟩,?_⟩
        refine ra Fb Hb _ H' ρ σ _ rl2 ?_
        dsimp only at k
        cases hg:g ρ with
        | nx ρ'=>rw [hg] at k;exact fun F2 H2 σ2 r2=>⟨F2,ρ',r2,k⟩
        | ct ρ'=>rw [hg] at k;exact fun F2 H2 σ2 r2=>⟨F2,ρ',r2,k⟩
        | bk ρ'=>rw [hg] at k;exact k
        | rt d=>rw [hg] at k;exact k
        | no=>rw [hg] at k;exact k.elim
noncomputable def RG (t:TG)(b:D→SE→Option SE):Prop:=∀ (Fb Hb F H:Hp) (ρ ρ':SE) (σ:St) (d:D) (v:V) (Q:St→Hp→Prop),Rl Fb Hb F H ρ σ→At F d v→b d ρ=some ρ'→(∀ σ',Rl Fb Hb F H ρ' σ'→Q σ' H)→t v σ H Q
noncomputable def RGs (t:TGs)(b:List D→SE→Option SE):Prop:=∀ (Fb Hb F H:Hp) (ρ ρ':SE) (σ:St) (ds:List D) (vs:List V) (Q:St→Hp→Prop),Rl Fb Hb F H ρ σ→AtL F ds vs→b ds ρ=some ρ'→(∀ σ',Rl Fb Hb F H ρ' σ'→Q σ' H)→t vs σ H Q
noncomputable def BD (X:Cx)(tg:Expr)(b:D→SE→Option SE):Prop:=∃ t,PG X tg t∧RG t b
noncomputable def BDs (X:Cx)(tgs:List Expr)(b:List D→SE→Option SE):Prop:=∃ t,PGs X tgs t∧RGs t b
noncomputable def yM (i:Nat):D→SE→Option SE:=fun d ρ=>some (ρ.set i (.v d))
theorem wc {i:Nat}(h:PG X a (V7 i)):BD X a (yM i):=by
  refine ⟨_,h,fun Fb Hb F H ρ ρ' σ d v Q rl av e q=>?_⟩
  cases e
  exact q _ (rl.set av)
noncomputable def Zw:List D→SE→Option SE
  | [],ρ=>some ρ
  | _,_=>none
noncomputable def xI (b:D→SE→Option SE)(c:List D→SE→Option SE):List D→SE→Option SE
  | d::ds,ρ=>(b d ρ).bind (c ds)
  | [],_=>none
theorem zaS:BDs X [] Zw:=by
  refine ⟨_,zh8,fun Fb Hb F H ρ ρ' σ ds vs Q rl av e q=>?_⟩
  cases ds with
  | nil=>cases e;exact ⟨av.nil_inv,q _ rl⟩
  | cons _ _=>cases e
theorem Zd {es:List Expr}{b:D→SE→Option SE}{c:List D→SE→Option SE}(h1:BD X e b)(h2:BDs X es c)
    (hs:(assignEach (e::es) X.env).map (·.2)=assign e X.env::(assignEach es X.env).map (·.2):=by rfl):BDs X (e::es) (xI b c):=by
  obtain ⟨t,p,r⟩:=h1
  obtain ⟨u,p2,r2⟩:=h2
  refine ⟨_,ze5 p p2 hs,fun Fb Hb F H ρ ρ' σ ds vs Q rl av e q=>?_⟩
  cases ds with
  | nil=>cases e
  | cons d ds =>
    obtain ⟨x,xs,rfl,a1,a2⟩:=av.cons_inv
    obtain ⟨ρ1,e1,e2⟩:=Option.bind_eq_some_iff.mp e
    exact ⟨x,xs,rfl,r Fb Hb F H ρ ρ1 σ d x _ rl a1 e1 fun σ1 rl1=>r2 Fb Hb F H ρ1 ρ' σ1 ds xs Q rl1 a2 e2 q⟩
noncomputable def Zl (n:Nat)(c:List D→SE→Option SE):D→SE→Option SE
  | .tup ds,ρ=>if ds.length=n then c ds ρ else none
  | _,_=>none
theorem zeR {es:List Expr}{k:Nat}{n:Nat}{c:List D→SE→Option SE}(hc:X.calm=true)(h:BDs X es c)
    (hn:(assignEach es X.env).length=n:=by rfl) (hst:(assignEach es X.env).findIdx? (·.1)=none:=by rfl):BD X (.Tuple es k pos) (Zl n c):=by
  obtain ⟨t,p,r⟩:=h
  refine ⟨_,zjH hc p hn hst,fun Fb Hb F H ρ ρ' σ d v Q rl av e q=>?_⟩
  cases d with
  | tup ds =>
    unfold Zl at e
    dsimp only at e
    split at e
    · rename_i hl
      obtain ⟨a,xs,rfl,hx,al⟩:=av.tup_inv
      exact ⟨a,xs,rfl,SqT.of (rl.gr.fh _ _ hx),by rw [al.length];exact hl,r Fb Hb F H ρ ρ' σ ds xs Q rl al e q⟩
    · cases e
  | _=>cases e
noncomputable def Xh (m:Bool)(f:Ev→Option D)(b:D→SE→Option SE):SE→Ctl:=fun ρ=>match (vEv m f ρ).bind fun d=>b d ρ with
  | some ρ'=>.nx ρ'
  | none=>.no
noncomputable def Zr (m:Bool)(i:Nat)(fk fe:Ev→Option D):SE→Ctl:=fun ρ=>match (vEv m fe ρ).bind fun d=>(fk (visG ρ)).bind fun k=>match ρ[i]?,k with
    | some (.o ds),.int k=>(ixN ds.length k).map fun j=>ρ.set i (.o (ds.set j d))
    | _,_=>none with
  | some ρ'=>.nx ρ'
  | none=>.no
theorem zgl {m:Bool}{i:Nat}{ko:Expr}{fk fe:Ev→Option D}(he:ED X e fe)(ho:PE X a (Vb i))(hk:ED X ko fk)(hs:swapsWithSole [.Subscript a ko pos'] e pos.line X.env=pure false:=by rfl)(hw:swappedStores [.Subscript a ko pos'] e X.env=pure none:=by rfl)
    (h1:(assignEach [.Subscript a ko pos'] X.env).map (·.2)=[assign (.Subscript a ko pos') X.env]:=by rfl)
    (ha:∀ v,assign (.Subscript a ko pos') X.env v=(do
      let ov←holding [v] (eval a X.env)
      let iv←holding [v,ov] (eval ko X.env)
      standAt pos'
      holding [v,ov,iv] (setItem ov iv v)
      release [v,ov,iv] []):=by intro _;rfl):SD X (.Assign [.Subscript a ko pos'] e pos) (Zr m i fk fe):=by
  obtain ⟨t,p,r⟩:=he
  obtain ⟨tk,pk,rk⟩:=hk
  refine ⟨_,zjR p (ziK ho pk zfM ha) hs hw h1,fun Fb Hb F H ρ σ E rl k=>?_⟩
  unfold Zr at k
  cases h:(vEv m fe ρ).bind fun d=>(fk (visG ρ)).bind fun k=>match ρ[i]?,k with
    | some (.o ds),.int k=>(ixN ds.length k).map fun j=>ρ.set i (.o (ds.set j d))
    | _,_=>none with
  | none=>rw [h] at k;exact k.elim
  | some ρ' =>
    rw [h] at k
    obtain ⟨d,e1,e2⟩:=Option.bind_eq_some_iff.mp h
    obtain ⟨kd,e3,e2⟩:=Option.bind_eq_some_iff.mp e2
    cases hs:ρ[i]? with
    | none=>rw [hs] at e2;cases e2
    | some sl =>
      rw [hs] at e2
      cases sl with
      | no=>cases e2
      | v _=>cases e2
      | m _ _ _=>cases e2
      | o ds =>
        cases kd with
        | int kk =>
          obtain ⟨j,e4,rfl⟩:=Option.map_eq_some_iff.mp e2
          refine r.at rl e1 fun F' H' v g av=>?_
          have rl2:=rl.grow g
          obtain ⟨q,xs,f1,_⟩:=rl2.owns i ds hs
          refine ⟨_,f1,?_⟩
          refine rk σ _ _ H' _ _ rl2.gh rl2.visG e3 fun F3 H3 v3 g3 av3=>?_
          obtain ⟨gb,_⟩:=rl2.back g3
          have rl3:=rl2.grow gb
          obtain ⟨q3,xs3,f1',_,_,f4,f5⟩:=rl3.owns i ds hs
          rw [f1] at f1'
          cases f1'
          refine ⟨q,xs3,kk,j,rfl,av3.int_inv,f4,by rw [f5.length];exact e4,?_⟩
          exact k _ _ σ (rl3.mutate hs f1 (f5.set j (av.mono gb.ff)))
        | _=>cases e2
end
end Dl
namespace L2
open PySem PySem.Spec PyProof.Rows
section
variable {X:Cx}{tg:Expr}
noncomputable def iSeq (K:PySem.W.Frag)(tl:TE):TI:=fun σ H R=>tl σ H fun x H1=>(∃ a,x=.ref a∧(∃ xs,SqL K H1 a xs)∧R (Itl K a) H1)∨(∃ a,x=.ref a∧(∃ xs,SqT K H1 a xs)∧R (Itt K a) H1)
theorem zjk {l:Expr}{tl:TE}(hl:PE X l tl):PI X tg l (iSeq X.K tl):=by
  intro pins s σ H R I h
  refine thn (hl pins s σ H _ I h) fun v s1 hh9=>?_
  obtain ⟨x,H1,I1,r1,q1⟩:=hh9
  rcases q1 with ⟨a,e,⟨xs,hq⟩,q⟩ | ⟨a,e,⟨xs,hq⟩,q⟩
  · subst e
    cases r1
    obtain ⟨its,rv,p,hz⟩:=I1.list hq
    refine wpAny_pyIter_list p.isList ?_
    refine ⟨s1.heap.objs.size,[s1.heap.objs.size],_,_,H1,rfl,I1.kept (t':=s1.toks) fun b o e=>Heap.get?_push_of_some _ e,zej a _,⟨_,Heap.get?_push_size _ rfl,rfl,rfl⟩,fun b hb=>?_,q⟩
    have e:b=s1.heap.objs.size:=by simpa using hb
    subst e
    exact I1.fpOk (Nat.le_refl _) (I1.hok.fresh (Nat.le_refl _))
  · subst e
    cases r1
    obtain ⟨its,rv,p,hz⟩:=I1.tuple hq
    refine wpAny_pyIter_tuple (show s1.heap.IsTuple a its.toArray from p) ?_
    refine ⟨s1.heap.objs.size,[s1.heap.objs.size],_,_,H1,rfl,I1.kept (t':=s1.toks) fun b o e=>Heap.get?_push_of_some _ e,zcO a _,⟨_,Heap.get?_push_size _ rfl,rfl,rfl⟩,fun b hb=>?_,q⟩
    have e:b=s1.heap.objs.size:=by simpa using hb
    subst e
    exact I1.fpOk (Nat.le_refl _) (I1.hok.fresh (Nat.le_refl _))
end
end L2
namespace Dl
open PySem L2
variable [KK]
noncomputable def zii (J:It)(F:Hp)(ds:List D):Prop:=∀ (i:Nat) (F2 H2:Hp),yJ F F2→yJ F2 H2→(i=ds.length→J.stop i H2) ∧
  ∀ d,ds[i]?=some d→J.go i H2∧∀ x H3,J.yld i H2 x H3→∃ F3,Gr F2 H2 F3 H3∧At F3 d x
noncomputable def RI (wi:TI)(f:Ev→Option (List D)):Prop :=
  ∀ (σ:St) (ρ:Ev) (F H:Hp) (ds:List D) (R:It→Hp→Prop),yJ F H→VAt F ρ σ→f ρ=some ds→(∀ F' H' J,Gr F H F' H'→zii J F' ds→R J H')→wi σ H R
noncomputable def ID (X:Cx)(tg iter:Expr)(f:Ev→Option (List D)):Prop:=∃ wi,PI X tg iter wi∧RI wi f
noncomputable def xo:D→Option (List D)
  | .lst ds=>some ds
  | .tup ds=>some ds
  | _=>none
section
variable {X:Cx}{tg a b c e:Expr}{pos:Pos}
theorem ziw {K:PySem.W.Frag}{F:Hp}{p:Addr}{xs:List V}{ds:List D}(h:F p=some (.lst xs))(al:AtL F ds xs):zii (Itl K p) F ds:=by
  intro i F2 H2 s1 s2
  have q:SqL K H2 p xs:=SqL.of (s2 _ _ (s1 _ _ h))
  refine ⟨fun hl=>⟨xs,q,by rw [al.length,hl];exact Nat.le_refl _⟩,fun d hd=>?_⟩
  obtain ⟨x,hx,ax⟩:=al.get hd
  refine ⟨⟨xs,x,q,hx⟩,fun y H3 hy=>?_⟩
  obtain ⟨rfl,hy⟩:=hy
  have:=hy xs q
  rw [hx] at this
  cases this
  exact ⟨F2,.refl s2,ax.mono s1⟩
theorem zj5 {K:PySem.W.Frag}{F:Hp}{p:Addr}{xs:List V}{ds:List D}(h:F p=some (.tup xs))(al:AtL F ds xs):zii (Itt K p) F ds:=by
  intro i F2 H2 s1 s2
  have q:SqT K H2 p xs:=SqT.of (s2 _ _ (s1 _ _ h))
  refine ⟨fun hl=>⟨xs,q,by rw [al.length,hl];exact Nat.le_refl _⟩,fun d hd=>?_⟩
  obtain ⟨x,hx,ax⟩:=al.get hd
  refine ⟨⟨xs,x,q,hx⟩,fun y H3 hy=>?_⟩
  obtain ⟨rfl,hy⟩:=hy
  have:=hy xs q
  rw [hx] at this
  cases this
  exact ⟨F2,.refl s2,ax.mono s1⟩
noncomputable def iOf (f:Ev→Option D):Ev→Option (List D):=fun ρ=>(f ρ).bind xo
theorem We {f:Ev→Option D}(ha:ED X a f):ID X tg a (iOf f):=by
  obtain ⟨t,p,r⟩:=ha
  refine ⟨_,zjk p,fun σ ρ F H ds R s va e q=>?_⟩
  obtain ⟨d,e1,e2⟩:=Option.bind_eq_some_iff.mp e
  refine r σ ρ F H d _ s va e1 fun F1 H1 v g1 a1=>?_
  cases d <;> try cases e2
  · obtain ⟨p,xs,rfl,hx,al⟩:=a1.tup_inv
    exact .inr ⟨p,rfl,⟨xs,SqT.of (g1.fh _ _ hx)⟩,q F1 H1 _ g1 (zj5 hx al)⟩
  · obtain ⟨p,xs,rfl,hx,al⟩:=a1.lst_inv
    exact .inl ⟨p,rfl,⟨xs,SqL.of (g1.fh _ _ hx)⟩,q F1 H1 _ g1 (ziw hx al)⟩
noncomputable def XJ (lo:Int)(n:Nat):List D:=(List.range n).map fun k:Nat=>.int (lo+k)
theorem zew {F:Hp}(lo:Int)(n:Nat):zii (Itr lo n) F (XJ lo n):=by
  intro i F2 H2 s1 s2
  have hlen:(XJ lo n).length=n:=by unfold XJ;simp
  refine ⟨fun hl=>by rw [hlen] at hl;rw [hl];exact Nat.le_refl _,fun d hd=>?_⟩
  have hi:i < n:=by
    have:=(List.getElem?_eq_some_iff.mp hd).1
    omega
  refine ⟨hi,fun y H3 hy=>?_⟩
  obtain ⟨rfl,rfl⟩:=hy
  refine ⟨F2,.refl s2,?_⟩
  unfold XJ at hd
  rw [List.getElem?_map,List.getElem?_range hi] at hd
  cases hd
  exact .int
@[irreducible] noncomputable def ze9 (j:Int):Bool:=decide (-(2 ^ 62)≤j∧j < 2 ^ 62)
omit [KK] in
theorem xR {j:Int}:ze9 j=true↔-(2 ^ 62)≤j∧j < 2 ^ 62:=by unfold ze9;exact decide_eq_true_iff
noncomputable def vE:List D→Option (List D)
  | [.int j]=>if ze9 j=true then some (XJ 0 j.toNat) else none
  | _=>none
noncomputable def Y1:List D→Option (List D)
  | [.int i,.int j]=>if ze9 i=true∧ze9 j=true then some (XJ i (j - i).toNat) else none
  | _=>none
noncomputable def YE (g:List D→Option (List D))(f:Ev→Option (List D)):Ev→Option (List D):=fun ρ=>(f ρ).bind g
theorem zaB {p:Pos} {f:Ev→Option (List D)} (hg:Gl X "range") (hm:X.mg "range"=none) (ha:AD X [a] f) (hs:starEach [a] X.env=[(false,eval a X.env)]:=by rfl):ID X tg (.Call (.Name "range" p) [a] [] pos) (YE vE f):=by
  obtain ⟨t,pa,r⟩:=ha
  refine ⟨_,VV hg hm pa hs,fun σ ρ F H ds R s va e q=>?_⟩
  obtain ⟨d,e1,e2⟩:=Option.bind_eq_some_iff.mp e
  refine r σ ρ F H d _ s va e1 fun F1 H1 v g1 a1=>?_
  unfold vE at e2
  split at e2
  · split at e2
    · cases e2
      rename_i hc
      obtain ⟨x,r',rfl,ax,ar⟩:=a1.cons_inv
      cases ar.nil_inv
      exact ⟨_,by rw [ax.int_inv],(xR.mp hc).1,(xR.mp hc).2,q F1 H1 _ g1 (zew 0 _)⟩
    · cases e2
  · cases e2
theorem zeJ {p:Pos} {f:Ev→Option (List D)} (hg:Gl X "range") (hm:X.mg "range"=none) (ha:AD X [a,b] f) (hs:starEach [a,b] X.env=[(false,eval a X.env),(false,eval b X.env)]:=by rfl) (hs2:starEach [b] X.env=[(false,eval b X.env)]:=by rfl) :
    ID X tg (.Call (.Name "range" p) [a,b] [] pos) (YE Y1 f):=by
  obtain ⟨t,pa,r⟩:=ha
  refine ⟨_,zea hg hm pa hs hs2,fun σ ρ F H ds R s va e q=>?_⟩
  obtain ⟨d,e1,e2⟩:=Option.bind_eq_some_iff.mp e
  refine r σ ρ F H d _ s va e1 fun F1 H1 v g1 a1=>?_
  unfold Y1 at e2
  split at e2
  · split at e2
    · cases e2
      rename_i hc
      obtain ⟨x,r',rfl,ax,ar⟩:=a1.cons_inv
      obtain ⟨y,r',rfl,ay,ar⟩:=ar.cons_inv
      cases ar.nil_inv
      exact ⟨_,_,by rw [ax.int_inv,ay.int_inv],⟨(xR.mp hc.1).1,(xR.mp hc.1).2,(xR.mp hc.2).1,(xR.mp hc.2).2⟩,q F1 H1 _ g1 (zew _ _)⟩
    · cases e2
  · cases e2
noncomputable def WB (n:Nat):List D→List D
  | []=>[]
  | d::ds=>.tup [.int n,d]::WB (n+1) ds
omit [KK] in
theorem ZP (ds:List D):∀ (n i:Nat),(WB n ds)[i]?=(ds[i]?).map fun d=>.tup [.int ((n+i:Nat):Int),d]:=by
  induction ds with
  | nil=>intro n i;simp [WB]
  | cons d ds ih =>
    intro n i
    cases i with
    | zero=>simp [WB]
    | succ i =>
      show (WB (n+1) ds)[i]?=(ds[i]?).map _
      rw [ih]
      have:n+1+i=n+(i+1):=by omega
      rw [this]
omit [KK] in
theorem YY (ds:List D):∀ n,(WB n ds).length=ds.length:=by
  induction ds with
  | nil=>intro n;rfl
  | cons d ds ih=>intro n;simp [WB,ih]
noncomputable def yq (f:Ev→Option (List D)):Ev→Option (List D):=fun ρ=>(f ρ).bind fun as=>match as with
  | [d]=>(xo d).map (WB 0)
  | _=>none
theorem zcX {es:List Expr} {k:Nat} {tp p:Pos} {f:Ev→Option (List D)} (hg:Gl X "enumerate") (hm:X.mg "enumerate"=none) (hb:bootBuiltins "enumerate"=some (.type "enumerate")) (ha:AD X [a] f)
    (hs:starEach [a] X.env=[(false,eval a X.env)]:=by rfl):ID X (.Tuple es k tp) (.Call (.Name "enumerate" p) [a] [] pos) (yq f):=by
  obtain ⟨t,pa,r⟩:=ha
  refine ⟨_,zh5 hg hm hb pa hs,fun σ ρ F H ds R s va e q=>?_⟩
  obtain ⟨as,e1,e2⟩:=Option.bind_eq_some_iff.mp e
  refine r σ ρ F H as _ s va e1 fun F1 H1 v g1 a1=>?_
  split at e2
  · obtain ⟨x,r',rfl,ax,ar⟩:=a1.cons_inv
    cases ar.nil_inv
    obtain ⟨es,e3,rfl⟩:=Option.map_eq_some_iff.mp e2
    rename_i d
    cases d <;> try cases e3
    · obtain ⟨p,xs,rfl,hx,al⟩:=ax.tup_inv
      refine ⟨p,rfl,.inr ⟨xs,SqT.of (g1.fh _ _ hx),q F1 H1 _ g1 fun i F2 H2 s1 s2=>?_⟩⟩
      have qq:SqT X.K H2 p xs:=SqT.of (s2 _ _ (s1 _ _ hx))
      refine ⟨fun hl=>⟨xs,qq,by rw [al.length,hl,YY];exact Nat.le_refl _⟩,fun d hd=>?_⟩
      rw [ZP] at hd
      obtain ⟨d',hd',rfl⟩:=Option.map_eq_some_iff.mp hd
      obtain ⟨x,hxi,ax⟩:=al.get hd'
      refine ⟨⟨xs,x,qq,hxi⟩,fun y H3 hy=>?_⟩
      obtain ⟨T,y,rfl,hT,rfl,hy⟩:=hy
      have:=hy xs qq
      rw [hxi] at this
      cases this
      have g3:=Gr.alloc s2 hT (.tup [.int i,x])
      exact ⟨_,g3,.tup zn (.cons (by rw [Nat.zero_add];exact .int) (.cons (ax.mono (s1.trans g3.ff)) .nil))⟩
    · obtain ⟨p,xs,rfl,hx,al⟩:=ax.lst_inv
      refine ⟨p,rfl,.inl ⟨xs,g1.fh _ _ hx,q F1 H1 _ g1 fun i F2 H2 s1 s2=>?_⟩⟩
      have qq:SqL X.K H2 p xs:=SqL.of (s2 _ _ (s1 _ _ hx))
      refine ⟨fun hl=>⟨xs,qq,by rw [al.length,hl,YY];exact Nat.le_refl _⟩,fun d hd=>?_⟩
      rw [ZP] at hd
      obtain ⟨d',hd',rfl⟩:=Option.map_eq_some_iff.mp hd
      obtain ⟨x,hxi,ax⟩:=al.get hd'
      refine ⟨⟨xs,x,qq,hxi⟩,fun y H3 hy=>?_⟩
      obtain ⟨T,y,rfl,hT,rfl,hy⟩:=hy
      have:=hy xs qq
      rw [hxi] at this
      cases this
      have g3:=Gr.alloc s2 hT (.tup [.int i,x])
      exact ⟨_,g3,.tup zn (.cons (by rw [Nat.zero_add];exact .int) (.cons (ax.mono (s1.trans g3.ff)) .nil))⟩
  · cases e2
noncomputable def hb2 (F1 Hb:Hp):Hp:=fun p=>match F1 p with
  | some o=>some o
  | none=>Hb p
theorem XR {F1 Hb:Hp}{p:Addr}(h:F1 p=none):hb2 F1 Hb p=Hb p:=by unfold hb2;rw [h]
theorem ze6 {F1 Hb:Hp}{p:Addr}{o:HO}(h:F1 p=some o):hb2 F1 Hb p=some o:=by unfold hb2;rw [h]
theorem Gr.up {Fb Hb F1 H1 F H:Hp}(g1:Gr Fb Hb F1 H1)(g:Gr F1 (hb2 F1 Hb) F H):Gr Fb Hb F H:=by
  refine ⟨g1.ff.trans g.ff,g.fh,fun p o e1 e2=>?_⟩
  rcases (g1.kp p o e1 e2).1 with n | ⟨n1,n2⟩
  · exact g.kp p o n (by rw [XR n];exact e2)
  · exact ⟨.inr ⟨n1,g.ff _ _ n2⟩,g.fh _ _ (g.ff _ _ n2)⟩
theorem Gr.dn {Fb Hb F1 F H:Hp}(g:Gr Fb Hb F H)(s1:yJ Fb F1)(s:yJ F1 F):Gr F1 (hb2 F1 Hb) F H:=by
  refine ⟨s,g.fh,fun p o e1 e2=>?_⟩
  rw [XR e1] at e2
  exact g.kp p o (s1.free e1) e2
theorem Rl.up {Fb Hb F1 H1 F H:Hp}{ρ:SE}{σ:St}(g1:Gr Fb Hb F1 H1)(r:Rl F1 (hb2 F1 Hb) F H ρ σ):Rl Fb Hb F H ρ σ:=by
  refine ⟨g1.up r.gr,r.vals,fun i s e ho=>?_,r.dis,r.len⟩
  obtain ⟨p,o,e1,e2,e3⟩:=r.ows i s e ho
  refine ⟨p,o,e1,?_,e3⟩
  cases h:F1 p with
  | none=>rw [XR h] at e2;exact e2
  | some o=>rw [ze6 h] at e2;cases e2
theorem Rl.dn {Fb Hb F1 F H:Hp}{ρ:SE}{σ:St}(r:Rl Fb Hb F H ρ σ)(s1:yJ Fb F1)(s:yJ F1 F):Rl F1 (hb2 F1 Hb) F H ρ σ:=by
  refine ⟨r.gr.dn s1 s,r.vals,fun i t e ho=>?_,r.dis,r.len⟩
  obtain ⟨p,o,e1,e2,e3,e4⟩:=r.ows i t e ho
  refine ⟨p,o,e1,?_,e3,e4⟩
  rw [XR (s.free e3)]
  exact e2
noncomputable def zc4 (b:D→SE→Option SE)(g:SE→Ctl):List D→SE→Ctl
  | [],ρ=>.nx ρ
  | d::ds,ρ=>match b d ρ with
    | none=>.no
    | some ρ1=>match g ρ1 with
      | .nx ρ'=>zc4 b g ds ρ'
      | .ct ρ'=>zc4 b g ds ρ'
      | .bk ρ'=>.nx ρ'
      | .rt d=>.rt d
      | .no=>.no
noncomputable def Yq (f:Ev→Option (List D))(b:D→SE→Option SE)(g:SE→Ctl):SE→Ctl:=fun ρ=>match f (visF ρ) with
  | some ds=>zc4 b g ds ρ
  | none=>.no
theorem zgQ {Fb Hb F1 H1:Hp}{ρ:SE}{σ:St}{E:zae}{J:It}{g:TG}{tb:TS}{ds:List D}{b:D→SE→Option SE}{gb:SE→Ctl}(hit:zii J F1 ds)(rg:RG g b)(rb:RS tb gb)(rl0:Rl Fb Hb F1 H1 ρ σ)(k:SOk Fb Hb E (zc4 b gb ds ρ)) :
    ∃ W:Nat→Nat→St→Hp→Prop,(∃ m,W 0 m σ H1)∧∀ i m σ H,W i m σ H →
      (J.stop i H∧E.nx σ H)∨(J.go i H∧∃ N:St→Hp→Prop,(∀ σ' H',N σ' H'→∃ m',m' < m∧W (i+1) m' σ' H')∧∀ x H',J.yld i H x H'→g x σ H' fun σ2 H2=>tb { E with nx:=N,ct:=N,bk:=E.nx } σ2 H2):=by
  refine ⟨fun i m σ H=>m=ds.length - i∧i≤ds.length∧∃ F ρ,yJ F1 F∧Rl Fb Hb F H ρ σ∧SOk Fb Hb E (zc4 b gb (ds.drop i) ρ),⟨ds.length,by simp,Nat.zero_le _,F1,ρ,yJ.refl _,rl0,k⟩,?_⟩
  rintro i m σ H ⟨rfl,hi,F,ρ,s1,rl,k⟩
  obtain ⟨stop,go⟩:=hit i F H s1 rl.gr.fh
  by_cases hlt:i < ds.length
  · have hd:ds.drop i=ds[i]::ds.drop (i+1):=List.drop_eq_getElem_cons hlt
    rw [hd] at k
    unfold zc4 at k
    obtain ⟨g1,g2⟩:=go ds[i] (by simp [hlt])
    refine .inr ⟨g1,fun σ H=>∃ F ρ,yJ F1 F∧Rl Fb Hb F H ρ σ∧SOk Fb Hb E (zc4 b gb (ds.drop (i+1)) ρ),fun σ' H' w=>⟨ds.length - (i+1),by omega,rfl,hlt,w⟩,fun x H' hy=>?_⟩
    obtain ⟨F3,g3,a3⟩:=g2 x H' hy
    cases hb:b ds[i] ρ with
    | none=>rw [hb] at k;exact k.elim
    | some ρ1 =>
      rw [hb] at k
      dsimp only at k
      refine rg Fb Hb F3 H' ρ ρ1 σ _ x _ (rl.grow g3) a3 hb fun σ2 rl2=>?_
      have s3:=s1.trans g3.ff
      refine rb F1 (hb2 F1 Hb) F3 H' ρ1 σ2 _ (rl2.dn rl0.gr.ff s3) ?_
      cases hg:gb ρ1 with
      | nx ρ'=>rw [hg] at k;exact fun F4 H4 σ4 r4=>⟨F4,ρ',r4.gr.ff,r4.up rl0.gr,k⟩
      | ct ρ'=>rw [hg] at k;exact fun F4 H4 σ4 r4=>⟨F4,ρ',r4.gr.ff,r4.up rl0.gr,k⟩
      | bk ρ'=>rw [hg] at k;exact fun F4 H4 σ4 r4=>k F4 H4 σ4 (r4.up rl0.gr)
      | rt d=>rw [hg] at k;exact fun F4 H4 v g4 a4=>k F4 H4 v (rl0.gr.up g4) a4
      | no=>rw [hg] at k;exact k.elim
  · have e:i=ds.length:=by omega
    subst e
    rw [List.drop_length] at k
    exact .inl ⟨stop rfl,k F H σ rl⟩
theorem Wu {iter:Expr}{body:List Stmt}{f:Ev→Option (List D)}{b:D→SE→Option SE}{g:SE→Ctl}(hp:PassesOwn (model X.prog X.w) X.A X.env X.xe)(hc:X.calm=true)(hi:ID X tg iter f)(hg:BD X tg b)(hb:SDs X body g)
    (hs:∀ x,foldedSetIterable iter X.env x=pure x:=by intro _;rfl):SD X (.For tg iter body [] pos) (Yq f b g):=by
  obtain ⟨wi,pi,ri⟩:=hi
  obtain ⟨tg',pg,rg⟩:=hg
  obtain ⟨tb,pb,rb⟩:=hb
  refine ⟨_,zgH hp hc pi pg pb hs,fun Fb Hb F H ρ σ E rl k=>?_⟩
  unfold Yq at k
  cases h:f (visF ρ) with
  | none=>rw [h] at k;exact k.elim
  | some ds =>
    rw [h] at k
    exact ri σ _ _ H ds _ rl.gr.fh rl.visF h fun F1 H1 J g1 ok=>zgQ ok rg rb (rl.grow g1) k
end
noncomputable def lcD (b:D→Option (List (Option D)))(t:Ev→Option Bool)(f:Ev→Option D)(ρ:Ev):List D→Option (List D)
  | []=>some []
  | d::ds=>(b d).bind fun own=>(t (own++ρ)).bind fun c=>if c=true then (f (own++ρ)).bind fun y=>(lcD b t f ρ ds).map (y::·) else lcD b t f ρ ds
noncomputable def fLC (i:Ev→Option (List D))(b:D→Option (List (Option D)))(t:Ev→Option Bool)(f:Ev→Option D):Ev→Option (List D):=fun ρ=>(i ρ).bind fun ds=>if lim ds.length=true then lcD b t f ρ ds else none
noncomputable def b1:D→Option (List (Option D)):=fun d=>some [some d]
noncomputable def b2:D→Option (List (Option D))
  | .tup [x,y]=>some [some x,some y]
  | _=>none
noncomputable def RB (n:Nat)(t:TG)(b:D→Option (List (Option D))):Prop:=∀ (σ:St) (ρ:Ev) (F H:Hp) (d:D) (v:V) (own:List (Option D)) (Q:St→Hp→Prop),yJ F H→VAt F ρ σ→At F d v→b d=some own→(∀ σ',VAt F (own++ρ) σ'→Q σ' H)→t v (List.replicate n none++σ) H Q
noncomputable def yZ:Ev→Option Bool:=fun _=>some true
theorem zi6:RT tYes yZ:=fun _ _ _ _ _ _ s _ e q=>by cases e;exact q _ _ (.refl s)
theorem zhJ {wi:TI}{n:Nat}{g:TG}{tt:TT}{te:TE}{fi:Ev→Option (List D)}{b:D→Option (List (Option D))}{ft:Ev→Option Bool}{fe:Ev→Option D}(ri:RI wi fi)(rg:RB n g b)(rt:RT tt ft)(re:RE te fe) :
    RF (tLC wi n g tt te) (fLC fi b ft fe):=by
  intro σ ρ F H out Q s va e q
  obtain ⟨ds,e1,e2⟩:=Option.bind_eq_some_iff.mp e
  split at e2 <;> try cases e2
  rename_i hlim
  have hlim:ds.length≤sizeLine:=of_decide_eq_true hlim
  refine ri σ ρ F H ds _ s va e1 fun F1 H1 J g1 ok=>?_
  intro P hP
  have hF1:F1 P=none:=g1.fh.free hP
  have hH0:H P=none:=by
    cases e:H P with
    | none=>rfl
    | some o =>
      cases e2:F P with
      | none=>rw [(g1.kp P o e2 e).2] at hP;cases hP
      | some u=>rw [g1.fh _ _ (g1.ff _ _ e2)] at hP;cases hP
  refine ⟨fun i m ys H2=>m=ds.length - i∧i≤ds.length∧∃ F2 done,Gr F1 H1 F2 H2∧Gr F1 (upd H1 P (.lst [])) F2 (upd H2 P (.lst []))∧F2 P=none∧H2 P=some (.lst ys)∧AtL F2 done ys∧done.length≤i∧∃ more,lcD b ft fe ρ (ds.drop i)=some more∧done++more=out,⟨ds.length,by simp,Nat.zero_le _,F1,[],Gr.hide g1.fh hP _,?_,hF1,zn,.nil,Nat.zero_le _,out,e2,rfl⟩,?_⟩
  · rw [zbp]
    exact .refl fun b u z=>by rw [zm (zk z hF1)];exact g1.fh b u z
  rintro i m ys H2 ⟨rfl,hi,F2,done,g2,g2',hF2,hH2,al,hdl,more,hm,hout⟩
  obtain ⟨stop,go⟩:=ok i F2 H2 g2.ff g2.fh
  by_cases hlt:i < ds.length
  · have hd:ds.drop i=ds[i]::ds.drop (i+1):=List.drop_eq_getElem_cons hlt
    rw [hd] at hm
    unfold lcD at hm
    obtain ⟨own,hb,hm⟩:=Option.bind_eq_some_iff.mp hm
    obtain ⟨cb,hc,hm⟩:=Option.bind_eq_some_iff.mp hm
    obtain ⟨k1,k2⟩:=go ds[i] (by simp [hlt])
    refine .inr ⟨k1,by rw [al.length];omega,fun x H3 hy=>?_⟩
    obtain ⟨F3,g3,a3⟩:=k2 x H3 hy
    refine rg σ ρ F3 H3 ds[i] x own _ g3.fh (va.mono (g1.ff.trans (g2.ff.trans g3.ff))) a3 hb fun σ4 va4=>?_
    refine rt σ4 _ F3 H3 cb _ g3.fh va4 hc fun F5 H5 g5=>?_
    have g35:=g3.trans g5
    obtain ⟨n5,h5⟩:=g35.kl (fun _ e=>by cases e) hF2 hH2
    have keep2:∀ {F6 H6:Hp} {o:HO},Gr F2 H2 F6 H6→F6 P=none→Gr F1 (upd H1 P (.lst [])) F6 (upd (upd H6 P o) P (.lst [])):=fun {F6 H6 o} g6 n6=>by
      rw [zbp]
      refine ⟨g2.ff.trans g6.ff,fun b u z=>?_,fun b u z1 z2=>?_⟩
      · rw [zm (zk z n6)];exact g6.fh b u z
      · by_cases hbP:b=P
        · subst hbP
          rw [zn] at z2 ⊢
          exact ⟨.inl n6,z2⟩
        · rw [zm hbP] at z2 ⊢
          exact (g2.trans g6).kp b u z1 z2
    have keep1:∀ {F6 H6:Hp} {o:HO},Gr F2 H2 F6 H6→F6 P=none→Gr F1 H1 F6 (upd H6 P o):=fun {F6 H6 o} g6 n6=>by
      refine ⟨g2.ff.trans g6.ff,fun b u z=>?_,fun b u z1 z2=>?_⟩
      · rw [zm (zk z n6)];exact g6.fh b u z
      · rw [zm (zk z2 hP)]
        exact (g2.trans g6).kp b u z1 z2
    cases cb with
    | false =>
      rw [if_neg Bool.false_ne_true] at hm ⊢
      have ups:H5=upd H5 P (.lst ys):=by
        funext b
        by_cases hbP:b=P
        · subst hbP;rw [zn];exact h5
        · rw [zm hbP]
      refine ⟨ds.length - (i+1),by omega,rfl,hlt,F5,done,?_,?_,n5,h5,al.mono g35.ff,by omega,more,hm,hout⟩
      · rw [ups];exact keep1 g35 n5
      · have:=keep2 (o:=.lst ys) g35 n5
        rw [←ups] at this
        exact this
    | true =>
      rw [if_pos rfl] at hm ⊢
      obtain ⟨y,hy,hm⟩:=Option.bind_eq_some_iff.mp hm
      obtain ⟨rest,hm',rfl⟩:=Option.map_eq_some_iff.mp hm
      refine re σ4 _ F5 H5 y _ g5.fh (va4.mono g5.ff) hy fun F6 H6 v g6 a6=>?_
      have g36:=g35.trans g6
      obtain ⟨n6,h6⟩:=g36.kl (fun _ e=>by cases e) hF2 hH2
      refine ⟨h6,ds.length - (i+1),by omega,rfl,hlt,F6,done++[y],keep1 g36 n6,keep2 g36 n6,n6,zn,(al.mono g36.ff).snoc a6,by rw [List.length_append];simp;omega,rest,hm',by rw [←hout,List.append_assoc];rfl⟩
  · have e:i=ds.length:=by omega
    subst e
    rw [List.drop_length] at hm
    cases hm
    rw [List.append_nil] at hout
    subst hout
    exact .inl ⟨stop rfl,q F2 H2 P ys (g1.trans g2) hH0 hF2 hH2 al⟩
theorem rb1:RB 1 (V7 0) b1:=by
  intro σ ρ F H d v own Q s va av e q
  cases e
  refine q _ fun i d' h=>?_
  cases i with
  | zero=>cases h;exact ⟨v,rfl,av⟩
  | succ i=>exact va i d' h
noncomputable def tCan (f:Ev→Option D):TE:=fun σ H Q=>∃ ρ F d,yJ F H∧VAt F ρ σ∧f ρ=some d∧∀ F' H' v,Gr F H F' H'→At F' d v→Q v H'
noncomputable def zjK (f:Ev→Option Bool):TT:=fun σ H Q=>∃ ρ F d,yJ F H∧VAt F ρ σ∧f ρ=some d∧∀ F' H',Gr F H F' H'→Q d H'
theorem ED.can {X:Cx}{e:Expr}{f:Ev→Option D}(h:ED X e f):PE X e (tCan f):=by
  obtain ⟨t,p,r⟩:=h
  rintro pins s σ H Q I ⟨ρ,F,d,h1,h2,h3,h4⟩
  exact p pins s σ H Q I (r σ ρ F H d Q h1 h2 h3 h4)
theorem TD.can {X:Cx}{e:Expr}{f:Ev→Option Bool}(h:TD X e f):PT X e (zjK f):=by
  obtain ⟨t,p,r⟩:=h
  rintro pins s σ H Q I ⟨ρ,F,d,h1,h2,h3,h4⟩
  exact p pins s σ H Q I (r σ ρ F H d Q h1 h2 h3 h4)
theorem zdT {f:Ev→Option D}:RE (tCan f) f:=fun _ ρ F _ d _ h1 h2 h3 h4=>⟨ρ,F,d,h1,h2,h3,h4⟩
theorem zgy {f:Ev→Option Bool}:RT (zjK f) f:=fun _ ρ F _ d _ h1 h2 h3 h4=>⟨ρ,F,d,h1,h2,h3,h4⟩
theorem zbG {X:Cx}{elt tg iter:Expr}{L M:List Str}{scope:Scope}{cl:List (Str × Addr)}{pos:Pos}{fi:Ev→Option (List D)}{b:D→Option (List (Option D))}{fe:Ev→Option D}{g:TG}
    (hc:X.calm=true) (S:vT X L M scope cl) (hi:ID X tg iter fi)
    (hgS:∀ (σ:St) (v:V) (H:Hp) (Q:St→Hp→Prop),g v (List.replicate L.length none++σ) H Q→g v (List.replicate L.length none++σ) H (fun σ2 H2=>Z5 (List.replicate L.length none++σ) σ2∧Q σ2 H2))
    (hrb:RB L.length g b)
    (hg:∀ s₀ H₀ ex pn,PG (zcR X L M scope cl s₀ H₀ ex pn) tg g) (he:∀ s₀ H₀ ex pn,ED (zcR X L M scope cl s₀ H₀ ex pn) elt fe)
    (hs:∀ x,foldedSetIterable iter X.env x=pure x:=by intro _;rfl):FL X (.ListComp elt [⟨tg,iter,[],0⟩] scope pos) (fLC fi b yZ fe):=by
  obtain ⟨wi,pi,ri⟩:=hi
  exact ⟨_,zgD hc S pi hgS hg (fun _ _ _ _=>zg5) (fun _ _ _ _=>(he _ _ _ _).can) hs,zhJ ri hrb zi6 zdT⟩
theorem zgK {X:Cx}{elt tg iter c:Expr}{L M:List Str}{scope:Scope}{cl:List (Str × Addr)}{pos:Pos}{fi:Ev→Option (List D)}{b:D→Option (List (Option D))}{ft:Ev→Option Bool}{fe:Ev→Option D}{g:TG}
    (hc:X.calm=true) (S:vT X L M scope cl) (hi:ID X tg iter fi)
    (hgS:∀ (σ:St) (v:V) (H:Hp) (Q:St→Hp→Prop),g v (List.replicate L.length none++σ) H Q→g v (List.replicate L.length none++σ) H (fun σ2 H2=>Z5 (List.replicate L.length none++σ) σ2∧Q σ2 H2))
    (hrb:RB L.length g b)
    (hg:∀ s₀ H₀ ex pn,PG (zcR X L M scope cl s₀ H₀ ex pn) tg g) (ht:∀ s₀ H₀ ex pn,TD (zcR X L M scope cl s₀ H₀ ex pn) c ft) (he:∀ s₀ H₀ ex pn,ED (zcR X L M scope cl s₀ H₀ ex pn) elt fe)
    (hs:∀ x,foldedSetIterable iter X.env x=pure x:=by intro _;rfl):FL X (.ListComp elt [⟨tg,iter,[c],0⟩] scope pos) (fLC fi b ft fe):=by
  obtain ⟨wi,pi,ri⟩:=hi
  exact ⟨_,zgD hc S pi hgS hg (fun _ _ _ _=>zeO (ht _ _ _ _).can) (fun _ _ _ _=>(he _ _ _ _).can) hs,zhJ ri hrb zgy zdT⟩
noncomputable def fnD (n:Nat)(g:SE→Ctl)(ds:List D):Option D:=match g (ds.map .v++List.replicate (n - ds.length) .no) with
  | .rt d=>some d
  | .nx _=>some .non
  | _=>none
noncomputable def spD (m:Nat)(p:List D→Option D):Sp:=fun vs H Q _=>∃ ds d F,ds.length=m∧yJ F H∧AtL F ds vs∧p ds=some d∧∀ F' H' v,Gr F H F' H'→At F' d v→Q v H'
theorem zbT {F H:Hp}{N:List Str}{ds:List D}{vs:List V}(s:yJ F H)(a:AtL F ds vs):Rl F H F H (ds.map .v++List.replicate (N.length - ds.length) .no) (L2.start N vs):=by
  have hl:=a.length
  have noO:∀ (i:Nat) (t:Sl),(ds.map Sl.v++List.replicate (N.length - ds.length) Sl.no)[i]?=some t→t.isO=true→False:=fun i t h ho=>by
    by_cases hi:i < ds.length
    · rw [List.getElem?_append_left (by simpa using hi),List.getElem?_map] at h
      cases e:ds[i]? with
      | none=>rw [e] at h;cases h
      | some d=>rw [e] at h;cases h;cases ho
    · rw [List.getElem?_append_right (by simpa using hi),List.getElem?_replicate] at h
      split at h <;> cases h
      cases ho
  refine ⟨.refl s,fun i d h=>?_,fun i t h ho=>(noO i t h ho).elim,fun i j p t u h _ ho=>(noO i t h ho).elim,?_⟩
  · by_cases hi:i < ds.length
    · rw [List.getElem?_append_left (by simpa using hi),List.getElem?_map] at h
      cases e:ds[i]? with
      | none=>rw [e] at h;cases h
      | some d' =>
        rw [e] at h
        cases h
        obtain ⟨x,hx,ax⟩:=a.get e
        refine ⟨x,?_,ax⟩
        unfold L2.start
        rw [List.getElem?_append_left (by simpa [hl] using hi),List.getElem?_map,hx]
        rfl
    · rw [List.getElem?_append_right (by simpa using hi),List.getElem?_replicate] at h
      split at h <;> cases h
  · unfold L2.start
    simp [hl]
theorem xK {P:Program}{w:World}{K:PySem.W.Frag}{mg:Str→Option Value}{base:Heap}{x qual:Str}{st:Stmt}{f:Addr}{fd:FuncData}{N ps:List Str}{k:Nat}{g:SE→Ctl}(Fu:Fun K x qual st f fd)(S:zu N ps (ze st))
    (hb:∀ (cdv:Value) (A:Around) (outer:List Env) (s:Shared) (H:Hp) (E:XK),v0 k (A.deeper (PyProof.Rows.envOfC qual (ze st) s.heap.objs.size f cdv))→SDs (YC CX0 P w K mg base N qual (ze st) f cdv A outer s H E).nox (zt st) g) :
    xB P w K mg base CX0 (k+1) f fd ps (spD ps.length (fnD N.length g)):=by
  refine Fu.ok S (fun vs H Q E h=>?_) fun cdv A outer s H vs Q E hr h=>?_
  · obtain ⟨ds,d,F,hl,_,a,_⟩:=h
    rw [a.length];exact hl
  · obtain ⟨ds,d,F,hl,sm,a,e,q⟩:=h
    obtain ⟨t,p,r⟩:=hb cdv A outer s H E hr
    refine ⟨t,p,r F H F H _ _ _ (zbT sm a) ?_⟩
    unfold fnD at e
    cases hg:g (ds.map .v++List.replicate (N.length - ds.length) .no) with
    | rt d'=>rw [hg] at e;cases e;exact fun F' H' v g av=>q F' H' v g av
    | nx ρ=>rw [hg] at e;cases e;exact fun F' H' σ rl=>q F' H' _ rl.gr .non
    | bk ρ=>rw [hg] at e;cases e
    | ct ρ=>rw [hg] at e;cases e
    | no=>rw [hg] at e;cases e
theorem wO {P:Program}{w:World}{K:PySem.W.Frag}{mg:Str→Option Value}{base:Heap}{f:Addr}{fd:FuncData}{ps:List Str}{k m:Nat}{p q:List D→Option D}(F:xB P w K mg base CX0 k f fd ps (spD m p))(h:∀ ds d,ds.length=m→q ds=some d→p ds=some d):xB P w K mg base CX0 k f fd ps (spD m q) :=
  F.imp fun vs H Q E ⟨ds,d,F',h1,h2,h3,h4,h5⟩=>⟨ds,d,F',h1,h2,h3,h ds d h1 h4,h5⟩
noncomputable def zo (m:Nat)(p:List D→Option D)(f:Ev→Option (List D)):Ev→Option D:=fun ρ=>(f ρ).bind fun ds=>if ds.length=m then p ds else none
theorem zl {X:Cx}{x:Str}{k m:Nat}{f:Addr}{fd:FuncData}{ps:List Str}{p:List D→Option D}{e:Expr}{es:List Expr}{pp pos:Pos}{fa:Ev→Option (List D)}(F:xB X.prog X.w X.K X.mg X.base CX0 k f fd ps (spD m p))(hr:v0 k X.A)(hg:Gl X x)(hm:X.mg x=some (.ref f))(hk:PySem.W.keepIn X.K (.ref f)=true)(hb:XH X.K fd ps [])
    (ha:AD X (e::es) fa) (hdb:(x == ("__debug__":Str))=false:=by decide) (he:starEach (e::es) X.env=(false,eval e X.env)::starEach es X.env:=by rfl) (hpl:(backTo pos (starEach es X.env)).any (·.1)=false:=by rfl) :
    ED X (.Call (.Name x pp) (e::es) [] pos) (zo m p fa):=by
  obtain ⟨t,pa,r⟩:=ha
  refine ⟨_,zdf F hr hg hm hk hb .nil zkH pa hdb he hpl,fun σ ρ F0 H d Q s va e q=>?_⟩
  obtain ⟨ds,e1,e2⟩:=Option.bind_eq_some_iff.mp e
  split at e2 <;> try cases e2
  rename_i hl
  refine r σ ρ F0 H ds _ s va e1 fun F1 H1 vs g1 a1=>?_
  refine ⟨ds,d,F1,hl,g1.fh,by rw [List.append_nil];exact a1,e2,fun F' H' v g av=>q F' H' v (g1.trans g) av⟩
end Dl
namespace Dl
open PySem L2
variable [KK]
section
variable {X:Cx}{a b c e:Expr}{pos:Pos}
theorem zy:bootBuiltins "isinstance"=some (.builtin "isinstance"):=by decide +kernel
theorem W0:bootBuiltins "len"=some (.builtin "len"):=by decide +kernel
theorem zgs:bootBuiltins "min"=some (.builtin "min"):=by decide +kernel
theorem ziQ:bootBuiltins "max"=some (.builtin "max"):=by decide +kernel
theorem Zj:bootBuiltins "sum"=some (.builtin "sum"):=by decide +kernel
theorem ziS:bootBuiltins "all"=some (.builtin "all"):=by decide +kernel
theorem ziz:bootBuiltins "any"=some (.builtin "any"):=by decide +kernel
theorem zc3:bootBuiltins "int"=some (.type "int"):=by decide +kernel
theorem W9:bootBuiltins "bool"=some (.type "bool"):=by decide +kernel
theorem vc:bootBuiltins "tuple"=some (.type "tuple"):=by decide +kernel
theorem Vl:bootBuiltins "list"=some (.type "list"):=by decide +kernel
theorem zgJ:bootBuiltins "str"=some (.type "str"):=by decide +kernel
theorem Xt:bootBuiltins "enumerate"=some (.type "enumerate"):=by decide +kernel
theorem zjG:bootBuiltins "zip"=some (.type "zip"):=by decide +kernel
noncomputable def Za (C:Int→Int→Bool)(g:Int→Int→Int):D→D→Option D
  | .int i,.int j=>if C i j=true then some (.int (g i j)) else none
  | _,_=>none
noncomputable def xN (g:Int→Int→Int):D→D→Option D
  | .int i,.int j=>some (.int (g i j))
  | _,_=>none
noncomputable def Zh (g:Int→Int→Bool):D→D→Option D
  | .int i,.int j=>some (.bl (g i j))
  | _,_=>none
theorem ZY {C:Int→Int→Prop}{Cb:Int→Int→Bool}{g:Int→Int→Int}(h:∀ i j,Cb i j=true→C i j):OpD (rI C fun i j=>.int (g i j)) (Za Cb g):=by
  intro F H x y d e z Q s ax ay ez q
  cases d <;> try cases ez
  cases e <;> try cases ez
  unfold Za at ez
  dsimp only at ez
  split at ez <;> cases ez
  rename_i hc
  exact ⟨_,_,ax.int_inv,ay.int_inv,h _ _ hc,q F H _ (.refl s) .int⟩
theorem V6 {g:Int→Int→Int}:OpD (rI0 fun i j=>.int (g i j)) (xN g):=by
  intro F H x y d e z Q s ax ay ez q
  cases d <;> try cases ez
  cases e <;> try cases ez
  exact ⟨_,_,ax.int_inv,ay.int_inv,q F H _ (.refl s) .int⟩
theorem xa {g:Int→Int→Bool}:OpD (rI0 fun i j=>.bl (g i j)) (Zh g):=by
  intro F H x y d e z Q s ax ay ez q
  cases d <;> try cases ez
  cases e <;> try cases ez
  exact ⟨_,_,ax.int_inv,ay.int_inv,q F H _ (.refl s) .bl⟩
theorem VU {r r':R2}{g g':D→D→Option D}(h:OpD r g)(h':OpD r' g'):OpD (fun x y H Q=>r x y H Q∨r' x y H Q) (fun d e=>(g d e).or (g' d e)):=by
  intro F H x y d e z Q s ax ay ez q
  dsimp only at ez
  cases hg:g d e with
  | some z'=>rw [hg] at ez;cases ez;exact .inl (h F H x y d e z Q s ax ay hg q)
  | none=>rw [hg] at ez;exact .inr (h' F H x y d e z Q s ax ay ez q)
noncomputable def zjt:D→D→Option D
  | .tup a,.tup b=>if lim (a.length+b.length)=true then some (.tup (a++b)) else none
  | _,_=>none
noncomputable def zg6:D→D→Option (List D)
  | .lst a,.lst b=>if lim (a.length+b.length)=true then some (a++b) else none
  | _,_=>none
noncomputable def zes (d e:D):Option D:=(zg6 d e).map .lst
noncomputable def zi8:D→D→Option D
  | .str a,.str b=>if lim (a.length+b.length)=true then some (.str (a++b)) else none
  | _,_=>none
theorem zfF {K:PySem.W.Frag}:OpD (zgC K) zjt:=by
  intro F H x y d e z Q s ax ay ez q
  cases d <;> try cases ez
  cases e <;> try cases ez
  unfold zjt at ez
  dsimp only at ez
  split at ez <;> cases ez
  rename_i hl
  obtain ⟨p,xs,rfl,hx,al⟩:=ax.tup_inv
  obtain ⟨p2,ys,rfl,hy,bl⟩:=ay.tup_inv
  refine ⟨p,p2,xs,ys,rfl,rfl,SqT.of (s _ _ hx),SqT.of (s _ _ hy),by rw [al.length,bl.length];exact of_decide_eq_true hl,fun e1=>?_,fun _ e2=>?_,fun _ _ r hr=>?_⟩
  · subst e1
    have:(_:List D)=[]:=List.length_eq_zero_iff.mp al.length.symm
    subst this
    exact q F H _ (.refl s) (.tup hy bl)
  · subst e2
    have:(_:List D)=[]:=List.length_eq_zero_iff.mp bl.length.symm
    subst this
    rw [List.append_nil] at q
    exact q F H _ (.refl s) (.tup hx al)
  · have g:=Gr.alloc s hr (.tup (xs++ys))
    exact q _ _ _ g (.tup zn ((al.append bl).mono g.ff))
theorem ze0:OpD zkt zes:=by
  intro F H x y d e z Q s ax ay ez q
  cases d <;> try cases ez
  cases e <;> try cases ez
  unfold zes zg6 at ez
  dsimp only at ez
  split at ez <;> cases ez
  rename_i hl
  obtain ⟨p,xs,rfl,hx,al⟩:=ax.lst_inv
  obtain ⟨p2,ys,rfl,hy,bl⟩:=ay.lst_inv
  refine ⟨p,p2,xs,ys,rfl,rfl,s _ _ hx,s _ _ hy,by rw [al.length,bl.length];exact of_decide_eq_true hl,fun r hr=>?_⟩
  have g:=Gr.alloc s hr (.lst (xs++ys))
  exact q _ _ _ g (.lst zn ((al.append bl).mono g.ff))
theorem zfg:OpD (fun x y H Q=>∃ i j,x=.str i∧y=.str j∧i.length+j.length≤sizeLine∧Q (.str (i++j)) H) zi8:=by
  intro F H x y d e z Q s ax ay ez q
  cases d <;> try cases ez
  cases e <;> try cases ez
  unfold zi8 at ez
  dsimp only at ez
  split at ez <;> cases ez
  rename_i hl
  exact ⟨_,_,ax.str_inv,ay.str_inv,of_decide_eq_true hl,q F H _ (.refl s) .str⟩
noncomputable def Y3:D→D→Option D
  | .int i,.int j=>some (.int (i+j))
  | .tup a,.tup b=>if lim (a.length+b.length)=true then some (.tup (a++b)) else none
  | .lst a,.lst b=>if lim (a.length+b.length)=true then some (.lst (a++b)) else none
  | .str a,.str b=>if lim (a.length+b.length)=true then some (.str (a++b)) else none
  | _,_=>none
theorem zba {r:R2}{g g':D→D→Option D}(h:OpD r g)(k:∀ d e z,g' d e=some z→g d e=some z):OpD r g':=fun F H x y d e z Q s ax ay ez q=>h F H x y d e z Q s ax ay (k d e z ez) q
theorem ww {f h:Ev→Option D}(ha:ED X a f)(hb:ED X b h):ED X (.BinOp a .Add b pos) (zp Y3 f h) :=
  Xz (((zjv.or ze2).or zbN).or zcG) (zba (VU (VU (VU (V6 (g:=fun i j=>i+j)) zfF) ze0) zfg) fun d e z h=>by
    cases d <;> try cases h
    all_goals cases e <;> try cases h
    · rfl
    · unfold Y3 at h;dsimp only at h;split at h <;> cases h;rename_i hl;simp [xN,zjt,hl,zes,zg6,zi8]
    · unfold Y3 at h;dsimp only at h;split at h <;> cases h;rename_i hl;simp [xN,zjt,hl,zes,zg6,zi8]
    · unfold Y3 at h;dsimp only at h;split at h <;> cases h;rename_i hl;simp [xN,zjt,hl,zes,zg6,zi8]) ha hb
theorem zhF {F H F1 H1:Hp}{p:Addr}(g1:Gr F H F1 H1)(hp:H1 p=none):H p=none:=by
  cases e:H p with
  | none=>rfl
  | some o =>
    cases e2:F p with
    | none=>rw [(g1.kp p o e2 e).2] at hp;cases hp
    | some u=>rw [g1.fh _ _ (g1.ff _ _ e2)] at hp;cases hp
noncomputable def XY (i j:Int):Bool:=decide ((-(2 ^ 64) < i∧i < 2 ^ 64)∨(-(2 ^ 64) < j∧j < 2 ^ 64))
noncomputable def zkN:D→D→Option (List D)
  | .lst a,.int k=>if -(2 ^ 63)≤k∧k < 2 ^ 63∧lim (a.length*k.toNat)=true then some (List.replicate k.toNat a).flatten else none
  | _,_=>none
noncomputable def zfZ (d e:D):Option D:=(zkN d e).map .lst
noncomputable def vP:D→D→Option D
  | .int i,.int j=>if XY i j=true then some (.int (i*j)) else none
  | .lst a,.int k=>if -(2 ^ 63)≤k∧k < 2 ^ 63∧lim (a.length*k.toNat)=true then some (.lst (List.replicate k.toNat a).flatten) else none
  | _,_=>none
theorem zfw:OpD rRep zfZ:=by
  intro F H x y d e z Q s ax ay ez q
  cases d <;> try cases ez
  cases e <;> try cases ez
  unfold zfZ zkN at ez
  dsimp only at ez
  split at ez <;> cases ez
  rename_i hl
  obtain ⟨p,xs,rfl,hx,al⟩:=ax.lst_inv
  refine ⟨p,_,xs,rfl,ay.int_inv,s _ _ hx,hl.1,hl.2.1,by rw [al.length];exact of_decide_eq_true hl.2.2,fun r hr=>?_⟩
  rename_i ds k
  have g:=Gr.alloc s hr (.lst (List.replicate k.toNat xs).flatten)
  exact q _ _ _ g (.lst zn ((al.rep _).mono g.ff))
theorem zad {f h:Ev→Option D}(ha:ED X a f)(hb:ED X b h):ED X (.BinOp a .Mult b pos) (zp vP f h) :=
  Xz (zji.or zjV) (zba (VU (ZY (Cb:=XY) (g:=fun i j=>i*j) fun i j h=>by have h':=of_decide_eq_true (show decide ((-(2 ^ 64) < i∧i < 2 ^ 64)∨(-(2 ^ 64) < j∧j < 2 ^ 64))=true from h);exact h') zfw) fun d e z h=>by
    cases d <;> try cases h
    all_goals cases e <;> try cases h
    · unfold vP at h;dsimp only at h;split at h <;> cases h;rename_i hl;simp [Za,hl]
    · unfold vP at h;dsimp only at h;split at h <;> cases h;rename_i hl;show (zfZ _ _)=_;unfold zfZ zkN;dsimp only;rw [if_pos hl];rfl) ha hb
noncomputable def Zc:=xN fun i j=>i - j
noncomputable def yB:=Za (fun _ j=>decide (0 < j∧j < 1606938044258990275541962092341162602522202993782792835301376)) fun i j=>i / j
noncomputable def xT:=Za (fun _ j=>decide (0 < j)) fun i j=>i % j
noncomputable def zij:=Za (fun _ j=>decide (0≤j)) fun i j=>i / 2 ^ j.toNat
noncomputable def zkv (i j:Int):Bool:=decide (0≤j∧j≤1000000∧i.natAbs < 2 ^ 64)
noncomputable def powD:=Za zkv fun i j=>i ^ j.toNat
theorem VY {f h:Ev→Option D}(ha:ED X a f)(hb:ED X b h):ED X (.BinOp a .Sub b pos) (zp Zc f h):=Xz zjw V6 ha hb
theorem ze4:OpR X (binaryOp .FloorDiv) (rI (fun _ j=>0 < j∧j < 1606938044258990275541962092341162602522202993782792835301376) fun i j=>.int (i / j)):=opI fun i j _ _ _ _ _ hc q=>by
  have h1:(0:Int) < j:=hc.1
  have h2:j < 1606938044258990275541962092341162602522202993782792835301376:=hc.2
  refine PyProof.Rows.floordiv_int (by omega) (by rw [Int.fdiv_eq_ediv_of_nonneg i (by omega)];exact q) (.inl (PyProof.noPylong_of_log2 ?_))
  have h0:j.natAbs≠0:=by omega
  have h3:j.natAbs < 1606938044258990275541962092341162602522202993782792835301376:=by omega
  have h4:j.natAbs.log2 < 200:=(Nat.log2_lt h0).mpr h3
  omega
theorem ZE {f h:Ev→Option D}(ha:ED X a f)(hb:ED X b h):ED X (.BinOp a .FloorDiv b pos) (zp yB f h):=Xz ze4 (ZY fun _ _ h=>by have h':=of_decide_eq_true h;exact h') ha hb
theorem vB {f h:Ev→Option D}(ha:ED X a f)(hb:ED X b h):ED X (.BinOp a .Mod b pos) (zp xT f h):=Xz zjO (ZY fun _ _ h=>by have h':=of_decide_eq_true h;exact h') ha hb
theorem zj0 {f h:Ev→Option D}(ha:ED X a f)(hb:ED X b h):ED X (.BinOp a .RShift b pos) (zp zij f h):=Xz ziA (ZY fun _ _ h=>by have h':=of_decide_eq_true h;exact h') ha hb
theorem zjW {f h:Ev→Option D}(ha:ED X a f)(hb:ED X b h):ED X (.BinOp a .Pow b pos) (zp powD f h):=Xz zjB (ZY fun _ _ h=>by have h':=of_decide_eq_true h;exact h') ha hb
noncomputable def ltD:=Zh fun i j=>decide (i < j)
noncomputable def leD:=Zh fun i j=>decide (i≤j)
noncomputable def gtD:=Zh fun i j=>decide (j < i)
noncomputable def geD:=Zh fun i j=>decide (j≤i)
noncomputable def eqS:D→D→Option Bool
  | .non,.non=>some true
  | .int i,.int j=>some (decide (i=j))
  | .bl i,.bl j=>some (decide (i=j))
  | .str i,.str j=>some (decide (i=j))
  | .non,.int _=>some false | .int _,.non=>some false | .non,.bl _=>some false | .bl _,.non=>some false | .non,.str _=>some false | .str _,.non=>some false
  | .int _,.str _=>some false | .str _,.int _=>some false | .bl _,.str _=>some false | .str _,.bl _=>some false
  | _,_=>none
noncomputable def eqD (d e:D):Option D:=(eqS d e).map .bl
noncomputable def neD (d e:D):Option D:=(eqS d e).map fun c=>.bl (!c)
theorem zgn:OpD rEq eqD:=by
  intro F H x y d e z Q s ax ay ez q
  obtain ⟨c,e1,rfl⟩:=Option.map_eq_some_iff.mp ez
  cases d <;> cases e <;> try cases e1
  · cases ax.non_inv;cases ay.non_inv;exact ⟨rfl,q F H _ (.refl s) .bl⟩
  · cases ax.non_inv;cases ay.bl_inv;exact ⟨rfl,q F H _ (.refl s) .bl⟩
  · cases ax.non_inv;cases ay.int_inv;exact ⟨rfl,q F H _ (.refl s) .bl⟩
  · cases ax.non_inv;cases ay.str_inv;exact ⟨rfl,q F H _ (.refl s) .bl⟩
  · cases ax.bl_inv;cases ay.non_inv;exact ⟨rfl,q F H _ (.refl s) .bl⟩
  · cases ax.bl_inv;cases ay.bl_inv;refine ⟨rfl,?_⟩;rw [show ∀ i j:Bool,decide (V.bl i=V.bl j)=decide (i=j) from fun i j=>by simp];exact q F H _ (.refl s) .bl
  · cases ax.bl_inv;cases ay.str_inv;exact ⟨rfl,q F H _ (.refl s) .bl⟩
  · cases ax.int_inv;cases ay.non_inv;exact ⟨rfl,q F H _ (.refl s) .bl⟩
  · cases ax.int_inv;cases ay.int_inv;refine ⟨rfl,?_⟩;rw [show ∀ i j:Int,decide (V.int i=V.int j)=decide (i=j) from fun i j=>by simp];exact q F H _ (.refl s) .bl
  · cases ax.int_inv;cases ay.str_inv;exact ⟨rfl,q F H _ (.refl s) .bl⟩
  · cases ax.str_inv;cases ay.non_inv;exact ⟨rfl,q F H _ (.refl s) .bl⟩
  · cases ax.str_inv;cases ay.bl_inv;exact ⟨rfl,q F H _ (.refl s) .bl⟩
  · cases ax.str_inv;cases ay.int_inv;exact ⟨rfl,q F H _ (.refl s) .bl⟩
  · cases ax.str_inv;cases ay.str_inv;refine ⟨rfl,?_⟩;rw [show ∀ i j:Str,decide (V.str i=V.str j)=decide (i=j) from fun i j=>by simp];exact q F H _ (.refl s) .bl
theorem Xp:OpD rNe neD:=by
  intro F H x y d e z Q s ax ay ez q
  obtain ⟨c,e1,rfl⟩:=Option.map_eq_some_iff.mp ez
  have:=zgn F H x y d e (.bl c) (fun v H'=>∃ b,v=.bl b∧Q (.bl (!b)) H') s ax ay (by unfold eqD;rw [e1];rfl) fun F' H' v g av=>⟨c,av.bl_inv,q F' H' _ g .bl⟩
  obtain ⟨h1,b,h2,h3⟩:=this
  cases h2
  exact ⟨h1,h3⟩
noncomputable def Zu:D→D→Option D
  | d,.non=>some (.bl (match d with | .non=>true | _=>false))
  | .bl a,.bl b=>some (.bl (a == b))
  | _,_=>none
noncomputable def zV:D→D→Option D
  | d,.non=>some (.bl (match d with | .non=>false | _=>true))
  | .bl a,.bl b=>some (.bl (!(a == b)))
  | _,_=>none
theorem zhZ {F:Hp}{d:D}{x:V}(h:At F d x):decide (x=V.non)=(match d with | .non=>true | _=>false):=by
  cases d with
  | non=>cases h.non_inv;rfl
  | bl b=>cases h.bl_inv;rfl
  | int b=>cases h.int_inv;rfl
  | str b=>cases h.str_inv;rfl
  | tup ds=>obtain ⟨a,xs,rfl,_⟩:=h.tup_inv;rfl
  | lst ds=>obtain ⟨a,xs,rfl,_⟩:=h.lst_inv;rfl
  | scr ds=>obtain ⟨a,rfl,_⟩:=h.scr_inv;rfl
  | dct z t ks vs=>obtain ⟨a,xs,rfl,_⟩:=h.dct_inv;rfl
theorem zdR:OpD (fun x y H Q=>(y=.non∧Q (.bl (decide (x=.non))) H)∨∃ i j,x=.bl i∧y=.bl j∧Q (.bl (i == j)) H) Zu:=by
  intro F H x y d e z Q s ax ay ez q
  unfold Zu at ez
  split at ez
  · cases ez
    refine .inl ⟨ay.non_inv,?_⟩
    rw [zhZ ax]
    have:=q F H _ (.refl s) .bl
    cases d <;> exact this
  · cases ez
    exact .inr ⟨_,_,ax.bl_inv,ay.bl_inv,q F H _ (.refl s) .bl⟩
  · cases ez
theorem zgV:OpR X (compareOp .Is) (fun x y H Q=>(y=.non∧Q (.bl (decide (x=.non))) H)∨∃ i j,x=.bl i∧y=.bl j∧Q (.bl (i == j)) H):=zi5.or ze1
noncomputable def yp (g g':D→D→Option D)(f h k:Ev→Option D):Ev→Option D:=fun ρ=>(f ρ).bind fun x=>(h ρ).bind fun y=>((g x y).bind asB).bind fun c=>if c=true then (k ρ).bind fun z=>g' y z else some (.bl false)
theorem zgh {r r':R2}{g g':D→D→Option D}{ta tb tc:TE}{f h k:Ev→Option D}(hg:OpD r g)(hg':OpD r' g')(ra:RE ta f)(rb:RE tb h)(rc:RE tc k):RE (zd7 r r' ta tb tc) (yp g g' f h k):=by
  intro σ ρ F H z Q s va e q
  obtain ⟨x,e1,e⟩:=Option.bind_eq_some_iff.mp e
  obtain ⟨y,e2,e⟩:=Option.bind_eq_some_iff.mp e
  obtain ⟨c,e3,e⟩:=Option.bind_eq_some_iff.mp e
  obtain ⟨cd,e3,e4⟩:=Option.bind_eq_some_iff.mp e3
  cases XO e4
  refine ra σ ρ F H x _ s va e1 fun F1 H1 v g1 a1=>?_
  refine rb σ ρ F1 H1 y _ g1.fh (va.mono g1.ff) e2 fun F2 H2 u g2 a2=>?_
  refine hg F2 H2 v u x y _ _ g2.fh (a1.mono g2.ff) a2 e3 fun F3 H3 w g3 a3=>⟨c,a3.bl_inv,?_⟩
  have g123:=(g1.trans g2).trans g3
  cases c with
  | true =>
    rw [if_pos rfl] at e ⊢
    obtain ⟨z',e5,e6⟩:=Option.bind_eq_some_iff.mp e
    refine rc σ ρ F3 H3 z' _ g3.fh (va.mono g123.ff) e5 fun F4 H4 w4 g4 a4=>?_
    exact hg' F4 H4 u w4 y z' z Q g4.fh (a2.mono (g3.ff.trans g4.ff)) a4 e6 fun F5 H5 w5 g5 a5=>q F5 H5 w5 ((g123.trans g4).trans g5) a5
  | false =>
    rw [if_neg Bool.false_ne_true] at e ⊢
    cases e
    exact q F3 H3 _ g123 .bl
theorem zf2 {op op':CmpOp}{r r':R2}{g g':D→D→Option D}{f h k:Ev→Option D}(ho:OpR X (compareOp op) r)(ho':OpR X (compareOp op') r')(hg:OpD r g)(hg':OpD r' g')(ha:ED X a f)(hb:ED X b h)(hc:ED X c k)
    (pch:∀ {ta tb tc:TE},PE X a ta→PE X b tb→PE X c tc→PE X (.Compare a [op,op'] [b,c] pos) (zd7 r r' ta tb tc)):ED X (.Compare a [op,op'] [b,c] pos) (yp g g' f h k) :=
  let ⟨_,pa,ra⟩:=ha
  let ⟨_,pb,rb⟩:=hb
  let ⟨_,pc,rc⟩:=hc
  ⟨_,pch pa pb pc,zgh hg hg' ra rb rc⟩
noncomputable def zcb:List D→Option (List Int)
  | []=>some []
  | .int b::ds=>(zcb ds).map (b::·)
  | _=>none
omit [KK] in
theorem X2:∀ {ds:List D} {bs:List Int},zcb ds=some bs→ds=bs.map .int
  | [],bs,h=>by cases h;rfl
  | d::ds,bs,h=>by
    cases d <;> try cases h
    obtain ⟨cs,h1,rfl⟩:=Option.map_eq_some_iff.mp h
    rw [X2 h1]
    rfl
noncomputable def leT:D→D→Option D
  | .tup a,.tup b=>(zcb a).bind fun ns=>(zcb b).map fun ms=>.bl (HT.lexLe ns ms)
  | _,_=>none
theorem zhz {K:PySem.W.Frag}:OpD (rLeT K) leT:=by
  intro F H x y d e z Q s ax ay ez q
  cases d <;> try cases ez
  cases e <;> try cases ez
  obtain ⟨ns,e1,e2⟩:=Option.bind_eq_some_iff.mp ez
  obtain ⟨ms,e3,rfl⟩:=Option.map_eq_some_iff.mp e2
  rw [X2 e1] at ax
  rw [X2 e3] at ay
  obtain ⟨p,xs,rfl,hx,al⟩:=ax.tup_inv
  obtain ⟨p2,ys,rfl,hy,bl⟩:=ay.tup_inv
  cases al.of_ints
  cases bl.of_ints
  exact ⟨p,p2,ns,ms,rfl,rfl,SqT.of (s _ _ hx),SqT.of (s _ _ hy),q F H _ (.refl s) .bl⟩
noncomputable def ixD:D→D→Option D
  | .lst ds,.int i=>atI ds i
  | .tup ds,.int i=>atI ds i
  | .scr ns,.int i=>(atI ns i).map .int
  | _,_=>none
theorem AtL.atI {F:Hp}{ds:List D}{xs:List V}{i:Int}{d:D}(al:AtL F ds xs)(h:L2.atI ds i=some d):∃ x,L2.atI xs i=some x∧At F d x:=by
  unfold L2.atI at h ⊢
  obtain ⟨j,e1,e2⟩:=Option.bind_eq_some_iff.mp h
  obtain ⟨x,hx,ax⟩:=al.get e2
  exact ⟨x,by rw [al.length,e1];exact hx,ax⟩
theorem zju:OpD (rIx KK.K) ixD:=by
  intro F H x y d e z Q s ax ay ez q
  cases e <;> try (cases d <;> cases ez)
  cases ay.int_inv
  cases d with
  | lst ds =>
    obtain ⟨p,xs,rfl,hx,al⟩:=ax.lst_inv
    obtain ⟨v,e1,av⟩:=al.atI ez
    exact .inl ⟨p,xs,_,v,rfl,rfl,SqL.of (s _ _ hx),e1,q F H _ (.refl s) av⟩
  | tup ds =>
    obtain ⟨p,xs,rfl,hx,al⟩:=ax.tup_inv
    obtain ⟨v,e1,av⟩:=al.atI ez
    exact .inr (.inl ⟨p,xs,_,v,rfl,rfl,SqT.of (s _ _ hx),e1,q F H _ (.refl s) av⟩)
  | scr ns =>
    obtain ⟨p,rfl,hx⟩:=ax.scr_inv
    obtain ⟨n,e1,rfl⟩:=Option.map_eq_some_iff.mp ez
    refine .inl ⟨p,ns.map V.int,_,.int n,rfl,rfl,s.seq hx,?_,q F H _ (.refl s) .int⟩
    unfold L2.atI at e1 ⊢
    rw [List.length_map]
    obtain ⟨j,e2,e3⟩:=Option.bind_eq_some_iff.mp e1
    rw [e2]
    show (ns.map V.int)[j]?=_
    rw [List.getElem?_map,e3]
    rfl
  | _=>cases ez
theorem wv {f h:Ev→Option D}(ha:ED X a f)(hb:ED X b h)(hs:zdy b)(hK:X.K=KK.K:=by rfl):ED X (.Subscript a b pos) (zp ixD f h) :=
  let ⟨_,pa,ra⟩:=ha
  let ⟨_,pb,rb⟩:=hb
  ⟨_,zkw zjN pa pb hs,zfJ (by rw [hK];exact zju) ra rb⟩
noncomputable def zaM {α:Type}(xs:List α)(lo hi:Option Int):List α:=(xs.drop (HT.sIx xs.length 0 lo)).take (HT.sIx xs.length xs.length hi - HT.sIx xs.length 0 lo)
theorem AtL.cut {F:Hp}{ds:List D}{xs:List V}{lo hi:Option Int}(al:AtL F ds xs):AtL F (zaM ds lo hi) (za9 xs lo hi):=by
  unfold zaM za9
  rw [al.length]
  exact (al.drop _).take _
noncomputable def OD (X:Cx)(e:Option Expr)(f:Ev→Option (Option Int)):Prop:=∃ t,PO X e t∧∀ (σ:St) (ρ:Ev) (F H:Hp) (i:Option Int) (Q:Option Int→Hp→Prop),yJ F H→VAt F ρ σ→f ρ=some i→(∀ F' H',Gr F H F' H'→Q i H')→t σ H Q
noncomputable def wa:Ev→Option (Option Int):=fun _=>some none
noncomputable def asI:D→Option Int
  | .int i=>some i
  | _=>none
noncomputable def x9 (f:Ev→Option D):Ev→Option (Option Int):=fun ρ=>((f ρ).bind asI).map some
theorem zdS:OD X none wa:=⟨_,zhI,fun _ _ _ _ _ _ s _ e q=>by cases e;exact q _ _ (.refl s)⟩
theorem zer {f:Ev→Option D}(h:ED X e f):OD X (some e) (x9 f):=by
  obtain ⟨t,p,r⟩:=h
  refine ⟨_,zhf p,fun σ ρ F H i Q s va e q=>?_⟩
  obtain ⟨j,e1,rfl⟩:=Option.map_eq_some_iff.mp e
  obtain ⟨d,e1,e2⟩:=Option.bind_eq_some_iff.mp e1
  cases d <;> cases e2
  exact r σ ρ F H _ _ s va e1 fun F1 H1 v g1 a1=>⟨_,a1.int_inv,q F1 H1 g1⟩
noncomputable def slD:D→Option Int→Option Int→Option D
  | .lst ds,lo,hi=>some (.lst (zaM ds lo hi))
  | .scr ns,lo,hi=>some (.lst ((zaM ns lo hi).map .int))
  | .tup ds,lo,hi=>some (.tup (zaM ds lo hi))
  | _,_,_=>none
noncomputable def eSl (g:D→Option Int→Option Int→Option D)(f:Ev→Option D)(l h:Ev→Option (Option Int)):Ev→Option D:=fun ρ=>(f ρ).bind fun d=>(l ρ).bind fun lo=>(h ρ).bind fun hi=>g d lo hi
omit [KK] in
theorem zf0 {ns:List Int}{lo hi:Option Int}:za9 (ns.map V.int) lo hi=(zaM ns lo hi).map V.int:=by
  unfold za9 zaM
  rw [List.length_map,List.map_take,List.map_drop]
end
end Dl
namespace L2
open PySem PySem.Spec PyProof.Rows
noncomputable def rSlN:V→Option Int→Option Int→Hp→VK→Prop:=fun x lo hi H Q=>∃ a xs,x=.ref a∧H a=some (.tup xs)∧(za9 xs lo hi=xs→Q (.ref a) H)∧∀ p,H p=none→Q (.ref p) (upd H p (.tup (za9 xs lo hi)))
theorem zhq {X:Cx}:SlR X rSlN:=by
  intro pins s σ H x v vl vu lo hi sl Q I rx hs pl pu h
  obtain ⟨a,xs,rfl,hx,q1,q2⟩:=h
  by_cases hw:HT.sIx xs.length 0 lo=0∧HT.sIx xs.length xs.length hi=xs.length
  · cases rx
    obtain ⟨its,r,ht,hz⟩:=I.tuple (SqT.of hx)
    have hlen:its.toArray.size=xs.length:=by rw [List.size_toArray];exact r.length.symm
    refine ⟨"tuple",_,PyProof.Rows.slot_tuple_getitem.lookup,ht.typeIs,?_⟩
    refine HT.own_getItem_whole ht hs pl pu (by rw [hlen];exact hw) ⟨.ref a,H,I,rfl,q1 ?_⟩
    unfold za9
    rw [hw.1,hw.2,List.drop_zero,Nat.sub_zero,List.take_length]
  · exact ziu pins s σ H (.ref a) v vl vu lo hi sl Q I rx hs pl pu ⟨a,xs,rfl,SqT.of hx,hw,q2⟩
end L2
namespace Dl
open PySem L2
variable [KK]
section
variable {X:Cx}{a b c e:Expr}{pos:Pos}
theorem zcd {lo hi:Option Expr}{p2:Pos}{f:Ev→Option D}{l h:Ev→Option (Option Int)}(ha:ED X a f)(hl:OD X lo l)(hh:OD X hi h)(hK:X.K=KK.K:=by rfl):ED X (.Subscript a (.Slice lo hi none p2) pos) (eSl slD f l h):=by
  obtain ⟨ta,pa,ra⟩:=ha
  obtain ⟨tl,ppl,rl⟩:=hl
  obtain ⟨th,ph,rh⟩:=hh
  refine ⟨_,zfL (zg1.or zhq) pa ppl ph,fun σ ρ F H z Q s va e q=>?_⟩
  obtain ⟨d,e1,e⟩:=Option.bind_eq_some_iff.mp e
  obtain ⟨i,e2,e⟩:=Option.bind_eq_some_iff.mp e
  obtain ⟨j,e3,e⟩:=Option.bind_eq_some_iff.mp e
  refine ra σ ρ F H d _ s va e1 fun F1 H1 v g1 a1=>?_
  refine rl σ ρ F1 H1 i _ g1.fh (va.mono g1.ff) e2 fun F2 H2 g2=>?_
  refine rh σ ρ F2 H2 j _ g2.fh (va.mono (g1.ff.trans g2.ff)) e3 fun F3 H3 g3=>?_
  have g123:=(g1.trans g2).trans g3
  have a3:=a1.mono (g2.ff.trans g3.ff)
  cases d <;> try cases e
  · obtain ⟨p,xs,rfl,hx,al⟩:=a3.tup_inv
    refine .inr ⟨p,xs,rfl,g3.fh _ _ hx,fun ec=>?_,fun r hr=>?_⟩
    · have:=al.cut (lo:=i) (hi:=j)
      rw [ec] at this
      exact q F3 H3 _ g123 (.tup hx this)
    · have g:=Gr.alloc g3.fh hr (.tup (za9 xs i j))
      exact q _ _ _ (g123.trans g) (.tup zn (al.cut.mono g.ff))
  · obtain ⟨p,xs,rfl,hx,al⟩:=a3.lst_inv
    refine .inl ⟨p,xs,rfl,SqL.of (g3.fh _ _ hx),fun r hr=>?_⟩
    have g:=Gr.alloc g3.fh hr (.lst (za9 xs i j))
    exact q _ _ _ (g123.trans g) (.lst zn (al.cut.mono g.ff))
  · rename_i ns _ _
    obtain ⟨p,rfl,hx⟩:=a3.scr_inv
    refine .inl ⟨p,_,rfl,(by rw [hK];exact g3.fh.seq hx),fun r hr=>?_⟩
    rw [zf0]
    have g:=Gr.alloc g3.fh hr (.lst ((zaM ns i j).map V.int))
    exact q _ _ _ (g123.trans g) (.lst zn (.ints _))
noncomputable def CaD (r:List V→Hp→VK→Prop)(g:List D→Option D):Prop:=∀ (F H:Hp) (vs:List V) (ds:List D) (z:D) (Q:VK),yJ F H→AtL F ds vs→g ds=some z→(∀ F' H' v,Gr F H F' H'→At F' z v→Q v H')→r vs H Q
noncomputable def eFn (g:List D→Option D)(f:Ev→Option (List D)):Ev→Option D:=fun ρ=>(f ρ).bind g
noncomputable def fFn (g:List D→Option (List D))(f:Ev→Option (List D)):Ev→Option (List D):=fun ρ=>(f ρ).bind g
theorem zY {x:Str}{id:String}{p:Pos}{es:List Expr}{r:List V→Hp→VK→Prop}{g:List D→Option D}{f:Ev→Option (List D)}(hc:Zx X (.builtin id) r)(hg:CaD r g)(hgl:Gl X x)(hm:X.mg x=none)(hv:bootBuiltins x=some (.builtin id))(ha:AD X (e::es) f)
    (hn:x≠"__name__":=by decide) (hdb:(x == ("__debug__":Str))=false:=by decide) (he:starEach (e::es) X.env=(false,eval e X.env)::starEach es X.env:=by rfl) (hpl:(backTo pos (starEach es X.env)).any (·.1)=false:=by rfl) :
    ED X (.Call (.Name x p) (e::es) [] pos) (eFn g f):=by
  obtain ⟨t,pa,ra⟩:=ha
  refine ⟨_,yN hc hgl hm hv pa hn hdb he hpl,fun σ ρ F H z Q s va e q=>?_⟩
  obtain ⟨ds,e1,e2⟩:=Option.bind_eq_some_iff.mp e
  refine ra σ ρ F H ds _ s va e1 fun F1 H1 vs g1 a1=>?_
  exact hg F1 H1 vs ds z Q g1.fh a1 e2 fun F' H' v g av=>q F' H' v (g1.trans g) av
theorem Wl {x:Str}{T:String}{p:Pos}{es:List Expr}{r:List V→Hp→VK→Prop}{g:List D→Option D}{f:Ev→Option (List D)}(hc:Zx X (.type T) r)(hg:CaD r g)(hgl:Gl X x)(hm:X.mg x=none)(hv:bootBuiltins x=some (.type T))(ha:AD X (e::es) f)
    (hn:x≠"__name__":=by decide) (hdb:(x == ("__debug__":Str))=false:=by decide) (he:starEach (e::es) X.env=(false,eval e X.env)::starEach es X.env:=by rfl) (hpl:(backTo pos (starEach es X.env)).any (·.1)=false:=by rfl) :
    ED X (.Call (.Name x p) (e::es) [] pos) (eFn g f):=by
  obtain ⟨t,pa,ra⟩:=ha
  refine ⟨_,VO hc hgl hm hv pa hn hdb he hpl,fun σ ρ F H z Q s va e q=>?_⟩
  obtain ⟨ds,e1,e2⟩:=Option.bind_eq_some_iff.mp e
  refine ra σ ρ F H ds _ s va e1 fun F1 H1 vs g1 a1=>?_
  exact hg F1 H1 vs ds z Q g1.fh a1 e2 fun F' H' v g av=>q F' H' v (g1.trans g) av
noncomputable def YN:List D→Option D
  | [.lst ds]=>some (.int ds.length)
  | [.tup ds]=>some (.int ds.length)
  | [.scr ds]=>some (.int ds.length)
  | _=>none
theorem Xl:CaD (fun xs H Q=>∃ p ys,xs=[.ref p]∧(SqL KK.K H p ys∨SqT KK.K H p ys)∧Q (.int ys.length) H) YN:=by
  intro F H vs ds z Q s al e q
  unfold YN at e
  split at e <;> cases e
  all_goals
    obtain ⟨x,r,rfl,ax,ar⟩:=al.cons_inv
    cases ar.nil_inv
  · obtain ⟨p,xs,rfl,hx,bl⟩:=ax.lst_inv
    exact ⟨p,xs,rfl,.inl (SqL.of (s _ _ hx)),by rw [bl.length];exact q F H _ (.refl s) .int⟩
  · obtain ⟨p,xs,rfl,hx,bl⟩:=ax.tup_inv
    exact ⟨p,xs,rfl,.inr (SqT.of (s _ _ hx)),by rw [bl.length];exact q F H _ (.refl s) .int⟩
  · obtain ⟨p,rfl,hx⟩:=ax.scr_inv
    exact ⟨p,_,rfl,.inl ((s.seq hx)),by rw [List.length_map];exact q F H _ (.refl s) .int⟩
noncomputable def ziR:List D→Option D
  | [.int i,.int j]=>some (.int (if j > i then j else i))
  | _=>none
noncomputable def zgd:List D→Option D
  | [.int i,.int j]=>some (.int (if j < i then j else i))
  | _=>none
theorem zb8 {g:Int→Int→Int}:CaD (fun xs H Q=>∃ i j,xs=[.int i,.int j]∧Q (.int (g i j)) H) (fun ds=>match ds with | [.int i,.int j]=>some (.int (g i j)) | _=>none):=by
  intro F H vs ds z Q s al e q
  dsimp only at e
  split at e <;> cases e
  obtain ⟨x,r,rfl,ax,ar⟩:=al.cons_inv
  obtain ⟨y,r,rfl,ay,ar⟩:=ar.cons_inv
  cases ar.nil_inv
  exact ⟨_,_,by rw [ax.int_inv,ay.int_inv],q F H _ (.refl s) .int⟩
theorem zfc:CaD (fun xs H Q=>∃ i j,xs=[.int i,.int j]∧Q (.int (if j > i then j else i)) H) ziR:=zb8 (g:=fun i j=>if j > i then j else i)
theorem zbU:CaD (fun xs H Q=>∃ i j,xs=[.int i,.int j]∧Q (.int (if j < i then j else i)) H) zgd:=zb8 (g:=fun i j=>if j < i then j else i)
noncomputable def yh:List D→Option D
  | [.lst ds]=>some (.tup ds)
  | [.tup ds]=>some (.tup ds)
  | _=>none
theorem X9 {K:PySem.W.Frag}:CaD (fun xs H Q=>∃ p ys,xs=[.ref p]∧((SqL K H p ys∧∀ l,H l=none→Q (.ref l) (upd H l (.tup ys)))∨(SqT K H p ys∧Q (.ref p) H))) yh:=by
  intro F H vs ds z Q s al e q
  unfold yh at e
  split at e <;> cases e
  all_goals
    obtain ⟨x,r,rfl,ax,ar⟩:=al.cons_inv
    cases ar.nil_inv
  · obtain ⟨p,xs,rfl,hx,bl⟩:=ax.lst_inv
    refine ⟨p,xs,rfl,.inl ⟨SqL.of (s _ _ hx),fun l hl=>?_⟩⟩
    have g:=Gr.alloc s hl (.tup xs)
    exact q _ _ _ g (.tup zn (bl.mono g.ff))
  · obtain ⟨p,xs,rfl,hx,bl⟩:=ax.tup_inv
    exact ⟨p,xs,rfl,.inr ⟨SqT.of (s _ _ hx),q F H _ (.refl s) (.tup hx bl)⟩⟩
noncomputable def x8:List D→Option (List D)
  | [.lst ds]=>some ds
  | [.tup ds]=>some ds
  | [.scr ns]=>some (ns.map .int)
  | _=>none
theorem zhD {p:Pos} {f:Ev→Option (List D)} (hgl:Gl X "list") (hm:X.mg "list"=none) (ha:AD X [e] f) (hK:X.K=KK.K:=by rfl)
    (he:starEach [e] X.env=(false,eval e X.env)::starEach [] X.env:=by rfl) (hpl:(backTo pos (starEach [] X.env)).any (·.1)=false:=by rfl):FL X (.Call (.Name "list" p) [e] [] pos) (fFn x8 f):=by
  obtain ⟨t,pa,ra⟩:=ha
  refine ⟨_,VO zas hgl hm Vl pa (by decide) (by decide) he hpl,fun σ ρ F H z Q s va e q=>?_⟩
  obtain ⟨ds,e1,e2⟩:=Option.bind_eq_some_iff.mp e
  refine ra σ ρ F H ds _ s va e1 fun F1 H1 vs g1 a1=>?_
  unfold x8 at e2
  split at e2 <;> cases e2
  all_goals
    obtain ⟨x,r,rfl,ax,ar⟩:=a1.cons_inv
    cases ar.nil_inv
  · obtain ⟨p,xs,rfl,hx,bl⟩:=ax.lst_inv
    exact ⟨p,xs,rfl,.inl (SqL.of (g1.fh _ _ hx)),fun l hl=>q _ _ _ _ (g1.trans (Gr.hide g1.fh hl _)) (zhF g1 hl) (g1.fh.free hl) zn bl⟩
  · obtain ⟨p,xs,rfl,hx,bl⟩:=ax.tup_inv
    exact ⟨p,xs,rfl,.inr (SqT.of (g1.fh _ _ hx)),fun l hl=>q _ _ _ _ (g1.trans (Gr.hide g1.fh hl _)) (zhF g1 hl) (g1.fh.free hl) zn bl⟩
  · obtain ⟨p,rfl,hx⟩:=ax.scr_inv
    exact ⟨p,_,rfl,.inl (by rw [hK];exact g1.fh.seq hx),fun l hl=>q _ _ _ _ (g1.trans (Gr.hide g1.fh hl _)) (zhF g1 hl) (g1.fh.free hl) zn (.ints _)⟩
inductive TyD (K:PySem.W.Frag) (H:Hp):V→Value→Prop where
  | of {v:V} {t:Value} (h:zb0 K H v t):TyD K H v t
  | dd {a:Addr} {u:HO} (h:Rd H a u) (d:(∃ kvs,u=.dK kvs)∨∃ kvs,u=.dT kvs):TyD K H (.ref a) (.type "dict")
theorem zaD {X:Cx}:Zx X (.builtin "isinstance") (fun xs H Q=>∃ x n t b,xs=[x,.ty n]∧TyD X.K H x t∧PySem.W.kitOne X.K t (.type n)=some b∧Q (.bl b) H):=by
  intro pins s σ H xs us Q I r h
  obtain ⟨x,n,t,b,rfl,ty,e,q⟩:=h
  cases ty with
  | of ty=>exact zbj pins s σ H _ us Q I r ⟨x,n,t,b,rfl,ty,e,q⟩
  | @dd a u h d =>
    cases r with
    | cons r1 r2 =>
      cases r2 with
      | cons r3 r4 =>
        cases r4
        cases r1
        cases r3
        have ok:=h.ok I.hok
        rcases d with ⟨kvs,rfl⟩ | ⟨kvs,rfl⟩
        · obtain ⟨_,_,vs,_,p⟩:=(show xf X.prog X.w H s.heap a (.dK kvs) from ok)
          obtain ⟨o,es,ep,h1,h2,_⟩:=p
          exact PySem.W.kia_one PySem.W.kitx_dict I.kIn ⟨o,h1,h2.1⟩ e (fun z=>nomatch z) fun tk=>⟨.bl b,H,I.tok tk,rfl,q⟩
        · obtain ⟨_,_,xs,_,o,es,ep,h1,h2,_⟩:=(show xf X.prog X.w H s.heap a (.dT kvs) from ok)
          exact PySem.W.kia_one PySem.W.kitx_dict I.kIn ⟨o,h1,h2.1⟩ e (fun z=>nomatch z) fun tk=>⟨.bl b,H,I.tok tk,rfl,q⟩
theorem At.ty {K:PySem.W.Frag}{F H:Hp}(s:yJ F H):∀ {d:D} {v:V},At F d v→(∀ ns,d≠.scr ns)→TyD K H v (.type (tyN d))
  | .non,_,h,_=>by cases h.non_inv;exact .of .non
  | .bl b,_,h,_=>by cases h.bl_inv;exact .of (.bl b)
  | .int i,_,h,_=>by cases h.int_inv;exact .of (.int i)
  | .str x,_,h,_=>by cases h.str_inv;exact .of (.str x)
  | .tup ds,_,h,_=>by obtain ⟨a,xs,rfl,e,_⟩:=h.tup_inv;exact .of (.tup (s _ _ e))
  | .lst ds,_,h,_=>by obtain ⟨a,xs,rfl,e,_⟩:=h.lst_inv;exact .of (.lst (s _ _ e))
  | .scr ns,_,_,n=>absurd rfl (n ns)
  | .dct z t ks vs,_,h,_=>by
    obtain ⟨a,xs,rfl,d,_⟩:=h.dct_inv
    obtain ⟨u,e1,e2⟩:=(d.mono s).rd
    exact .dd e2 (by
      unfold zal at e1
      split at e1
      · obtain ⟨kvs,rfl,_⟩:=e1;exact .inr ⟨kvs,rfl⟩
      · obtain ⟨kvs,rfl,_⟩:=e1;exact .inl ⟨kvs,rfl⟩)
inductive Ty where
  | int | bool | tuple | list | str
noncomputable def Ty.nm:Ty→String
  | .int=>"int" | .bool=>"bool" | .tuple=>"tuple" | .list=>"list" | .str=>"str"
noncomputable def isT:Ty→D→Bool
  | .int,.int _=>true | .int,.bl _=>true
  | .bool,.bl _=>true
  | .tuple,.tup _=>true
  | .list,.lst _=>true
  | .str,.str _=>true
  | _,_=>false
noncomputable def yo (n:Ty):D→Option D
  | .scr _=>none
  | d=>some (.bl (isT n d))
theorem zjP (K:PySem.W.Frag)(n:Ty)(d:D)(h:∀ ns,d≠.scr ns):PySem.W.kitOne K (.type (tyN d)) (.type n.nm)=some (isT n d):=by
  cases n <;> cases d <;> first | exact absurd rfl (h _) | kernel_rfl
theorem zS {p:Pos} {f:Ev→Option D} (n:Ty) (hgl:Gl X "isinstance") (hm:X.mg "isinstance"=none) (ha:ED X a f) (hb:PE X b (tC (.ty n.nm)))
    (hs:starEach [a,b] X.env=(false,eval a X.env)::starEach [b] X.env:=by rfl) (hs2:starEach [b] X.env=(false,eval b X.env)::starEach [] X.env:=by rfl) (hpl:(backTo pos (starEach [b] X.env)).any (·.1)=false:=by rfl) :
    ED X (.Call (.Name "isinstance" p) [a,b] [] pos) (eUn (yo n) f):=by
  obtain ⟨t,pa,ra⟩:=ha
  refine ⟨_,yN zaD hgl hm zy (zr pa (zr hb yL hs2) hs) (by decide) (by decide) hs hpl,fun σ ρ F H z Q s va e q=>?_⟩
  obtain ⟨d,e1,e2⟩:=Option.bind_eq_some_iff.mp e
  refine ra σ ρ F H d _ s va e1 fun F1 H1 v g1 a1=>?_
  have ns:∀ ns,d≠.scr ns:=fun ns h=>by subst h;cases e2
  have e3:z=.bl (isT n d):=by
    cases d <;> first | exact (Option.some.inj e2).symm | exact absurd rfl (ns _)
  subst e3
  exact ⟨v,n.nm,_,_,rfl,a1.ty g1.fh ns,zjP _ n d ns,q F1 H1 _ g1 .bl⟩
noncomputable def YF (m:Bool)(i:Nat)(f:Ev→Option D):SE→Ctl:=fun ρ=>match (vEv m f ρ).bind fun d=>match ρ[i]? with
    | some (.o ds)=>if decide (ds.length < sizeLine)=true then some (ρ.set i (.o (ds++[d]))) else none
    | _=>none with
  | some ρ'=>.nx ρ'
  | none=>.no
theorem zbM {m:Bool}{i:Nat}{p pos':Pos}{f:Ev→Option D}(ho:PE X a (Vb i))(he:ED X e f)
    (hp:∀ {ta:TE} {t:TA},PE X a ta→PA X [e] t→PE X (.Call (.Attribute a "append" p) [e] [] pos') (tBM X.K "list" zeU ta t)) (hsw:swapsWith (.Call (.Attribute a "append" p) [e] [] pos') none pos.line X.env=pure false:=by rfl)
    (hs:starEach [e] X.env=(false,eval e X.env)::starEach [] X.env:=by rfl):SD X (.Expr (.Call (.Attribute a "append" p) [e] [] pos') pos) (YF m i f):=by
  obtain ⟨t,pe,re⟩:=he
  refine ⟨_,Vx (hp ho (zr pe yL hs)) hsw,fun Fb Hb F H ρ σ E rl k=>?_⟩
  unfold YF at k
  cases h:(vEv m f ρ).bind fun d=>match ρ[i]? with
    | some (.o ds)=>if decide (ds.length < sizeLine)=true then some (ρ.set i (.o (ds++[d]))) else none
    | _=>none with
  | none=>rw [h] at k;exact k.elim
  | some ρ' =>
    rw [h] at k
    obtain ⟨d,e1,e2⟩:=Option.bind_eq_some_iff.mp h
    cases hs:ρ[i]? with
    | none=>rw [hs] at e2;cases e2
    | some sl =>
      rw [hs] at e2
      cases sl with
      | no=>cases e2
      | v _=>cases e2
      | m _ _ _=>cases e2
      | o ds =>
        dsimp only at e2
        split at e2 <;> cases e2
        rename_i hl
        obtain ⟨q,xs,f1,f2,f3,f4,f5⟩:=rl.owns i ds hs
        refine ⟨_,f1,.inl ⟨rfl,xs,SqL.of f4⟩,?_⟩
        refine re.at rl e1 fun F' H' v g av=>?_
        have rl2:=rl.grow g
        obtain ⟨q2,xs2,f1',_,_,f4',f5'⟩:=rl2.owns i ds hs
        rw [f1] at f1'
        cases f1'
        refine ⟨q,xs2,v,rfl,rfl,f4',by rw [f5'.length];exact of_decide_eq_true hl,?_⟩
        exact k _ _ σ (rl2.mutate hs f1 (f5'.snoc av))
noncomputable def ZG (i:Nat)(f:Ev→Option D):SE→Ctl:=fun ρ=>match (f (visF ρ)).bind fun d=>match ρ[i]?,d with
    | some (.o ds),.lst es=>if lim (ds.length+es.length)=true then some (ρ.set i (.o (ds++es))) else none
    | _,_=>none with
  | some ρ'=>.nx ρ'
  | none=>.no
theorem zjC {i:Nat}{p pos':Pos}{f:Ev→Option D}(ho:PE X a (Vb i))(he:ED X e f)
    (hp:∀ {ta:TE} {t:TA},PE X a ta→PA X [e] t→PE X (.Call (.Attribute a "extend" p) [e] [] pos') (tBM X.K "list" zei ta t)) (hsw:swapsWith (.Call (.Attribute a "extend" p) [e] [] pos') none pos.line X.env=pure false:=by rfl)
    (hs:starEach [e] X.env=(false,eval e X.env)::starEach [] X.env:=by rfl):SD X (.Expr (.Call (.Attribute a "extend" p) [e] [] pos') pos) (ZG i f):=by
  obtain ⟨t,pe,re⟩:=he
  refine ⟨_,Vx (hp ho (zr pe yL hs)) hsw,fun Fb Hb F H ρ σ E rl k=>?_⟩
  unfold ZG at k
  cases h:(f (visF ρ)).bind fun d=>match ρ[i]?,d with
    | some (.o ds),.lst es=>if lim (ds.length+es.length)=true then some (ρ.set i (.o (ds++es))) else none
    | _,_=>none with
  | none=>rw [h] at k;exact k.elim
  | some ρ' =>
    rw [h] at k
    obtain ⟨d,e1,e2⟩:=Option.bind_eq_some_iff.mp h
    cases hs:ρ[i]? with
    | none=>rw [hs] at e2;cases e2
    | some sl =>
      rw [hs] at e2
      cases sl with
      | no=>cases e2
      | v _=>cases e2
      | m _ _ _=>cases e2
      | o ds =>
        cases d with
        | lst es =>
          dsimp only at e2
          split at e2 <;> cases e2
          rename_i hl
          obtain ⟨q,xs,f1,f2,f3,f4,f5⟩:=rl.owns i ds hs
          refine ⟨_,f1,.inl ⟨rfl,xs,SqL.of f4⟩,?_⟩
          refine re σ _ _ H _ _ rl.gr.fh rl.visF e1 fun F' H' v g av=>?_
          have rl2:=rl.grow g
          obtain ⟨q2,xs2,f1',_,_,f4',f5'⟩:=rl2.owns i ds hs
          rw [f1] at f1'
          cases f1'
          obtain ⟨pb,zs,rfl,hz,bl⟩:=av.lst_inv
          refine ⟨q,pb,xs2,zs,rfl,rfl,f4',g.fh _ _ hz,by rw [f5'.length,bl.length];exact of_decide_eq_true hl,?_⟩
          exact k _ _ σ (rl2.mutate hs f1 (f5'.append bl))
        | _=>cases e2
end
end Dl
namespace Dl
open PySem L2
variable [KK]
noncomputable def okE:Nat→D→Bool
  | _,.scr _=>false
  | _,.dct _ _ _ _=>false
  | 0,.tup _=>false
  | 0,.lst _=>false
  | n+1,.tup ds=>ds.all (okE n)
  | n+1,.lst ds=>ds.all (okE n)
  | _,_=>true
noncomputable def eqN:Nat→D→D→Bool
  | _,.non,.non=>true
  | _,.bl a,.bl b=>a == b
  | _,.bl a,.int b=>(if a then 1 else 0) == b
  | _,.int a,.bl b=>a == (if b then 1 else 0)
  | _,.int a,.int b=>a == b
  | _,.str a,.str b=>a == b
  | n+1,.tup a,.tup b=>(List.zipWith (eqN n) a b).all id&&a.length == b.length
  | n+1,.lst a,.lst b=>(List.zipWith (eqN n) a b).all id&&a.length == b.length
  | _,_,_=>false
omit [KK] in
theorem Vz {n:Nat}:∀ (a b:List D),(List.zipWith (eqN n) a b).all id=(List.range (min a.length b.length)).all fun j=>eqN n (a.getD j .non) (b.getD j .non):=by
  intro a b
  have:List.zipWith (eqN n) a b=(List.range (min a.length b.length)).map fun j=>eqN n (a.getD j .non) (b.getD j .non):=by
    apply List.ext_getElem
    · simp
    · intro i h1 h2
      simp at h1 h2
      have g1:i < a.length:=Nat.lt_of_lt_of_le h1 (Nat.min_le_left _ _)
      have g2:i < b.length:=Nat.lt_of_lt_of_le h1 (Nat.min_le_right _ _)
      simp [g1,g2]
  rw [this,List.all_map]
  rfl
omit [KK] in
noncomputable def vOf:D→V
  | .bl b=>.bl b
  | .int i=>.int i
  | .str t=>.str t
  | _=>.non
theorem wW {F:Hp}{d:D}{x:V}(h:okE 0 d=true)(a:At F d x):x=vOf d:=by
  cases d with
  | non=>exact a.non_inv
  | bl b=>exact a.bl_inv
  | int b=>exact a.int_inv
  | str b=>exact a.str_inv
  | _=>cases h
omit [KK] in
theorem XU {d:D}(h:okE 0 d=true):zhy (vOf d)=true:=by
  cases d <;> first | rfl | cases h
omit [KK] in
theorem Vo {d:D}{p:Addr}(h:okE 0 d=true)(e:vOf d=.ref p):False:=by
  cases d <;> first | (cases h;done) | (cases e;done)
noncomputable def dOfV:V→D
  | .bl b=>.bl b
  | .int i=>.int i
  | .str t=>.str t
  | _=>.non
omit [KK] in
theorem zd0 {d:D}(h:okE 0 d=true):dOfV (vOf d)=d:=by
  cases d <;> first | rfl | (cases h;done)
omit [KK] in
theorem zet {d e:D}(h1:okE 0 d=true)(h2:okE 0 e=true)(h:vOf d=vOf e):d=e:=by
  rw [←zd0 h1,h,zd0 h2]
omit [KK] in
theorem wP {n:Nat}{d:D}(h:okE (n+1) d=true):okE 0 d=true∨(∃ ds,d=.tup ds∧ds.all (okE n)=true)∨∃ ds,d=.lst ds∧ds.all (okE n)=true:=by
  cases d with
  | tup ds=>exact .inr (.inl ⟨ds,rfl,h⟩)
  | lst ds=>exact .inr (.inr ⟨ds,rfl,h⟩)
  | scr _=>cases h
  | dct _ _ _ _=>cases h
  | _=>exact .inl rfl
theorem zcW {F:Hp}{n:Nat}(ih:∀ {d e:D} {v:V},okE n d=true→okE n e=true→At F d v→At F e v→d=e):∀ {xs:List V} {ds es:List D},ds.all (okE n)=true→es.all (okE n)=true→AtL F ds xs→AtL F es xs→ds=es:=by
  intro xs
  induction xs with
  | nil =>
    intro ds es _ _ a1 a2
    exact (List.length_eq_zero_iff.mp a1.length.symm).trans (List.length_eq_zero_iff.mp a2.length.symm).symm
  | cons x xs ih2 =>
    intro ds es h1 h2 a1 a2
    cases ds with
    | nil=>cases a1.nil_inv
    | cons d ds=>cases es with
      | nil=>cases a2.nil_inv
      | cons e es =>
        obtain ⟨y,r,e1,b1,c1⟩:=a1.cons_inv
        obtain ⟨y2,r2,e2,b2,c2⟩:=a2.cons_inv
        cases e1
        cases e2
        rw [List.all_cons,Bool.and_eq_true] at h1 h2
        rw [ih2 h1.2 h2.2 c1 c2,ih h1.1 h2.1 b1 b2]
theorem zgM {F:Hp}:∀ (n:Nat) {d e:D} {v:V},okE n d=true→okE n e=true→At F d v→At F e v→d=e:=by
  intro n
  induction n with
  | zero =>
    intro d e v h1 h2 a1 a2
    exact zet h1 h2 ((wW h1 a1).symm.trans (wW h2 a2))
  | succ n ih =>
    intro d e v h1 h2 a1 a2
    rcases wP h1 with f1 | ⟨ds,rfl,k1⟩ | ⟨ds,rfl,k1⟩
    · have e1:=wW f1 a1
      rcases wP h2 with f2 | ⟨es,rfl,_⟩ | ⟨es,rfl,_⟩
      · exact zet f1 f2 (e1.symm.trans (wW f2 a2))
      · obtain ⟨p,xs,e2,_⟩:=a2.tup_inv
        exact (Vo f1 (e1.symm.trans e2)).elim
      · obtain ⟨p,xs,e2,_⟩:=a2.lst_inv
        exact (Vo f1 (e1.symm.trans e2)).elim
    · obtain ⟨p,xs,e0,hx,al⟩:=a1.tup_inv
      rcases wP h2 with f2 | ⟨es,rfl,k2⟩ | ⟨es,rfl,k2⟩
      · exact (Vo f2 ((wW f2 a2).symm.trans e0)).elim
      · obtain ⟨q,ys,e1,hy,bl⟩:=a2.tup_inv
        cases e0.symm.trans e1
        cases hx.symm.trans hy
        rw [zcW ih k1 k2 al bl]
      · obtain ⟨q,ys,e1,hy,bl⟩:=a2.lst_inv
        cases e0.symm.trans e1
        cases hx.symm.trans hy
    · obtain ⟨p,xs,e0,hx,al⟩:=a1.lst_inv
      rcases wP h2 with f2 | ⟨es,rfl,k2⟩ | ⟨es,rfl,k2⟩
      · exact (Vo f2 ((wW f2 a2).symm.trans e0)).elim
      · obtain ⟨q,ys,e1,hy,bl⟩:=a2.tup_inv
        cases e0.symm.trans e1
        cases hx.symm.trans hy
      · obtain ⟨q,ys,e1,hy,bl⟩:=a2.lst_inv
        cases e0.symm.trans e1
        cases hx.symm.trans hy
        rw [zcW ih k1 k2 al bl]
omit [KK] in
theorem zf4:∀ (n:Nat) {d:D},okE n d=true→eqN n d d=true:=by
  intro n
  induction n with
  | zero =>
    intro d h
    cases d with
    | tup _=>cases h
    | lst _=>cases h
    | scr _=>cases h
    | dct _ _ _ _=>cases h
    | _=>first | rfl | exact decide_eq_true rfl | exact beq_self_eq_true _
  | succ n ih =>
    have ihl:∀ {ds:List D},ds.all (okE n)=true→(List.zipWith (eqN n) ds ds).all id=true:=by
      intro ds
      induction ds with
      | nil=>intro _;rfl
      | cons d ds ih2 =>
        intro h
        rw [List.all_cons,Bool.and_eq_true] at h
        rw [List.zipWith_cons_cons,List.all_cons,ih2 h.2,Bool.and_true]
        exact ih h.1
    intro d h
    cases d with
    | tup ds=>show ((List.zipWith (eqN n) ds ds).all id&&ds.length == ds.length)=true;rw [ihl h];simp
    | lst ds=>show ((List.zipWith (eqN n) ds ds).all id&&ds.length == ds.length)=true;rw [ihl h];simp
    | scr _=>cases h
    | dct _ _ _ _=>cases h
    | _=>first | rfl | exact decide_eq_true rfl | exact beq_self_eq_true _
theorem zgF {F:Hp}(n:Nat){d e:D}{v:V}(h1:okE n d=true)(h2:okE n e=true)(a1:At F d v)(a2:At F e v):eqN n d e=true:=by
  rw [zgM n h1 h2 a1 a2]
  exact zf4 n h2
omit [KK] in
theorem vw {n:Nat}{ds:List D}{j:Nat}(h:ds.all (okE n)=true)(hj:j < ds.length):okE n (ds.getD j .non)=true:=by
  have:ds.getD j .non=ds[j]:=by simp [hj]
  rw [this]
  exact List.all_eq_true.mp h _ (List.getElem_mem hj)
theorem AtL.nth {F:Hp}{ds:List D}{xs:List V}{us:List Value}{j:Nat}(al:AtL F ds xs)(r:xj xs us)(h:j < us.length):∃ x,At F (ds.getD j .non) x∧xw x us[j]:=by
  have hl:=al.length
  have hl2:=r.length
  have hj:j < ds.length:=by omega
  obtain ⟨x,hx,ax⟩:=al.get (i:=j) (d:=ds[j]) (by simp [hj])
  obtain ⟨u,hu,ru⟩:=r.get hx
  refine ⟨x,by rw [show ds.getD j .non=ds[j] by simp [hj]];exact ax,?_⟩
  have:us[j]?=some us[j]:=by simp [h]
  rw [hu] at this
  cases this
  exact ru
omit [KK] in
theorem zbD {n:Nat}{d e:D}(h1:okE 0 d=true)(h2:okE 0 e=true):eqN n d e=eqV (vOf d) (vOf e):=by
  cases n <;> cases d <;> first | (cases h1;done) | skip
  all_goals cases e <;> first | (cases h2;done) | rfl
omit [KK] in
theorem zbH {n:Nat}{d:D}(ds:List D)(h:okE 0 d=true):eqN (n+1) d (.tup ds)=false∧eqN (n+1) d (.lst ds)=false∧eqN (n+1) (.tup ds) d=false∧eqN (n+1) (.lst ds) d=false:=by
  cases d <;> first | exact ⟨rfl,rfl,rfl,rfl⟩ | cases h
omit [KK] in
theorem Vv {A:Around}{s:Shared}{d:D}{u:Value}{p:Addr}{its:Array Value}(h:okE 0 d=true)(r:xw (vOf d) u)(hu:A.units < cLine) :
    (s.heap.IsTuple p its→SeqAt.EqAt A s u (.ref p) false∧SeqAt.EqAt A s (.ref p) u false)∧(s.heap.IsList p its→SeqAt.EqAt A s u (.ref p) false∧SeqAt.EqAt A s (.ref p) u false):=by
  cases d with
  | non=>cases r;exact ⟨fun ht=>⟨.none_tuple ht hu,.tuple_none ht hu⟩,fun ht=>⟨.none_list ht hu,.list_none ht hu⟩⟩
  | bl b=>cases r;exact ⟨fun ht=>⟨.bool_tuple b ht hu,.tuple_bool b ht hu⟩,fun ht=>⟨.bool_list b ht hu,.list_bool b ht hu⟩⟩
  | int b=>obtain ⟨t,rfl⟩:=r;exact ⟨fun ht=>⟨.int_tuple b t ht hu,.tuple_int b t ht hu⟩,fun ht=>⟨.int_list b t ht hu,.list_int b t ht hu⟩⟩
  | str b=>obtain ⟨t,rfl⟩:=r;exact ⟨fun ht=>⟨.str_tuple b t ht hu,.tuple_str b t ht hu⟩,fun ht=>⟨.str_list b t ht hu,.list_str b t ht hu⟩⟩
  | _=>cases h
theorem W5 {X:Cx}{pins:List (Addr × Obj)}{σ:St}{F H:Hp}{s:Shared}(I:Inv X pins σ H s)(sm:yJ F H){ds:List D}{x:V}{u:Value}(a:At F (.tup ds) x)(r:xw x u):∃ p its xs,u=.ref p∧x=.ref p∧xj xs its∧AtL F ds xs∧s.heap.IsTuple p its.toArray:=by
  obtain ⟨p,xs,rfl,hx,al⟩:=a.tup_inv
  cases r
  obtain ⟨its,rv,ht,hz⟩:=I.tuple (SqT.of (sm _ _ hx))
  exact ⟨p,its,xs,rfl,rfl,rv,al,ht⟩
theorem Vi {X:Cx}{pins:List (Addr × Obj)}{σ:St}{F H:Hp}{s:Shared}(I:Inv X pins σ H s)(sm:yJ F H){ds:List D}{x:V}{u:Value}(a:At F (.lst ds) x)(r:xw x u):∃ p its xs,u=.ref p∧x=.ref p∧xj xs its∧AtL F ds xs∧s.heap.IsList p its.toArray:=by
  obtain ⟨p,xs,rfl,hx,al⟩:=a.lst_inv
  cases r
  obtain ⟨its,rv,ht,hz⟩:=I.list (SqL.of (sm _ _ hx))
  exact ⟨p,its,xs,rfl,rfl,rv,al,ht.isList⟩
omit [KK] in
theorem zeb {n:Nat}(ds es:List D):((List.zipWith (eqN n) ds es).all id&&ds.length == es.length)=((List.range (min ds.length es.length)).all (fun j=>eqN n (ds.getD j .non) (es.getD j .non))&&ds.length == es.length):=by rw [Vz]
theorem zb9 {X:Cx}{pins:List (Addr × Obj)}{σ:St}{F H:Hp}{s:Shared}(I:Inv X pins σ H s)(sm:yJ F H):∀ (n:Nat) {A:Around} {d e:D} {x y:V} {u v:Value},okE n d=true→okE n e=true→At F d x→At F e y→xw x u→xw y v→A.units+n < cLine→SeqAt.EqAt A s u v (eqN n d e):=by
  intro n
  induction n with
  | zero =>
    intro A d e x y u v h1 h2 a1 a2 r1 r2 hu
    cases wW h1 a1
    cases wW h2 a2
    rw [zbD h1 h2]
    exact zgo r1 r2 (XU h1) (XU h2)
  | succ n ih =>
    intro A d e x y u v h1 h2 a1 a2 r1 r2 hu
    have hu0:A.units < cLine:=Nat.lt_of_le_of_lt (Nat.le_add_right _ _) hu
    have hu1:A.units+1+n < cLine:=by rw [Nat.add_assoc,Nat.add_comm 1 n];exact hu
    rcases wP h1 with f1 | ⟨ds,rfl,k1⟩ | ⟨ds,rfl,k1⟩
    · cases wW f1 a1
      rcases wP h2 with f2 | ⟨es,rfl,k2⟩ | ⟨es,rfl,k2⟩
      · cases wW f2 a2
        rw [zbD f1 f2]
        exact zgo r1 r2 (XU f1) (XU f2)
      · obtain ⟨q,its2,ys,rfl,_,_,_,ht2⟩:=W5 I sm a2 r2
        rw [(zbH es f1).1]
        exact ((Vv f1 r1 hu0).1 ht2).1
      · obtain ⟨q,its2,ys,rfl,_,_,_,ht2⟩:=Vi I sm a2 r2
        rw [(zbH es f1).2.1]
        exact ((Vv f1 r1 hu0).2 ht2).1
    · obtain ⟨p,its,xs,rfl,hxp,rv,al,ht⟩:=W5 I sm a1 r1
      rcases wP h2 with f2 | ⟨es,rfl,k2⟩ | ⟨es,rfl,k2⟩
      · cases wW f2 a2
        rw [(zbH ds f2).2.2.1]
        exact ((Vv f2 r2 hu0).1 ht).2
      · obtain ⟨q,its2,ys,rfl,hyq,rv2,bl,ht2⟩:=W5 I sm a2 r2
        by_cases hpq:p=q
        · subst hpq
          rw [hxp] at a1
          rw [hyq] at a2
          rw [zgF (n+1) h1 h2 a1 a2]
          exact .same _
        · have hl1:its.toArray.size=ds.length:=by rw [List.size_toArray,← rv.length,al.length]
          have hl2:its2.toArray.size=es.length:=by rw [List.size_toArray,← rv2.length,bl.length]
          have:=SeqAt.RcAt.tuples (A:=A) (e:=fun j=>eqN n (ds.getD j .non) (es.getD j .non)) ht ht2 hu0 fun j g1 g2=>by
            obtain ⟨x',ax,rx⟩:=al.nth rv (j:=j) g1
            obtain ⟨y',ay,ry⟩:=bl.nth rv2 (j:=j) g2
            exact ih (vw k1 (hl1 ▸ g1)) (vw k2 (hl2 ▸ g2)) ax ay rx ry hu1
          rw [hl1,hl2] at this
          rw [show eqN (n+1) (.tup ds) (.tup es)=_ from zeb ds es]
          exact SeqAt.EqAt.of_refs hpq this
      · obtain ⟨q,its2,ys,rfl,_,_,_,ht2⟩:=Vi I sm a2 r2
        exact .tuple_list ht ht2 hu0
    · obtain ⟨p,its,xs,rfl,hxp,rv,al,ht⟩:=Vi I sm a1 r1
      rcases wP h2 with f2 | ⟨es,rfl,k2⟩ | ⟨es,rfl,k2⟩
      · cases wW f2 a2
        rw [(zbH ds f2).2.2.2]
        exact ((Vv f2 r2 hu0).2 ht).2
      · obtain ⟨q,its2,ys,rfl,_,_,_,ht2⟩:=W5 I sm a2 r2
        exact .list_tuple ht ht2 hu0
      · obtain ⟨q,its2,ys,rfl,hyq,rv2,bl,ht2⟩:=Vi I sm a2 r2
        by_cases hpq:p=q
        · subst hpq
          rw [hxp] at a1
          rw [hyq] at a2
          rw [zgF (n+1) h1 h2 a1 a2]
          exact .same _
        · have hl1:its.toArray.size=ds.length:=by rw [List.size_toArray,← rv.length,al.length]
          have hl2:its2.toArray.size=es.length:=by rw [List.size_toArray,← rv2.length,bl.length]
          rw [show eqN (n+1) (.lst ds) (.lst es)=_ from zeb ds es]
          by_cases hle:ds.length=es.length
          · have:=SeqAt.RcAt.lists (A:=A) (e:=fun j=>eqN n (ds.getD j .non) (es.getD j .non)) ht ht2 (by rw [hl1,hl2,hle]) hu0 fun j g1 g2=>by
              obtain ⟨x',ax,rx⟩:=al.nth rv (j:=j) g1
              obtain ⟨y',ay,ry⟩:=bl.nth rv2 (j:=j) g2
              exact ih (vw k1 (hl1 ▸ g1)) (vw k2 (hl2 ▸ g2)) ax ay rx ry hu1
            rw [hl1] at this
            rw [←hle,Nat.min_self,beq_self_eq_true,Bool.and_true]
            exact SeqAt.EqAt.of_refs hpq this
          · have:=SeqAt.RcAt.lists_lengths (A:=A) ht ht2 (by rw [hl1,hl2];exact bne_iff_ne.mpr hle) hu0
            rw [beq_eq_false_iff_ne.mpr hle,Bool.and_false]
            exact SeqAt.EqAt.of_refs hpq this
noncomputable def zj1 (d:D)(es:List D):Option Bool:=if okE 20 d=true∧es.all (okE 20)=true then some (es.any fun e=>eqN 20 e d) else none
noncomputable def inD (d e:D):Option D:=(xo e).bind fun es=>(zj1 d es).map .bl
open Classical in
noncomputable def zeX (F:Hp)(d:D)(u:Value):Bool:=decide (∃ d0 x,At F d0 x∧xw x u∧okE 20 d0=true∧eqN 20 d0 d=true)
open Classical in
theorem zdM {F:Hp}{d d0:D}{x:V}{u:Value}(a:At F d0 x)(r:xw x u)(k:okE 20 d0=true):zeX F d u=eqN 20 d0 d:=by
  unfold zeX
  cases h:eqN 20 d0 d with
  | true=>exact decide_eq_true ⟨d0,x,a,r,k,h⟩
  | false =>
    refine decide_eq_false ?_
    rintro ⟨d1,y,a1,r1,k1,h1⟩
    have e:=r1.inj r
    subst e
    rw [zgM 20 k1 k a1 a] at h1
    rw [h1] at h
    cases h
theorem VA {F:Hp}{d:D}:∀ {ds:List D} {xs:List V} {us:List Value},AtL F ds xs→xj xs us→ds.all (okE 20)=true→us.any (zeX F d)=ds.any fun e=>eqN 20 e d
  | [],_,_,al,r,_=>by cases al.nil_inv;cases r;rfl
  | e::ds,_,_,al,r,k=>by
    obtain ⟨x,xs,rfl,a1,a2⟩:=al.cons_inv
    cases r with
    | cons r1 r2 =>
      rw [List.all_cons,Bool.and_eq_true] at k
      rw [List.any_cons,List.any_cons,zdM a1 r1 k.1,VA a2 r2 k.2]
section
variable {X:Cx}
noncomputable def rInD (neg:Bool):R2:=fun x y H Q=>∃ F d e es b,yJ F H∧At F d x∧At F e y∧xo e=some es∧zj1 d es=some b∧Q (.bl (if neg then !b else b)) H
theorem zjm {k:Nat}(hr:v0 k X.A):OpR X (compareOp .In) (rInD false):=by
  intro pins s σ H x y v u Q I rx ry h
  obtain ⟨F,d,e,es,b,sm,a1,a2,hs,hb,q⟩:=h
  unfold zj1 at hb
  split at hb <;> cases hb
  rename_i hk
  have hu:X.A.in1.units+20 < cLine:=by have:=hr.un;show X.A.units+1+20 < cLine;omega
  have mem:∀ {xs:List V} {us:List Value},AtL F es xs→xj xs us→∀ z∈us,SeqAt.EqAt X.A.in1 s z v (zeX F d z):=fun {xs us} al r z hz=>by
    obtain ⟨j,hj,rfl⟩:=List.getElem_of_mem hz
    obtain ⟨x',ax,rx'⟩:=al.nth r hj
    have hj':j < es.length:=by have:=al.length;have:=r.length;omega
    have k2:=vw hk.2 hj'
    rw [zdM ax rx' k2]
    exact zb9 I sm 20 k2 hk.1 ax a1 rx' rx hu
  cases e <;> cases hs
  · obtain ⟨p,xs,rfl,hx,al⟩:=a2.tup_inv
    cases ry
    obtain ⟨its,r,pl,hz⟩:=I.tuple (SqT.of (sm _ _ hx))
    refine SeqAt.in_tupleAt (zeX F d) pl (fun z hz=>mem al r z (by simpa using hz)) ⟨.bl _,H,I,rfl,?_⟩
    rw [show its.toArray.any (zeX F d)=its.any (zeX F d) by simp,VA al r hk.2]
    exact q
  · obtain ⟨p,xs,rfl,hx,al⟩:=a2.lst_inv
    cases ry
    obtain ⟨its,r,pl,hz⟩:=I.list (SqL.of (sm _ _ hx))
    refine SeqAt.in_listAt (zeX F d) pl.isList (fun z hz=>mem al r z (by simpa using hz)) ⟨.bl _,H,I,rfl,?_⟩
    rw [show its.toArray.any (zeX F d)=its.any (zeX F d) by simp,VA al r hk.2]
    exact q
theorem ziB:OpD (rInD false) inD:=by
  intro F H x y d e z Q s ax ay ez q
  obtain ⟨es,e1,e2⟩:=Option.bind_eq_some_iff.mp ez
  obtain ⟨b,e3,rfl⟩:=Option.map_eq_some_iff.mp e2
  exact ⟨F,d,e,es,b,s,ax,ay,e1,e3,q F H _ (.refl s) .bl⟩
noncomputable def eqG (d e:D):Option Bool:=match d,e with
  | .tup _,.tup _=>if okE 20 d=true∧okE 20 e=true then some (eqN 20 d e) else none
  | .lst _,.lst _=>if okE 20 d=true∧okE 20 e=true then some (eqN 20 d e) else none
  | _,_=>eqS d e
noncomputable def YM (d e:D):Option D:=(eqG d e).map .bl
noncomputable def zka:R2:=fun x y H Q=>∃ F d e,yJ F H∧At F d x∧At F e y∧((∃ ds es,d=.tup ds∧e=.tup es)∨(∃ ds es,d=.lst ds∧e=.lst es))∧okE 20 d=true∧okE 20 e=true∧Q (.bl (eqN 20 d e)) H
theorem zj7 {k:Nat}(hr:v0 k X.A):OpR X (compareOp .Eq) zka:=by
  intro pins s σ H x y v u Q I rx ry h
  obtain ⟨F,d,e,sm,a1,a2,hk,k1,k2,q⟩:=h
  have hu:X.A.units+30 < cLine:=by have:=hr.un;omega
  rcases hk with ⟨ds,es,rfl,rfl⟩ | ⟨ds,es,rfl,rfl⟩
  · obtain ⟨p,xs,rfl,hx,al⟩:=a1.tup_inv
    obtain ⟨p2,ys,rfl,hy,bl⟩:=a2.tup_inv
    cases rx
    cases ry
    obtain ⟨its,r,ht,hz⟩:=I.tuple (SqT.of (sm _ _ hx))
    obtain ⟨its2,r2,ht2,hz2⟩:=I.tuple (SqT.of (sm _ _ hy))
    have hl1:its.toArray.size=ds.length:=by rw [List.size_toArray,← r.length,al.length]
    have hl2:its2.toArray.size=es.length:=by rw [List.size_toArray,← r2.length,bl.length]
    refine SeqAt.eq_tupleAt (e:=fun j=>eqN 19 (ds.getD j .non) (es.getD j .non)) (show s.heap.IsTuple p its.toArray from ht) (show s.heap.IsTuple p2 its2.toArray from ht2) (by omega) (fun j g1 g2=>?_) ⟨.bl _,H,I,rfl,?_⟩
    · obtain ⟨x',ax,rx⟩:=al.nth r (j:=j) (by simpa using g1)
      obtain ⟨y',ay,ry⟩:=bl.nth r2 (j:=j) (by simpa using g2)
      exact zb9 I sm 19 (vw k1 (by rw [←hl1];exact g1)) (vw k2 (by rw [←hl2];exact g2)) ax ay (by simpa using rx) (by simpa using ry) (Nat.lt_of_le_of_lt (show X.A.units+20≤X.A.units+30 from Nat.add_le_add_left (by decide) _) hu)
    · rw [hl1,hl2,← Vz]
      exact q
  · obtain ⟨p,xs,rfl,hx,al⟩:=a1.lst_inv
    obtain ⟨p2,ys,rfl,hy,bl⟩:=a2.lst_inv
    cases rx
    cases ry
    obtain ⟨its,r,ht,hz⟩:=I.list (SqL.of (sm _ _ hx))
    obtain ⟨its2,r2,ht2,hz2⟩:=I.list (SqL.of (sm _ _ hy))
    have hl1:its.toArray.size=ds.length:=by rw [List.size_toArray,← r.length,al.length]
    have hl2:its2.toArray.size=es.length:=by rw [List.size_toArray,← r2.length,bl.length]
    have e1:eqN 20 (.lst ds) (.lst es)=((List.range (min ds.length es.length)).all (fun j=>eqN 19 (ds.getD j .non) (es.getD j .non))&&ds.length == es.length):=by
      show ((List.zipWith (eqN 19) ds es).all id&&ds.length == es.length)=_
      rw [Vz]
    by_cases hle:ds.length=es.length
    · refine SeqAt.eq_listAt (e:=fun j=>eqN 19 (ds.getD j .non) (es.getD j .non)) ht.isList ht2.isList (by rw [hl1,hl2];exact hle) (Nat.lt_of_le_of_lt (Nat.le_add_right _ 30) hu) (fun j g1 g2=>?_) ⟨.bl _,H,I,rfl,?_⟩
      · obtain ⟨x',ax,rx⟩:=al.nth r (j:=j) (by simpa using g1)
        obtain ⟨y',ay,ry⟩:=bl.nth r2 (j:=j) (by simpa using g2)
        exact zb9 I sm 19 (vw k1 (by rw [←hl1];exact g1)) (vw k2 (by rw [←hl2];exact g2)) ax ay (by simpa using rx) (by simpa using ry) (Nat.lt_of_le_of_lt (show X.A.units+20≤X.A.units+30 from Nat.add_le_add_left (by decide) _) hu)
      · rw [hl1]
        rw [e1,← hle,Nat.min_self] at q
        simpa using q
    · refine SeqAt.eq_list_lengthsAt ht.isList ht2.isList (by rw [hl1,hl2];simpa using hle) (Nat.lt_of_le_of_lt (Nat.le_add_right _ 30) hu) ⟨.bl _,H,I,rfl,?_⟩
      have:(ds.length == es.length)=false:=by simpa using hle
      rw [e1,this,Bool.and_false] at q
      exact q
theorem zif:OpD zka (fun d e=>match d,e with
  | .tup _,.tup _=>if okE 20 d=true∧okE 20 e=true then some (.bl (eqN 20 d e)) else none
  | .lst _,.lst _=>if okE 20 d=true∧okE 20 e=true then some (.bl (eqN 20 d e)) else none
  | _,_=>none):=by
  intro F H x y d e z Q s ax ay ez q
  dsimp only at ez
  split at ez
  · split at ez <;> cases ez
    rename_i hk
    exact ⟨F,_,_,s,ax,ay,.inl ⟨_,_,rfl,rfl⟩,hk.1,hk.2,q F H _ (.refl s) .bl⟩
  · split at ez <;> cases ez
    rename_i hk
    exact ⟨F,_,_,s,ax,ay,.inr ⟨_,_,rfl,rfl⟩,hk.1,hk.2,q F H _ (.refl s) .bl⟩
  · cases ez
theorem xM {k:Nat}(hr:v0 k X.A):OpR X (compareOp .Eq) (fun x y H Q=>rEq x y H Q∨zka x y H Q):=zi3.or (zj7 hr)
theorem yH:OpD (fun x y H Q=>rEq x y H Q∨zka x y H Q) YM:=by
  refine zba (VU zgn zif) fun d e z h=>?_
  obtain ⟨b,hb,rfl⟩:=Option.map_eq_some_iff.mp h
  unfold eqG at hb
  split at hb
  · split at hb <;> cases hb
    rename_i hk
    show (Option.or none (if okE 20 _=true∧okE 20 _=true then some (D.bl (eqN 20 _ _)) else none))=_
    rw [if_pos hk]
    rfl
  · split at hb <;> cases hb
    rename_i hk
    show (Option.or none (if okE 20 _=true∧okE 20 _=true then some (D.bl (eqN 20 _ _)) else none))=_
    rw [if_pos hk]
    rfl
  · show ((eqD d e).or _)=_
    unfold eqD
    rw [hb]
    rfl
theorem Vd {pins:List (Addr × Obj)}{σ:St}{H:Hp}{s:Shared}{a:Addr}{xs:List V}{A:Around}{Q:Value→Shared→Prop}{E:Value→Shared→Prop}(I:Inv X pins σ H s)(hh:A.handled=none)(h:SqL X.K H a xs∨SqT X.K H a xs)
    (k:∀ (it:Addr) (its:List Value) (fp wr:List Addr) (St:Nat→Heap→Prop) (s₂:Shared),xj xs its→Walks X.prog X.w A it fp wr its.length (fun i v=>its[i]?=some v) St→St 0 s₂.heap→(∀ b∈fp,b < s₂.heap.objs.size) →
      (∀ (h':Heap) (tk:Nat),(∀ b o,b∉wr→s₂.heap.get? b=some o→h'.get? b=some o)→Inv X pins σ H { s₂ with heap:=h',toks:=tk })→Q (.ref it) s₂) :
    wpAny (model X.prog X.w) A (pyIter (.ref a)) Q E s:=by
  have back:∀ {o:Obj} {s₂:Shared},s₂={ s with heap:=s.heap.push o }→∀ (h':Heap) (tk:Nat),(∀ b u,b∉[s.heap.objs.size]→s₂.heap.get? b=some u→h'.get? b=some u)→Inv X pins σ H { s₂ with heap:=h',toks:=tk }:=fun {o s₂} e h' tk kk=>by
    subst e
    exact I.kept (t':=tk) fun b u z=>kk b u (by simpa using Nat.ne_of_lt (Heap.lt_size z)) (Heap.get?_push_of_some _ z)
  rcases h with h | h
  · obtain ⟨its,rv,p,hz⟩:=I.list h
    have lt:a < s.heap.objs.size:=by obtain ⟨o,n,ho,_⟩:=p;exact Heap.lt_size ho
    refine wpAny_pyIter_list p.isList ?_
    have W:=Walks.list (prog:=X.prog) (w:=X.w) (A:=A) hh s.heap.objs.size a (Nat.ne_of_lt lt) its.toArray
    refine k s.heap.objs.size its [s.heap.objs.size,a] [s.heap.objs.size] (fun i h=>h.IsListIter s.heap.objs.size a i∧h.IsList a its.toArray) _ rv (by simpa using W) ⟨⟨_,Heap.get?_push_size _ rfl,rfl,rfl⟩,p.isList.at fun o e=>Heap.get?_push_of_some _ e⟩ (fun b hb=>?_) (back rfl)
    show b < (s.heap.push _).objs.size
    rw [Heap.size_push]
    rcases List.mem_cons.mp hb with rfl | hb
    · exact Nat.lt_succ_self _
    · rw [List.mem_singleton.mp hb];exact Nat.lt_succ_of_lt lt
  · obtain ⟨its,rv,p,hz⟩:=I.tuple h
    have p':s.heap.IsTuple a its.toArray:=p
    have lt:a < s.heap.objs.size:=by obtain ⟨o,ho,_⟩:=p;exact Heap.lt_size ho
    refine wpAny_pyIter_tuple p' ?_
    have W:=Walks.tuple (prog:=X.prog) (w:=X.w) (A:=A) hh s.heap.objs.size a (Nat.ne_of_lt lt) its.toArray
    refine k s.heap.objs.size its [s.heap.objs.size,a] [s.heap.objs.size] (fun i h=>h.IsTupleIter s.heap.objs.size a i∧h.IsTuple a its.toArray) _ rv (by simpa using W) ⟨⟨_,Heap.get?_push_size _ rfl,rfl,rfl⟩,p'.at fun o e=>Heap.get?_push_of_some _ e⟩ (fun b hb=>?_) (back rfl)
    show b < (s.heap.push _).objs.size
    rw [Heap.size_push]
    rcases List.mem_cons.mp hb with rfl | hb
    · exact Nat.lt_succ_self _
    · rw [List.mem_singleton.mp hb];exact Nat.lt_succ_of_lt lt
end
end Dl
namespace Dl
open PySem L2
variable [KK]
omit [KK] in
theorem zdn {bs:List Bool}:(List.range bs.length).all (fun i=>bs.getD i false)=bs.all id:=by
  have:bs=(List.range bs.length).map fun i=>bs.getD i false:=by
    apply List.ext_getElem
    · simp
    · intro i h1 h2
      simp [h1]
  conv=>rhs;rw [this]
  rw [List.all_map]
  rfl
omit [KK] in
theorem zdj {bs:List Bool}:(List.range bs.length).any (fun i=>bs.getD i false)=bs.any id:=by
  have:bs=(List.range bs.length).map fun i=>bs.getD i false:=by
    apply List.ext_getElem
    · simp
    · intro i h1 h2
      simp [h1]
  conv=>rhs;rw [this]
  rw [List.any_map]
  rfl
omit [KK] in
theorem zdw:∀ (ns:List Int) (n:Nat),n≤ns.length→preSum (fun i=>ns.getD i 0) n=(ns.take n).sum:=by
  intro ns n
  induction n with
  | zero=>intro _;simp [preSum]
  | succ n ih =>
    intro h
    show preSum (fun i=>ns.getD i 0) n+ns.getD n 0=_
    rw [ih (by omega),List.take_succ,List.sum_append]
    have:ns[n]?=some ns[n]:=by simp [show n < ns.length by omega]
    simp [this]
section
variable {X:Cx}
omit [KK] in
theorem zdv {bs:List Bool}{its:List Value}{i:Nat}{v:Value}(r:xj (bs.map V.bl) its)(h:its[i]?=some v):v=.bool (bs.getD i false):=by
  have hl:=r.length
  have hi:i < its.length:=(List.getElem?_eq_some_iff.mp h).1
  rw [List.length_map] at hl
  obtain ⟨u,hu,ru⟩:=r.get (i:=i) (x:=.bl (bs[i]'(by omega))) (by rw [List.getElem?_map];simp [show i < bs.length by omega])
  rw [h] at hu
  cases hu
  cases ru
  simp [show i < bs.length by omega]
omit [KK] in
theorem zfG {ns:List Int}{its:List Value}{i:Nat}{v:Value}(r:xj (ns.map V.int) its)(h:its[i]?=some v):∃ t,v=.int (ns.getD i 0) t:=by
  have hl:=r.length
  have hi:i < its.length:=(List.getElem?_eq_some_iff.mp h).1
  rw [List.length_map] at hl
  obtain ⟨u,hu,ru⟩:=r.get (i:=i) (x:=.int (ns[i]'(by omega))) (by rw [List.getElem?_map];simp [show i < ns.length by omega])
  rw [h] at hu
  cases hu
  obtain ⟨t,rfl⟩:=ru
  exact ⟨t,by simp [show i < ns.length by omega]⟩
theorem zdE (hc:X.calm=true):Zx X (.builtin "all") (fun xs H Q=>∃ (p:Addr) (bs:List Bool),xs=[.ref p]∧(SqL X.K H p (bs.map V.bl)∨SqT X.K H p (bs.map V.bl))∧Q (.bl (bs.all id)) H):=by
  intro pins s σ H xs us Q I r h
  obtain ⟨p,bs,rfl,hq,q⟩:=h
  obtain ⟨u,rfl,ru⟩:=za0 r
  cases ru
  refine call_all_walk (Vd I (I.ok.hd hc) hq fun it its fp wr St s₂ rv W st fpl back=>?_)
  have hl:=rv.length
  rw [List.length_map] at hl
  refine ⟨it,fp,wr,_,_,St,fun i=>bs.getD i false,rfl,W,st,fun i v s Q E hv hQ=>?_,fun h' tk kk=>⟨.bl _,H,back h' tk kk,rfl,?_⟩⟩
  · rw [zdv rv hv]
    exact wpAny_truthy_bool hQ
  · rw [←hl,zdn]
    exact q
theorem zc2 (hc:X.calm=true):Zx X (.builtin "any") (fun xs H Q=>∃ (p:Addr) (bs:List Bool),xs=[.ref p]∧(SqL X.K H p (bs.map V.bl)∨SqT X.K H p (bs.map V.bl))∧Q (.bl (bs.any id)) H):=by
  intro pins s σ H xs us Q I r h
  obtain ⟨p,bs,rfl,hq,q⟩:=h
  obtain ⟨u,rfl,ru⟩:=za0 r
  cases ru
  refine call_any_walk (Vd I (I.ok.hd hc) hq fun it its fp wr St s₂ rv W st fpl back=>?_)
  have hl:=rv.length
  rw [List.length_map] at hl
  refine ⟨it,fp,wr,_,_,St,fun i=>bs.getD i false,rfl,W,st,fun i v s Q E hv hQ=>?_,fun h' tk kk=>⟨.bl _,H,back h' tk kk,rfl,?_⟩⟩
  · rw [zdv rv hv]
    exact wpAny_truthy_bool hQ
  · rw [←hl,zdj]
    exact q
theorem xO (hc:X.calm=true):Zx X (.builtin "sum") (fun xs H Q=>∃ (p:Addr) (ns:List Int),xs=[.ref p]∧(SqL X.K H p (ns.map V.int)∨SqT X.K H p (ns.map V.int))∧Q (.int ns.sum) H):=by
  intro pins s σ H xs us Q I r h
  obtain ⟨p,ns,rfl,hq,q⟩:=h
  obtain ⟨u,rfl,ru⟩:=za0 r
  cases ru
  refine call_sum_walkG (Vd I (I.ok.hd hc) hq fun it its fp wr St s₂ rv W st fpl back=>?_)
  have hl:=rv.length
  rw [List.length_map] at hl
  refine ⟨it,fp,wr,_,_,St,fun i=>ns.getD i 0,rfl,W,st,fpl,fun i v hv=>zfG rv hv,fun h' tk t' kk=>⟨.int ns.sum,H,back h' tk kk,?_,q⟩⟩
  refine ⟨t',?_⟩
  rw [←hl,zdw ns _ (Nat.le_refl _),List.take_length]
noncomputable def zgr:List D→Option (List Bool)
  | []=>some []
  | .bl b::ds=>(zgr ds).map (b::·)
  | _=>none
noncomputable def zg2:List D→Option (List Int)
  | []=>some []
  | .int b::ds=>(zg2 ds).map (b::·)
  | _=>none
omit [KK] in
theorem zaO:∀ {ds:List D} {bs:List Bool},zgr ds=some bs→ds=bs.map .bl
  | [],bs,h=>by cases h;rfl
  | d::ds,bs,h=>by
    cases d <;> try cases h
    obtain ⟨cs,h1,rfl⟩:=Option.map_eq_some_iff.mp h
    rw [zaO h1]
    rfl
omit [KK] in
theorem zeg:∀ {ds:List D} {bs:List Int},zg2 ds=some bs→ds=bs.map .int
  | [],bs,h=>by cases h;rfl
  | d::ds,bs,h=>by
    cases d <;> try cases h
    obtain ⟨cs,h1,rfl⟩:=Option.map_eq_some_iff.mp h
    rw [zeg h1]
    rfl
omit [KK] in
theorem ze8 (bs:List Bool):zgr (bs.map .bl)=some bs:=by
  induction bs with
  | nil=>rfl
  | cons b r ih=>show (zgr (r.map .bl)).map (b::·)=_;rw [ih];rfl
omit [KK] in
theorem zbW (bs:List Int):zg2 (bs.map .int)=some bs:=by
  induction bs with
  | nil=>rfl
  | cons b r ih=>show (zg2 (r.map .int)).map (b::·)=_;rw [ih];rfl
theorem AtL.of_bls {H:Hp}:∀ {ns:List Bool} {xs:List V},AtL H (ns.map D.bl) xs→xs=ns.map V.bl
  | [],_,h=>h.nil_inv
  | n::r,_,h=>by
    obtain ⟨x,r',rfl,h1,h2⟩:=AtL.cons_inv (by simpa using h)
    rw [h1.bl_inv,AtL.of_bls h2]
    rfl
noncomputable def zjl {α:Type}(as:List D→Option α)(g:α→Option D):List D→Option D
  | [d]=>((xo d).bind as).bind g
  | _=>none
theorem zbo {K:PySem.W.Frag}{F H:Hp}{vs:List V}{ds:List D}{z:D}{α:Type}{as:List D→Option α}{g:α→Option D}(s:yJ F H)(al:AtL F ds vs)(e:zjl as g ds=some z) :
    ∃ p es xs b,vs=[.ref p]∧(SqL K H p xs∨SqT K H p xs)∧AtL F es xs∧as es=some b∧g b=some z:=by
  unfold zjl at e
  split at e
  · obtain ⟨b,e1,e2⟩:=Option.bind_eq_some_iff.mp e
    obtain ⟨es,e3,e4⟩:=Option.bind_eq_some_iff.mp e1
    obtain ⟨x,r,rfl,ax,ar⟩:=al.cons_inv
    cases ar.nil_inv
    rename_i d
    cases d <;> cases e3
    · obtain ⟨p,xs,rfl,hx,bl⟩:=ax.tup_inv
      exact ⟨p,_,xs,b,rfl,.inr (SqT.of (s _ _ hx)),bl,e4,e2⟩
    · obtain ⟨p,xs,rfl,hx,bl⟩:=ax.lst_inv
      exact ⟨p,_,xs,b,rfl,.inl (SqL.of (s _ _ hx)),bl,e4,e2⟩
  · cases e
noncomputable def zi7:=zjl zgr fun bs=>some (.bl (bs.all id))
noncomputable def anyD:=zjl zgr fun bs=>some (.bl (bs.any id))
noncomputable def VN:=zjl zg2 fun ns=>some (.int ns.sum)
theorem zha {K:PySem.W.Frag}:CaD (fun xs H Q=>∃ (p:Addr) (bs:List Bool),xs=[.ref p]∧(SqL K H p (bs.map V.bl)∨SqT K H p (bs.map V.bl))∧Q (.bl (bs.all id)) H) zi7:=by
  intro F H vs ds z Q s al e q
  obtain ⟨p,es,xs,bs,rfl,hq,bl,e1,e2⟩:=zbo (K:=K) s al e
  cases e2
  rw [zaO e1] at bl
  rw [bl.of_bls] at hq
  exact ⟨p,bs,rfl,hq,q F H _ (.refl s) .bl⟩
theorem zhc {K:PySem.W.Frag}:CaD (fun xs H Q=>∃ (p:Addr) (bs:List Bool),xs=[.ref p]∧(SqL K H p (bs.map V.bl)∨SqT K H p (bs.map V.bl))∧Q (.bl (bs.any id)) H) anyD:=by
  intro F H vs ds z Q s al e q
  obtain ⟨p,es,xs,bs,rfl,hq,bl,e1,e2⟩:=zbo (K:=K) s al e
  cases e2
  rw [zaO e1] at bl
  rw [bl.of_bls] at hq
  exact ⟨p,bs,rfl,hq,q F H _ (.refl s) .bl⟩
theorem vS {K:PySem.W.Frag}:CaD (fun xs H Q=>∃ (p:Addr) (ns:List Int),xs=[.ref p]∧(SqL K H p (ns.map V.int)∨SqT K H p (ns.map V.int))∧Q (.int ns.sum) H) VN:=by
  intro F H vs ds z Q s al e q
  obtain ⟨p,es,xs,bs,rfl,hq,bl,e1,e2⟩:=zbo (K:=K) s al e
  cases e2
  rw [zeg e1] at bl
  rw [bl.of_ints] at hq
  exact ⟨p,bs,rfl,hq,q F H _ (.refl s) .int⟩
end
end Dl
namespace Dl
open PySem L2
variable [KK]
section
variable {X:Cx}{tg a b c e:Expr}{pos:Pos}
noncomputable def zbS:List D→List D→List D
  | x::xs,y::ys=>.tup [x,y]::zbS xs ys
  | _,_=>[]
omit [KK] in
theorem zbL:∀ (xs ys:List D) (i:Nat),(zbS xs ys)[i]?=match xs[i]?,ys[i]? with | some x,some y=>some (.tup [x,y]) | _,_=>none
  | [],ys,i=>by simp [zbS]
  | x::xs,[],i=>by simp [zbS]
  | x::xs,y::ys,0=>by simp [zbS]
  | x::xs,y::ys,i+1=>by simpa [zbS] using zbL xs ys i
omit [KK] in
theorem X7:∀ (xs ys:List D),xs.length≤ys.length→(zbS xs ys).length=xs.length
  | [],ys,_=>by simp [zbS]
  | x::xs,[],h=>by simp at h
  | x::xs,y::ys,h=>by simp [zbS,X7 xs ys (by simpa using h)]
noncomputable def wn (f:Ev→Option (List D)):Ev→Option (List D):=fun ρ=>(f ρ).bind fun as=>match as with
  | [d,e]=>(xo d).bind fun xs=>(xo e).bind fun ys=>if xs.length≤ys.length then some (zbS xs ys) else none
  | _=>none
theorem zjr {K:PySem.W.Frag}{F H:Hp}{d:D}{v:V}{ds:List D}(s:yJ F H)(h:At F d v)(e:xo d=some ds):∃ b p xs,v=.ref p∧(∀ {F' H':Hp},yJ F F'→yJ F' H'→Sq b K H' p xs)∧AtL F ds xs:=by
  cases d <;> cases e
  · obtain ⟨p,xs,rfl,hx,al⟩:=h.tup_inv
    exact ⟨false,p,xs,rfl,fun s1 s2=>SqT.of (s2 _ _ (s1 _ _ hx)),al⟩
  · obtain ⟨p,xs,rfl,hx,al⟩:=h.lst_inv
    exact ⟨true,p,xs,rfl,fun s1 s2=>SqL.of (s2 _ _ (s1 _ _ hx)),al⟩
theorem zi1 {es:List Expr} {k:Nat} {tp p:Pos} {f:Ev→Option (List D)} (hg:Gl X "zip") (hm:X.mg "zip"=none) (ha:AD X [a,b] f)
    (hs:starEach [a,b] X.env=[(false,eval a X.env),(false,eval b X.env)]:=by rfl) (hs2:starEach [b] X.env=[(false,eval b X.env)]:=by rfl):ID X (.Tuple es k tp) (.Call (.Name "zip" p) [a,b] [] pos) (wn f):=by
  obtain ⟨t,pa,r⟩:=ha
  refine ⟨_,zjS hg hm zjG pa hs hs2,fun σ ρ F H ds R s va e q=>?_⟩
  obtain ⟨as,e1,e2⟩:=Option.bind_eq_some_iff.mp e
  refine r σ ρ F H as _ s va e1 fun F1 H1 v g1 a1=>?_
  split at e2
  · obtain ⟨x,r',rfl,ax,ar⟩:=a1.cons_inv
    obtain ⟨y,r',rfl,ay,ar⟩:=ar.cons_inv
    cases ar.nil_inv
    obtain ⟨xs,e3,e2'⟩:=Option.bind_eq_some_iff.mp e2
    obtain ⟨ys,e4,e2''⟩:=Option.bind_eq_some_iff.mp e2'
    clear e2 e2' e
    split at e2'' <;> cases e2''
    rename_i hle
    obtain ⟨b1,p1,us,rfl,sq1,al⟩:=zjr (K:=X.K) g1.fh ax e3
    obtain ⟨b2,p2,ws,rfl,sq2,bl⟩:=zjr (K:=X.K) g1.fh ay e4
    refine ⟨b1,b2,p1,p2,us,ws,rfl,sq1 (yJ.refl _) g1.fh,sq2 (yJ.refl _) g1.fh,q F1 H1 _ g1 fun i F2 H2 s1 s2=>?_⟩
    have q1:=sq1 s1 s2
    have q2:=sq2 s1 s2
    refine ⟨fun hl=>⟨us,q1,by rw [hl,X7 _ _ hle,al.length]⟩,fun d hd=>?_⟩
    rw [zbL] at hd
    cases h1:xs[i]? with
    | none=>rw [h1] at hd;cases hd
    | some x =>
      cases h2:ys[i]? with
      | none=>rw [h1,h2] at hd;cases hd
      | some y =>
        rw [h1,h2] at hd
        cases hd
        obtain ⟨u,hu,au⟩:=al.get h1
        obtain ⟨u2,hu2,au2⟩:=bl.get h2
        refine ⟨⟨us,ws,u,u2,q1,q2,hu,hu2⟩,fun z H3 hz=>?_⟩
        obtain ⟨T,x',y',rfl,hT,rfl,hx',hy'⟩:=hz
        have e5:=hx' us q1
        have e6:=hy' ws q2
        rw [hu] at e5
        rw [hu2] at e6
        cases e5
        cases e6
        have g3:=Gr.alloc s2 hT (.tup [u,u2])
        exact ⟨_,g3,.tup zn (.cons (au.mono (s1.trans g3.ff)) (.cons (au2.mono (s1.trans g3.ff)) .nil))⟩
  · cases e2
noncomputable def xA (g:List D→Option (List D))(f:Ev→Option (List D))(b:D→SE→Option SE)(h:SE→Ctl):SE→Ctl:=fun ρ=>match (f (visG ρ)).bind g with
  | some ds=>zc4 b h ds ρ
  | none=>.no
theorem XN {p pos':Pos} {body:List Stmt} {f:Ev→Option (List D)} {b':D→SE→Option SE} {g:SE→Ctl} (hp:PassesOwn (model X.prog X.w) X.A X.env X.xe) (hc:X.calm=true) (hgl:Gl X "range") (hm:X.mg "range"=none) (ha:AD X [a] f) (hg:BD X tg b') (hb:SDs X body g)
    (hs0:starEach [a] X.env=[(false,eval a X.env)]:=by rfl) (hs:∀ x,foldedSetIterable (.Call (.Name "range" p) [a] [] pos) X.env x=pure x:=by intro _;rfl):SD X (.For tg (.Call (.Name "range" p) [a] [] pos) body [] pos') (xA vE f b' g):=by
  obtain ⟨t,pa,r⟩:=ha
  obtain ⟨tg',pg,rg⟩:=hg
  obtain ⟨tb,pb,rb⟩:=hb
  refine ⟨_,zgH hp hc (VV hgl hm pa hs0) pg pb hs,fun Fb Hb F H ρ σ E rl k=>?_⟩
  unfold xA at k
  cases h:(f (visG ρ)).bind vE with
  | none=>rw [h] at k;exact k.elim
  | some ds =>
    rw [h] at k
    obtain ⟨as,e1,e2⟩:=Option.bind_eq_some_iff.mp h
    refine r σ _ _ H as _ rl.gh rl.visG e1 fun F1 H1 vs g1 a1=>?_
    have rl2:=rl.grow (rl.back g1).1
    unfold vE at e2
    split at e2
    · split at e2 <;> cases e2
      rename_i hc
      obtain ⟨x,r',rfl,ax,ar⟩:=a1.cons_inv
      cases ar.nil_inv
      exact ⟨_,by rw [ax.int_inv],(xR.mp hc).1,(xR.mp hc).2,zgQ (zew 0 _) rg rb rl2 k⟩
    · cases e2
end
theorem zh4 {P:Program}{w:World}{K:PySem.W.Frag}{mg:Str→Option Value}{base:Heap}{f:Addr}{fd:FuncData}{ps:List Str}{k m:Nat}:xB P w K mg base CX0 k f fd ps (spD m fun _=>none):=by
  refine ⟨fun vs H Q E h=>?_,fun A outer s H args us vs Q E _ _ _ _ h=>?_⟩
  · obtain ⟨_,_,_,_,_,_,e,_⟩:=h
    cases e
  · obtain ⟨_,_,_,_,_,_,e,_⟩:=h
    cases e
noncomputable def zjy (n:Nat)(g:(List D→Option D)→SE→Ctl):Nat→List D→Option D
  | 0=>fun _=>none
  | k+1=>fnD n (g (zjy n g k))
theorem zjc {P:Program}{w:World}{K:PySem.W.Frag}{mg:Str→Option Value}{base:Heap}{x qual:Str}{st:Stmt}{f:Addr}{fd:FuncData}{N ps:List Str}{k0:Nat}{g:(List D→Option D)→SE→Ctl}(Fu:Fun K x qual st f fd)(S:zu N ps (ze st))
    (hb:∀ (k:Nat) (r:List D→Option D),xB P w K mg base CX0 (k0+k) f fd ps (spD ps.length r)→∀ (cdv:Value) (A:Around) (outer:List Env) (s:Shared) (H:Hp) (E:XK),v0 (k0+k) (A.deeper (PyProof.Rows.envOfC qual (ze st) s.heap.objs.size f cdv))→SDs (YC CX0 P w K mg base N qual (ze st) f cdv A outer s H E).nox (zt st) (g r)) :
    ∀ n,xB P w K mg base CX0 (k0+n) f fd ps (spD ps.length (zjy N.length g n)):=by
  intro n
  induction n with
  | zero=>exact zh4
  | succ n ih=>exact xK Fu S fun cdv A outer s H E hr=>hb n _ ih cdv A outer s H E hr
noncomputable def zdq (K:PySem.W.Frag):Sp:=fun vs H Q _=>∃ (a:Addr) (ns:List Int),vs=[.ref a]∧SqL K H a (ns.map V.int)∧ns.length≤63∧∀ H',Q (.bl true) H'
end Dl
namespace Dl
open PySem L2
theorem ziU {P:Program}{w:World}{K:PySem.W.Frag}{mg:Str→Option Value}{base:Heap}{f:Addr}{fd:FuncData}{ps:List Str}{k:Nat}{p:List D→Option D}(F:xB P w K mg base CX0 k f fd ps (@spD ⟨K⟩ 1 p))(h:∀ ns:List Int,ns.length≤63→p [.scr ns]=some (.bl true)) :
    xB P w K mg base CX0 k f fd ps (zdq K):=by
  letI:KK:=⟨K⟩
  refine F.imp fun vs H Q E hs=>?_
  obtain ⟨a,ns,rfl,hq,hl,q⟩:=hs
  refine ⟨[.scr ns],.bl true,H,rfl,yJ.refl _,.cons ?_ .nil,h ns hl,fun F' H' v _ av=>?_⟩
  · unfold At
    exact ⟨a,rfl,hq⟩
  · rw [av.bl_inv]
    exact q H'
structure Def (K:PySem.W.Frag) (mg:Str→Option Value) (x:Str) (st:Stmt) (ps:List Str) (f:Addr) (fd:FuncData):Prop where
  fn:Fun K x x st f fd
  bd:XH K fd ps []
  at_:mg x=some (.ref f)
theorem Def.kp {K:PySem.W.Frag}{mg:Str→Option Value}{x:Str}{st:Stmt}{ps:List Str}{f:Addr}{fd:FuncData}(d:Def K mg x st ps f fd):PySem.W.keepIn K (.ref f)=true:=d.fn.kp
end Dl
namespace Dl
open PySem L2
inductive Ctl.w:Ctl→(SE→Prop)→(SE→Prop)→(SE→Prop)→(D→Prop)→Prop where
  | nx {ρ:SE} {n b k:SE→Prop} {r:D→Prop}:n ρ→Ctl.w (.nx ρ) n b k r
  | bk {ρ:SE} {n b k:SE→Prop} {r:D→Prop}:b ρ→Ctl.w (.bk ρ) n b k r
  | ct {ρ:SE} {n b k:SE→Prop} {r:D→Prop}:k ρ→Ctl.w (.ct ρ) n b k r
  | rt {d:D} {n b k:SE→Prop} {r:D→Prop}:r d→Ctl.w (.rt d) n b k r
section
variable {ρ:SE}{d:D}{n b k:SE→Prop}{r:D→Prop}
theorem Ctl.w.nxi (h:Ctl.w (.nx ρ) n b k r):n ρ:=by cases h;assumption
theorem Ctl.w.bki (h:Ctl.w (.bk ρ) n b k r):b ρ:=by cases h;assumption
theorem Ctl.w.cti (h:Ctl.w (.ct ρ) n b k r):k ρ:=by cases h;assumption
theorem Ctl.w.rti (h:Ctl.w (.rt d) n b k r):r d:=by cases h;assumption
theorem Ctl.w.noi (h:Ctl.w .no n b k r):False:=by cases h
end
noncomputable abbrev noP:SE→Prop:=fun _=>False
section
variable {g h:SE→Ctl}{ρ ρ':SE}{n b k:SE→Prop}{r:D→Prop}
theorem vg (e:(g ρ).w (fun ρ'=>(h ρ').w n b k r) b k r):(zT g h ρ).w n b k r:=by
  unfold zT
  cases hg:g ρ with
  | nx ρ'=>rw [hg] at e;exact e.nxi
  | bk ρ'=>rw [hg] at e;exact .bk e.bki
  | ct ρ'=>rw [hg] at e;exact .ct e.cti
  | rt d=>rw [hg] at e;exact .rt e.rti
  | no=>rw [hg] at e;exact e.noi.elim
theorem zM (e:g ρ=.nx ρ')(q:(h ρ').w n b k r):(zT g h ρ).w n b k r:=vg (by rw [e];exact .nx q)
theorem Wx (e:g ρ=.nx ρ')(q:n ρ'):(g ρ).w n b k r:=by rw [e];exact .nx q
theorem Xv {d:D}(e:g ρ=.rt d)(q:r d):(g ρ).w n b k r:=by rw [e];exact .rt q
theorem zaK {t:Ev→Option Bool}{c:Bool}(e:t (visG ρ)=some c)(h1:c=true→(g ρ).w n b k r)(h2:c=false→(h ρ).w n b k r):(sIf t g h ρ).w n b k r:=by
  unfold sIf
  rw [e]
  cases c with
  | true=>exact h1 rfl
  | false=>exact h2 rfl
theorem zk0 {i:Nat}(e:zkb ρ i=ρ')(q:(g ρ').w n b k r):(sFz i g ρ).w n b k r:=by
  unfold sFz
  rw [e]
  exact q
theorem zdm {bd:D→SE→Option SE}(I:Nat→SE→Prop):∀ (ds:List D) (j:Nat) (ρ:SE),I j ρ →
    (∀ i d ρ,ds[i]?=some d→I (j+i) ρ→∃ ρ1,bd d ρ=some ρ1∧(g ρ1).w (I (j+i+1)) n (I (j+i+1)) r)→(∀ ρ,I (j+ds.length) ρ→n ρ)→(zc4 bd g ds ρ).w n b k r
  | [],j,ρ,h0,_,fin=>.nx (fin ρ h0)
  | d::ds,j,ρ,h0,step,fin=>by
    obtain ⟨ρ1,e1,e2⟩:=step 0 d ρ rfl h0
    unfold zc4
    rw [e1]
    dsimp only
    have next:∀ ρ',I (j+1) ρ'→(zc4 bd g ds ρ').w n b k r:=fun ρ' h'=>zdm I ds (j+1) ρ' h'
      (fun i d' ρ hd hI=>by
        have:=step (i+1) d' ρ (by simpa using hd) (by rw [show j+(i+1)=j+1+i by omega];exact hI)
        rwa [show j+(i+1)+1=j+1+i+1 by omega] at this)
      (fun ρ hI=>fin ρ (by rw [List.length_cons,show j+(ds.length+1)=j+1+ds.length by omega];exact hI))
    cases hg:g ρ1 with
    | nx ρ'=>rw [hg] at e2;exact next ρ' e2.nxi
    | ct ρ'=>rw [hg] at e2;exact next ρ' e2.cti
    | bk ρ'=>rw [hg] at e2;exact .nx e2.bki
    | rt d'=>rw [hg] at e2;exact .rt e2.rti
    | no=>rw [hg] at e2;exact e2.noi.elim
theorem zee {f:Ev→Option (List D)}{bd:D→SE→Option SE}{ds:List D}(I:Nat→SE→Prop)(e:f (visF ρ)=some ds)(h0:I 0 ρ)
    (step:∀ i d ρ,ds[i]?=some d→I i ρ→∃ ρ1,bd d ρ=some ρ1∧(g ρ1).w (I (i+1)) n (I (i+1)) r) (fin:∀ ρ,I ds.length ρ→n ρ):(Yq f bd g ρ).w n b k r:=by
  unfold Yq
  rw [e]
  exact zdm I ds 0 ρ h0 (fun i d ρ hd hI=>by rw [Nat.zero_add] at hI ⊢;exact step i d ρ hd hI) (fun ρ hI=>fin ρ (by rw [Nat.zero_add] at hI;exact hI))
theorem zbI {f:Ev→Option (List D)}{bd:D→SE→Option SE}{rg:List D→Option (List D)}{lo:Int}{c:Nat}(I:Nat→SE→Prop)(e:(f (visG ρ)).bind rg=some (XJ lo c))(h0:I 0 ρ)
    (step:∀ (i:Nat) ρ,i < c→I i ρ→∃ ρ1,bd (.int (lo+i)) ρ=some ρ1∧(g ρ1).w (I (i+1)) n (I (i+1)) r) (fin:∀ ρ,I c ρ→n ρ):(xA rg f bd g ρ).w n b k r:=by
  unfold xA
  rw [e]
  refine zdm I (XJ lo c) 0 ρ h0 (fun i d ρ hd hI=>?_) (fun ρ hI=>fin ρ ?_)
  · rw [Nat.zero_add] at hI ⊢
    unfold XJ at hd
    rw [List.getElem?_map] at hd
    by_cases hi:i < c
    · rw [List.getElem?_range hi] at hd
      cases hd
      exact step i ρ hi hI
    · rw [List.getElem?_eq_none (by simpa using hi)] at hd
      cases hd
  · rw [Nat.zero_add] at hI
    rwa [show (XJ lo c).length=c by unfold XJ;simp] at hI
end
theorem Wy {m:Nat}{g:SE→Ctl}{ds:List D}{d:D}{ρ:SE}(e:ds.map .v++List.replicate (m - ds.length) .no=ρ)(q:(g ρ).w (fun _=>d=.non) noP noP (fun d'=>d'=d)):fnD m g ds=some d:=by
  unfold fnD
  rw [e]
  cases hg:g ρ with
  | nx ρ'=>rw [hg] at q;rw [show d=.non from q.nxi]
  | rt d'=>rw [hg] at q;rw [show d'=d from q.rti]
  | bk _=>rw [hg] at q;exact q.bki.elim
  | ct _=>rw [hg] at q;exact q.cti.elim
  | no=>rw [hg] at q;exact q.noi.elim
theorem zjT {m:Bool}{i:Nat}{f:Ev→Option D}{ρ:SE}{ds:List D}{d:D}(h1:vEv m f ρ=some d)(h2:ρ[i]?=some (.o ds))(h3:ds.length≤1000):YF m i f ρ=.nx (ρ.set i (.o (ds++[d]))):=by
  unfold YF
  rw [h1,h2]
  show (match (if decide (ds.length < sizeLine)=true then some (ρ.set i (.o (ds++[d]))) else none) with | some ρ'=>Ctl.nx ρ' | none=>Ctl.no)=_
  rw [if_pos (decide_eq_true (YK h3))]
theorem Ve {b:D→Option (List (Option D))}{t:Ev→Option Bool}{f:Ev→Option D}{ρ:Ev}{α:Type}(c:α→D)(y:α→D):∀ (xs:List α),(∀ x∈xs,∃ own,b (c x)=some own∧t (own++ρ)=some true∧f (own++ρ)=some (y x))→lcD b t f ρ (xs.map c)=some (xs.map y)
  | [],_=>rfl
  | x::xs,h=>by
    obtain ⟨own,h1,h2,h3⟩:=h x List.mem_cons_self
    show lcD b t f ρ (c x::xs.map c)=_
    unfold lcD
    rw [h1]
    simp only [Option.bind_some,h2,if_true,h3,Ve c y xs fun z hz=>h z (List.mem_cons_of_mem _ hz)]
    rfl
theorem WR {b:D→Option (List (Option D))}{t:Ev→Option Bool}{f:Ev→Option D}{ρ:Ev}{α:Type}(c:α→D)(p:α→Bool)(y:α→D):∀ (xs:List α),(∀ x∈xs,∃ own,b (c x)=some own∧t (own++ρ)=some (p x)∧(p x=true→f (own++ρ)=some (y x)))→lcD b t f ρ (xs.map c)=some ((xs.filter p).map y)
  | [],_=>rfl
  | x::xs,h=>by
    obtain ⟨own,h1,h2,h3⟩:=h x List.mem_cons_self
    have ih:=WR c p y xs fun z hz=>h z (List.mem_cons_of_mem _ hz)
    show lcD b t f ρ (c x::xs.map c)=_
    unfold lcD
    rw [h1]
    simp only [Option.bind_some,h2]
    cases hp:p x with
    | false =>
      rw [if_neg Bool.false_ne_true,ih,List.filter_cons,if_neg (by rw [hp];exact Bool.false_ne_true)]
    | true =>
      rw [if_pos rfl,h3 hp,ih,List.filter_cons,if_pos hp]
      rfl
mutual
noncomputable def noS:D→Bool
  | .tup ds=>zeW ds
  | .lst ds=>zeW ds
  | .scr _=>false
  | _=>true
noncomputable def zeW:List D→Bool
  | []=>true
  | d::ds=>noS d&&zeW ds
end
theorem Yn:∀ {ds:List D} {i:Nat} {d:D},zeW ds=true→ds[i]?=some d→noS d=true
  | [],_,_,_,h=>by simp at h
  | d::ds,i,e,h,he=>by
    unfold zeW at h
    rw [Bool.and_eq_true] at h
    cases i with
    | zero=>simp at he;subst he;exact h.1
    | succ i=>exact Yn h.2 (by simpa using he)
theorem vU {n:Nat}(h:n≤1000):lim n=true:=by
  unfold lim
  exact decide_eq_true (Nat.le_of_lt (YK h))
theorem Wq (lo:Int)(n:Nat):(XJ lo n).length=n:=by unfold XJ;simp
end Dl
namespace Dl
open PySem L2
noncomputable abbrev Pr:=Int × Int
noncomputable def prD (t:Pr):D:=.tup [.int t.1,.int t.2]
noncomputable def prOf:D→Option Pr
  | .tup [.int a,.int b]=>some (a,b)
  | _=>none
noncomputable def zdL:List D→Option (List Pr)
  | []=>some []
  | d::ds=>(prOf d).bind fun t=>(zdL ds).map (t::·)
theorem zdX (ts:List Pr):zdL (ts.map prD)=some ts:=by
  induction ts with
  | nil=>rfl
  | cons t ts ih =>
    show (prOf (prD t)).bind (fun u=>(zdL (ts.map prD)).map (u::·))=_
    rw [ih]
    rfl
variable [KK]
section
variable {X:Cx}{e:Expr}{pos:Pos}
end
end Dl
namespace Dl
open PySem L2
variable [KK]
end Dl
namespace L2
open PySem PySem.Spec PyProof.Rows
section
variable {X:Cx}
end
end L2
namespace Dl
open PySem L2
section
variable [KK]{X:Cx}{a e k:Expr}{pos:Pos}
end
end Dl
namespace Dl
open PySem L2
end Dl
namespace L2
open PySem PySem.Spec PyProof.Rows
section
variable {X:Cx}{tg:Expr}
end
end L2
namespace Dl
open PySem L2
section
variable [KK]{X:Cx}{a b c e:Expr}{tg:Expr}{pos:Pos}
end
end Dl
namespace Dl
open PySem L2
variable [KK]
section
variable {X:Cx}{st:Stmt}{sts:List Stmt}{a e:Expr}{pos:Pos}
end
end Dl
namespace Dl
open PySem L2
variable [KK]
section
variable {X:Cx}{a b:Expr}{pos:Pos}
theorem ZN {sts:List Stmt}:SDs X sts sNo:=⟨_,zc5,fun _ _ _ _ _ _ _ _ h=>h.elim⟩
end
end Dl
namespace Dl
open PySem L2
variable [KK]
section
variable {X:Cx}{a e:Expr}
end
end Dl
namespace Dl
open PySem L2
noncomputable def zko:D→Option Key
  | .int i=>some (.inl i)
  | .str x=>some (.inr x)
  | _=>none
noncomputable def zcz:List D→Option (List Key)
  | []=>some []
  | d::ds=>(zko d).bind fun k=>(zcz ds).map (k::·)
noncomputable def zgt:D→Option (List Key)
  | .tup ds=>zcz ds
  | _=>none
noncomputable def zg9 (t:Bool)(d:D):Option (List Key):=if t=true then zgt d else (zko d).map ([·])
noncomputable def intQ:Int→Int→Bool
  | .ofNat a,.ofNat b=>Nat.beq a b
  | .negSucc a,.negSucc b=>Nat.beq a b
  | _,_=>false
theorem zb7 {a b:Int}:intQ a b=true↔a=b:=by
  cases a with
  | ofNat a=>cases b with
    | ofNat b=>exact ⟨fun h=>(by rw [Nat.eq_of_beq_eq_true h]),fun h=>(by cases h;exact Nat.beq_refl a)⟩
    | negSucc b=>exact ⟨fun h=>(by cases h),fun h=>(by cases h)⟩
  | negSucc a=>cases b with
    | ofNat b=>exact ⟨fun h=>(by cases h),fun h=>(by cases h)⟩
    | negSucc b=>exact ⟨fun h=>(by rw [Nat.eq_of_beq_eq_true h]),fun h=>(by cases h;exact Nat.beq_refl a)⟩
noncomputable def zeZ:Key→Key→Bool
  | .inl i,.inl j=>intQ i j
  | .inr a,.inr b=>decide (a=b)
  | _,_=>false
noncomputable def zkf:List Key→List Key→Bool
  | [],[]=>true
  | a::r,b::s=>match zeZ a b with
    | true=>zkf r s
    | false=>false
  | _,_=>false
theorem V9 {a b:Key}:zeZ a b=true↔a=b:=by
  cases a with
  | inl i=>cases b with
    | inl j=>exact ⟨fun h=>(by rw [zb7.mp h]),fun h=>(by cases h;exact zb7.mpr rfl)⟩
    | inr b=>exact ⟨fun h=>(by cases h),fun h=>(by cases h)⟩
  | inr i=>cases b with
    | inl j=>exact ⟨fun h=>(by cases h),fun h=>(by cases h)⟩
    | inr b=>exact ⟨fun h=>(by rw [of_decide_eq_true h]),fun h=>(by cases h;exact decide_eq_true rfl)⟩
theorem zbE {x y:List Key}:zkf x y=true↔x=y:=by
  induction x generalizing y with
  | nil=>cases y with
    | nil=>exact ⟨fun _=>rfl,fun _=>rfl⟩
    | cons b s=>exact ⟨fun h=>(by cases h),fun h=>(by cases h)⟩
  | cons a r ih=>cases y with
    | nil=>exact ⟨fun h=>(by cases h),fun h=>(by cases h)⟩
    | cons b s =>
      show (match zeZ a b with | true=>zkf r s | false=>false)=true↔_
      cases h:zeZ a b with
      | true=>rw [V9.mp h];exact ih.trans ⟨fun h=>(by rw [h]),fun h=>(by cases h;rfl)⟩
      | false=>exact ⟨fun h=>(by cases h),fun e=>(by cases e;rw [V9.mpr rfl] at h;cases h)⟩
noncomputable def zc0 (x y:List Key):Decidable (x=y):=match h:zkf x y with
  | true=>.isTrue (zbE.mp h)
  | false=>.isFalse fun e=>by rw [zbE.mpr e] at h;cases h
noncomputable def Vh:List (List Key)→List D→List Key→Option D
  | k'::ks,v::vs,k=>@ite _ (k'=k) (zc0 k' k) (some v) (Vh ks vs k)
  | _,_,_=>none
noncomputable def zkj:List (List Key)→List D→List Key→D→List D
  | k'::ks,v::vs,k,d=>(@ite _ (k'=k) (zc0 k' k) d v)::zkj ks vs k d
  | _,_,_,_=>[]
noncomputable def zfb (ks:List (List Key))(vs:List D)(k:List Key):List (List Key):=if (Vh ks vs k).isSome=true then ks else ks++[k]
noncomputable def zfK (ks:List (List Key))(vs:List D)(k:List Key)(d:D):List D:=if (Vh ks vs k).isSome=true then zkj ks vs k d else vs++[d]
theorem zax {k' k:List Key}{ks:List (List Key)}{v:D}{vs:List D}:Vh (k'::ks) (v::vs) k=if k'=k then some v else Vh ks vs k:=by
  show @ite _ (k'=k) (zc0 k' k) (some v) (Vh ks vs k)=_
  by_cases h:k'=k
  · rw [if_pos h,if_pos h]
  · rw [if_neg h,if_neg h]
section
variable [KK]
theorem zbc {F:Hp}{d:D}{k:Key}{y:V}(h:zko d=some k)(a:At F d y):y=kV k:=by
  cases d with
  | int i=>cases h;exact a.int_inv
  | str x=>cases h;exact a.str_inv
  | _=>cases h
theorem zbX {F:Hp}:∀ {ds:List D} {ks:List Key} {ys:List V},zcz ds=some ks→AtL F ds ys→ys=ks.map kV
  | [],_,_,h,a=>by cases h;exact a.nil_inv
  | d::ds,_,_,h,a=>by
    obtain ⟨k,h1,h2⟩:=Option.bind_eq_some_iff.mp h
    obtain ⟨r,h3,rfl⟩:=Option.map_eq_some_iff.mp h2
    obtain ⟨x,xs,rfl,a1,a2⟩:=a.cons_inv
    rw [zbc h1 a1,zbX h3 a2]
    rfl
theorem zbd {F:Hp}{d:D}{k:List Key}{y:V}(h:zgt d=some k)(a:At F d y):∃ b,y=.ref b∧F b=some (.tup (k.map kV)):=by
  cases d with
  | tup ds =>
    obtain ⟨b,ys,rfl,hb,al⟩:=a.tup_inv
    rw [zbX (show zcz ds=some k from h) al] at hb
    exact ⟨b,rfl,hb⟩
  | _=>cases h
section
variable {κ:Type}[DecidableEq κ](f:κ→List Key)(hf:∀ a b,f a=f b→a=b)
include hf
theorem W7 {F:Hp}{k:κ}:∀ {kvs:List (κ × V)} {vs:List D},AtL F vs (kvs.map (·.2)) →
    (∀ d,Vh (kvs.map fun p=>f p.1) vs (f k)=some d→∃ x,zbY kvs k=some x∧At F d x)∧(Vh (kvs.map fun p=>f p.1) vs (f k)=none→zbY kvs k=none)
  | [],_,_=>⟨fun d h=>(by cases h),fun _=>rfl⟩
  | p::kvs,[],a=>by cases a.nil_inv
  | p::kvs,v::vs,a=>by
    obtain ⟨x,r,e,a1,a2⟩:=a.cons_inv
    cases e
    have ih:=W7 (k:=k) a2
    by_cases h:p.1=k
    · rw [XQ h]
      have e:Vh ((p::kvs).map fun p=>f p.1) (v::vs) (f k)=some v:=by
        rw [List.map_cons,zax,if_pos (by rw [h])]
      rw [e]
      exact ⟨fun d z=>(by cases z;exact ⟨_,rfl,a1⟩),fun z=>(by cases z)⟩
    · rw [XL h]
      have e:Vh ((p::kvs).map fun p=>f p.1) (v::vs) (f k)=Vh (kvs.map fun p=>f p.1) vs (f k):=by
        rw [List.map_cons,zax,if_neg (fun z=>h (hf _ _ z))]
      rw [e]
      exact ih
theorem zfI {F:Hp}{k:κ}{kvs:List (κ × V)}{vs:List D}(a:AtL F vs (kvs.map (·.2))):(Vh (kvs.map fun p=>f p.1) vs (f k)).isSome=(zbY kvs k).isSome:=by
  obtain ⟨h1,h2⟩:=W7 f hf (k:=k) a
  cases h:Vh (kvs.map fun p=>f p.1) vs (f k) with
  | none=>rw [h2 h];rfl
  | some d=>obtain ⟨x,e,_⟩:=h1 d h;rw [e];rfl
theorem zd8 {F:Hp}{k:κ}{d:D}{y:V}(ad:At F d y):∀ {kvs:List (κ × V)} {vs:List D},AtL F vs (kvs.map (·.2)) →
    AtL F (zkj (kvs.map fun p=>f p.1) vs (f k) d) ((kvs.map fun kv=>if kv.1=k then (kv.1,y) else kv).map (·.2))
  | [],_,_=>by unfold zkj;exact .nil
  | p::kvs,[],a=>by cases a.nil_inv
  | p::kvs,v::vs,a=>by
    obtain ⟨x,r,e,a1,a2⟩:=a.cons_inv
    cases e
    have ih:=zd8 (k:=k) ad a2
    rw [List.map_cons,List.map_cons]
    refine AtL.cons ?_ ih
    by_cases h:p.1=k
    · rw [if_pos h,if_pos (by rw [h])];exact ad
    · rw [if_neg h,if_neg (fun z=>h (hf _ _ z))];exact a1
theorem zeP {F:Hp}{k:κ}{d:D}{y:V}(ad:At F d y){kvs:List (κ × V)}{vs:List D}(a:AtL F vs (kvs.map (·.2))) :
    (zaZ kvs k y).map (fun p=>f p.1)=zfb (kvs.map fun p=>f p.1) vs (f k)∧AtL F (zfK (kvs.map fun p=>f p.1) vs (f k) d) ((zaZ kvs k y).map (·.2)):=by
  unfold zaZ zfb zfK
  rw [zfI f hf a,Vy]
  cases h:(zbY kvs k).isSome with
  | true =>
    rw [if_pos rfl,if_pos rfl,if_pos rfl]
    refine ⟨?_,zd8 f hf ad a⟩
    rw [List.map_map]
    refine List.map_congr_left fun p _=>?_
    by_cases e:p.1=k
    · show f (if p.1=k then (p.1,y) else p).1=_;rw [if_pos e]
    · show f (if p.1=k then (p.1,y) else p).1=_;rw [if_neg e]
  | false =>
    rw [if_neg Bool.false_ne_true,if_neg Bool.false_ne_true,if_neg Bool.false_ne_true,List.map_append,List.map_append]
    exact ⟨rfl,a.append (.cons ad .nil)⟩
end
theorem zed (a b:Key)(h:[a]=[b]):a=b:=by cases h;rfl
theorem zgN (a b:List Key)(h:a=b):a=b:=h
theorem zie {F H:Hp}{a:Addr}{z t:Bool}{ks:List (List Key)}{xs:List V}{vs:List D}{kd:D}{k:List Key}{y:V}(s:yJ F H)(hd:zag F a z t ks xs)(al:AtL F vs xs)(hk:zg9 t kd=some k)(ak:At F kd y) :
    ∃ o,zkk H a y o∧(∀ d,Vh ks vs k=some d→∃ x,o=some x∧At F d x)∧(Vh ks vs k=none→o=none):=by
  obtain ⟨u,hd,rd⟩:=(hd.mono s).rd
  unfold zal at hd
  unfold zg9 at hk
  cases t with
  | true =>
    rw [if_pos rfl] at hd hk
    obtain ⟨kvs,rfl,rfl,rfl⟩:=hd
    obtain ⟨b,rfl,hb⟩:=zbd hk ak
    exact ⟨_,.inr ⟨kvs,k,b,rd,rfl,s _ _ hb,rfl⟩,W7 (fun k=>k) zgN al⟩
  | false =>
    rw [if_neg Bool.false_ne_true] at hd hk
    obtain ⟨kvs,rfl,rfl,rfl⟩:=hd
    obtain ⟨k0,h2,rfl⟩:=Option.map_eq_some_iff.mp hk
    rw [zbc h2 ak]
    exact ⟨_,.inl ⟨kvs,k0,rd,rfl,rfl⟩,W7 (fun k=>[k]) zed al⟩
theorem zhb {F H:Hp}{a:Addr}{o:HO}{t:Bool}{ks:List (List Key)}{xs:List V}{vs:List D}{kd d:D}{k:List Key}{y v:V}{G:Hp}(h:H a=some o)(hd:zal o t ks xs)(al:AtL F vs xs)(hk:zg9 t kd=some k)(ak:At G kd y)(s:yJ G H)(ad:At F d v)
    (hl:ks.length < sizeLine):∃ o',zfD H a y v (upd H a o')∧zb4 F o' (.m t (zfb ks vs k) (zfK ks vs k d)):=by
  unfold zal at hd
  unfold zg9 at hk
  cases t with
  | true =>
    rw [if_pos rfl] at hd hk
    obtain ⟨kvs,rfl,rfl,rfl⟩:=hd
    obtain ⟨b,rfl,hb⟩:=zbd hk ak
    obtain ⟨q1,q2⟩:=zeP (fun k=>k) zgN (k:=k) ad al
    refine ⟨_,zfD.t h (s _ _ hb) (by simpa using hl),_,?_,q2⟩
    unfold zal
    rw [if_pos rfl]
    exact ⟨_,rfl,q1,rfl⟩
  | false =>
    rw [if_neg Bool.false_ne_true] at hd hk
    obtain ⟨kvs,rfl,rfl,rfl⟩:=hd
    obtain ⟨k0,h2,rfl⟩:=Option.map_eq_some_iff.mp hk
    rw [zbc h2 ak]
    obtain ⟨q1,q2⟩:=zeP (fun k=>[k]) zed (k:=k0) ad al
    refine ⟨_,zfD.k h (by simpa using hl),_,?_,q2⟩
    unfold zal
    rw [if_neg Bool.false_ne_true]
    exact ⟨_,rfl,q1,rfl⟩
noncomputable def dgetD:D→D→Option D
  | .dct _ t ks vs,kd=>(zg9 t kd).bind fun k=>Vh ks vs k
  | _,_=>none
noncomputable def zjI (neg:Bool):D→D→Option D
  | kd,.dct _ t ks vs=>(zg9 t kd).map fun k=>.bl (neg != (Vh ks vs k).isSome)
  | _,_=>none
section
variable {X:Cx}{a b c:Expr}{pos apos:Pos}
noncomputable def zkA (neg:Bool):R2:=fun x y H Q=>∃ a o,y=.ref a∧zkk H a x o∧Q (.bl (neg != o.isSome)) H
theorem zi0 {k:Nat}(hr:v0 k X.A):OpR X (compareOp .In) (zkA false):=by
  intro pins s σ H x y v u Q I rx ry h
  obtain ⟨a,o,rfl,g,q⟩:=h
  obtain rfl:u=Value.ref a:=ry
  exact d_in (zfq hr) I g rx fun s3 I3=>⟨.bl o.isSome,H,I3,rfl,by simpa using q⟩
theorem zeN {k:Nat}(hr:v0 k X.A):OpR X (compareOp .NotIn) (zkA true):=by
  intro pins s σ H x y v u Q I rx ry h
  obtain ⟨a,o,rfl,g,q⟩:=h
  obtain rfl:u=Value.ref a:=ry
  exact zhx (zfq hr) I g rx fun s3 I3=>⟨.bl (!o.isSome),H,I3,rfl,by simpa using q⟩
theorem zdU {neg:Bool}:OpD (zkA neg) (zjI neg):=by
  intro F H x y d e z Q s a1 a2 h q
  cases e with
  | dct z' t ks vs =>
    obtain ⟨k,h1,rfl⟩:=Option.map_eq_some_iff.mp h
    obtain ⟨p,xs,rfl,hd,al⟩:=a2.dct_inv
    obtain ⟨o,hg,h3,h4⟩:=zie s hd al h1 a1
    refine ⟨p,o,rfl,hg,?_⟩
    have e:(Vh ks vs k).isSome=o.isSome:=by
      cases h:Vh ks vs k with
      | none=>rw [h4 h];rfl
      | some d=>obtain ⟨w,rfl,_⟩:=h3 d h;rfl
    rw [←e]
    exact q F H _ (.refl s) .bl
  | _=>cases h
end
section
variable {X:Cx}{a e ko:Expr}{pos pos':Pos}{st:Stmt}
noncomputable def zhN (t:Bool)(i:Nat):SE→Ctl:=fun ρ=>.nx (ρ.set i (.m t [] []))
theorem zhj {t:Bool}{i:Nat}{x:Str}(hN:X.N.Nodup)(hi:X.N[i]?=some x)(hx:Loc X.env.scope x)(hs:swapsWith (.Dict [] [] pos) (some (.Name x pos')) pos.line X.env=pure false:=by rfl)
    (hf:X.fn x=true∨X.env.scope.names.lookup x=some .local:=by first | exact .inl rfl | exact .inr rfl | assumption) {p2:Pos} (hs:swapsWith (.Dict [] [] p2) (some (.Name x pos')) pos.line X.env=pure false:=by rfl):SD X (.Assign [.Name x pos'] (.Dict [] [] p2) pos) (zhN t i):=by
  have go:∀ (o:HO),zb4 (fun _=>none) o (.m t [] [])→∀ (Fb Hb F H:Hp) (ρ:SE) (σ:St) (E:zae),Rl Fb Hb F H ρ σ→SOk Fb Hb E (zhN t i ρ)→∀ p,H p=none→E.nx (σ.set i (some (.ref p))) (upd H p o):=fun o ho Fb Hb F H ρ σ E rl k p hp=>by
    have g:=Gr.hide rl.gr.fh hp o
    refine k F _ _ ((rl.grow g).setW (rl.notbase hp) (rl.gr.fh.free hp) zn (ho.mono fun _ _ z=>by cases z) (rl.notown hp))
  cases t with
  | true =>
    refine ⟨_,ZI hN hi hx zge hs hf,fun Fb Hb F H ρ σ E rl k=>?_⟩
    refine fun p hp=>go (.dT []) ⟨[],?_,.nil⟩ Fb Hb F H ρ σ E rl k p hp
    unfold zal
    rw [if_pos rfl]
    exact ⟨[],rfl,rfl,rfl⟩
  | false =>
    refine ⟨_,ZI hN hi hx zfo hs hf,fun Fb Hb F H ρ σ E rl k=>?_⟩
    refine fun p hp=>go (.dK []) ⟨[],?_,.nil⟩ Fb Hb F H ρ σ E rl k p hp
    unfold zal
    rw [if_neg Bool.false_ne_true]
    exact ⟨[],rfl,rfl,rfl⟩
noncomputable def zkP (ρ:SE)(i:Nat)(kd d:D):Option SE:=match ρ[i]? with
  | some (.m t ks vs)=>(zg9 t kd).bind fun k=>if decide (ks.length < sizeLine)=true then some (ρ.set i (.m t (zfb ks vs k) (zfK ks vs k d))) else none
  | _=>none
noncomputable def zfX (m:Bool)(i:Nat)(fk fe:Ev→Option D):SE→Ctl:=fun ρ=>match (vEv m fe ρ).bind fun d=>(fk (visG ρ)).bind fun kd=>zkP ρ i kd d with
  | some ρ'=>.nx ρ'
  | none=>.no
theorem zc9 {k:Nat}{m:Bool}{i:Nat}{fk fe:Ev→Option D}(hr:v0 k X.A)(he:ED X e fe)(ho:PE X a (Vb i))(hk:ED X ko fk)(hs:swapsWith e (some (.Subscript a ko pos')) pos.line X.env=pure false:=by rfl):SD X (.Assign [.Subscript a ko pos'] e pos) (zfX m i fk fe):=by
  obtain ⟨t,p,r⟩:=he
  obtain ⟨tk,pk,rk⟩:=hk
  refine ⟨_,zh7 (zfq hr) ho pk p hs,fun Fb Hb F H ρ σ E rl k=>?_⟩
  unfold zfX at k
  cases h:(vEv m fe ρ).bind fun d=>(fk (visG ρ)).bind fun kd=>zkP ρ i kd d with
  | none=>rw [h] at k;exact k.elim
  | some ρ' =>
    rw [h] at k
    obtain ⟨d,e1,e2⟩:=Option.bind_eq_some_iff.mp h
    obtain ⟨kd,e3,e2⟩:=Option.bind_eq_some_iff.mp e2
    unfold zkP at e2
    split at e2
    · rename_i tt ks vs hs
      obtain ⟨kk,e4,e5⟩:=Option.bind_eq_some_iff.mp e2
      have hl:decide (ks.length < sizeLine)=true:=by
        cases hh:decide (ks.length < sizeLine) with
        | true=>rfl
        | false=>rw [hh,if_neg Bool.false_ne_true] at e5;cases e5
      rw [if_pos hl] at e5
      cases e5
      refine r.at rl e1 fun F' H' v g av=>?_
      have rl2:=rl.grow g
      obtain ⟨q,o,f1,_⟩:=rl2.ows i _ hs rfl
      refine ⟨_,f1,?_⟩
      refine rk σ _ _ H' _ _ rl2.gh rl2.visG e3 fun F3 H3 v3 g3 av3=>?_
      obtain ⟨gb,_⟩:=rl2.back g3
      have rl3:=rl2.grow gb
      obtain ⟨q3,o3,f1',_,_,f4,xs,f5,f6⟩:=rl3.ows i _ hs rfl
      rw [f1] at f1'
      cases f1'
      obtain ⟨o',hp,hw⟩:=zhb f4 f5 f6 e4 av3 g3.fh (av.mono gb.ff) (of_decide_eq_true hl)
      exact ⟨q,_,rfl,hp,k _ _ σ (rl3.mutW hs rfl f1 hw)⟩
    · cases e2
end
end
end Dl
namespace Dl
open PySem L2
variable [KK]
section
variable {X:Cx}{a b e:Expr}{pos pos':Pos}
end
end Dl
namespace Dl
open PySem L2
variable [KK]
section
variable {X:Cx}
noncomputable def rNeL:R2:=fun x y H Q=>∃ F ds es,yJ F H∧At F (.lst ds) x∧At F (.lst es) y∧okE 20 (.lst ds)=true∧okE 20 (.lst es)=true∧Q (.bl (!eqN 20 (.lst ds) (.lst es))) H
theorem zbK {k:Nat}(hr:v0 k X.A):OpR X (compareOp .NotEq) rNeL:=by
  intro pins s σ H x y v u Q I rx ry h
  obtain ⟨F,ds,es,sm,a1,a2,k1,k2,q⟩:=h
  have hu:X.A.units+30 < cLine:=by have:=hr.un;omega
  obtain ⟨p,xs,rfl,hx,al⟩:=a1.lst_inv
  obtain ⟨p2,ys,rfl,hy,bl⟩:=a2.lst_inv
  cases rx
  cases ry
  obtain ⟨its,r,ht,hz⟩:=I.list (SqL.of (sm _ _ hx))
  obtain ⟨its2,r2,ht2,hz2⟩:=I.list (SqL.of (sm _ _ hy))
  have hl1:its.toArray.size=ds.length:=by rw [List.size_toArray,← r.length,al.length]
  have hl2:its2.toArray.size=es.length:=by rw [List.size_toArray,← r2.length,bl.length]
  have e1:eqN 20 (.lst ds) (.lst es)=((List.range (min ds.length es.length)).all (fun j=>eqN 19 (ds.getD j .non) (es.getD j .non))&&ds.length == es.length):=by
    show ((List.zipWith (eqN 19) ds es).all id&&ds.length == es.length)=_
    rw [Vz]
  by_cases hle:ds.length=es.length
  · refine SeqAt.RcNeAt.lists (e:=fun j=>eqN 19 (ds.getD j .non) (es.getD j .non)) ht.isList ht2.isList (by rw [hl1,hl2];exact hle) (Nat.lt_of_le_of_lt (Nat.le_add_right _ 30) hu) (fun j g1 g2=>?_) _ _ _ _ ⟨.bl _,H,I,rfl,?_⟩
    · obtain ⟨x',ax,rx⟩:=al.nth r (j:=j) (by simpa using g1)
      obtain ⟨y',ay,ry⟩:=bl.nth r2 (j:=j) (by simpa using g2)
      exact zb9 I sm 19 (vw k1 (by rw [←hl1];exact g1)) (vw k2 (by rw [←hl2];exact g2)) ax ay (by simpa using rx) (by simpa using ry) (Nat.lt_of_le_of_lt (show X.A.units+20≤X.A.units+30 from Nat.add_le_add_left (by decide) _) hu)
    · rw [hl1]
      rw [e1,← hle,Nat.min_self] at q
      simpa using q
  · refine SeqAt.RcNeAt.lists_lengths ht.isList ht2.isList (by rw [hl1,hl2];simpa using hle) (Nat.lt_of_le_of_lt (Nat.le_add_right _ 30) hu) _ _ _ _ ⟨.bl _,H,I,rfl,?_⟩
    have:(ds.length == es.length)=false:=by simpa using hle
    rw [e1,this,Bool.and_false] at q
    exact q
end
noncomputable def zgS:D→D→Option D
  | .lst ds,.lst es=>if (okE 20 (.lst ds)&&okE 20 (.lst es))=true then some (.bl (!eqN 20 (.lst ds) (.lst es))) else none
  | _,_=>none
theorem Vk:OpD rNeL zgS:=by
  intro F H x y d e z Q s ax ay ez q
  unfold zgS at ez
  split at ez
  · split at ez <;> cases ez
    rename_i hk
    rw [Bool.and_eq_true] at hk
    exact ⟨F,_,_,s,ax,ay,hk.1,hk.2,q F H _ (.refl s) .bl⟩
  · cases ez
end Dl
namespace L2
open PySem PySem.Spec PyProof.Rows
section
variable {prog:Program}{w:World}{A:Around}{E:Value→Shared→Prop}{s:Shared}{d it:Addr}{o:Obj}{es:Array DictEntry}{ep i:Nat}
theorem zfn {Q:Value→Shared→Prop}(hs:(d == sysModules)=false)(ho:s.heap.get? d=some o)(hc:o.ExactDict)(hd:o.data=.dict es ep)
    (hQ:Q (.ref s.heap.objs.size) { s with heap:=s.heap.push { cls:=.type "dict_keyiterator",data:=.fields #[.ref d,.int 0 0,.int es.size 0,.int ep 0] } }):wpAny (model prog w) A (pyIter (.ref d)) Q E s:=by
  have hT:s.TypeIs (.ref d) "dict":=⟨o,ho,hc.1⟩
  refine wpAny_pyIter_slot hT PySem.F.slot_dict_iter (wpAny_call_entry PySem.F.slot_dict_iter hT PySem.F.entry_dict_iter ?_ (PySem.F.args_dict_iter_1 _))
  unfold Builtin.«dict.__iter__»
  refine wpAny_bind ?_
  unfold Builtin.Dict.dictSlotNone
  refine wpAny_bind (wpAny_notOrdered_dict hT ?_)
  show wpAny _ _ (pure (Value.ref d)) _ _ s
  refine wpAny_pure ?_
  show wpAny _ _ (Builtin.Dict.showsAll d>>=_) _ _ s
  unfold Builtin.Dict.showsAll
  rw [if_neg (by rw [hs];exact Bool.false_ne_true)]
  refine wpAny_bind (wpAny_pure (wpAny_bind (wpAny_dictEntries ho hd (wpAny_bind (wpAny_dictEpoch ho hd ?_)))))
  refine wpAny_bind (wpAny_newObj_type (wpAny_pure ⟨_,rfl,"dict_keyiterator",_,⟨_,Heap.get?_push_size _ rfl,rfl⟩,PySem.F.slot_dict_keyiterator_next.lookup,?_⟩))
  simpa [rawInt] using hQ
theorem zfS {e:DictEntry}{Q:Option Value→Shared→Prop}(hit:s.heap.IsKeyIter it d i es.size ep)(ho:s.heap.get? d=some o)(hd:o.data=.dict es ep)(hx:es[i]?=some e)
    (hQ:∀ h',h'.IsKeyIter it d (i+1) es.size ep→Heap.SameBut it s.heap h'→Q (some e.key) { s with heap:=h' }):wpAny (model prog w) A (pyNext (.ref it)) Q E s:=by
  obtain ⟨oi,hoi,hci,hdi⟩:=id hit
  unfold pyNext
  refine wpAny_bind (wpAny_attempt (wpAny_callSpecial?_slot (name:=Str.ofString "__next__") hit.typeIs PySem.F.slot_dict_keyiterator_next
    (wpAny_call_entry PySem.F.slot_dict_keyiterator_next hit.typeIs PySem.F.entry_dict_keyiterator_next ?_ (PySem.F.args_dict_keyiterator_next_1 _))))
  refine wpAny_bind (wpAny_pure ?_)
  refine wpAny_bind ?_
  refine wpAny_bind ?_
  first | refine wpAny_bind (wpAny_typeNameOfWhole_keyiter hit.typeIs (wpAny_pure ?_)) | refine wpAny_bind (wpAny_typeNameOf_keyiter hit.typeIs (wpAny_pure ?_))
  refine wpAny_bind (wpAny_fieldsOf hoi hdi ?_)
  have hown:Builtin.Dict_items.ownsTuple "dict_keyiterator"=false:=by decide
  simp only [hown,Bool.false_eq_true,if_false]
  show wpAny _ _ (if (Value.ref d == Value.none)=true then _ else _) _ _ s
  rw [if_neg (show ¬ ((Value.ref d == Value.none)=true) from Bool.false_ne_true)]
  refine wpAny_bind (wpAny_pure (wpAny_bind (wpAny_dictEntries ho hd ?_)))
  rw [if_neg (by simp)]
  refine wpAny_bind (wpAny_pure (wpAny_bind (wpAny_dictEpoch ho hd ?_)))
  rw [if_neg (by simp)]
  refine wpAny_pure ?_
  simp only [show ¬ ((i:Int) < 0) from by omega,if_false,Int.toNat_natCast,hx]
  refine wpAny_bind ?_
  first | refine wpAny_bind (wpAny_typeNameOfWhole_keyiter hit.typeIs (wpAny_pure ?_)) | refine wpAny_bind (wpAny_typeNameOf_keyiter hit.typeIs (wpAny_pure ?_))
  refine wpAny_bind (wpAny_isOneOf_keyiter hit.typeIs ?_)
  show wpAny _ _ (setField (.ref it) 1 (rawInt ((i:Int)+1))>>=_) _ _ s
  refine wpAny_bind (wpAny_setField hoi hdi (by simp) ?_)
  have hit':(s.heap.update it (Obj.mapFields (·.setIfInBounds 1 (rawInt ((i:Int)+1))))).IsKeyIter it d (i+1) es.size ep :=
    ⟨_,Heap.get?_update_self _ hoi (Obj.isFreed_of_fields (Obj.data_mapFields hdi _)),(Obj.cls_mapFields ..).trans hci,by rw [Obj.data_mapFields hdi];simp [rawInt]⟩
  refine wpAny_bind (wpAny_holding ?_)
  refine wpAny_bind (wpAny_isOneOf_keyiter (s:={ s with heap:=s.heap.update it (Obj.mapFields (·.setIfInBounds 1 (rawInt ((i:Int)+1)))) }) hit'.typeIs ?_)
  show wpAny _ _ (pure e.key) _ _ _
  exact wpAny_pure (wpAny_pure ⟨_,rfl,wpAny_pure (hQ _ hit' (Heap.SameBut.update ..))⟩)
theorem zhS {Q:Option Value→Shared→Prop}(hh:A.handled=none)(hit:s.heap.IsKeyIter it d i es.size ep)(ho:s.heap.get? d=some o)(hd:o.data=.dict es ep)(hx:es.size≤i)
    (hQ:∀ h',Heap.ExtBut it s.heap h'→Q none { s with heap:=h' }):wpAny (model prog w) A (pyNext (.ref it)) Q E s:=by
  obtain ⟨oi,hoi,hci,hdi⟩:=id hit
  unfold pyNext
  refine wpAny_bind (wpAny_attempt (wpAny_callSpecial?_slot (name:=Str.ofString "__next__") hit.typeIs PySem.F.slot_dict_keyiterator_next
    (wpAny_call_entry PySem.F.slot_dict_keyiterator_next hit.typeIs PySem.F.entry_dict_keyiterator_next ?_ (PySem.F.args_dict_keyiterator_next_1 _))))
  refine wpAny_bind (wpAny_pure ?_)
  refine wpAny_bind ?_
  refine wpAny_bind ?_
  first | refine wpAny_bind (wpAny_typeNameOfWhole_keyiter hit.typeIs (wpAny_pure ?_)) | refine wpAny_bind (wpAny_typeNameOf_keyiter hit.typeIs (wpAny_pure ?_))
  refine wpAny_bind (wpAny_fieldsOf hoi hdi ?_)
  have hown:Builtin.Dict_items.ownsTuple "dict_keyiterator"=false:=by decide
  simp only [hown,Bool.false_eq_true,if_false]
  show wpAny _ _ (if (Value.ref d == Value.none)=true then _ else _) _ _ s
  rw [if_neg (show ¬ ((Value.ref d == Value.none)=true) from Bool.false_ne_true)]
  refine wpAny_bind (wpAny_pure (wpAny_bind (wpAny_dictEntries ho hd ?_)))
  rw [if_neg (by simp)]
  refine wpAny_bind (wpAny_pure (wpAny_bind (wpAny_dictEpoch ho hd ?_)))
  rw [if_neg (by simp)]
  refine wpAny_pure ?_
  simp only [show ¬ ((i:Int) < 0) from by omega,if_false,Int.toNat_natCast,Array.getElem?_eq_none hx]
  refine wpAny_bind ?_
  first | refine wpAny_bind (wpAny_typeNameOfWhole_keyiter hit.typeIs (wpAny_pure ?_)) | refine wpAny_bind (wpAny_typeNameOf_keyiter hit.typeIs (wpAny_pure ?_))
  show wpAny _ _ (setField (.ref it) 0 .none>>=_) _ _ s
  refine wpAny_bind (wpAny_setField hoi hdi (by simp) ?_)
  show wpAny _ _ (newExc (.type "StopIteration") []>>=_) _ _ _
  refine wpAny_bind ?_
  simp only [newExc,newTuple]
  refine wpAny_bind (wpAny_newObj_type ?_ (by size_fits))
  refine wpAny_bind (m:=firstArgMember _ _) (wpAny_of_eq (a:=Value.none) (by first | rfl | (simp only [firstArgMember];rfl)) ?_)
  refine wpAny_newObj_type ?_ (by size_fits)
  simp only [raiseNew]
  refine wpAny_bind (wpAny_handled ?_)
  rw [show A.in1.handled=none from hh]
  refine wpAny_bind (wpAny_pure (wpAny_throw ?_))
  refine wpAny_bind (wpAny_isInstance (T:="StopIteration") (b:=true) ⟨_,Heap.get?_push_size _ rfl,rfl⟩ isSubtype_stop ?_)
  exact wpAny_pure (hQ _ (((Heap.SameBut.update ..).extBut.push _).push _))
end
noncomputable def zjQ:HO→Nat
  | .dK kvs=>kvs.length
  | .dT kvs=>kvs.length
  | _=>0
noncomputable def zaT (u:HO):Prop:=(∃ kvs,u=.dK kvs)∨∃ kvs,u=.dT kvs
noncomputable def zjo (H:Hp)(u:HO)(i:Nat)(x:V):Prop:=match u with
  | .dK kvs=>∃ p,kvs[i]?=some p∧x=kV p.1
  | .dT kvs=>∃ p b,kvs[i]?=some p∧x=.ref b∧H b=some (.tup (p.1.map kV))
  | _=>False
theorem zjJ {P:Program}{w:World}{k:Key}{v:Value}(h:(xx P w).is k v=true):xw (kV k) v:=by
  rcases yD h with ⟨i,t,rfl,rfl⟩ | ⟨x,t,rfl,rfl⟩
  · exact ⟨t,rfl⟩
  · exact ⟨t,rfl⟩
structure DObj (H:Hp) (a:Addr) (ob:Obj) (u:HO) (es:Array DictEntry) (ep:Nat):Prop where
  sys:(a == sysModules)=false
  exact_:ob.ExactDict
  data:ob.data=.dict es ep
  size:es.size=zjQ u
theorem zbf {P:Program}{w:World}{H:Hp}{h:Heap}{a:Addr}{ob:Obj}{u:HO}(ok:xf P w H h a (.frz ob u))(hu:zaT u):h.get? a=some ob∧∃ es ep,DObj H a ob u es ep∧∀ (i:Nat) (e:DictEntry),es[i]?=some e→∃ x,xw x e.key∧zjo H u i x:=by
  obtain ⟨e0,ok⟩:=ok
  rcases hu with ⟨kvs,rfl⟩ | ⟨kvs,rfl⟩
  · obtain ⟨_,sys,vs,kv,o,es,ep,e1,ex,dt,ko,pr,nd⟩:=ok
    rw [e0] at e1
    cases e1
    have hl:es.size=vs.length:=by rw [←pr.length];simp
    refine ⟨e0,es,ep,⟨sys,ex,dt,by rw [hl,← kv.length];rfl⟩,fun i e he=>?_⟩
    have hi:i < kvs.length:=by
      have:=(Array.getElem?_eq_some_iff.mp he).1
      rw [kv.length];omega
    have hv:i < vs.length:=by rw [←kv.length];exact hi
    have h1:=pr.get? (i:=i) (e:=e) (k:=vs[i].1) (v:=vs[i].2) (by simpa using he) (by simp [hv])
    have hk:kvs[i].1=vs[i].1:=by
      have:=congrArg (fun l=>l[i]?) kv.keys
      simp only [List.getElem?_map] at this
      rw [List.getElem?_eq_getElem hi,List.getElem?_eq_getElem hv] at this
      exact Option.some.inj this
    exact ⟨kV kvs[i].1,by rw [hk];exact zjJ h1.1,kvs[i],List.getElem?_eq_getElem hi,rfl⟩
  · obtain ⟨_,sys,xs,pr,o,es,ep,e1,ex,dt,he,nd⟩:=ok
    rw [e0] at e1
    cases e1
    have hl:es.size=xs.length:=by rw [←Array.length_toList,he,List.length_map]
    have hp:=Paired.length pr
    refine ⟨e0,es,ep,⟨sys,ex,dt,by rw [hl,← hp];rfl⟩,fun i e hei=>?_⟩
    have hx:i < xs.length:=by
      have:=(Array.getElem?_eq_some_iff.mp hei).1
      omega
    have hi:i < kvs.length:=by omega
    have e2:e=entryOfKey (tupleKind (xx P w)) xs[i]:=by
      have:es.toList[i]?=some e:=by simpa using hei
      rw [he,List.getElem?_map,List.getElem?_eq_getElem hx] at this
      exact (Option.some.inj this).symm
    have rel:∀ {l:List (List Key × V)} {m:List (List Key × Addr × Value)},Paired (fun p q=>p.1=q.1∧H q.2.1=some (.tup (p.1.map kV))∧xw p.2 q.2.2) l m→∀ (j:Nat) (h1:j < l.length) (h2:j < m.length),l[j].1=m[j].1∧H m[j].2.1=some (.tup (l[j].1.map kV)):=fun {l m} r=>by
      induction r with
      | nil=>intro j h1;simp at h1
      | cons h t ih =>
        intro j h1 h2
        cases j with
        | zero=>exact ⟨h.1,h.2.1⟩
        | succ j=>exact ih j (by simpa using h1) (by simpa using h2)
    obtain ⟨_,r2⟩:=rel pr i hi hx
    subst e2
    exact ⟨.ref xs[i].2.1,rfl,kvs[i],xs[i].2.1,List.getElem?_eq_getElem hi,rfl,r2⟩
noncomputable def Itf (a:Addr)(ob:Obj)(u:HO):It :=
  ⟨fun i H=>H a=some (.frz ob u)∧i < zjQ u,fun i H x H'=>H'=H∧zjo H u i x,fun i H=>H a=some (.frz ob u)∧zjQ u≤i⟩
theorem zef {P:Program}{w:World}{K:PySem.W.Frag}{tg:Expr}{a it:Addr}{ob:Obj}{u:HO}{es:Array DictEntry}{ep:Nat}(hu:zaT u)(hn:es.size=zjQ u)(hd:ob.data=.dict es ep):zgm P w K tg (Itf a ob u) [it] it (fun i h=>h.IsKeyIter it a i es.size ep) where
  mem:=by simp
  obj:=fun i h st b hb=>by
    have e:b=it:=by simpa using hb
    subst e
    obtain ⟨o,e,c,d⟩:=st
    exact ⟨o,e,fun v z=>by rw [d] at z;cases z⟩
  keep:=fun i h h' st k=>by
    obtain ⟨o,e,r⟩:=st
    exact ⟨o,k it (by simp) o e,r⟩
  item:=by
    intro X hP hw hK hc i pins s σ H E I hf st hg
    subst hP hw hK
    obtain ⟨e1,hi⟩:=hg
    obtain ⟨e0,es',ep',D,ky⟩:=zbf (I.hok a _ e1) hu
    have e2:=D.data
    rw [hd] at e2
    cases e2
    obtain ⟨f0,f1,f2,f3,f4,f5⟩:=hf it (by simp)
    have hlt:i < es.size:=by omega
    obtain ⟨x,rx,kx⟩:=ky i es[i] (Array.getElem?_eq_getElem hlt)
    refine zfS st e0 hd (Array.getElem?_eq_getElem hlt) fun h' st' sb=>?_
    have I1:Inv X pins σ H { s with heap:=h' }:=I.turned (t':=s.toks) (fun b o hb e=>(sb.2 b hb).trans e) f0 f1 f3 f4 f5
    obtain ⟨o,e,c,d⟩:=id st'
    exact ⟨_,rfl,zfh (s:={ s with heap:=h' }) e c d (by decide) ⟨x,H,I1,rx,⟨rfl,kx⟩,st',fun b hb=>(hf b hb).1⟩⟩
  done:=by
    intro X hP hw hK hc i pins s σ H E I hf st hg
    subst hP hw hK
    obtain ⟨e1,hi⟩:=hg
    obtain ⟨e0,es',ep',D,ky⟩:=zbf (I.hok a _ e1) hu
    obtain ⟨f0,f1,f2,f3,f4,f5⟩:=hf it (by simp)
    exact zhS (I.ok.hd hc) st e0 hd (by omega) fun h' eb=>⟨rfl,I.turned (t':=s.toks) (fun b o hb e=>eb b o hb e) f0 f1 f3 f4 f5⟩
  self:=fun _ _ _ _ _ st h=>wpAny_pyIter_keyiter st h
section
variable {X:Cx}{tg:Expr}
noncomputable def zkm (tl:TE):TI:=fun σ H R=>tl σ H fun x H1=>∃ a ob u,x=.ref a∧H1 a=some (.frz ob u)∧zaT u∧R (Itf a ob u) H1
theorem zib {l:Expr}{tl:TE}(hl:PE X l tl):PI X tg l (zkm tl):=by
  intro pins s σ H R I h
  refine thn (hl pins s σ H _ I h) fun v s1 hh9=>?_
  obtain ⟨x,H1,I1,r1,q1⟩:=hh9
  obtain ⟨a,ob,u,e,e1,hu,q⟩:=q1
  subst e
  cases r1
  obtain ⟨e0,es,ep,D,_⟩:=zbf (I1.hok a _ e1) hu
  refine zfn D.sys e0 D.exact_ D.data ?_
  refine ⟨s1.heap.objs.size,[s1.heap.objs.size],_,_,H1,rfl,I1.kept (t':=s1.toks) fun b o e=>Heap.get?_push_of_some _ e,zef hu D.size D.data,⟨_,Heap.get?_push_size _ rfl,rfl,rfl⟩,fun b hb=>?_,q⟩
  have e:b=s1.heap.objs.size:=by simpa using hb
  subst e
  exact I1.fpOk (Nat.le_refl _) (I1.hok.fresh (Nat.le_refl _))
theorem Inv.frz {pins:List (Addr × Obj)}{σ:St}{H:Hp}{s:Shared}{p:Addr}{u:HO}(I:Inv X pins σ H s)(e:H p=some u)(hu:zaT u):∃ ob,Inv X pins σ (upd H p (.frz ob u)) s:=by
  have ok:=I.hok p u e
  have mu:Mut (H p):=by
    rw [e]
    rcases hu with ⟨kvs,rfl⟩ | ⟨kvs,rfl⟩ <;> exact True.intro
  rcases hu with ⟨kvs,rfl⟩ | ⟨kvs,rfl⟩
  · obtain ⟨z,sys,vs,kv,o,es,ep,e1,r⟩:=ok
    refine ⟨o,I.write (h':=s.heap) (t':=s.toks) mu (.inl rfl) (fun b u _ e=>e) ⟨o,e1⟩ ⟨e1,z,sys,vs,kv,o,es,ep,e1,r⟩⟩
  · obtain ⟨z,sys,xs,pr,o,es,ep,e1,r⟩:=ok
    refine ⟨o,I.write (h':=s.heap) (t':=s.toks) mu (.inl rfl) (fun b u _ e=>e) ⟨o,e1⟩ ⟨e1,z,sys,xs,?_,o,es,ep,e1,r⟩⟩
    exact KT.keeps pr fun b ys eb=>by
      rw [zm (zfA eb e (fun z=>nomatch z))]
      exact eb
noncomputable def tFrz (i:Nat)(t:TS):TS:=fun E σ H=>∃ p u,σ[i]?=some (some (.ref p))∧H p=some u∧zaT u∧∀ ob,t E σ (upd H p (.frz ob u))
theorem zhU {sts:List Stmt}{t:TS}(i:Nat)(h:PSs X sts t):PSs X sts (tFrz i t):=by
  intro pins s σ H E I q
  obtain ⟨p,u,_,e,hu,q⟩:=q
  obtain ⟨ob,I2⟩:=I.frz e hu
  exact h pins s σ _ E I2 (q ob)
noncomputable def zgX (z:Bool)(tk tv:TE):TE:=fun σ H Q=>∀ p,H p=none→tk σ (upd H p (.dT [])) fun x H1=>tv σ H1 fun y H2=>H2 p=some (.dT [])∧∃ b k,x=.ref b∧H2 b=some (.tup (k.map kV)) ∧
  if z=true then ∀ ob,Q (.ref p) (upd H2 p (.frz ob (.dT [(k,y)]))) else Q (.ref p) (upd H2 p (.dT [(k,y)]))
theorem zgg {z:Bool}{k v:Expr}{pos:Pos}{tk tv:TE}(hu:X.A.units+1 < cLine)(hk:PE X k tk)(hv:PE X v tv):PE X (.Dict [some k] [v] pos) (zgX z tk tv):=by
  intro pins s σ H Q I q
  have hn:=I.hok.fresh (Nat.le_refl s.heap.objs.size)
  have I1:=I.laid (a:=s.heap.objs.size) (o:=.dT []) (h':=s.heap.push { cls:=.type "dict",data:=.dict #[] }) (t':=s.toks) (fun _ _ q=>Heap.get?_push_of_some _ q) (Nat.le_refl _) (zbV s.heap I.big)
  refine wpAny_Dict_any (by rfl) rfl (by simp) (by simp) ?_
  refine pairTrees_cons_walk (thn (hk pins _ σ _ _ I1 (q _ hn)) fun u s1 ⟨x,H1,I1,rx,q1⟩=>thn (hv pins s1 σ H1 _ I1 q1) fun w2 s2 hh9=>?_)
  obtain ⟨y,H2,I2,ry,q2⟩:=hh9
  obtain ⟨e,b,kk,ex,eb,q2⟩:=q2
  subst ex
  obtain rfl:u=Value.ref b:=rx
  refine pairTrees_nil_walk ?_
  unfold storeAll
  simp only [List.forIn_cons,List.forIn_nil]
  obtain ⟨zz,hd,xs,rel,dd⟩:=zjX I2.hok e
  cases rel
  refine wpAny_bind (wpAny_bind (wpAny_dictSet_heap (hsz:=Nat.zero_le _) (show (tupleKind (xx X.prog X.w)).room X.A from Nat.lt_of_succ_lt hu) (VP I2.hok eb) dd fun h' dd' hs=>wpAny_pure (wpAny_pure ?_)))
  have dd2:=dd'
  obtain ⟨q,es,ep,hq,h2,h3,h4,_,h5⟩:=dd'
  have I3:=za7 (t':=s2.toks+(tupleKind (xx X.prog X.w)).draws kk) (ob:=.dT [(kk,y)]) I2 (by rw [e];exact True.intro) hs ⟨q,hq⟩ ⟨by show 1≤sizeLine;decide,hd,_,((show KT H2 [] [] from .nil).put kk eb ry).keeps fun c ys ec=>by
    rw [zm (zfA ec e (fun z=>nomatch z))]
    exact ec,q,es,ep,hq,h2,h3,h4,h5⟩
  cases z with
  | false=>exact ⟨.ref s.heap.objs.size,_,I3,rfl,by rw [if_neg Bool.false_ne_true] at q2;exact q2⟩
  | true =>
    rw [if_pos rfl] at q2
    obtain ⟨ob,I4⟩:=I3.frz (p:=s.heap.objs.size) (u:=.dT [(kk,y)]) zn (.inr ⟨_,rfl⟩)
    rw [zbp] at I4
    exact ⟨.ref s.heap.objs.size,_,I4,rfl,q2 ob⟩
end
end L2
namespace Dl
open PySem L2
noncomputable def k1D:Key→D
  | .inl i=>.int i
  | .inr x=>.str x
noncomputable def zgk (t:Bool)(k:List Key):D:=if t=true then .tup (k.map k1D) else match k with
  | [a]=>k1D a
  | _=>.non
noncomputable def zgA:D→Option (List D)
  | .dct true t ks _=>some (ks.map (zgk t))
  | _=>none
section
variable [KK]
theorem zgW {F:Hp}(k:Key):At F (k1D k) (kV k):=by
  cases k with
  | inl i=>exact .int
  | inr x=>exact .str
theorem zeA {F:Hp}:∀ ks:List Key,AtL F (ks.map k1D) (ks.map kV)
  | []=>.nil
  | k::ks=>.cons (zgW k) (zeA ks)
theorem zbv {u:HO}{t:Bool}{ks:List (List Key)}{xs:List V}(h:zal u t ks xs):zaT u∧zjQ u=ks.length:=by
  unfold zal at h
  cases t with
  | true=>rw [if_pos rfl] at h;obtain ⟨kvs,rfl,rfl,_⟩:=h;exact ⟨.inr ⟨_,rfl⟩,by rw [List.length_map];rfl⟩
  | false=>rw [if_neg Bool.false_ne_true] at h;obtain ⟨kvs,rfl,rfl,_⟩:=h;exact ⟨.inl ⟨_,rfl⟩,by rw [List.length_map];rfl⟩
theorem Gr.see {F H:Hp}{b:Addr}{ys:List V}(s:yJ F H)(h:H b=some (.tup ys)):∃ F',Gr F H F' H∧F' b=some (.tup ys):=by
  cases e:F b with
  | some o =>
    have:=s _ _ e
    rw [h] at this
    cases this
    exact ⟨F,.refl s,e⟩
  | none =>
    refine ⟨upd F b (.tup ys),⟨fun p o z=>?_,fun p o z=>?_,fun p o z1 z2=>⟨?_,z2⟩⟩,zn⟩
    · rw [zm (zk z e)];exact z
    · by_cases hp:p=b
      · subst hp;rw [zn] at z;cases z;exact h
      · rw [zm hp] at z;exact s p o z
    · by_cases hp:p=b
      · subst hp
        rw [h] at z2
        cases z2
        exact .inr ⟨⟨_,rfl⟩,zn⟩
      · exact .inl (by rw [zm hp];exact z1)
theorem ziq {F:Hp}{a:Addr}{ob:Obj}{u:HO}{t:Bool}{ks:List (List Key)}{xs:List V}(h:F a=some (.frz ob u))(hd:zal u t ks xs):zii (Itf a ob u) F (ks.map (zgk t)):=by
  intro i F2 H2 s1 s2
  have e2:=s2 _ _ (s1 _ _ h)
  obtain ⟨_,hl⟩:=zbv hd
  refine ⟨fun hi=>⟨e2,by rw [hl,hi,List.length_map];exact Nat.le_refl _⟩,fun d hdi=>?_⟩
  rw [List.getElem?_map] at hdi
  obtain ⟨k,hk,rfl⟩:=Option.map_eq_some_iff.mp hdi
  refine ⟨⟨e2,by rw [hl];exact (List.getElem?_eq_some_iff.mp hk).1⟩,fun x H3 hy=>?_⟩
  obtain ⟨rfl,hy⟩:=hy
  unfold zal at hd
  cases t with
  | true =>
    rw [if_pos rfl] at hd
    obtain ⟨kvs,rfl,rfl,_⟩:=hd
    obtain ⟨p,b,hp,rfl,hb⟩:=hy
    rw [List.getElem?_map,hp] at hk
    cases hk
    obtain ⟨F3,g,hF⟩:=Gr.see s2 hb
    exact ⟨F3,g,.tup hF (zeA _)⟩
  | false =>
    rw [if_neg Bool.false_ne_true] at hd
    obtain ⟨kvs,rfl,rfl,_⟩:=hd
    obtain ⟨p,hp,rfl⟩:=hy
    rw [List.getElem?_map,hp] at hk
    cases hk
    exact ⟨F2,.refl s2,zgW _⟩
section
variable {X:Cx}{tg a b e k v:Expr}{pos pos':Pos}{sts:List Stmt}
noncomputable def iDct (f:Ev→Option D):Ev→Option (List D):=fun ρ=>(f ρ).bind zgA
theorem zh3 {f:Ev→Option D}(ha:ED X a f):ID X tg a (iDct f):=by
  obtain ⟨t,p,r⟩:=ha
  refine ⟨_,zib p,fun σ ρ F H ds R s va e q=>?_⟩
  obtain ⟨d,e1,e2⟩:=Option.bind_eq_some_iff.mp e
  refine r σ ρ F H d _ s va e1 fun F1 H1 v g1 a1=>?_
  unfold zgA at e2
  split at e2
  · cases e2
    obtain ⟨p,xs,rfl,⟨u,hd,hz⟩,_⟩:=a1.dct_inv
    rw [if_pos rfl] at hz
    obtain ⟨ob,hz⟩:=hz
    exact ⟨p,ob,u,rfl,g1.fh _ _ hz,(zbv hd).1,q F1 H1 _ g1 (ziq hz hd)⟩
  · cases e2
noncomputable def zkd (i:Nat)(g:SE→Ctl):SE→Ctl:=fun ρ=>match ρ[i]? with
  | some (.m t ks vs)=>g (ρ.set i (.v (.dct true t ks vs)))
  | _=>.no
theorem Rl.fzM {Fb Hb F H:Hp}{ρ:SE}{σ:St}{i:Nat}{t:Bool}{ks:List (List Key)}{vs:List D}(r:Rl Fb Hb F H ρ σ)(h:ρ[i]?=some (.m t ks vs)) :
    ∃ p u,σ[i]?=some (some (.ref p))∧H p=some u∧zaT u∧∀ ob,Rl Fb Hb (upd F p (.frz ob u)) (upd H p (.frz ob u)) (ρ.set i (.v (.dct true t ks vs))) σ:=by
  obtain ⟨p,u,e1,e2,e3,e4,xs,hd,al⟩:=r.ows i _ h rfl
  refine ⟨p,u,e1,e4,(zbv hd).1,fun ob=>?_⟩
  have hi:i < ρ.length:=(List.getElem?_eq_some_iff.mp h).1
  have sF:yJ F (upd F p (.frz ob u)):=fun b o e=>by rw [zm (zk e e3)];exact e
  have nj:∀ {j:Nat} {s:Sl},(ρ.set i (.v (.dct true t ks vs)))[j]?=some s→s.isO=true→i≠j:=fun {j s} h ht e=>by
    subst e
    rw [List.getElem?_set_self hi] at h
    cases h
    cases ht
  refine ⟨⟨r.gr.ff.trans sF,fun b o z=>?_,fun b o z1 z2=>?_⟩,fun j d z=>?_,fun j s z ht=>?_,fun j k q s s' h1 h2 o1 o2 h3 h4=>?_,by simp [r.len]⟩
  · by_cases hb:b=p
    · subst hb;rw [zn] at z ⊢;exact z
    · rw [zm hb] at z ⊢;exact r.gr.fh b o z
  · have hb:b≠p:=zk z2 e2
    obtain ⟨x,y⟩:=r.gr.kp b o z1 z2
    refine ⟨?_,by rw [zm hb];exact y⟩
    unfold Hid
    rw [zm hb]
    exact x
  · by_cases hj:i=j
    · subst hj
      rw [List.getElem?_set_self hi] at z
      cases z
      refine ⟨_,e1,?_⟩
      unfold At
      exact ⟨p,xs,rfl,⟨u,hd,by rw [if_pos rfl];exact ⟨ob,zn⟩⟩,al.mono sF⟩
    · rw [List.getElem?_set_ne hj] at z
      obtain ⟨v,f1,f2⟩:=r.vals j d z
      exact ⟨v,f1,f2.mono sF⟩
  · have hj:=nj z ht
    rw [List.getElem?_set_ne hj] at z
    obtain ⟨q,y,f1,f2,f3,f4,f5⟩:=r.ows j s z ht
    have hq:q≠p:=fun w=>hj (r.dis i j p _ s h z rfl ht e1 (by rw [←w];exact f1))
    exact ⟨q,y,f1,f2,by rw [zm hq];exact f3,by rw [zm hq];exact f4,f5.mono sF⟩
  · have a1:=nj h1 o1
    have a2:=nj h2 o2
    rw [List.getElem?_set_ne a1] at h1
    rw [List.getElem?_set_ne a2] at h2
    exact r.dis j k q s s' h1 h2 o1 o2 h3 h4
theorem zec {g:SE→Ctl}(i:Nat)(h:SDs X sts g):SDs X sts (zkd i g):=by
  obtain ⟨t,p,r⟩:=h
  refine ⟨_,zhU i p,fun Fb Hb F H ρ σ E rl k=>?_⟩
  unfold zkd at k
  split at k
  · rename_i tt ks vs hs
    obtain ⟨q,u,e1,e2,e3,e4⟩:=rl.fzM hs
    exact ⟨q,u,e1,e2,e3,fun ob=>r Fb Hb _ _ _ σ E (e4 ob) k⟩
  · exact k.elim
theorem zdh {z:Bool}{tk tv:TE}{fk fv:Ev→Option D}{σ:St}{ρ:Ev}{F H:Hp}{kd d:D}{kk:List Key}{Q:VK}(rk:RE tk fk)(rv:RE tv fv)(s:yJ F H)(va:VAt F ρ σ)(e1:fk ρ=some kd)(e2:fv ρ=some d)(e3:zgt kd=some kk)
    (q:∀ F2 H2 p y,Gr F H F2 H2→H p=none→F2 p=none→H2 p=some (.dT [])→At F2 d y→if z=true then ∀ ob,Q (.ref p) (upd H2 p (.frz ob (.dT [(kk,y)]))) else Q (.ref p) (upd H2 p (.dT [(kk,y)]))):zgX z tk tv σ H Q:=by
  intro p hp
  have g0:=Gr.hide s hp (.dT [])
  refine rk σ ρ F _ kd _ g0.fh va e1 fun F1 H1 x g1 a1=>?_
  refine rv σ ρ F1 H1 d _ g1.fh (va.mono g1.ff) e2 fun F2 H2 y g2 a2=>?_
  have g12:=g1.trans g2
  obtain ⟨n2,h2⟩:=g12.kl (o:=.dT []) (fun _ e=>by cases e) (s.free hp) zn
  obtain ⟨b,rfl,hb⟩:=zbd e3 a1
  exact ⟨h2,b,kk,rfl,g2.fh _ _ (g2.ff _ _ hb),q F2 H2 p y (g0.trans g12) hp n2 h2 a2⟩
noncomputable def zhk (i:Nat)(fk fv:Ev→Option D):SE→Ctl:=fun ρ=>match (fk (visF ρ)).bind fun kd=>(fv (visF ρ)).bind fun d=>(zgt kd).map fun k=>Sl.m true [k] [d] with
  | some s=>.nx (ρ.set i s)
  | none=>.no
theorem zhp {n i:Nat}{x:Str}{fk fv:Ev→Option D}(hr:v0 n X.A)(hN:X.N.Nodup)(hi:X.N[i]?=some x)(hx:Loc X.env.scope x)(hk:ED X k fk)(hv:ED X v fv){p2:Pos}
    (hs:swapsWith (.Dict [some k] [v] p2) (some (.Name x pos')) pos.line X.env=pure false:=by rfl)
    (hf:X.fn x=true∨X.env.scope.names.lookup x=some .local:=by first | exact .inl rfl | exact .inr rfl | assumption):SD X (.Assign [.Name x pos'] (.Dict [some k] [v] p2) pos) (zhk i fk fv):=by
  obtain ⟨tk,pk,rk⟩:=hk
  obtain ⟨tv,pv,rv⟩:=hv
  refine ⟨_,ZI hN hi hx (zgg (z:=false) (zfq hr) pk pv) hs hf,fun Fb Hb F H ρ σ E rl kk=>?_⟩
  unfold zhk at kk
  cases h:(fk (visF ρ)).bind fun kd=>(fv (visF ρ)).bind fun d=>(zgt kd).map fun k=>Sl.m true [k] [d] with
  | none=>rw [h] at kk;exact kk.elim
  | some s =>
    rw [h] at kk
    obtain ⟨kd,e1,e⟩:=Option.bind_eq_some_iff.mp h
    obtain ⟨d,e2,e⟩:=Option.bind_eq_some_iff.mp e
    obtain ⟨k0,e3,rfl⟩:=Option.map_eq_some_iff.mp e
    refine zdh (z:=false) rk rv rl.gr.fh rl.visF e1 e2 e3 fun F2 H2 p y g hp n2 h2 ay=>?_
    rw [if_neg Bool.false_ne_true]
    have g2:Gr F H F2 (upd H2 p (.dT [(k0,y)])):=by
      refine ⟨g.ff,fun b o z=>?_,fun b o z1 z2=>?_⟩
      · rw [zm (zk z n2)];exact g.fh b o z
      · rw [zm (zk z2 hp)];exact g.kp b o z1 z2
    refine kk F2 _ _ ((rl.grow g2).setW (rl.notbase hp) n2 zn ⟨[y],?_,.cons ay .nil⟩ (rl.notown hp))
    unfold zal
    rw [if_pos rfl]
    exact ⟨_,rfl,rfl,rfl⟩
end
end
end Dl
namespace OwnRep
open PySem Builtin
theorem zhA {α:Type}{M:Model}{A:Around}{E:Value→Shared→Prop}{s:Shared}{c:Bool}{a b:Sem α}{Q:α→Shared→Prop}(hc:c=false)(h:wpAny M A b Q E s):wpAny M A (if c=true then a else b) Q E s:=by rw [hc,if_neg Bool.false_ne_true];exact h
theorem noFill_tuple_mul:fillsNumberSlot (.type "tuple") "mul"=pure false :=
  fillsNumberSlot_seq (id:="tuple.__mul__") (r:=some (.builtin "tuple.__rmul__")) F.slot_tuple_mul.lookup (by decide +kernel) F.slot_tuple_rmul.lookup (by decide +kernel)
theorem repeat_tuple:seqRepeat? (.type "tuple")=pure (some (.builtin "tuple.__mul__")):=by
  unfold seqRepeat?
  rw [seqSlot_of (T:="tuple") (name:="__mul__") (id:="tuple.__mul__") F.slot_tuple_mul.lookup (by decide +kernel),seqSlot_of (T:="tuple") (name:="__rmul__") (id:="tuple.__rmul__") F.slot_tuple_rmul.lookup (by decide +kernel)]
  rfl
theorem int_rmul_tuple (a:Int)(t:Tok)(l:Addr)(items:Array Value)(n:Nat)(dd:Option Addr)(sl:Array (Option Value)) :
    Meets (Builtin.«int.__rmul__» ⟨[.int a t,.ref l],[]⟩) (fun _ R s=>s.heap.get? l=some { cls:=.type "tuple",dict:=dd,data:=.seq items n,slots:=sl }∧R (.ok (.ret Value.notImplemented)) s) :=
  .of_wp fun prog w A R s h=>by obtain ⟨hp,g,d,tk,os⟩:=s;obtain ⟨hl,h⟩:=h;wp_walk;exact ⟨_,rfl,h⟩
theorem tmul_same (l:Addr)(items:Array Value)(n:Nat)(dd:Option Addr)(sl:Array (Option Value))(x:Int)(u:Tok)(hc0:(decide (x < -(2 ^ 63))||decide (x ≥ 2 ^ 63))=false)(hc1:(items.isEmpty||x == 1)=true) :
    Meets (Builtin.«tuple.__mul__» ⟨[.ref l,.int x u],[]⟩) (fun _ R s=>s.heap.get? l=some { cls:=.type "tuple",dict:=dd,data:=.seq items n,slots:=sl }∧R (.ok (.ret (Value.ref l))) s) :=
  .of_wp fun prog w A R s h=>by obtain ⟨hp,g,d,tk,os⟩:=s;obtain ⟨hl,h⟩:=h;wp_walk;refine zhA hc0 ?_;wp_walk;exact ⟨_,rfl,h⟩
theorem tmul_none (l:Addr)(items:Array Value)(n:Nat)(dd:Option Addr)(sl:Array (Option Value))(x:Int)(u:Tok)(hc0:(decide (x < -(2 ^ 63))||decide (x ≥ 2 ^ 63))=false)(hc1:(items.isEmpty||x == 1)=false)(hc2:(decide (x≤0)||items.isEmpty)=true) :
    Meets (Builtin.«tuple.__mul__» ⟨[.ref l,.int x u],[]⟩) (fun _ R s=>s.heap.get? l=some { cls:=.type "tuple",dict:=dd,data:=.seq items n,slots:=sl }∧R (.ok (.ret (Value.ref s.heap.objs.size))) { s with heap:=s.heap.push { cls:=.type "tuple",data:=.seq #[] },toks:=s.toks }) :=
  .of_wp fun prog w A R s h=>by obtain ⟨hp,g,d,tk,os⟩:=s;obtain ⟨hl,h⟩:=h;wp_walk;refine zhA hc0 ?_;wp_walk;exact ⟨_,rfl,h⟩
theorem tmul_some (l:Addr)(items:Array Value)(n:Nat)(dd:Option Addr)(sl:Array (Option Value))(x:Int)(u:Tok)(hc0:(decide (x < -(2 ^ 63))||decide (x ≥ 2 ^ 63))=false)(hc1:(items.isEmpty||x == 1)=false)(hc2:(decide (x≤0)||items.isEmpty)=false)(hc3:¬ (items.size:Int)*x > (2 ^ 63 - 1) / 8)(hc4:Builtin.Tuple.tupleTooMany ((items.size:Int)*x)=false)(hc5:(List.foldl (fun x1 x2=>x1++x2) #[] (List.replicate x.toNat items)).size≤sizeLine) :
    Meets (Builtin.«tuple.__mul__» ⟨[.ref l,.int x u],[]⟩) (fun _ R s=>s.heap.get? l=some { cls:=.type "tuple",dict:=dd,data:=.seq items n,slots:=sl }∧R (.ok (.ret (Value.ref s.heap.objs.size))) { s with heap:=s.heap.push { cls:=.type "tuple",data:=.seq (List.foldl (fun x1 x2=>x1++x2) #[] (List.replicate x.toNat items)) },toks:=s.toks }) :=
  .of_wp fun prog w A R s h=>by obtain ⟨hp,g,d,tk,os⟩:=s;obtain ⟨hl,h⟩:=h;wp_walk;refine zhA hc0 ?_;wp_walk;refine wpAny_ite_false (decide_eq_false hc3) ?_;wp_walk;exact ⟨_,rfl,h⟩
end OwnRep
namespace L2
open PySem
section
variable {X:Cx}
noncomputable def ziY (K:PySem.W.Frag):R2:=fun x y H Q=>∃ a k xs,x=.ref a∧y=.int k∧SqT K H a xs∧xs≠[]∧-(2 ^ 63)≤k∧k < 2 ^ 63∧xs.length*k.toNat≤sizeLine ∧
  (k=1→Q (.ref a) H)∧(k≠1→∀ p,H p=none→Q (.ref p) (upd H p (.tup (List.replicate k.toNat xs).flatten)))
theorem zhO:OpR X (binaryOp .Mult) (ziY X.K):=by
  intro pins s σ H x y v u Q I rx ry h
  obtain ⟨a,k,xs,rfl,rfl,ha,hx,h1,h2,hz,q1,q2⟩:=h
  cases rx
  obtain ⟨t,rfl⟩:=ry
  obtain ⟨its,r,⟨⟨cls,dd,dat,sl⟩,e,hc,n,hd⟩,_⟩:=I.tuple ha
  simp only at hc hd
  subst hc hd
  have hne:its.toArray.isEmpty=false:=by
    cases its with
    | nil=>exact absurd (r.nil_iff.mp rfl) hx
    | cons _ _=>rfl
  have hc0:(decide (k < -(2 ^ 63))||decide (k ≥ 2 ^ 63))=false:=by
    rw [decide_eq_false (by omega),decide_eq_false (by omega)];rfl
  have hnew:∀ m:Nat,List.foldl (fun x1 x2=>x1++x2) #[] (List.replicate m its.toArray)=(List.replicate m its).flatten.toArray:=fun m=>by
    have:=Wf its m []
    rw [List.nil_append] at this
    exact this
  have hl:((List.replicate k.toNat its).flatten).length≤sizeLine:=by rw [zaV,← r.length,Nat.mul_comm];exact hz
  have go:∀ {Q':Value→Shared→Prop},wpAny (model X.prog X.w) X.A (call (.builtin "tuple.__mul__") [.ref a,.int k t]) Q' X.xe s→wpAny (model X.prog X.w) X.A (binaryOp .Mult (.ref a) (.int k t)) Q' X.xe s:=fun {Q'} w =>
    wpAny_binaryOp_repeat_ref (T:="tuple") (U:="int") (by decide) ⟨_,e,rfl⟩ (fun s'=>typeIs_int s' k t) OwnRep.noFill_tuple_mul F.fills_int_mul F.slot_int_rmul OwnRep.repeat_tuple F.slot_int_index.lookup
      (call_meets F.slot_int_rmul (typeIs_int s k t) F.entry_int_rmul (F.args_int_rmul_2 _ _) (OwnRep.int_rmul_tuple k t a its.toArray n dd sl) ⟨e,rfl,⟨_,e,rfl⟩,w⟩)
  by_cases c1:k=1
  · exact go (call_meets F.slot_tuple_mul ⟨_,e,rfl⟩ F.entry_tuple_mul (F.args_tuple_mul_2 _ _) (OwnRep.tmul_same a its.toArray n dd sl k t hc0 (by rw [c1];simp)) ⟨e,⟨.ref a,H,I,rfl,q1 c1⟩⟩)
  have hc1:(its.toArray.isEmpty||k == 1)=false:=by rw [hne,Bool.false_or];exact beq_eq_false_iff_ne.mpr c1
  have fin:∀ (us:List Value),us=(List.replicate k.toNat its).flatten→EP X pins σ Q (.ref s.heap.objs.size) { s with heap:=s.heap.push { cls:=.type "tuple",data:=.seq us.toArray },toks:=s.toks }:=fun us hu=>by
    refine ⟨.ref s.heap.objs.size,_,I.laid (t':=s.toks) (o:=.tup (List.replicate k.toNat xs).flatten) (fun b ob q=>Heap.get?_push_of_some _ q) (Nat.le_refl _) ?_,rfl,q2 c1 _ (I.hok.fresh (Nat.le_refl _))⟩
    refine ⟨by rw [zaV,Nat.mul_comm];exact hz,us,?_,PyProof.Rows.IsTup.new _ _⟩
    rw [hu]
    exact r.rep k.toNat
  by_cases c2:k≤0
  · refine go (call_meets F.slot_tuple_mul ⟨_,e,rfl⟩ F.entry_tuple_mul (F.args_tuple_mul_2 _ _) (OwnRep.tmul_none a its.toArray n dd sl k t hc0 hc1 (by rw [decide_eq_true c2];rfl)) ⟨e,fin [] ?_⟩)
    rw [show k.toNat=0 by omega]
    rfl
  · have hsz:(its.toArray.size:Int)*k≤(sizeLine:Int):=by
      have:((its.length*k.toNat:Nat):Int)≤(sizeLine:Int):=by rw [←r.length];exact Int.ofNat_le.mpr hz
      rw [Int.natCast_mul,Int.toNat_of_nonneg (by omega)] at this
      exact this
    refine go (call_meets F.slot_tuple_mul ⟨_,e,rfl⟩ F.entry_tuple_mul (F.args_tuple_mul_2 _ _) (OwnRep.tmul_some a its.toArray n dd sl k t hc0 hc1 (by rw [hne,Bool.or_false];exact decide_eq_false c2) ?_ ?_ ?_) ⟨e,?_⟩)
    · have:(sizeLine:Int)≤(2 ^ 63 - 1) / 8:=by decide
      omega
    · unfold Builtin.Tuple.tupleTooMany
      exact decide_eq_false (by omega)
    · rw [hnew,List.size_toArray]
      exact hl
    · rw [hnew]
      exact fin _ rfl
end
end L2
namespace Dl
open PySem L2
section
variable [KK]
noncomputable def zaU:D→D→Option D
  | .tup a,.int k=>if a≠[]∧-(2 ^ 63)≤k∧k < 2 ^ 63∧lim (a.length*k.toNat)=true then some (.tup (List.replicate k.toNat a).flatten) else none
  | _,_=>none
theorem zfC {K:PySem.W.Frag}:OpD (ziY K) zaU:=by
  intro F H x y d e z Q s ax ay ez q
  cases d <;> try cases ez
  cases e <;> try cases ez
  rename_i ds k
  unfold zaU at ez
  dsimp only at ez
  split at ez <;> cases ez
  rename_i hl
  obtain ⟨p,xs,rfl,hx,al⟩:=ax.tup_inv
  refine ⟨p,k,xs,rfl,ay.int_inv,SqT.of (s _ _ hx),fun e=>hl.1 ?_,hl.2.1,hl.2.2.1,by rw [al.length];exact of_decide_eq_true hl.2.2.2,fun e=>?_,fun _ r hr=>?_⟩
  · subst e
    exact List.length_eq_zero_iff.mp al.length.symm
  · subst e
    refine q F H _ (.refl s) ?_
    show At F (.tup (List.replicate 1 ds).flatten) _
    rw [show (List.replicate 1 ds).flatten=ds by simp]
    exact .tup hx al
  · have g:=Gr.alloc s hr (.tup (List.replicate k.toNat xs).flatten)
    exact q _ _ _ g (.tup zn ((al.rep _).mono g.ff))
section
variable {X:Cx}{a b:Expr}{pos:Pos}
theorem zd6 {f h:Ev→Option D}(ha:ED X a f)(hb:ED X b h):ED X (.BinOp a .Mult b pos) (zp zaU f h):=Xz zhO zfC ha hb
end
end
end Dl
namespace L2
open PySem PySem.Spec PyProof.Rows
noncomputable def zcS (X:Cx)(x0:Str)(M:List Str)(scope:Scope)(cl:List (Str × Addr))(s₀:Shared)(H₀:Hp)(ex:List Addr)(pn:List (Addr × Obj)):Cx :=
  { X with N:=[x0]++M,s₀:=s₀,H₀:=H₀,env:=compEnvC scope ((x0,s₀.heap.objs.size+1)::cl) s₀.heap.objs.size X.env,outer:=X.stack,stack:=X.stack,ex:=ex,fn:=fun y=>y == x0,pn:=pn,xe:=fun _ _=>False }
set_option genInjectivity false in
set_option genSizeOf false in
set_option genCtorIdx false in
structure Y9 (X:Cx) (x0:Str) (M:List Str) (scope:Scope) (cl:List (Str × Addr)):Prop where
  clos:closureFor scope X.env=pure cl
  laid:∀ n,cellsFrom n scope.names cl=(x0,n)::cl
  push:∀ h,pushCells h scope.names=h.push { cls:=.type "cell",data:=.cell none }
  kind:scope.kind=.function
  names:∀ y∈scope.names,y.2=.local→scope.names.lookup y.1=some .local
  sub:∀ y c,cl.lookup y=some c→X.env.cells.lookup y=some c
  has:∀ y,((relabel scope X.env).names.lookup y=some .cell∨(relabel scope X.env).names.lookup y=some .free)→y=x0∨∃ c,cl.lookup y=some c
  mlen:M.length=X.N.length
  ne:∀ (i:Nat) y,M[i]?=some y→Vis (relabel scope X.env) y→y≠x0
  msk:∀ (i:Nat) y,M[i]?=some y→Vis (relabel scope X.env) y→X.N[i]?=some y
  vis:∀ (i:Nat) y,M[i]?=some y→Vis (relabel scope X.env) y→((relabel scope X.env).names.lookup y=some .cell∨(relabel scope X.env).names.lookup y=some .free)
  out:∀ (i:Nat) y,M[i]?=some y→Vis (relabel scope X.env) y→Vis X.env.scope y∧X.env.kindOf y≠some .local
theorem Zp (x0:Str)(a:Addr)(cl:List (Str × Addr))(y:Str):((x0,a)::cl).lookup y=if y=x0 then some a else cl.lookup y:=by
  rw [List.lookup_cons]
  by_cases h:y=x0
  · rw [if_pos h,show (y == x0)=true from beq_iff_eq.mpr h]
  · rw [if_neg h,show (y == x0)=false from beq_eq_false_iff_ne.mpr h]
theorem W2 {M:Model} {A:Around} {E:Value→Shared→Prop} {s:Shared} {scope:Scope} {globals:Addr} {cl:List (Str × Addr)} {qual:Str} {env:Env} {x0:Str} {Q:Env→Shared→Prop} (laid:∀ n,cellsFrom n scope.names cl=(x0,n)::cl) (push:∀ h,pushCells h scope.names=h.push { cls:=.type "cell",data:=.cell none })
    (hQ:Q (newEnv scope s.heap.objs.size globals ((x0,s.heap.objs.size+1)::cl) qual none .none (some env) builtinsNs) { s with heap:=(s.heap.push { cls:=.type "dict",data:=.dict #[] }).push { cls:=.type "cell",data:=.cell none } }) :
    wpAny M A (newFunctionEnv scope globals cl [] qual none .none (some env)) Q E s:=by
  simp only [newFunctionEnv,Option.isSome_some,if_true]
  refine wpAny_bind (wpAny_alloc ?_)
  refine wpAny_bind (wpAny_layCells _ (fun name kind cells=>by cases hkc:kind == NameKind.cell <;> simp [hkc]) _ _ _ _ ?_)
  rw [laid,push,show ({ s with heap:=s.heap.push { cls:=.type "dict",data:=.dict #[] } }:Shared).heap.objs.size=s.heap.objs.size+1 from Heap.size_push ..]
  simp only [List.forIn_nil]
  exact wpAny_bind (wpAny_pure (wpAny_pure hQ))
theorem zfa {use:Option (Value→Sem Unit)}{Qf:Value→Shared→Prop}{X:Cx}{elt tg iter:Expr}{ifs:List Expr}{x0:Str}{M:List Str}{scope:Scope}{cl:List (Str × Addr)}{pos:Pos}{wi:TI}{g:TG}{tt:TT}{te:TE}
    (hc:X.calm=true) (S:Y9 X x0 M scope cl) (hi:PI X tg iter wi)
    (hgS:∀ (σ:St) (v:V) (H:Hp) (Q:St→Hp→Prop),g v (List.replicate 1 none++σ) H Q→g v (List.replicate 1 none++σ) H (fun σ2 H2=>Z5 (List.replicate 1 none++σ) σ2∧Q σ2 H2))
    (hg:∀ s₀ H₀ ex pn,PG (zcS X x0 M scope cl s₀ H₀ ex pn) tg g) (ht:∀ s₀ H₀ ex pn,PIf (zcS X x0 M scope cl s₀ H₀ ex pn) ifs tt) (he:∀ s₀ H₀ ex pn,PE (zcS X x0 M scope cl s₀ H₀ ex pn) elt te)
    (hs:∀ x,foldedSetIterable iter X.env x=pure x:=by intro _;rfl) :
    ∀ (pos':Pos) (pins:List (Addr × Obj)) (s:Shared) (σ:St) (H:Hp) (Q:VK),Inv X pins σ H s→tLC wi 1 g tt te σ H Q →
      (∀ (D C:Addr) (H':Hp) (s':Shared),Inv X pins σ H' s'→(∃ m,s'.heap.Ns C m)→zaJ X pins H' C→Q (.ref D) H'→compPost (model X.prog X.w) X.A X.xe use Qf (.ref D) C (.ok .next) s') →
      wpAny (model X.prog X.w) X.A (comprehension (.ListComp elt [⟨tg,iter,ifs,0⟩] scope pos) scope X.env pos' (newList []) false (eval iter X.env) use) Qf X.xe s:=by
  intro pos' pins s σ H Q I h fin
  refine wpAny_comprehension_free (use:=use) rfl hs S.clos S.kind S.names (thn (hi pins s σ H _ I h) fun v s1 h1=>thn h1 fun itv s2 h2=>?_)
  obtain ⟨it,fp,tn,J,H2,e,I2,T,st2,f2,q⟩:=h2
  subst e
  have hD:H2 s2.heap.objs.size=none:=I2.hok.fresh (Nat.le_refl _)
  obtain ⟨W,⟨m0,w0⟩,turn⟩:=q _ hD
  refine wpAny_newObj_type (W2 S.laid S.push ?_)
  have I3:Inv X pins σ (upd H2 s2.heap.objs.size (.lst [])) { s2 with heap:=s2.heap.push { cls:=.type "list",data:=.seq ([]:List Value).toArray } }:=by
    refine I2.laid (t':=s2.toks) (fun b u e=>Heap.get?_push_of_some _ e) (Nat.le_refl _) ?_
    exact ⟨Nat.zero_le _,[],0,.nil,Heap.get?_push_size _ rfl⟩
  generalize hs3:({ s2 with heap:=s2.heap.push { cls:=.type "list",data:=.seq ([]:List Value).toArray } }:Shared)=s3 at I3 ⊢
  generalize hh1:(s3.heap.push { cls:=.type "dict",data:=.dict #[] }).push { cls:=.type "cell",data:=.cell none }=h₁
  have hns₁:h₁.Ns s3.heap.objs.size fun _=>none:=by
    rw [←hh1]
    exact (Heap.Ns.new s3.heap (.type "dict")).keeps fun b o e=>Heap.get?_push_of_some _ e
  have hcell₁:h₁.IsCell (s3.heap.objs.size+1) none:=by
    rw [←hh1]
    refine ⟨{ cls:=.type "cell",data:=.cell none },?_,rfl⟩
    rw [←show (s3.heap.push { cls:=.type "dict",data:=.dict #[] }).objs.size=s3.heap.objs.size+1 from Heap.size_push ..]
    exact Heap.get?_push_size _ rfl
  have hobj:∀ b∈fp,b < s2.heap.objs.size:=fun b hb=>by
    obtain ⟨o,ho,_⟩:=T.obj _ _ st2 b hb
    exact Heap.lt_size ho
  have hz3:s3.heap.objs.size=s2.heap.objs.size+1:=by rw [←hs3];exact Heap.size_push ..
  have k23:∀ b o,s2.heap.get? b=some o→s3.heap.get? b=some o:=fun b o e=>by rw [←hs3];exact Heap.get?_push_of_some _ e
  have k34:∀ b o,s3.heap.get? b=some o→h₁.get? b=some o:=fun b o e=>by rw [←hh1];exact Heap.get?_push_of_some _ (Heap.get?_push_of_some _ e)
  generalize hH3:upd H2 s2.heap.objs.size (.lst [])=H3 at I3 w0
  have hfp3:∀ b∈fp,H3 b=none:=fun b hb=>by
    rw [←hH3,zm (Nat.ne_of_lt (hobj b hb))]
    exact (f2 b hb).1
  have nfs:∀ b∈fp,b∉frs X.stack:=fun b hb z=>by
    obtain ⟨_,n1,n2,_⟩:=f2 b hb
    rcases List.mem_cons.mp (I3.stkSub b z) with e | e
    · exact n1 e
    · exact n2 e
  let Y:Cx:=zcS X x0 M scope cl s3 H3 fp (X.pn++pins)
  have old:∀ y c,cl.lookup y=some c→c≠s3.heap.objs.size+1:=fun y c e z=>by
    obtain ⟨v,o,ho,_⟩:=I3.cell y c (S.sub y c e)
    have:=Heap.lt_size ho
    rw [z] at this
    exact absurd this (Nat.not_lt.mpr (Nat.le_succ _))
  have OkY:Y.Ok:=by
    refine ⟨I.ok.mod,S.kind,I.ok.glob,I.ok.blt,Nat.le_refl _,?inj,?has,?cab,I.ok.hd,I.ok.frames,.inl rfl,?exf,
      fun b o e=>I3.bs b o e,Nat.le_trans I.ok.bsz I3.sz,?noex,nfs,I3.stack,I3.stkFree⟩
    case inj =>
      intro x y c h1 h2
      have h1:((x0,s3.heap.objs.size+1)::cl).lookup x=some c:=h1
      have h2:((x0,s3.heap.objs.size+1)::cl).lookup y=some c:=h2
      rw [Zp] at h1 h2
      by_cases ex:x=x0
      · by_cases ey:y=x0
        · rw [ex,ey]
        · rw [if_pos ex] at h1
          rw [if_neg ey] at h2
          exact absurd (Option.some.inj h1) (old y c h2).symm
      · rw [if_neg ex] at h1
        by_cases ey:y=x0
        · rw [if_pos ey] at h2
          exact absurd (Option.some.inj h2) (old x c h1).symm
        · rw [if_neg ey] at h2
          exact I.ok.inj x y c (S.sub x c h1) (S.sub y c h2)
    case has =>
      intro x hx
      show ∃ c,((x0,s3.heap.objs.size+1)::cl).lookup x=some c
      rw [Zp]
      rcases S.has x hx with e | ⟨c,e⟩
      · rw [if_pos e];exact ⟨_,rfl⟩
      · split
        · exact ⟨_,rfl⟩
        · exact ⟨c,e⟩
    case cab =>
      intro x c hf h1
      have h1:((x0,s3.heap.objs.size+1)::cl).lookup x=some c:=h1
      rw [Zp,if_pos (beq_iff_eq.mp hf)] at h1
      cases h1
      exact Nat.le_succ _
    case exf =>
     refine fun b hb=>⟨?_,fun x c e z=>?_⟩
     · show b≠s3.heap.objs.size
       exact Nat.ne_of_lt (Nat.lt_of_lt_of_le (hobj b hb) (by rw [hz3];exact Nat.le_succ _))
     · have e:((x0,s3.heap.objs.size+1)::cl).lookup x=some c:=e
       rw [Zp] at e
       split at e
       · cases e
         have h1:=hobj b hb
         rw [hz3] at z
         rw [←z] at h1
         exact absurd h1 (Nat.not_lt.mpr (Nat.le_trans (Nat.le_succ _) (Nat.le_succ _)))
       · exact (f2 b hb).2.2.2.2.1 x c (S.sub x c e) z
    case noex =>
      intro b o e hb
      rcases (f2 b hb).2.2.2.1 with z | z
      · exact I.ok.noex b o e z
      · have h1:=Heap.lt_size e
        have h2:=I.ok.bsz
        exact absurd (Nat.lt_of_lt_of_le h1 (Nat.le_trans h2 z)) (Nat.lt_irrefl _)
  have I4:Inv Y [] (List.replicate 1 none++σ) H3 { s3 with heap:=h₁ }:=by
    refine ⟨OkY,rfl,I3.bare,Un.kept k34,⟨_,hns₁,fun i y v e1 e2 e3=>?_⟩,fun x c e=>?_,I3.hok.fresh (Nat.le_refl _),fun x c e=>?freeC,fun p hp=>?_,I3.hok.kept k34,?_⟩
    · have hi:¬ i < 1:=fun hlt=>by
        rw [List.getElem?_append_left (by simpa using hlt),List.getElem?_replicate] at e2
        split at e2 <;> cases e2
      have e0':M[i - 1]?=some y:=by
        have e1:([x0]++M)[i]?=some y:=e1
        rw [List.getElem?_append_right (show 1≤i by omega)] at e1
        exact e1
      have e2':σ[i - 1]?=some (some v):=by rw [List.getElem?_append_right (by simpa using Nat.le_of_not_lt hi)] at e2;simpa using e2
      have e1':=S.msk _ y e0' e3
      obtain ⟨ov,ok⟩:=S.out _ y e0' e3
      obtain ⟨m,hn,hl⟩:=I3.loc
      obtain ⟨u,ru,lk⟩:=hl _ y v e1' e2' ov
      refine ⟨u,ru,?_⟩
      rcases lk with ⟨hk,_⟩ | ⟨_,c,hc',hcell⟩
      · exact absurd hk ok
      · have kn:=S.vis _ y e0' e3
        obtain ⟨c',hc2⟩:=(S.has y kn).resolve_left (S.ne _ y e0' e3)
        have:=S.sub y c' hc2
        rw [hc'] at this
        cases this
        refine .inr ⟨kn,c,(show ((x0,s3.heap.objs.size+1)::cl).lookup y=some c by rw [Zp,if_neg (S.ne _ y e0' e3)];exact hc2),?_⟩
        obtain ⟨o,ho,hd⟩:=hcell
        exact ⟨o,k34 _ _ ho,hd⟩
    · have e:((x0,s3.heap.objs.size+1)::cl).lookup x=some c:=e
      rw [Zp] at e
      split at e
      · cases e
        exact ⟨_,hcell₁⟩
      · obtain ⟨v,o,ho,hd⟩:=I3.cell x c (S.sub x c e)
        exact ⟨v,o,k34 _ _ ho,hd⟩
    · have e:((x0,s3.heap.objs.size+1)::cl).lookup x=some c:=e
      rw [Zp] at e
      split at e
      · cases e
        exact I3.hok.fresh (Nat.le_succ _)
      · exact I3.freeC x c (S.sub x c e)
    · have hp':p∈X.pn++pins:=by simpa [Y,zcS] using hp
      obtain ⟨a1,a2,a3,a4,a5⟩:=I3.pin p hp'
      refine ⟨k34 _ _ a1,a2,Nat.ne_of_lt (Heap.lt_size a1),fun z=>?_,a5⟩
      rcases List.mem_cons.mp (I3.stkSub p.1 z) with e | e
      · exact a3 e
      · exact a4 e
    · show (List.replicate 1 none++σ).length=([x0]++M).length
      rw [List.length_append,List.length_append,List.length_replicate,I.len,S.mlen]
      rfl
  have fpY:∀ {H':Hp},(∀ b∈fp,H' b=none)→∀ b∈fp,zaJ Y [] H' b:=fun {H'} hn b hb=>by
    refine ⟨hn b hb,(OkY.exf b hb).1,nfs b hb,.inl hb,(OkY.exf b hb).2,fun p hp=>?_⟩
    have hp':p∈X.pn++pins:=by simpa [Y,zcS] using hp
    exact (f2 b hb).2.2.2.2.2 p hp'
  have st4:tn 0 h₁:=T.keep _ _ _ st2 fun b hb o e=>k34 b o (k23 b o e)
  -- behind the loop
  have back:∀ (H':Hp) (s':Shared),Inv Y [] (List.replicate 1 none++σ) H' s'→Q (.ref s2.heap.objs.size) H'→compPost (model X.prog X.w) X.A X.xe use Qf (.ref s2.heap.objs.size) s3.heap.objs.size (.ok .next) s':=fun H' s' J' q'=>by
    obtain ⟨m,hn,_⟩:=J'.loc
    refine fin _ _ H' s' (I3.call' (ch:=fp) J'.os J'.base J'.hok J'.bare fun b hb=>?_) ⟨m,hn⟩ (I3.fpOk (Nat.le_refl _) J'.free) q'
    obtain ⟨_,n1,_,n3,n4,n5⟩:=f2 b hb
    exact ⟨n3,n1,n4,n5⟩
  have loop:codeAny (model X.prog X.w) X.A (.compLoop (.ListComp elt [⟨tg,iter,ifs,0⟩] scope pos) 0 (.ref it) (.ref s2.heap.objs.size) (compEnvC scope ((x0,s3.heap.objs.size+1)::cl) s3.heap.objs.size X.env))
      (compPost (model X.prog X.w) X.A X.xe use Qf (.ref s2.heap.objs.size) s3.heap.objs.size) { s3 with heap:=h₁ }:=by
    refine w6 (fun n s'=>∃ i ys H',Inv Y [] (List.replicate 1 none++σ) H' s'∧tn i s'.heap∧(∀ b∈fp,H' b=none)∧W i n ys H') ?_ m0 ⟨0,[],H3,I4,st4,hfp3,w0⟩
    rintro n s5 ⟨i,ys,H5,I5,st5,fr5,w5⟩
    rcases turn i n ys H5 w5 with ⟨stop,qn⟩ | ⟨go,hlen,step⟩
    · refine thn (T.done Y rfl rfl rfl hc i [] s5 _ H5 _ I5 (fpY fr5) st5 stop) fun r s6 hh9=>?_
      obtain ⟨hr,I6⟩:=hh9
      subst hr
      exact back H5 s6 I6 qn
    · refine thn (T.item Y rfl rfl rfl hc i [] s5 _ H5 _ I5 (fpY fr5) st5 go) fun r s6 hh9=>?_
      obtain ⟨u,hr,h6⟩:=hh9
      subst hr
      refine thn h6 fun _ s7 hh9=>?_
      obtain ⟨x,H7,I7,r7,y7,st7,fr7⟩:=hh9
      have I7':=I7.pinned (fpY fr7) (T.obj _ _ st7)
      have g7:=hgS σ x H7 _ (step x H7 y7)
      refine thn (hg _ _ _ _ _ s7 _ H7 x u _ I7' r7 g7) fun _ s8 hh9=>?_
      obtain ⟨σ8,H8,I8,sub8,q8⟩:=hh9
      have again:∀ {σ9:St} {H9:Hp} {s9:Shared} {zs:List V},Inv Y ([]++Xr fp s7.heap) σ9 H9 s9→Z5 (List.replicate 1 none++σ) σ9→(∃ m',m' < n∧W (i+1) m' zs H9) →
          ∃ m,m < n∧∃ i ys H',Inv Y [] (List.replicate 1 none++σ) H' s9∧tn i s9.heap∧(∀ b∈fp,H' b=none)∧W i m ys H':=fun {σ9 H9 s9 zs} I9 sub9 w9=>by
        obtain ⟨m',hm,w9⟩:=w9
        refine ⟨m',hm,i+1,zs,H9,(I9.sub sub9).unpinned,T.keep _ _ _ st7 fun b hb o e=>(I9.pin (b,o) (List.mem_append_right _ (List.mem_append_right _ (vi hb e)))).1,fun b hb=>?_,w9⟩
        obtain ⟨o,e,d⟩:=T.obj _ _ st7 b hb
        exact (I9.pin (b,o) (List.mem_append_right _ (List.mem_append_right _ (vi hb e)))).2.1
      refine thn (ht _ _ _ _ _ s8 σ8 H8 _ I8 q8) fun b s9 hh9=>?_
      obtain ⟨H9,I9,q9⟩:=hh9
      cases b with
      | false =>
        rw [if_neg Bool.false_ne_true] at q9
        rw [if_neg Bool.false_ne_true]
        exact again I9 sub8 q9
      | true =>
        rw [if_pos rfl] at q9
        rw [if_pos rfl]
        refine thn (he _ _ _ _ _ s9 σ8 H9 _ I9 q9) fun y s10 hh9=>?_
        obtain ⟨yv,H10,I10,r10,hD10,w10⟩:=hh9
        obtain ⟨z10,its,k,rv,e10⟩:ys.length≤sizeLine∧∃ (its:List Value) (n:Nat),xj ys its∧s10.heap.get? s2.heap.objs.size=some { cls:=.type "list",data:=.seq its.toArray n }:=I10.hok _ _ hD10
        have hl10:s10.heap.PlainList s2.heap.objs.size its.toArray:=⟨k,e10⟩
        refine wpAny_list_append_plain (hsz:=by rw [List.size_toArray,← rv.length];exact z10) hl10 fun h11 hl11 sb11=>?_
        obtain ⟨k',e11⟩:=hl11
        have I11:Inv Y ([]++Xr fp s7.heap) σ8 (upd H10 s2.heap.objs.size (.lst (ys++[yv]))) { s10 with heap:=h11 }:=by
          refine I10.write (x:=s2.heap.objs.size) (e:=s2.heap.objs.size) (t':=s10.toks) (by rw [hD10];exact True.intro) (.inl rfl) (fun b u hb e=>(sb11.2 b hb).trans e) ⟨_,e11⟩ ?_
          refine ⟨by rw [List.length_append];show ys.length+1≤sizeLine;exact hlen,its++[y],k',rv.append (.cons r10 .nil),?_⟩
          rw [e11]
          simp
        exact again I11 sub8 w10
  exact codeAny_compStart_list loop (T.self _ 0 _ _ _ st4 loop)
theorem ziZ {X:Cx}{elt tg iter:Expr}{ifs:List Expr}{x0:Str}{M:List Str}{scope:Scope}{cl:List (Str × Addr)}{pos:Pos}{wi:TI}{g:TG}{tt:TT}{te:TE}
    (hc:X.calm=true) (S:Y9 X x0 M scope cl) (hi:PI X tg iter wi)
    (hgS:∀ (σ:St) (v:V) (H:Hp) (Q:St→Hp→Prop),g v (List.replicate 1 none++σ) H Q→g v (List.replicate 1 none++σ) H (fun σ2 H2=>Z5 (List.replicate 1 none++σ) σ2∧Q σ2 H2))
    (hg:∀ s₀ H₀ ex pn,PG (zcS X x0 M scope cl s₀ H₀ ex pn) tg g) (ht:∀ s₀ H₀ ex pn,PIf (zcS X x0 M scope cl s₀ H₀ ex pn) ifs tt) (he:∀ s₀ H₀ ex pn,PE (zcS X x0 M scope cl s₀ H₀ ex pn) elt te)
    (hs:∀ x,foldedSetIterable iter X.env x=pure x:=by intro _;rfl) :
    PE X (.ListComp elt [⟨tg,iter,ifs,0⟩] scope pos) (tLC wi 1 g tt te):=by
  intro pins s σ H Q I h
  rw [eval_ListComp]
  refine zfa hc S hi hgS hg ht he hs _ pins s σ H Q I h fun D C H' s' I' ⟨m,hn⟩ f q=>⟨m,hn,fun h' sb=>⟨.ref D,_,I'.letGo f sb,rfl,q⟩⟩
noncomputable def WN (names rn dn:List (Str × NameKind))(x0:Str)(N M cn:List Str):Bool :=
  names.all (fun y=>decide (y.2=.local→names.lookup y.1=some .local)) &&
  rn.all (fun y=>decide ((y.2=.cell∨y.2=.free)→y.1=x0∨y.1∈cn)) &&
  (M.length == N.length)&&(M.zip N).all (fun p=>decide ((rn.lookup p.1=some .local∨rn.lookup p.1=some .cell∨rn.lookup p.1=some .free)→p.1=p.2)) &&
  M.all (fun y=>decide ((rn.lookup y=some .local∨rn.lookup y=some .cell∨rn.lookup y=some .free) →
    y≠x0∧(rn.lookup y=some .cell∨rn.lookup y=some .free)∧(dn.lookup y=some .local∨dn.lookup y=some .cell∨dn.lookup y=some .free)∧dn.lookup y≠some .local))
theorem zix {X:Cx}{x0:Str}{N M cn:List Str}{scope:Scope}{cl:List (Str × Addr)}{rn dn:List (Str × NameKind)}(hr:(relabel scope X.env).names=rn)(hd:X.env.scope.names=dn)(hN:X.N=N)
    (clos:closureFor scope X.env=pure cl) (laid:∀ n,cellsFrom n scope.names cl=(x0,n)::cl) (push:∀ h,pushCells h scope.names=h.push { cls:=.type "cell",data:=.cell none }) (kind:scope.kind=.function) (hc:cl.map Prod.fst=cn) (good:WN scope.names rn dn x0 N M cn=true) (sub:∀ p∈cl,X.env.cells.lookup p.1=some p.2):Y9 X x0 M scope cl:=by
  unfold WN at good
  simp only [Bool.and_eq_true,List.all_eq_true,decide_eq_true_eq] at good
  obtain ⟨⟨⟨⟨g2,g3⟩,g5⟩,g6⟩,g4⟩:=good
  have g5:M.length=N.length:=by simpa using g5
  refine ⟨clos,laid,push,kind,g2,fun y c h=>sub (y,c) (PySem.mem_of_lookup h),fun y h=>?_,by rw [hN];exact g5,fun i y e v=>?_,fun i y e v=>?_,fun i y e v=>?_,fun i y e v=>?_⟩
  · rw [hr] at h
    have hy:y=x0∨y∈cn:=by
      rcases h with h | h
      · exact g3 _ (PySem.mem_of_lookup h) (.inl rfl)
      · exact g3 _ (PySem.mem_of_lookup h) (.inr rfl)
    exact hy.imp id fun hy=>vO (by rw [hc];exact hy)
  · unfold Vis at v
    rw [hr] at v
    exact (g4 y (List.mem_of_getElem? e) v).1
  · unfold Vis at v
    rw [hr] at v
    have hi:=(List.getElem?_eq_some_iff.mp e).1
    have hj:i < N.length:=by rw [←g5];exact hi
    have hz:(M.zip N)[i]?=some (y,N[i]):=by
      rw [List.getElem?_zip_eq_some]
      exact ⟨e,List.getElem?_eq_getElem hj⟩
    have:=g6 _ (List.mem_of_getElem? hz) v
    rw [hN,List.getElem?_eq_getElem hj]
    exact congrArg some this.symm
  · unfold Vis at v
    rw [hr] at v ⊢
    exact (g4 y (List.mem_of_getElem? e) v).2.1
  · unfold Vis at v
    rw [hr] at v
    obtain ⟨_,_,k1,k2⟩:=g4 y (List.mem_of_getElem? e) v
    refine ⟨?_,?_⟩
    · unfold Vis;rw [hd];exact k1
    · show X.env.scope.names.lookup y≠_;rw [hd];exact k2
end L2
namespace Dl
open PySem L2
variable [KK]
theorem zhQ {X:Cx}{elt tg iter c:Expr}{x0:Str}{M:List Str}{scope:Scope}{cl:List (Str × Addr)}{pos:Pos}{fi:Ev→Option (List D)}{b:D→Option (List (Option D))}{ft:Ev→Option Bool}{fe:Ev→Option D}{g:TG}
    (hc:X.calm=true) (S:Y9 X x0 M scope cl) (hi:ID X tg iter fi)
    (hgS:∀ (σ:St) (v:V) (H:Hp) (Q:St→Hp→Prop),g v (List.replicate 1 none++σ) H Q→g v (List.replicate 1 none++σ) H (fun σ2 H2=>Z5 (List.replicate 1 none++σ) σ2∧Q σ2 H2))
    (hrb:RB 1 g b)
    (hg:∀ s₀ H₀ ex pn,PG (zcS X x0 M scope cl s₀ H₀ ex pn) tg g) (ht:∀ s₀ H₀ ex pn,TD (zcS X x0 M scope cl s₀ H₀ ex pn) c ft) (he:∀ s₀ H₀ ex pn,ED (zcS X x0 M scope cl s₀ H₀ ex pn) elt fe)
    (hs:∀ x,foldedSetIterable iter X.env x=pure x:=by intro _;rfl):FL X (.ListComp elt [⟨tg,iter,[c],0⟩] scope pos) (fLC fi b ft fe):=by
  obtain ⟨wi,pi,ri⟩:=hi
  exact ⟨_,ziZ hc S pi hgS hg (fun _ _ _ _=>zeO (ht _ _ _ _).can) (fun _ _ _ _=>(he _ _ _ _).can) hs,zhJ ri hrb zgy zdT⟩
end Dl
namespace PySem
open Sem (wp)
namespace OwnRev
end OwnRev
section
variable {prog:Program}{w:World}{A:Around}{E:Value→Shared→Prop}{s:Shared}
end
end PySem
namespace L2
open PySem PySem.Spec PyProof.Rows
end L2
namespace Dl
open PySem L2 PySem.Spec PyProof.Rows
variable [KK]{X:Cx}{e:Expr}
end Dl
namespace OwnSet
open PySem
end OwnSet
namespace OwnSet
open PySem
theorem zcc {α:Type}(a b c d e:α):(#[0,1,2,3,4]:Array Nat).filterMap (fun i=>(#[a,b,c,d,e]:Array α)[i]?)=#[a,b,c,d,e]:=by
  simp [Array.filterMap]
section
variable {prog:Program}{w:World}{A:Around}{E:Value→Shared→Prop}{s:Shared}
end
end OwnSet
namespace OwnSet
open PySem
section
variable {prog:Program}{w:World}{A:Around}{E:Value→Shared→Prop}{s:Shared}
end
section
variable {prog:Program}{w:World}{A:Around}{R:Result→Shared→Prop}{I:Addr}{fp wr:List Addr}{G:Array GenState→Array GenState→Prop}{n:Nat}{P:Nat→Value→Prop}{St:Nat→Shared→Prop}
end
section
variable {prog:Program}{w:World}{A:Around}{E:Value→Shared→Prop}{s:Shared}
end
end OwnSet
namespace OwnSet
open PySem
section
variable {prog:Program}{w:World}{A:Around}{E:Value→Shared→Prop}{s:Shared}
end
end OwnSet
namespace OwnSet
open PySem
section
variable {prog:Program}{w:World}{A:Around}{E:Value→Shared→Prop}{s:Shared}
end
end OwnSet
namespace OwnSet
open PySem
section
variable {prog:Program}{w:World}{A:Around}{E:Value→Shared→Prop}{s:Shared}
end
end OwnSet
namespace OwnSet
open PySem
section
variable {prog:Program}{w:World}{A:Around}{E:Value→Shared→Prop}{s:Shared}
end
end OwnSet
namespace OwnSet
open PySem
section
variable {prog:Program}{w:World}{A:Around}{E:Value→Shared→Prop}{s:Shared}
end
end OwnSet
namespace OwnSet
open PySem PyProof.Rows
section
variable {prog:Program}{w:World}{A:Around}{E:Value→Shared→Prop}{s:Shared}
end
end OwnSet
namespace L2
open PySem PySem.Spec PyProof.Rows
end L2
namespace Dl
open PySem L2 PySem.Spec PyProof.Rows
variable [KK]{X:Cx}{e:Expr}
end Dl
namespace Dl
open PySem L2 PySem.Spec PyProof.Rows
variable [KK]{X:Cx}{a b:Expr}{pos apos:Pos}
end Dl
namespace L2
open PySem PySem.Spec PyProof.Rows
section
variable {X:Cx}{a:Addr}{D:List (Str × KTD.Dat)}{nm:Str}{b:Expr}{p pos:Pos}{tb:TE}
end
end L2
namespace Dl
open PySem L2 PySem.Spec PyProof.Rows
variable [KK]{X:Cx}{a:Addr}{T:List (Str × KTD.Dat)}{nm:Str}{b:Expr}{p p2 p3 pos:Pos}{f:Ev→Option D}
end Dl
namespace L2
open PySem PySem.Spec PyProof.Rows
end L2
namespace Dl
open PySem L2 PySem.Spec PyProof.Rows
variable [KK]{X:Cx}{e:Expr}
end Dl
namespace L2
open PySem PySem.Spec PyProof.Rows
end L2
namespace Dl
open PySem L2 PySem.Spec PyProof.Rows
variable [KK]{X:Cx}{a e ko:Expr}{pos tpos:Pos}
end Dl
namespace PySem
open Sem (wp)
section
variable {prog:Program}{w:World}{A:Around}{E:Value→Shared→Prop}{s:Shared}{z TI TO i1 i2 i3:Addr}{fp1 fp2 fp3:List Addr}{n1 n2 n3 k1 k2 k3:Nat}{P1 P2 P3:Nat→Value→Prop}{St1 St2 St3:Nat→Heap→Prop}{a b c:Value}
end
section
variable {prog:Program}{w:World}{A:Around}{E:Value→Shared→Prop}{s:Shared}
variable {z TI TO i1 i2 i3:Addr}{fp1 fp2 fp3:List Addr}{n1 n2 n3 k1 k2 k3:Nat}{P1 P2 P3:Nat→Value→Prop}{St1 St2 St3:Nat→Heap→Prop}{a b c:Value}
end
end PySem
namespace L2
open PySem PySem.Spec PyProof.Rows
end L2
namespace Dl
open PySem L2 PySem.Spec PyProof.Rows
variable [KK]{X:Cx}{a b c:Expr}{pos:Pos}
end Dl
namespace Dl
open PySem L2
variable [KK]
section
variable {X:Cx}{st:Stmt}{sts:List Stmt}{a b c e tg:Expr}{pos pos':Pos}
end
end Dl
namespace L2
open PySem PySem.Spec PyProof.Rows
noncomputable def KD {α:Type}:Sem α→Prop
  | .pure _=>True
  | .raise _=>True
  | .unsupported _=>True
  | .finish _=>True
  | .rule _ k=>KD (k ())
  | .at _ k=>KD (k ())
  | .load _ _ k=>∀ o,KD (k o)
  | .update _ _ f k=>(∀ o,(f o).dict=o.dict)∧KD (k ())
  | .loadIfAlive _ k=>∀ o,KD (k o)
  | .point _ k=>KD (k ())
  | .register _ _=>True
  | .alloc _ k=>∀ a,KD (k a)
  | .fresh k=>∀ t,KD (k t)
  | .ask k=>∀ x,KD (k x)
  | .handled _ k=>∀ x,KD (k x)
  | .stack k=>∀ x,KD (k x)
  | .thread k=>∀ n,KD (k n)
  | .choose _ _ _=>False
  | .os _ _ _=>False
  | .call _ _ _ _ _=>False
  | .newGen _ _=>False
  | .genState _ _=>False
  | .resume _ _ _ _=>False
  | .yield _ _ _ _=>False
  | .fork _ _=>False
  | .await _ _ _ _ _=>False
theorem zia {α β:Type}(f:α→Sem β)(hf:∀ a,KD (f a)):∀ (m:Sem α),KD m→KD (m.bind f):=by
  intro m
  induction m with
  | pure a=>intro _;exact hf a
  | raise e=>intro _;trivial
  | unsupported w=>intro _;trivial
  | finish e=>intro _;trivial
  | rule t k ih=>intro h;exact ih () h
  | «at» p k ih=>intro h;exact ih () h
  | load a p k ih=>intro h o;exact ih o (h o)
  | update a p g k ih=>intro h;exact ⟨h.1,ih () h.2⟩
  | loadIfAlive a k ih=>intro h o;exact ih o (h o)
  | point l k ih=>intro h;exact ih () h
  | register a k ih=>intro h;trivial
  | alloc o k ih=>intro h a;exact ih a (h a)
  | fresh k ih=>intro h a;exact ih a (h a)
  | ask k ih=>intro h a;exact ih a (h a)
  | handled o k ih=>intro h a;exact ih a (h a)
  | stack k ih=>intro h a;exact ih a (h a)
  | thread k ih=>intro h a;exact ih a (h a)
  | choose s n k ih=>intro h;exact h.elim
  | os q l k ih=>intro h;exact h.elim
  | call c h g l k ih=>intro h;exact h.elim
  | newGen c k ih=>intro h;exact h.elim
  | genState g k ih=>intro h;exact h.elim
  | resume g r l k ih=>intro h;exact h.elim
  | yield v g l k ih=>intro h;exact h.elim
  | fork c k ih=>intro h;exact h.elim
  | await a f d l k ih=>intro h;exact h.elim
theorem yi {α β:Type}{m:Sem α}{f:α→Sem β}(hm:KD m)(hf:∀ a,KD (f a)):KD (m>>=f):=zia f hf m hm
noncomputable def DK (h h':Heap):Prop:=∀ (b:Nat) (o:Obj),h.objs[b]?=some o→∃ o':Obj,h'.objs[b]?=some o'∧o'.dict=o.dict
theorem DK.refl (h:Heap):DK h h:=fun _ o e=>⟨o,e,rfl⟩
theorem DK.trans {h1 h2 h3:Heap}(a:DK h1 h2)(b:DK h2 h3):DK h1 h3:=fun p o e=>by
  obtain ⟨o1,e1,d1⟩:=a p o e
  obtain ⟨o2,e2,d2⟩:=b p o1 e1
  exact ⟨o2,e2,d2.trans d1⟩
theorem DK.push (h:Heap)(o:Obj):DK h (h.push o):=fun b u e=>by
  refine ⟨u,?_,rfl⟩
  obtain ⟨objs,l⟩:=h
  show (objs.push o)[b]?=some u
  have hb:b < objs.size:=(Array.getElem?_eq_some_iff.mp e).1
  rw [Array.getElem?_push_lt hb]
  exact (Array.getElem?_eq_some_iff.mp e).2 ▸ rfl
theorem DK.update (h:Heap)(a:Addr){f:Obj→Obj}(hf:∀ o,(f o).dict=o.dict):DK h (h.update a f):=fun b u e=>by
  obtain ⟨objs,l⟩:=h
  show ∃ o',(objs.modify a f)[b]?=some o'∧_
  rw [Array.getElem?_modify]
  have e:objs[b]?=some u:=e
  split
  · rw [e];exact ⟨f u,rfl,hf u⟩
  · rw [e];exact ⟨u,rfl,rfl⟩
theorem zdQ {h:Heap}{b:Addr}{o:Obj}(e:h.get? b=some o):h.objs[b]?=some o:=by
  unfold Heap.get? at e
  split at e
  · cases e
  · exact e
theorem DK.of {h h':Heap}{b:Addr}{o o':Obj}(k:DK h h')(e:h.get? b=some o)(e':h'.get? b=some o'):o'.dict=o.dict:=by
  obtain ⟨o2,e2,d⟩:=k b o (zdQ e)
  rw [zdQ e'] at e2
  cases e2
  exact d
theorem zkX {α:Type}(M:Model)(Γ:PySem.Ctx):∀ (m:Sem α) (Q:α→Pos→Shared→Prop) (E:Value→Pos→Shared→Prop) (p:Pos) (s s0:Shared),KD m→DK s0.heap s.heap→Sem.wp M Γ m Q E p s →
    Sem.wp M Γ m (fun a p s'=>Q a p s'∧DK s0.heap s'.heap) (fun e p s'=>E e p s'∧DK s0.heap s'.heap) p s:=by
  intro m
  induction m with
  | pure a=>intro Q E p s s0 _ k h;exact ⟨h,k⟩
  | raise e=>intro Q E p s s0 _ k h;exact ⟨h,k⟩
  | unsupported w=>intro Q E p s s0 _ k h;exact h
  | finish e=>intro Q E p s s0 _ k h;exact h
  | rule t k ih=>intro Q E p s s0 c d h;exact ih () Q E p s s0 c d h
  | «at» p k ih=>intro Q E p s s0 c d h;exact ih () Q E _ s s0 c d h
  | load a p k ih =>
    intro Q E p s s0 c d h
    obtain ⟨o,e,h⟩:=h
    exact ⟨o,e,ih o Q E p s s0 (c o) d h⟩
  | update a p g k ih =>
    intro Q E p s s0 c d h
    obtain ⟨e,h⟩:=h
    exact ⟨e,ih () Q E p _ s0 c.2 (d.trans (.update s.heap a c.1)) h⟩
  | loadIfAlive a k ih=>intro Q E p s s0 c d h;exact ih _ Q E p s s0 (c _) d h
  | point l k ih=>intro Q E p s s0 c d h;exact ih () Q E p s s0 c d h
  | register a k ih=>intro Q E p s s0 c d h;exact h
  | alloc o k ih=>intro Q E p s s0 c d h;exact ih _ Q E p _ s0 (c _) (d.trans (.push s.heap o)) h
  | fresh k ih=>intro Q E p s s0 c d h;exact ih _ Q E p _ s0 (c _) d h
  | ask k ih=>intro Q E p s s0 c d h;exact ih _ Q E p s s0 (c _) d h
  | handled o k ih=>intro Q E p s s0 c d h;exact ih _ Q E p s s0 (c _) d h
  | stack k ih=>intro Q E p s s0 c d h;exact ih _ Q E p s s0 (c _) d h
  | thread k ih=>intro Q E p s s0 c d h;exact ih _ Q E p s s0 (c _) d h
  | choose s n k ih=>intro Q E p s s0 c;exact c.elim
  | os q l k ih=>intro Q E p s s0 c;exact c.elim
  | call c h g l k ih=>intro Q E p s s0 c;exact c.elim
  | newGen c k ih=>intro Q E p s s0 c;exact c.elim
  | genState g k ih=>intro Q E p s s0 c;exact c.elim
  | resume g r l k ih=>intro Q E p s s0 c;exact c.elim
  | yield v g l k ih=>intro Q E p s s0 c;exact c.elim
  | fork c k ih=>intro Q E p s s0 c;exact c.elim
  | await a f d l k ih=>intro Q E p s s0 c;exact c.elim
theorem zjU {α:Type}{M:Model}{A:Around}{t:Sem α}{Q:α→Shared→Prop}{E:Value→Shared→Prop}{s:Shared}(c:KD t)(h:wpAny M A t Q E s) :
    wpAny M A t (fun a s'=>Q a s'∧DK s.heap s'.heap) (fun e s'=>E e s'∧DK s.heap s'.heap) s:=fun Γ p hΓ=>zkX M Γ t _ _ p s s c (.refl _) (h Γ p hΓ)
theorem Xi {α:Type}{M:Model}{A:Around}{t:Sem α}{Q Q':α→Shared→Prop}{E:Value→Shared→Prop}{s:Shared}(c:KD t)(h:wpAny M A t Q E s)(k:∀ a s',Q a s'→DK s.heap s'.heap→Q' a s'):wpAny M A t Q' E s :=
  wpAny_mono (zjU c h) (fun a s' x=>k a s' x.1 x.2) fun _ _ x=>x.1
theorem zbi (v:Value):KD (fieldsOf v):=by
  unfold fieldsOf
  split
  · refine yi (fun _=>trivial) fun o=>?_
    split <;> trivial
  · trivial
theorem XI (v:Value)(i:Nat):KD (field v i):=by
  unfold field
  refine yi (zbi v) fun vs=>?_
  split <;> trivial
theorem WG (f:Array Value→Array Value)(o:Obj):(Obj.mapFields f o).dict=o.dict:=by
  obtain ⟨c,d,x,s⟩:=o
  cases x <;> rfl
theorem Zq (v:Value)(i:Nat)(x:Value):KD (setField v i x):=by
  unfold setField
  split
  · unfold updateField
    refine yi (fun _=>trivial) fun o=>?_
    split
    · split
      · exact ⟨WG _,trivial⟩
      · trivial
    · trivial
  · trivial
theorem Y2 (e:Value)(f:Option Addr):KD (setFlight e f):=by
  unfold setFlight
  refine yi (XI e 1) fun tb=>?_
  split
  · exact Zq _ _ _
  · trivial
theorem zaA (ty:String)(vs:List Value):KD (newFields ty vs):=by
  have last:KD (newObjAsIs (Value.type ty) (Data.fields vs.toArray)):=yi (fun _=>trivial) fun _=>trivial
  unfold newFields newObj
  show KD (if vs.toArray.size > sizeLine+2 then _ else _)
  by_cases h:vs.toArray.size > sizeLine+2
  · rw [if_pos h]
    exact yi (show KD (unsupported (α:=Unit) _) from trivial) fun _=>last
  · rw [if_neg h]
    exact last
theorem zaW (a b c d e:Value)(pl:List Value):KD (EntryCells.newEntry a b c d e pl):=zaA _ _
theorem zfY (f:Addr)(b:Bool):KD (entryPlaceOf f b):=by
  unfold entryPlaceOf
  refine yi (fun _=>trivial) fun acts=>?_
  split <;> trivial
theorem VW:KD frameEnvs:=by
  unfold frameEnvs
  exact yi (fun _=>trivial) fun _=>trivial
theorem zfe:∀ l:List Env,KD (readyFrames l):=by
  intro l
  induction l with
  | nil=>trivial
  | cons env outer ih =>
    unfold readyFrames
    split
    · refine yi (fun _=>trivial) fun o=>?_
      split
      · trivial
      · refine yi ?_ fun b=>yi ?_ fun bk=>yi ⟨fun o=>rfl,trivial⟩ fun _=>ih
        · unfold behindIsImport
          split
          · trivial
          · split
            · trivial
            · exact yi (XI _ _) fun _=>trivial
        · unfold keptBack
          split
          · split
            · trivial
            · unfold underTheClaimsCaller
              exact yi (fun _=>trivial) fun _=>trivial
          · trivial
    · trivial
theorem zcp (env:Env):KD (PySem.frameOf env):=by
  unfold PySem.frameOf
  refine yi VW fun l=>yi ?_ fun o=>?_
  · unfold frameObject
    split
    · trivial
    · exact yi (zfe _) fun _=>trivial
  · split <;> trivial
theorem Xw (e:Value)(env:Env):KD (noteFrame e env):=by
  unfold noteFrame
  split
  · rename_i f hf
    refine yi (XI e 1) fun head=>?_
    have last:KD (do setField e 1 (← EntryCells.newEntry head (← PySem.frameOf env) .none (rawInt f) .none (← entryPlaceOf f (head != .none)))):=yi (zcp env) fun _=>yi (zfY _ _) fun _=>yi (zaW _ _ _ _ _ _) fun _=>Zq _ _ _
    by_cases h:(head != Value.none)=true
    · dsimp only
      rw [if_pos h]
      refine yi (XI head 3) fun x=>?_
      split
      · trivial
      · exact yi (Zq _ _ _) fun _=>last
    · dsimp only
      rw [if_neg h]
      exact last
  · trivial
theorem Z8 (env:Env)(e:Value):KD (leaving env e):=yi (Xw e env) fun _=>Y2 e none
end L2
namespace L2
open PySem PySem.Spec PyProof.Rows
open Sem (wp)
noncomputable abbrev exH (h:Heap) (C:Addr) (us:List Value):Heap:=(h.push { cls:=.type "tuple",data:=.seq us.toArray }).push { cls:=.ref C,data:=.fields #[.ref h.objs.size,.none,.none,.none,.bool false,.none] }
theorem vt {h:Heap}{C:Addr}{us:List Value}{b:Addr}{o:Obj}(e:h.get? b=some o):(exH h C us).get? b=some o:=Heap.get?_push_of_some _ (Heap.get?_push_of_some _ e)
theorem zgE (h:Heap)(C:Addr)(us:List Value):(exH h C us).get? (h.objs.size+1)=some { cls:=.ref C,data:=.fields #[.ref h.objs.size,.none,.none,.none,.bool false,.none] }:=by heap_get
section
variable {prog:Program}{w:World}{A:Around}{E:Value→Shared→Prop}{h:Heap}{g:Array GenState}{d:Drawn}{t:Nat}{os:OsState}
  {nm q:Str} {C N fI:Addr} {bs bm:List Value} {hdct:Bool} {sn:List Str} {sub:List Value} {ab:Bool} {col:Option Bool} {dd:Option Addr} {k0 k1 k2 k3 k5:Option Value} {mN:Str→Option Value} {us:List Value} {oI:Obj}
theorem zcw {R:Fin→Shared→Prop} (T:OwnTail h [.type "ValueError",.type "Exception",.type "BaseException",.type "object"] bm) (hC:h.get? C=some (excClassObj nm q C N bs bm hdct sn sub ab col dd k0 k1 k2 k3 k5 "ValueError.__new__")) (hN:h.Ns N mN) (hi:mN "__init__"=some (.ref fI)) (hf:h.get? fI=some oI) (hc:oI.cls=.type "function")
    (k:wpAny (model prog w) A (call (.ref fI) (.ref (h.objs.size+1)::us)) (fun r s'=>r=.none∧R (.done (.ret (.ref (h.objs.size+1)))) s') E ⟨exH h C us,g,d,t,os⟩) (hu:us.length≤sizeLine) :
    wpAny (model prog w) A (Builtin.«type.__call__» ⟨.ref C::us,[]⟩) R E ⟨h,g,d,t,os⟩:=by
  have FV:=PySem.F.excBase_ValueError
  repeat (first | with_reducible refine wpAny_madeBy_exc hC ?_ | with_reducible refine wpAny_loadPart_at hC ?_ | wp_step)
  refine codeAny_call_builtin_code (Code.quiet_builtin _ FV.quiet) (wpAny_check_new_subU FV (by decide) T hC (codeAny_exc_new_subU FV (by decide) FV T hC ?_ hu))
  show wpAny _ _ _ _ _ _
  have gC:=vt (us:=us) (C:=C) hC
  have gf:=vt (us:=us) (C:=C) hf
  have gN:(exH h C us).Ns N mN:=let ⟨ob,ens,epo,e1,r1⟩:=hN;⟨ob,ens,epo,vt e1,r1⟩
  have gT:=T.keeps (h':=exH h C us) fun b o e=>vt e
  have ge:=zgE h C us
  have inC:(Value.ref C::bm).contains (.ref C)=true:=by simp
  unfold isInstance
  repeat (first | (with_reducible refine wpAny_isSubtype_exc gC ?_;rw [inC]) | with_reducible refine wpAny_loadPart_at ge ?_ | wp_step)
  show wpAny _ _ (typeLookup (.ref C) _) _ _ _
  refine wpAny_typeLookup_tail gC gN gT FV.mroIs FV.init.lookup ?_
  rw [hi]
  refine wpAny_holding (wpAny_bind ?_)
  unfold bindSpecial
  refine wpAny_bind (wpAny_typeOf (T:="function") ⟨_,gf,hc⟩ ?_)
  rw [if_pos (by decide)]
  refine wpAny_pure (wpAny_bind (wpAny_mono k (fun r s' hr=>?_) fun _ _ z=>z))
  obtain ⟨rfl,hr⟩:=hr
  wp_walk
  exact hr
theorem zel {R:Value→Shared→Prop} (T:OwnTail h [.type "ValueError",.type "Exception",.type "BaseException",.type "object"] bm) (hC:h.get? C=some (excClassObj nm q C N bs bm hdct sn sub ab col dd k0 k1 k2 k3 k5 "ValueError.__new__")) (hN:h.Ns N mN) (hi:mN "__init__"=some (.ref fI)) (hf:h.get? fI=some oI) (hc:oI.cls=.type "function")
    (k:wpAny (model prog w) (A.under (.builtin "type.__call__" ⟨.ref C::us,[]⟩)) (call (.ref fI) (.ref (h.objs.size+1)::us)) (fun r s'=>r=.none∧R (.ref (h.objs.size+1)) s') E ⟨exH h C us,g,d,t,os⟩) (hu:us.length≤sizeLine) :
    wpAny (model prog w) A (call (.ref C) us) R E ⟨h,g,d,t,os⟩:=by
  have l1:=tc_lookup
  have l2:=tc_bind (.ref C)
  have tp:(⟨h,g,d,t,os⟩:Shared).TypeIs (.ref C) "type":=⟨_,hC,rfl⟩
  refine wpAny_call (codeAny_of_tree ?_)
  show wpAny _ _ (callAny (.ref C) _) _ _ _
  repeat (any_goals (first | with_reducible refine wpAny_loadPart_at hC ?_ | assumption | wp_step))
  refine ⟨rfl,codeAny_call_builtin_at (Code.quiet_builtin _ (by decide +kernel)) entry_typeCall (wpAny_check_type_call_sub hC (zcw T hC hN hi hf hc ?_ hu))⟩
  exact k
end
theorem zcJ {M:Model}{A:Around}{E:Value→Shared→Prop}{env:Env}{s:Shared}{x:Sem Value}{Q:Flow→Shared→Prop}{nm q:Str}{C N:Addr}{bs bm:List Value}{hdct:Bool}{sn:List Str}{sub:List Value}{ab:Bool}{col:Option Bool}{dd:Option Addr}{k0 k1 k2 k3 k5:Option Value}{newId:String}
    (hb:bm.contains (.type "BaseException")=true) (hh:A.handled=none) (h:wpAny M A x (fun v s1=>∃ e t od sl,v=.ref e∧s1.heap.get? C=some (excClassObj nm q C N bs bm hdct sn sub ab col dd k0 k1 k2 k3 k5 newId) ∧
      s1.heap.get? e=some { cls:=.ref C,dict:=od,data:=.fields #[.ref t,.none,.none,.none,.bool false,.none],slots:=sl }∧E (.ref e) s1) E s):wpAny M A (raiseStmt env (some x) none) Q E s:=by
  have inB:(Value.ref C::bm).contains (.type "BaseException")=true:=by rw [List.contains_cons,hb,Bool.or_true]
  unfold raiseStmt
  refine wpAny_bind (wpAny_mono h (fun v s1 z=>?_) fun _ _ z=>z)
  obtain ⟨e,t,od,sl,rfl,gC,ge,hE⟩:=z
  obtain ⟨hp,gg,dd',tk,os⟩:=s1
  repeat (first | with_reducible refine wpAny_loadPart_at gC ?_ | with_reducible refine wpAny_loadPart_at ge ?_ | (with_reducible refine wpAny_isSubtype_exc gC ?_;rw [inB]) | wp_step)
  exact wpAny_raiseNew_none hh hE
end L2
namespace L2
open PySem PySem.Spec PyProof.Rows
section
variable {prog:Program}{w:World}{A:Around}{E:Value→Shared→Prop}{s:Shared}{env:Env}
  {nm q:Str} {C N fI:Addr} {bs bm:List Value} {hdct:Bool} {sn:List Str} {sub:List Value} {ab:Bool} {col:Option Bool} {dd:Option Addr} {k0 k1 k2 k3 k5:Option Value} {mN:Str→Option Value} {oI:Obj}
theorem zcr {x:Str} {np cpos pos:Pos} {args:List Expr} {Q:Flow→Shared→Prop} (hb:bm.contains (.type "BaseException")=true) (hh:A.handled=none) (hpl:(backTo cpos (starEach args env)).any (·.1)=false) (hi:mN "__init__"=some (.ref fI)) (hc:oI.cls=.type "function")
    (h:wpAny (model prog w) A (eval (.Name x np) env) (fun f s1=>f=.ref C∧wpAny (model prog w) A (evalArgs (.ref C) true (backTo cpos (starEach args env)) []) (fun a s2=>a.kw=[]∧a.pos.length≤sizeLine ∧
      s2.heap.get? C=some (excClassObj nm q C N bs bm hdct sn sub ab col dd k0 k1 k2 k3 k5 "ValueError.__new__")∧s2.heap.Ns N mN∧OwnTail s2.heap [.type "ValueError",.type "Exception",.type "BaseException",.type "object"] bm∧s2.heap.get? fI=some oI ∧
      wpAny (model prog w) (A.under (.builtin "type.__call__" ⟨.ref C::a.pos,[]⟩)) (call (.ref fI) (.ref (s2.heap.objs.size+1)::a.pos)) (fun r s3=>r=.none∧∃ t od sl,s3.heap.get? C=some (excClassObj nm q C N bs bm hdct sn sub ab col dd k0 k1 k2 k3 k5 "ValueError.__new__") ∧
        s3.heap.get? (s2.heap.objs.size+1)=some { cls:=.ref C,dict:=od,data:=.fields #[.ref t,.none,.none,.none,.bool false,.none],slots:=sl }∧E (.ref (s2.heap.objs.size+1)) s3) E { s2 with heap:=exH s2.heap C a.pos }) E s1) E s) :
    wpAny (model prog w) A (exec (.Raise (some (.Call (.Name x np) args [] cpos)) none pos) env) Q E s:=by
  rw [arm_exec_Raise]
  refine wpAny_bind (wpAny_standAt (zcJ (C:=C) (nm:=nm) (q:=q) (N:=N) (bs:=bs) (bm:=bm) (hdct:=hdct) (sn:=sn) (sub:=sub) (ab:=ab) (col:=col) (dd:=dd) (k0:=k0) (k1:=k1) (k2:=k2) (k3:=k3) (k5:=k5) (newId:="ValueError.__new__") hb hh (wpAny_bind (wpAny_mono (wpAny_Call_ofName (wpAny_mono h (fun f s1 z=>?_) fun _ _ z=>z)) (fun v s3 z=>wpAny_bind (wpAny_standAt (wpAny_pure z))) fun _ _ z=>z))))
  obtain ⟨rfl,z⟩:=z
  unfold callWith
  refine wpAny_bind (wpAny_holding (wpAny_mono z (fun a s2 y=>wpAny_bind (wpAny_standAt ?_)) fun _ _ z=>z))
  obtain ⟨us,kw⟩:=a
  obtain ⟨ekw,hlen,gC,gN,gT,gf,run⟩:=y
  obtain rfl:kw=[]:=ekw
  obtain ⟨hp,g,d,tk,os⟩:=s2
  simp only [hpl]
  refine wpAny_bind (wpAny_keeperOf_exc gC (wpAny_bind (zel gT gC gN hi gf hc (wpAny_mono run (fun r s3 y=>?_) fun _ _ z=>z) hlen)))
  obtain ⟨rfl,t,od,sl,hC3,he3,hE⟩:=y
  exact ⟨rfl,wpAny_bind (wpAny_holding (wpAny_point (wpAny_pure ⟨_,t,od,sl,rfl,hC3,he3,hE⟩)))⟩
end
noncomputable def zjb (K:PySem.W.Frag)(C f:Addr):Bool:=match K.lookup C with
  | some ⟨.type "type",_,.cls cd,sl⟩=>(match cd.mro,sl.toList with
    | .ref C'::bm,[_,_,_,_,some (.builtin n),_]=>(C' == C)&&(n == "ValueError.__new__"&&(!cd.hasDel&&(cd.hasDict&&(PySem.W.tailIn K [.type "ValueError",.type "Exception",.type "BaseException",.type "object"] bm&&(PySem.W.nsOkIn K cd.ns&&(PySem.W.nsIn K cd.ns "__init__" == some (some (.ref f))&&(match K.lookup f with | some of=>of.cls == .type "function" | none=>false)))))))
    | _,_=>false)
  | _=>false
theorem zhn {K:PySem.W.Frag}{h:Heap}{N:Addr}{m:Str→Option Value}{n:Str}{v:Value}(X:K.In h)(G:h.Ns N m)(e:PySem.W.nsIn K N n=some (some v)):m n=some v:=by
  obtain ⟨ob,ens,epo,ho,hd,_,hf⟩:=G
  unfold PySem.W.nsIn at e
  split at e
  · rename_i ql
    have z:=(X _ _ ql).symm.trans ho
    cases z
    cases hd
    split at e
    · rename_i en he
      cases e
      rw [←hf]
      unfold nsFind findBy
      rw [←Array.find?_toList,he]
      rfl
    · split at e <;> cases e
  · cases e
theorem zfW {K:PySem.W.Frag}{h0:Heap}{C f:Addr}(X:K.In h0)(e:zjb K C f=true) :
    ∃ bm N nm q bs sn sub ab col dd k0 k1 k2 k3 k5 mN oI,h0.get? C=some (excClassObj nm q C N bs bm true sn sub ab col dd k0 k1 k2 k3 k5 "ValueError.__new__")∧h0.Ns N mN∧mN "__init__"=some (.ref f)∧OwnTail h0 [.type "ValueError",.type "Exception",.type "BaseException",.type "object"] bm∧h0.get? f=some oI∧oI.cls=.type "function":=by
  unfold zjb at e
  split at e
  · rename_i dd cd sl ho
    split at e
    · rename_i C' bm k0 k1 k2 k3 n k5 hm hs
      simp only [Bool.and_eq_true,beq_iff_eq,Bool.not_eq_true'] at e
      obtain ⟨rfl,rfl,hdel,hdict,ht,hok,hi,hf⟩:=e
      obtain ⟨nm,bs,mro,ns,qn,hd,sn,sub,ab,col,del⟩:=cd
      dsimp only at hm hdel hdict hok hi
      subst hm hdel hdict
      have hsl:sl=#[k0,k1,k2,k3,some (.builtin "ValueError.__new__"),k5]:=by
        obtain ⟨l⟩:=sl
        simp only at hs
        rw [hs]
      subst hsl
      split at hf
      · rename_i oI hoI
        exact ⟨bm,ns,nm,qn,bs,sn,sub,ab,col,dd,k0,k1,k2,k3,k5,h0.nsMap ns,oI,X _ _ ho,.of_isNs (PySem.W.isNs_of_in X hok),zhn X (.of_isNs (PySem.W.isNs_of_in X hok)) hi,PySem.W.tail_of_in X ht,X _ _ hoI,beq_iff_eq.mp hf⟩
      · cases hf
    · cases e
  · cases e
end L2
namespace L2
open PySem PySem.Spec PyProof.Rows PySem.Builtin PySem.Builtin.ObjectAttr
noncomputable abbrev veV:List Value:=[.type "ValueError",.type "Exception",.type "BaseException",.type "object"]
noncomputable def zdx:List Value→Bool
  | .ref _::r=>zdx r
  | l=>l == veV
theorem zeh (self:Value):∀ {l:List Value},zdx l=true→refuseLoop self "__setattr__" l=pure ():=by
  intro l
  induction l with
  | nil=>intro e;cases e
  | cons v r ih =>
    intro e
    cases v with
    | ref c=>rw [refuseLoop_ref];exact ih e
    | _=>exact beq_iff_eq.mp (show ((_:List Value) == veV)=true from e) ▸ PySem.F.store_ValueError.passes self
theorem zeS:∀ {l:List Value},zdx l=true→l.contains (.type "object")=true∧l.isEmpty=false:=by
  intro l
  induction l with
  | nil=>intro e;cases e
  | cons v r ih =>
    intro e
    refine ⟨?_,rfl⟩
    cases v with
    | ref c=>rw [List.contains_cons,(ih e).1,Bool.or_true]
    | _=>rw [beq_iff_eq.mp (show ((_:List Value) == veV)=true from e)];decide +kernel
noncomputable def VQ (K:PySem.W.Frag) (C:Addr):Bool:=(PySem.W.clsIn K C).any (fun cd=>zdx cd.mro&&cd.hasDict)&&PySem.W.findIn K (.ref C) "__setattr__" == some (some (.builtin "object.__setattr__"))&&PySem.W.findIn K (.ref C) "__getattribute__" == some (some (.builtin "BaseException.__getattribute__"))&&PySem.W.findIn K (.ref C) "__getattr__" == some none&&PySem.W.subIn K (.ref C) (.type "BaseException") == some true
set_option genInjectivity false in
set_option genSizeOf false in
set_option genCtorIdx false in
structure wZ (K:PySem.W.Frag) (C:Addr):Prop where
  cls:∃ cd,PySem.W.clsIn K C=some cd∧zdx cd.mro=true∧cd.hasDict=true
  sa:PySem.W.findIn K (.ref C) "__setattr__"=some (some (.builtin "object.__setattr__"))
  ga:PySem.W.findIn K (.ref C) "__getattribute__"=some (some (.builtin "BaseException.__getattribute__"))
  gt:PySem.W.findIn K (.ref C) "__getattr__"=some none
  sb:PySem.W.subIn K (.ref C) (.type "BaseException")=some true
theorem wZ.of {K:PySem.W.Frag}{C:Addr}(h:VQ K C=true):wZ K C:=by
  unfold VQ at h
  simp only [Bool.and_eq_true,beq_iff_eq] at h
  obtain ⟨cd,e,h2⟩:=PySem.W.any_some h.1.1.1.1
  rw [Bool.and_eq_true] at h2
  exact ⟨⟨cd,e,h2.1,h2.2⟩,h.1.1.1.2,h.1.1.2,h.1.2,h.2⟩
section
variable {prog:Program}{w:World}{A:Around}{E:Value→Shared→Prop}{s:Shared}{K:PySem.W.Frag}{x C:Addr}{ox:Obj}{od:Option Obj}{name:Str}{v:Value}
theorem zhl {tk:Tok}{R:Result→Shared→Prop}(X:K.In s.heap)(I:PySem.W.InstAt s.heap x ox C od)(hp:wZ K C)(ha:PySem.W.findIn K (.ref C) name=some none)
    (h:wpAny (model prog w) A.in1 (storeInOwnDict (.ref x) (.ref C) (.str name tk) name v false) (fun fin s'=>match fin with | .done f=>R (.ok f) s' | .again c'=>c'.quiet=true∧codeAny (model prog w) A c' R s') (fun e s'=>R (.error e) s') s) :
    codeAny (model prog w) A (.call (.builtin "object.__setattr__") ⟨[.ref x,.str name tk,v],[]⟩) R s:=by
  have SO:=PySem.F.store_object
  obtain ⟨cd,hc,ho,_⟩:=hp.cls
  obtain ⟨hin,hne⟩:=zeS ho
  have isO:PySem.W.Looks (model prog w) s.heap (isInstance (.ref x) (.type "object")) true:=I.type.andThen (PySem.W.looks_mroIn X (by unfold PySem.W.mroIn;rw [hc,Option.bind_some,if_neg (by rw [hne];decide),hin]))
  refine codeAny_call_builtin SO.slot.plain SO.entry (@PySem.W.check_slot (model prog w) _ _ s "object.__setattr__" "object" "__setattr__" (.ref x) [.str name tk,v] [] _ SO.kind SO.split isO (SO.args (.ref x) (.str name tk) v) ?_)
  have lm:PySem.W.Looks (model prog w) s.heap (mroOf (.ref C)) cd.mro:=(PySem.W.looks_clsIn X hc).andThen .now
  have lt:PySem.W.Looks (model prog w) s.heap (storeTaker? none) none:=.now
  rw [PySem.W.osa_eq,refuse_eq]
  refine wpAny_bind (wpAny_bind (I.type.here (wpAny_bind (lm.here ?_))))
  rw [zeh _ ho]
  exact wpAny_pure (wpAny_bind (I.type.here (wpAny_bind ((PySem.W.looks_findIn X ha).here (wpAny_bind (lt.here h))))))
theorem zdA {Q:Unit→Shared→Prop}(X:K.In s.heap)(I:PySem.W.InstAt s.heap x ox C od)(hp:wZ K C)(ha:PySem.W.findIn K (.ref C) name=some none)
    (h:wpAny (model prog w) A.in1 (storeInOwnDict (.ref x) (.ref C) (.str name s.toks) name v false) (fun fin s'=>match fin with | .done (.ret _)=>Q () s' | _=>False) E { s with toks:=s.toks+1 }) :
    wpAny (model prog w) A (setAttr (.ref x) name v) Q E s:=by
  refine PySem.W.set_plain X I hp.sa (zhl (s:={ s with toks:=s.toks+1 }) X I hp ha (wpAny_mono h (fun fin s' z=>?_) fun _ _ z=>z))
  cases fin with
  | again c=>exact z.elim
  | done f=>cases f <;> first | exact z | exact z.elim
theorem zcq {M:Model} {nameV:Value} {Q:Unit→Shared→Prop} (X:K.In s.heap) (I:PySem.W.InstAt s.heap x ox C od) (hb:PySem.W.subIn K (.ref C) (.type "BaseException")=some true) (hq:Q () s):wpAny M A (checkBuiltinCall "BaseException.__getattribute__" ⟨[.ref x,nameV],[]⟩) Q E s:=by
  have hk:builtinKind "BaseException.__getattribute__"=some .slot:=by decide +kernel
  have hsp:splitId "BaseException.__getattribute__"=some ("BaseException","__getattribute__"):=by decide +kernel
  have ha:=PySem.F.args_bexc_ga (.ref x) nameV
  have L0:=I.type (M:=M)
  have L1:PySem.W.Looks M s.heap (isSubtype (.ref C) (.type "BaseException")) true:=PySem.W.looks_subIn X hb
  simp only [checkBuiltinCall,hk,hsp]
  refine wpAny_bind ?_
  unfold isInstance
  refine wpAny_bind (L0.here (L1.here ?_))
  repeat (first | assumption | wp_step)
theorem zfP {Q:Unit→Shared→Prop}(X:K.In s.heap)(hx:s.heap.get? x=some ox)(hcl:ox.cls=.ref C)(hno:PySem.W.notCls ox=true)(hd:ox.dict=none)(hp:wZ K C)(ha:PySem.W.findIn K (.ref C) name=some none)
    (h:∀ h':Heap,h'.get? x=some { ox with dict:=some s.heap.objs.size }→h'.Ns1 s.heap.objs.size (fun y=>if y=name then some v else none)→(∀ b o,b≠x→s.heap.get? b=some o→h'.get? b=some o)→Q () { s with heap:=h',toks:=s.toks+2 }) :
    wpAny (model prog w) A (setAttr (.ref x) name v) Q E s:=by
  have I:PySem.W.InstAt s.heap x ox C none:=⟨hx,hcl,hno,by rw [hd];trivial⟩
  refine zdA X I hp ha ?_
  obtain ⟨cd,hc,_,hh⟩:=hp.cls
  have lc:=PySem.W.looks_clsIn (M:=model prog w) X hc
  unfold storeInOwnDict
  refine wpAny_bind (wpAny_pure ?_)
  have hmod:(Value.ref C == Value.type "module")=false:=rfl
  simp only [hmod]
  unfold ownDictForStores instanceDict
  refine wpAny_bind ?_
  refine wpAny_bind (wpAny_loadPart hx ?_)
  obtain ⟨oc,odi,oda,osl⟩:=ox
  dsimp only at hcl hd
  subst hcl hd
  dsimp only
  refine wpAny_bind (lc.here (s:={ s with toks:=s.toks+1 }) ?_)
  rw [hh]
  rw [if_neg (by decide),if_neg (by simp [typeHasDict])]
  have nc:∀ c,oda≠.cls c:=fun c e=>by rw [e] at hno;cases hno
  split
  · rename_i c;exact absurd rfl (nc c)
  have gx:(s.heap.push { cls:=.type "dict",data:=.dict #[] }).get? x=some ⟨.ref C,none,oda,osl⟩:=Heap.get?_push_of_some _ hx
  have xs:x≠s.heap.objs.size:=Nat.ne_of_lt (Heap.lt_size hx)
  refine wpAny_bind (wpAny_alloc' (wpAny_bind (wpAny_update' gx (wpAny_pure ?_))))
  generalize eh:((s.heap.push { cls:=Value.type "dict",data:=Data.dict #[] }).update x fun o=>{ cls:=o.cls,dict:=some s.heap.objs.size,data:=o.data,slots:=o.slots })=h1
  have gd:h1.get? s.heap.objs.size=some { cls:=.type "dict",data:=.dict #[] }:=by rw [←eh];exact (Heap.get?_update_ne _ _ _ _ xs.symm).trans (Heap.get?_push_at rfl rfl)
  have gn:h1.Ns s.heap.objs.size (fun _=>none):=⟨_,#[],_,gd,rfl,fun e he=>absurd he (by simp),fun _=>rfl⟩
  show wpAny _ _ (storeInDict s.heap.objs.size (.str name s.toks) name v) _ _ _
  unfold storeInDict newKeyGuard
  refine wpAny_bind (wpAny_pure (wpAny_bind (wpAny_nsSet1 (Heap.Ns1.of_empty gn) fun h' hn' hs=>?_)))
  obtain ⟨oD,eD,pD,hoD,hdD,hcD⟩:=hn'.count (Within.cons name v Within.nil)
  refine wpAny_bind (wpAny_lookBehind hoD (by rw [hdD];exact pastItsLine_dict (Nat.le_trans hcD (by rw [List.length_cons,List.length_nil,sizeLine_eq];omega))) (wpAny_pure (h h' ?_ hn' fun b o hb e=>?_)))
  · refine (hs.2 x xs).trans ?_
    rw [←eh]
    refine Heap.get?_update_self _ gx ?_
    have fr:=(Heap.get?_some_iff.mp hx).2
    cases oda <;> first | rfl | exact fr
  · refine (hs.2 b (Nat.ne_of_lt (Heap.lt_size e))).trans ?_
    rw [←eh]
    exact (Heap.get?_update_ne _ _ _ _ hb).trans (Heap.get?_push_of_some _ e)
theorem zfr {dx:Addr}{mA:Str→Option Value}{ns:List Str}{Q:Unit→Shared→Prop}(X:K.In s.heap)(hx:s.heap.get? x=some ox)(hcl:ox.cls=.ref C)(hno:PySem.W.notCls ox=true)(hd:ox.dict=some dx)(hn:s.heap.Ns1 dx mA)(hw:Within mA ns)(hz:ns.length≤sizeLine)(hp:wZ K C)(ha:PySem.W.findIn K (.ref C) name=some none)
    (h:∀ h':Heap,h'.Ns1 dx (fun y=>if y=name then some v else mA y)→(∀ b o,b≠dx→s.heap.get? b=some o→h'.get? b=some o)→Q () { s with heap:=h',toks:=s.toks+2 }) :
    wpAny (model prog w) A (setAttr (.ref x) name v) Q E s:=by
  have I:∃ od,PySem.W.InstAt s.heap x ox C od:=by
    obtain ⟨o,es,ep,e,_⟩:=id hn
    exact ⟨some o,hx,hcl,hno,by rw [hd];exact e⟩
  obtain ⟨od,I⟩:=I
  refine zdA X I hp ha ?_
  obtain ⟨cd,hc,_,hh⟩:=hp.cls
  have lc:=PySem.W.looks_clsIn (M:=model prog w) X hc
  unfold storeInOwnDict
  refine wpAny_bind (wpAny_pure ?_)
  have hmod:(Value.ref C == Value.type "module")=false:=rfl
  simp only [hmod]
  unfold ownDictForStores instanceDict
  refine wpAny_bind (wpAny_bind (wpAny_loadPart hx ?_))
  obtain ⟨oc,odi,oda,osl⟩:=ox
  dsimp only at hcl hd
  subst hcl hd
  dsimp only
  refine wpAny_bind (lc.here (s:={ s with toks:=s.toks+1 }) ?_)
  rw [hh,if_neg (by decide)]
  refine wpAny_pure ?_
  show wpAny _ _ (storeInDict dx (.str name s.toks) name v) _ _ _
  unfold storeInDict newKeyGuard
  refine wpAny_bind (wpAny_pure (wpAny_bind (wpAny_nsSet1 (s:={ s with toks:=s.toks+1 }) hn fun h' hn' hs=>?_)))
  obtain ⟨oD,eD,pD,hoD,hdD,hcD⟩:=hn'.count (Within.cons name v hw)
  exact wpAny_bind (wpAny_lookBehind hoD (by rw [hdD];exact pastItsLine_dict (Nat.le_trans hcD (by rw [List.length_cons];omega))) (wpAny_pure (h h' hn' fun b o hb e=>(hs.2 b hb).trans e)))
theorem zhd {f:Str}{b:Bool}{Q:Value→Shared→Prop}(X:K.In s.heap)(I:PySem.W.InstAt s.heap x ox C od)(hp:wZ K C)(hf:PySem.W.findObj K C od f=some (.value v))(hv:PySem.W.handedIn v=true)
    (h:Q v { s with toks:=s.toks+1 }):wpAny (model prog w) A (getAttr (.ref x) f b) Q E s:=by
  obtain ⟨hh,g,d,t,os⟩:=s
  have L0:=I.type (M:=model prog w)
  have L1:=PySem.W.looks_findIn (M:=model prog w) X hp.ga
  have L2:=PySem.W.looks_findIn (M:=model prog w) X hp.gt
  have L3:=PySem.W.looks_find (M:=model prog w) X I hf
  have fb:=PySem.F.attrBase_ValueError.ga.bind (.ref x)
  have hx2:(Value.builtin "BaseException.__getattribute__" == Value.builtin "object.__getattribute__")=false:=by decide +kernel
  have hx3:(b&&onTheHeap (Value.builtin "BaseException.__getattribute__"))=false:=by cases b <;> rfl
  unfold getAttr getAttrBy
  refine wpAny_bind (wpAny_mkText (wpAny_holding (wpAny_bind (L0.at (wpAny_bind (L1.at ?_))))))
  dsimp only
  rw [hx2,Bool.and_false,if_neg Bool.false_ne_true]
  unfold getAttrByItsOwn
  refine wpAny_bind ?_
  show wpAny _ _ (typeLookup (.ref C) "__getattr__") _ _ _
  refine L2.at (wpAny_bind (wpAny_attempt (wpAny_holding ?_)))
  unfold callGetattribute
  rw [hx3,if_neg Bool.false_ne_true]
  unfold boundAndCalled
  rw [fb]
  refine wpAny_bind (wpAny_pure ?_)
  refine wpAny_call (codeAny_call_builtin PySem.F.attrBase_ValueError.ga.plain PySem.F.entry_bexc_ga ?_)
  refine zcq X I hp.sb ?_
  refine wpAny_bind (wpAny_pure (wpAny_bind (wpAny_pure (wpAny_bind (L0.at (wpAny_bind (L3.at ?_)))))))
  refine wpAny_pure ?_
  show wpAny _ _ (handedOut v) _ _ _
  rw [PySem.W.handedOut_of hv];exact wpAny_pure h
end
end L2
namespace L2
open PySem PySem.Spec PyProof.Rows
section
variable {P:Program}{w:World}{H H':Hp}{h h':Heap}{a:Addr}{o:HO}
theorem xf.ex (x:xf P w H h a o):∃ u,h.get? a=some u:=by
  cases o with
  | lst xs=>obtain ⟨_,_,_,_,e⟩:=x;exact ⟨_,e⟩
  | tup xs=>obtain ⟨_,_,_,ob,e,_⟩:=x;exact ⟨_,e⟩
  | dK kvs=>obtain ⟨_,_,_,_,o,_,_,e,_⟩:=x;exact ⟨_,e⟩
  | dT kvs=>obtain ⟨_,_,_,_,o,_,_,e,_⟩:=x;exact ⟨_,e⟩
  | set S n=>obtain ⟨o,_,_,_,e,_⟩:=x;exact ⟨_,e⟩
  | ins C dx fs=>obtain ⟨_,_,_,e,_⟩:=x;exact ⟨_,e⟩
  | own y=>exact x
  | xd fs=>obtain ⟨_,⟨_,_,_,e,_⟩,_⟩:=x;exact ⟨_,e⟩
  | rng lo hi=>obtain ⟨_,_,_,e⟩:=x;exact ⟨_,e⟩
  | frz ob u=>obtain ⟨e,_⟩:=x;exact ⟨_,e⟩
  | tbl ps=>exact ⟨_,(show h.get? a=some _ from x)⟩
  | met f y=>exact ⟨_,(show h.get? a=some _ from x)⟩
  | ext φ=>obtain ⟨_,⟨_,e⟩,_⟩:=x;exact ⟨_,e⟩
theorem HOk.stays (x:HOk P w H h)(k:∀ b u,H b≠none→h.get? b=some u→h'.get? b=some u):HOk P w H h':=fun a o e =>
  (x a o e).stay (fun b u hb q=>k b u (by
    rcases hb with rfl | hb
    · rw [e];intro z;cases z
    · rw [hb];intro z;cases z) q) (fun _ q=>q) fun _ _ q=>q
end
structure Cov (outer:List Env) (H:Hp) (h:Heap) (H':Hp) (h' B:Heap):Prop where
  old:∀ b o,h.get? b=some o→H b=none→b∉frs outer→B.get? b=some o
  there:∀ b o,h.get? b=some o→b∉frs outer→∃ o',B.get? b=some o'
  new:∀ b o,H' b≠none→h'.get? b=some o→B.get? b=some o
noncomputable def ZT (h:Heap)(a:Addr)(od:Option Addr):Prop:=∃ oe,h.get? a=some oe∧oe.dict=od
theorem ZT.stay {h h':Heap}{a:Addr}{od:Option Addr}(d:ZT h a od)(k:DK h h')(e:∃ oe,h'.get? a=some oe):ZT h' a od:=by
  obtain ⟨oe,h1,h2⟩:=d
  obtain ⟨oe',h3⟩:=e
  exact ⟨oe',h3,(k.of h1 h3).trans h2⟩
noncomputable def Air (P:Program)(w:World):CXT:=fun outer H s E e s' =>
  ∃ (ea C t:Addr) (od:Option Addr) (H':Hp) (B:Heap),e=.ref ea∧s'.os=s.os∧AllBare s'.gens∧Un (frs outer) [] H H' s.heap s'.heap∧HOk P w H' s'.heap ∧
    Heap.FlyingW B outer ea (.ref C) (.ref t) s'.heap∧Cov outer H s.heap H' s'.heap B∧ZT s'.heap ea od∧E (.ref C) od H'
section
variable {X:Cx}{pins:List (Addr × Obj)}{σ:St}{H H':Hp}{s s':Shared}{E:XK}{e:Value}{M:Model}{E2:Value→Shared→Prop}
theorem Inv.airUn (hex:X.ex=[])(I:Inv X pins σ H s){h' B:Heap}(J:Inv X pins σ H' s')(cov:Cov X.stack H s.heap H' s'.heap B)(hB:B.StaysIn h')(hfr:h'.FunFrames B X.outer)(up:s'.heap.UpToSlots h') :
    Un X.fs [] X.H₀ H' X.s₀.heap h'∧HOk X.prog X.w H' h'∧Cov X.outer X.H₀ X.s₀.heap H' h' B:=by
  have neL:∀ b o,X.s₀.heap.get? b=some o→b≠X.env.locals:=fun b o e=>Nat.ne_of_lt (Nat.lt_of_lt_of_le (Heap.lt_size e) I.ok.above)
  have nst:∀ b o,X.s₀.heap.get? b=some o→b∉X.fs→b∉frs X.stack:=fun b o e n z=>(List.mem_cons.mp (I.stkSub b z)).elim (neL b o e) n
  have nx:∀ b:Addr,b∉X.ex:=by rw [hex];simp
  have cov':Cov X.outer X.H₀ X.s₀.heap H' h' B:=by
    refine ⟨fun b o e n hb=>cov.old b o (I.base.keep b o e n hb (nx b)) (I.base.free b o e n (nx b)) (nst b o e hb),fun b o e hb=>?_,fun b o hb e=>?_⟩
    · obtain ⟨o',e'⟩:=I.base.there b o e (nx b)
      exact cov.there b o' e' (nst b o e hb)
    · cases q:H' b with
      | none=>exact absurd q hb
      | some u =>
        obtain ⟨ob,ho⟩:=(J.hok b u q).ex
        have z:=cov.new b ob hb ho
        have z2:=hB b ob z
        rw [e] at z2
        cases z2
        exact z
  refine ⟨⟨fun b o e n hb _=>hB b o (cov'.old b o e n hb),fun b o e n hb _=>?_,fun b o e n _=>J.base.free b o e n (nx b),fun b o e _=>?_,J.base.tups,J.base.frzs,J.base.tbls⟩,J.hok.stays fun b u hb hu=>hB b u (cov.new b u hb hu),cov'⟩
  · obtain ⟨sl,e1⟩:=J.base.slot b o e n hb (nx b)
    obtain ⟨_,o2,ho2,hd⟩:=I.ok.funs.mem hb
    rw [e] at ho2
    cases ho2
    obtain ⟨sl2,e2⟩:=up b _ e1 hd
    exact ⟨sl2,e2⟩
  · by_cases hb:b∈X.fs
    · obtain ⟨_,o2,ho2,_⟩:=hfr.mem hb
      exact ⟨o2,ho2⟩
    · obtain ⟨o',e'⟩:=cov'.there b o e hb
      exact ⟨o',hB b o' e'⟩
theorem zis (hst:X.stack=X.env::X.outer)(hf:X.env.frame=some X.env.locals)(hex:X.ex=[])(I:Inv X pins σ H s)(a:Air X.prog X.w X.stack H s E e s') :
    wpAny M X.A (leaving X.env e) (fun _ s''=>Air X.prog X.w X.outer X.H₀ X.s₀ E e s'') E2 s':=by
  obtain ⟨ea,C,t,od,H',B,rfl,os,bare,un,hok,fl,cov,di,hE⟩:=a
  have J:Inv X pins σ H' s':=I.call' (ch:=[]) os un hok bare (fun b z=>nomatch z)
  rw [hst] at fl
  refine Xi (Z8 _ _) (wpAny_leaves_onW (Q:=fun _ s''=>∃ h',s''={ s' with heap:=h' }∧Heap.FlyingW B X.outer ea (.ref C) (.ref t) h'∧s'.heap.UpToSlots h') (by rw [I.ok.frames,hst]) hf fl fun h' x1 x2=>⟨h',rfl,x1,x2⟩) ?_
  rintro _ _ ⟨h',rfl,x1,x2⟩ dk
  obtain ⟨u1,u2,u3⟩:=I.airUn hex J cov x1.1 x1.2.2.1 x2
  obtain ⟨ob,hob,_⟩:=x1.there
  exact ⟨ea,C,t,od,H',B,rfl,os.trans I.os,bare,u1,u2,x1,u3,di.stay dk ⟨ob,hob⟩,hE⟩
end
theorem xY {P:Program}{w:World}{K:PySem.W.Frag}{mg:Str→Option Value}{base:Heap}{N:List Str}{qual:Str}{scope:Scope}{f:Addr}{cd:Value}{A:Around}{outer:List Env}{s:Shared}{H:Hp}{E:XK} :
    Xs (Air P w) (YC (Air P w) P w K mg base N qual scope f cd A outer s H E) E:=fun pins σ H1 s1 e s' I a =>
  zis (X:=YC (Air P w) P w K mg base N qual scope f cd A outer s H E) rfl rfl rfl I a
theorem zeu {P:Program}{w:World}{K:PySem.W.Frag}{mg:Str→Option Value}{base:Heap}{N:List Str}{qual:Str}{scope:Scope}{f:Addr}{cd:Value}{A:Around}{outer:List Env}{s:Shared}{H:Hp}{E:XK}
    {pins:List (Addr × Obj)} {σ:St} {H1:Hp} {s1:Shared} {h':Heap} {ea C:Addr} {args:List Value}
    (I:Inv (YC (Air P w) P w K mg base N qual scope f cd A outer s H E) pins σ H1 s1) (hx:Heap.MadeExcOf s1.heap h' ea (.ref C) args) (hE:E (.ref C) none H1) :
    (YC (Air P w) P w K mg base N qual scope f cd A outer s H E).xe (.ref ea) { s1 with heap:=h' }:=by
  let X:=YC (Air P w) P w K mg base N qual scope f cd A outer s H E
  have I:Inv X pins σ H1 s1:=I
  have keepX:∀ b o,s1.heap.get? b=some o→h'.get? b=some o:=hx.keeps
  have hin:∀ env∈X.stack,∀ a,env.frame=some a→a∈frs X.stack:=fun env he a ha=>List.mem_filterMap.mpr ⟨env,he,ha⟩
  have J:Inv X pins σ H1 { s1 with heap:=h' }:=by
    have:=I.un (t':=s1.toks) (H':=H1) (h':=h') (Un.kept keepX) (I.hok.kept keepX)
    exact this
  show wpAny (model P w) X.A (leaving X.env (.ref ea)) (fun _ s''=>Air P w outer H s E (.ref ea) s'') _ { s1 with heap:=h' }
  refine Xi (Z8 _ _) (wpAny_leaves_madeW (Q:=fun _ s''=>∃ h2 t,s''={ s1 with heap:=h2 }∧Heap.FlyingW (PySem.W.hideAll s1.heap (frs X.stack)) outer ea (.ref C) (.ref t) h2∧h'.UpToSlots h2) (base:=PySem.W.hideAll s1.heap (frs X.stack)) (h:=s1.heap) (L:=X.env.locals) (outer:=outer) (I.ok.frames) rfl (fun b o q=>PySem.W.of_hideAll _ q) (PySem.W.funFrames_hide I.stack hin) hx fun h2 t x1 x2 x3 x4=>⟨h2,t,rfl,x1,x4⟩) ?_
  rintro _ _ ⟨h2,t,rfl,x1,x4⟩ dk
  obtain ⟨ob,hob,_⟩:=x1.there
  have di:ZT h2 ea none:=by
    obtain ⟨t',ht',_⟩:=hx.there
    exact ZT.stay (h:=h') ⟨_,ht',rfl⟩ dk ⟨ob,hob⟩
  have cov:Cov X.stack H1 s1.heap H1 h' (PySem.W.hideAll s1.heap (frs X.stack)):=by
    refine ⟨fun b o e _ hb=>PySem.W.hideAll_get _ e hb,fun b o e hb=>⟨o,PySem.W.hideAll_get _ e hb⟩,fun b o hb e=>?_⟩
    cases q:H1 b with
    | none=>exact absurd q hb
    | some u =>
      obtain ⟨ob,ho⟩:=(I.hok b u q).ex
      have z:=keepX b ob ho
      rw [e] at z
      cases z
      exact PySem.W.hideAll_get _ ho fun z=>hb (I.stkFree b z)
  obtain ⟨u1,u2,u3⟩:=I.airUn (X:=X) rfl J cov x1.1 x1.2.2.1 x4
  exact ⟨ea,C,t,none,H1,_,rfl,I.os,I.bare,u1,u2,x1,u3,di,hE⟩
end L2
namespace L2
open PySem PySem.Spec PyProof.Rows
noncomputable abbrev bmV:List Value:=[.type "ValueError",.type "Exception",.type "BaseException",.type "object"]
structure XCls (K:PySem.W.Frag) (mg:Str→Option Value) (C:Addr) (x:Str):Prop where
  bound:mg x=some (.ref C)
  exc:PySem.W.excIn K C bmV "ValueError.__new__"=true
theorem zho {K:PySem.W.Frag}{h₀:Heap}{C:Addr}{bmB:List Value}{newId:String}(X:K.In h₀)(q:PySem.W.excIn K C bmB newId=true) :
    ∃ bm N nm q bs hdct sn sub ab col dd k0 k1 k2 k3 k5 mN,h₀.get? C=some (excClassObj nm q C N bs bm hdct sn sub ab col dd k0 k1 k2 k3 k5 newId)∧h₀.Ns N mN∧mN "__init__"=none∧OwnTail h₀ bmB bm:=by
  unfold PySem.W.excIn at q
  split at q
  · rename_i dd cd sl ho
    split at q
    · rename_i C' bm k0 k1 k2 k3 n k5 hm hs
      simp only [Bool.and_eq_true,beq_iff_eq,Bool.not_eq_true'] at q
      obtain ⟨⟨⟨⟨⟨rfl,rfl⟩,hdel⟩,ht⟩,hok⟩,hni⟩:=q
      obtain ⟨nm,bs,mro,ns,qn,hd,sn,sub,ab,col,del⟩:=cd
      dsimp only at hm hdel hok hni
      subst hm hdel
      have hsl:sl=#[k0,k1,k2,k3,some (.builtin n),k5]:=by
        obtain ⟨l⟩:=sl
        simp only at hs
        rw [hs]
      subst hsl
      exact ⟨bm,ns,nm,qn,bs,hd,sn,sub,ab,col,dd,k0,k1,k2,k3,k5,_,X _ _ ho,.of_isNs (PySem.W.isNs_of_in X hok),PySem.W.nsMap_none_of_in X hok hni,PySem.W.tail_of_in X ht⟩
    · cases q
  · cases q
theorem zgc {P:Program}{w:World}{K:PySem.W.Frag}{mg:Str→Option Value}{base:Heap}{N:List Str}{qual:Str}{scope:Scope}{f:Addr}{cd:Value}{A:Around}{outer:List Env}{s:Shared}{H:Hp}{E:XK}{C:Addr}{x:Str}{np cpos pos:Pos}
    (hc:XCls K mg C x) (hg:Gl (YC (Air P w) P w K mg base N qual scope f cd A outer s H E) x) (hd:(x == ("__debug__":Str))=false:=by decide) :
    PS (YC (Air P w) P w K mg base N qual scope f cd A outer s H E) (.Raise (some (.Call (.Name x np) [] [] cpos)) none pos) (fun _ _ H1=>E (.ref C) none H1):=by
  intro pins s1 σ H1 D I h
  obtain ⟨tl,N',nm,q,bs,hdct,sn,sub,ab,col,dd,k0,k1,k2,k3,k5,mN,hC,hN,hni,T⟩:=zho I.ok.mod.kin hc.exc
  refine wpAny_Raise_call_subU (C:=C) (nm:=nm) (q:=q) (N:=N') (bs:=bs) (bm:=tl) (hdct:=hdct) (sn:=sn) (sub:=sub) (ab:=ab) (col:=col) (dd:=dd) (k0:=k0) (k1:=k1) (k2:=k2) (k3:=k3) (k5:=k5)
    PySem.F.excBase_ValueError (by decide) PySem.F.excBase_ValueError (mN:=mN) (T.hasType PySem.F.excBase_ValueError.hasBase) (I.ok.hd rfl) rfl hni (Z9 I hg hc.bound ⟨rfl,?_⟩ hd)
  exact evalArgs_empty ⟨rfl,Nat.zero_le _,I.bk _ _ hC,hN.keeps I.bk,T.keeps I.bk,fun h' e hm=>zeu I hm h⟩
end L2
namespace Dl
open PySem L2
noncomputable def pay (j:Nat):Option (List (Str × V)):=match j / 16 % 4 with
  | 0=>none
  | 1=>some [("at",.int ((j / 64:Nat) - 1))]
  | 2=>some [("row",.int ((j / 64:Nat) - 1))]
  | _=>some [("many",.int ((j / 64 / 1024:Nat):Int)),("most",.int ((j / 64 % 1024:Nat):Int))]
variable [KK]
section
variable (E:XK)(cl:Nat→Addr)
noncomputable def EJ (j:Nat)(H:Hp):Prop:=match pay j with
  | none=>E (.ref (cl j)) none H
  | some fs=>∀ dx,H dx=none→E (.ref (cl j)) (some dx) (upd H dx (.xd fs))
noncomputable def Wi (F H:Hp)(j:Nat):Prop:=∀ F' H',Gr F H F' H'→EJ E cl j H'
noncomputable def RXE (t:TE)(fx:Ev→Option Nat):Prop:=∀ (σ:St) (ρ:Ev) (F H:Hp) (j:Nat) (Q:VK),yJ F H→VAt F ρ σ→fx ρ=some j→Wi E cl F H j→t σ H Q
noncomputable def RXS (t:TS)(gx:SE→Option Nat):Prop:=∀ (Fb Hb F H:Hp) (ρ:SE) (σ:St) (D':zae) (j:Nat),Rl Fb Hb F H ρ σ→gx ρ=some j→Wi E cl Fb Hb j→t D' σ H
noncomputable def XE (X:Cx)(e:Expr)(fx:Ev→Option Nat):Prop:=∃ t,PE X e t∧RXE E cl t fx
noncomputable def XS (X:Cx)(st:Stmt)(gx:SE→Option Nat):Prop:=∃ t,PS X st t∧RXS E cl t gx
noncomputable def XSs (X:Cx)(sts:List Stmt)(gx:SE→Option Nat):Prop:=∃ t,PSs X sts t∧RXS E cl t gx
end
section
variable {E:XK}{cl:Nat→Addr}{X:Cx}{a b c e:Expr}{es:List Expr}{st:Stmt}{sts:List Stmt}{pos pos':Pos}
theorem Wi.grow {F H F1 H1:Hp}{j:Nat}(w:Wi E cl F H j)(g:Gr F H F1 H1):Wi E cl F1 H1 j:=fun F' H' g'=>w F' H' (g.trans g')
theorem Wi.out {Fb Hb F H:Hp}{ρ:SE}{σ:St}{j:Nat}(w:Wi E cl Fb Hb j)(rl:Rl Fb Hb F H ρ σ):Wi E cl (gOf ρ σ F H) H j:=fun F' H' g=>w F' H' (rl.out g)
noncomputable def spX (cl:Nat→Addr)(m:Nat)(r:List D→Option Nat):Sp:=fun vs H _ E=>∃ ds j F,ds.length=m∧yJ F H∧AtL F ds vs∧r ds=some j∧Wi E cl F H j
noncomputable def YA (m:Nat)(r:List D→Option Nat)(f:Ev→Option (List D)):Ev→Option Nat:=fun ρ=>(f ρ).bind fun ds=>if ds.length=m then r ds else none
theorem wF {x:Str}{k m:Nat}{f:Addr}{fd:FuncData}{ps:List Str}{r:List D→Option Nat}{pp:Pos}{fa:Ev→Option (List D)}(F:xB X.prog X.w X.K X.mg X.base (Air X.prog X.w) k f fd ps (spX cl m r))(hx:Xs (Air X.prog X.w) X E)(hr:v0 k X.A)(hg:Gl X x)(hm:X.mg x=some (.ref f))(hk:PySem.W.keepIn X.K (.ref f)=true)(hb:XH X.K fd ps [])
    (ha:AD X (e::es) fa) (hdb:(x == ("__debug__":Str))=false:=by decide) (he:starEach (e::es) X.env=(false,eval e X.env)::starEach es X.env:=by rfl) (hpl:(backTo pos (starEach es X.env)).any (·.1)=false:=by rfl) :
    XE E cl X (.Call (.Name x pp) (e::es) [] pos) (YA m r fa):=by
  obtain ⟨t,pa,ra⟩:=ha
  refine ⟨_,zdf F hr hg hm hk hb .nil hx pa hdb he hpl,fun σ ρ F0 H j Q s va e w=>?_⟩
  obtain ⟨ds,e1,e2⟩:=Option.bind_eq_some_iff.mp e
  split at e2 <;> try cases e2
  rename_i hl
  refine ra σ ρ F0 H ds _ s va e1 fun F1 H1 vs g1 a1=>?_
  exact ⟨ds,j,F1,hl,g1.fh,by rw [List.append_nil];exact a1,e2,w.grow g1⟩
theorem wD {fx:Ev→Option Nat}(h:XE E cl X e fx)(hs:swapsWith e none pos.line X.env=pure false:=by rfl):XS E cl X (.Expr e pos) (fun ρ=>fx (visG ρ)):=by
  obtain ⟨t,p,r⟩:=h
  exact ⟨_,Vx p hs,fun Fb Hb F H ρ σ D' j rl e w=>r σ _ _ H j _ rl.gh rl.visG e (w.out rl)⟩
noncomputable def xIf (t:Ev→Option Bool)(g h:SE→Option Nat):SE→Option Nat:=fun ρ=>match t (visG ρ) with
  | some true=>g ρ
  | some false=>h ρ
  | none=>none
theorem za6 {as bs:List Stmt}{t:Ev→Option Bool}{g h:SE→Option Nat}(hc:TD X c t)(ha:XSs E cl X as g)(hb:XSs E cl X bs h):XS E cl X (.If c as bs pos) (xIf t g h):=by
  obtain ⟨tc,pc,rc⟩:=hc
  obtain ⟨ta,pa,ra⟩:=ha
  obtain ⟨tb,pb,rb⟩:=hb
  refine ⟨_,zfp pc pa pb,fun Fb Hb F H ρ σ D' j rl k w=>?_⟩
  unfold xIf at k
  cases h:t (visG ρ) with
  | none=>rw [h] at k;cases k
  | some d =>
    rw [h] at k
    refine rc σ _ _ H d _ rl.gh rl.visG h fun F' H' g=>?_
    have rl2:=rl.grow (rl.back g).1
    cases d with
    | true=>rw [if_pos rfl];exact ra Fb Hb _ H' ρ σ D' j rl2 k w
    | false=>rw [if_neg Bool.false_ne_true];exact rb Fb Hb _ H' ρ σ D' j rl2 k w
noncomputable def xNo:SE→Option Nat:=fun _=>none
theorem vH:XS E cl X st xNo:=⟨_,zbF,fun _ _ _ _ _ _ _ _ _ h _=>by cases h⟩
theorem vx {g:SE→Option Nat}(h:XS E cl X st g):XSs E cl X [st] g:=let ⟨_,p,r⟩:=h;⟨_,ZA p,r⟩
noncomputable def Ww (gx:SE→Option Nat)(g:SE→Ctl)(hx:SE→Option Nat):SE→Option Nat:=fun ρ=>match gx ρ with
  | some j=>some j
  | none=>match g ρ with
    | .nx ρ'=>hx ρ'
    | _=>none
theorem xt {gx hx:SE→Option Nat}{g:SE→Ctl}(h1:XS E cl X st gx)(h2:SD X st g)(h3:XSs E cl X sts hx):XSs E cl X (st::sts) (Ww gx g hx):=by
  obtain ⟨t1,p1,r1⟩:=h1
  obtain ⟨t2,p2,r2⟩:=h2
  obtain ⟨u,p3,r3⟩:=h3
  have por:PS X st (fun D σ H=>t1 D σ H∨t2 D σ H):=fun pins s σ H D I h=>h.elim (p1 pins s σ H D I) (p2 pins s σ H D I)
  refine ⟨_,wL por p3,fun Fb Hb F H ρ σ D' j rl k w=>?_⟩
  unfold Ww at k
  cases e1:gx ρ with
  | some j' =>
    rw [e1] at k
    cases k
    exact .inl (r1 Fb Hb F H ρ σ _ j rl e1 w)
  | none =>
    rw [e1] at k
    dsimp only at k
    cases e2:g ρ with
    | nx ρ' =>
      rw [e2] at k
      refine .inr (r2 Fb Hb F H ρ σ _ rl ?_)
      rw [e2]
      exact fun F' H' σ' rl'=>r3 Fb Hb F' H' ρ' σ' D' j rl' k w
    | rt _=>rw [e2] at k;cases k
    | bk _=>rw [e2] at k;cases k
    | ct _=>rw [e2] at k;cases k
    | no=>rw [e2] at k;cases k
theorem YI {g:SE→Option Nat}(h:XS E cl X st g):XSs E cl X (st::sts) g:=by
  obtain ⟨t,p,r⟩:=h
  exact ⟨_,wL p (fun _ _ _ _ _ _ h=>(h:False).elim),fun Fb Hb F H ρ σ D' j rl k w=>r Fb Hb F H ρ σ _ j rl k w⟩
end
noncomputable def zgB (j:Nat):SE→Option Nat:=fun _=>some j
theorem zfu {P:Program}{w:World}{K:PySem.W.Frag}{mg:Str→Option Value}{base:Heap}{N:List Str}{qual:Str}{scope:Scope}{f:Addr}{cd:Value}{A:Around}{outer:List Env}{s:Shared}{H:Hp}{E:XK}{cl:Nat→Addr}{j:Nat}{x:Str}{np cpos pos:Pos}
    (hc:XCls K mg (cl j) x) (hg:Gl (YC (Air P w) P w K mg base N qual scope f cd A outer s H E) x) (hd:(x == ("__debug__":Str))=false:=by decide) (hp:pay j=none:=by rfl) :
    XS E cl (YC (Air P w) P w K mg base N qual scope f cd A outer s H E) (.Raise (some (.Call (.Name x np) [] [] cpos)) none pos) (zgB j) :=
  ⟨_,zgc hc hg hd,fun Fb Hb F H ρ σ D' j' rl e w=>by
    cases e
    have z:=w F H rl.gr
    unfold EJ at z
    rw [hp] at z
    exact z⟩
noncomputable def fnX (n:Nat)(gx:SE→Option Nat)(ds:List D):Option Nat:=gx (ds.map .v++List.replicate (n - ds.length) .no)
theorem Xo {P:Program}{w:World}{K:PySem.W.Frag}{mg:Str→Option Value}{base:Heap}{x qual:Str}{st:Stmt}{f:Addr}{fd:FuncData}{N ps:List Str}{k:Nat}{cl:Nat→Addr}{gx:SE→Option Nat}(Fu:Fun K x qual st f fd)(S:zu N ps (ze st))
    (hb:∀ (cdv:Value) (A:Around) (outer:List Env) (s:Shared) (H:Hp) (E:XK),v0 k (A.deeper (PyProof.Rows.envOfC qual (ze st) s.heap.objs.size f cdv))→XSs E cl (YC (Air P w) P w K mg base N qual (ze st) f cdv A outer s H E) (zt st) gx) :
    xB P w K mg base (Air P w) (k+1) f fd ps (spX cl ps.length (fnX N.length gx)):=by
  obtain ⟨oc,od,kV,doc,pm,an,cdv,ct,osl,rfl,lk,hcd⟩:=Fu.ex
  refine ziX lk hcd S (fun vs H Q E h=>?_) fun A outer s H vs Q E hr hsp=>?_
  · obtain ⟨ds,d,F,hl,_,a,_⟩:=h
    rw [a.length];exact hl
  · obtain ⟨ds,j,F,hl,sm,a,e,q⟩:=hsp
    obtain ⟨t,p,r⟩:=hb cdv A outer s H E hr
    exact ⟨t,p,r F H F H _ _ _ j (zbT sm a) e q⟩
end Dl
namespace L2
open PySem PySem.Spec PyProof.Rows
section
variable {X:Cx}{pins:List (Addr × Obj)}{σ:St}{H H':Hp}{s s':Shared}{E:XK}{e:Value}{E2:Value→Shared→Prop}{B h3:Heap}
theorem Inv.caught (I:Inv X pins σ H s)(os:s'.os=s.os)(bare:AllBare s'.gens)(un:Un (frs X.stack) [] H H' s.heap s'.heap)(hok:HOk X.prog X.w H' s'.heap)(cov:Cov X.stack H s.heap H' s'.heap B)
    (hB:B.StaysIn h3) (hfr:h3.FunFrames B X.stack) (up:s'.heap.UpToSlots h3):Inv X pins σ H' { s' with heap:=h3 }:=by
  obtain ⟨h',g',d',t',o'⟩:=s'
  have eo:o'=s.os:=os
  subst eo
  have nil:∀ b:Addr,b∉([]:List Addr):=fun b z=>nomatch z
  show Inv X pins σ H' { s with heap:=h3,gens:=g',drawn:=d',toks:=t' }
  refine I.step (s:=s) (g':=g') (d':=d') (t':=t') (ch:=[]) (fun b z=>nomatch z) (fun b o hL hb _ e n=>hB b o (cov.old b o e n fun z=>(List.mem_cons.mp (I.stkSub b z)).elim hL hb)) (fun b o hL hb _ e n=>?_) (fun b o _ e n=>un.free b o e n (nil b)) (fun b o _ e=>?_) un.tups un.frzs un.tbls (fun m hm=>?_) (hok.stays fun b u hb hu=>hB b u (cov.new b u hb hu)) bare
  · obtain ⟨sl,e1⟩:=un.any e n (nil b)
    obtain ⟨_,o2,ho2,hd⟩:=I.funs.mem hb
    rw [e] at ho2
    cases ho2
    obtain ⟨sl2,e2⟩:=up b _ e1 hd
    exact ⟨sl2,e2⟩
  · by_cases hb:b∈frs X.stack
    · obtain ⟨_,o2,ho2,_⟩:=hfr.mem hb
      exact ⟨o2,ho2⟩
    · obtain ⟨o',e'⟩:=cov.there b o e hb
      exact ⟨o',hB b o' e'⟩
  · obtain ⟨o,es,ep,ho,hd,r⟩:=hm
    obtain ⟨sl,e1⟩:=un.any ho I.free (nil _)
    exact up.ns ⟨_,es,ep,e1,hd,r⟩
theorem zcE {M:Model}(hst:X.stack=X.env::X.outer)(hf:X.env.frame=some X.env.locals)(hex:X.ex=[])(I:Inv X pins σ H s)(a:Air X.prog X.w X.stack H s E e s'){hs:List ExceptHandler}{Q:Flow→Shared→Prop}
    (k:∀ (ea C t:Addr) (od:Option Addr) (H':Hp) (B h3:Heap),E (.ref C) od H'→ZT h3 ea od→H' ea=none→(∀ o',X.s₀.heap.get? ea=some o'→False)→(∀ p∈X.pn++pins,p.1≠ea)→Heap.FlyingW B X.stack ea (.ref C) (.ref t) h3→(∀ h4:Heap,B.StaysIn h4→h4.FunFrames B X.stack→h3.UpToSlots h4→Inv X pins σ H' { s' with heap:=h4 }) →
      e=.ref ea→wpAny M X.A (handleBy (.ref ea) X.env hs) Q E2 { s' with heap:=h3 }) :
    wpAny M X.A (noteFrame e X.env) (fun _ s₂=>wpAny M X.A (setFlight e none) (fun _ s₃=>wpAny M X.A (handleBy e X.env hs) Q E2 s₃) E2 s₂) E2 s':=by
  obtain ⟨ea,C,t,od,H',B,rfl,os,bare,un,hok,fl,cov,di,hE⟩:=a
  have hfr:X.A.frames=some (X.env::X.outer):=by rw [I.ok.frames,hst]
  have fl0:=fl
  rw [hst] at fl0
  refine Xi (Xw _ _) (wpAny_looks_onW (Q:=fun _ s''=>∃ h2,s''={ s' with heap:=h2 }∧Heap.HeldW B (X.env::X.outer) ea (.ref C) (.ref t) X.env.locals h2∧s'.heap.UpToSlots h2) hfr hf fl0 fun h2 hheld up2=>⟨h2,rfl,hheld,up2⟩) ?_
  rintro _ _ ⟨h2,rfl,hheld,up2⟩ dk2
  refine Xi (Y2 _ _) (wpAny_landsW (Q:=fun _ s''=>∃ h3,s''={ s' with heap:=h3 }∧Heap.FlyingW B (X.env::X.outer) ea (.ref C) (.ref t) h3∧h2.UpToSlots h3) (s:={ s' with heap:=h2 }) hheld fun h3 fl3 up3=>⟨h3,rfl,fl3,up3⟩) ?_
  rintro _ _ ⟨h3,rfl,fl3,up3⟩ dk3
  have di3:ZT h3 ea od:=by
    obtain ⟨ob,hob,_⟩:=fl3.there
    exact di.stay (DK.trans dk2 dk3) ⟨ob,hob⟩
  rw [←hst] at fl3
  have hnB:B.get? ea=none:=fl.2.1
  have nfr:ea∉frs X.stack:=fun z=>by
    obtain ⟨_,o2,ho2,hnf⟩:=fl.2.2.1.mem z
    obtain ⟨oe,vs,_,_,_,he,_,hd,_⟩:=fl.2.2.2
    rw [he] at ho2
    cases ho2
    exact hnf vs hd
  have nold:∀ o',s.heap.get? ea=some o'→False:=fun o' z=>by
    obtain ⟨o2,e2⟩:=cov.there ea o' z nfr
    rw [hnB] at e2
    cases e2
  refine k ea C t od H' B h3 hE di3 ?_ (fun o' z=>?_) (fun p hp z=>?_) fl3 (fun h4 b1 b2 b3=>I.caught os bare un hok cov b1 b2 ((up2.trans up3).trans b3)) rfl
  · cases q:H' ea with
    | none=>rfl
    | some u =>
      obtain ⟨ob,ho⟩:=(hok ea u q).ex
      have z:=cov.new ea ob (by rw [q];intro z;cases z) ho
      rw [hnB] at z
      cases z
  · obtain ⟨o2,e2⟩:=I.base.there ea o' z (by rw [hex];intro z;cases z)
    exact nold o2 e2
  · exact nold p.2 (z ▸ (I.pin p hp).1)
end
end L2
namespace L2
open PySem PySem.Spec PyProof.Rows
noncomputable abbrev Cx.held (X:Cx)(e:Value):Cx:={ X with A:=X.A.mark (some e),calm:=false }
section
variable {X:Cx}{pins:List (Addr × Obj)}{σ:St}{H H':Hp}{s s':Shared}{E:Value→Shared→Prop}{e:Value}{M:Model}{A:Around}
theorem Cx.Ok.held (ok:X.Ok)(e:Value):(X.held e).Ok :=
  ⟨ok.mod,ok.kind,ok.glob,ok.blt,ok.above,ok.inj,ok.has,ok.cab,(fun z=>by cases z),ok.frames,ok.stk,ok.exf,ok.bs,ok.bsz,ok.noex,ok.exfs,ok.funs,ok.frf⟩
theorem Inv.held (I:Inv X pins σ H s)(e:Value):Inv (X.held e) pins σ H s:=⟨I.ok.held e,I.os,I.bare,I.base,I.loc,I.cell,I.free,I.freeC,I.pin,I.hok,I.len⟩
theorem Inv.unheld (ok:X.Ok)(I:Inv (X.held e) pins σ H s):Inv X pins σ H s:=⟨ok,I.os,I.bare,I.base,I.loc,I.cell,I.free,I.freeC,I.pin,I.hok,I.len⟩
theorem Z0 {i:Nat}{x:Str}{pos:Pos}{Q:Unit→Shared→Prop}(I:Inv X pins σ H s)(hN:X.N.Nodup)(hi:X.N[i]?=some x)(hk:X.env.scope.names.lookup x=some .local)
    (h:∀ s',Inv X pins (σ.set i none) H s'→Q () s'):wpAny M A (do bindName X.env x .none;unbindBehindTheSuite X.env x pos) Q E s:=by
  obtain ⟨m,hn,hl⟩:=id I.loc
  have hcls:(X.env.scope.kind == .class||(X.env.scope.kind == .module&&X.env.locals != X.env.globals))=false:=by rw [I.ok.kind];rfl
  have hiσ:i < σ.length:=by rw [I.len];exact (List.getElem?_eq_some_iff.mp hi).1
  have cne:=I.cne
  refine wpAny_nameGoes_keeps hk hn hcls fun h' v hn' hs=>?_
  obtain ⟨oL,_,_,hoL,_⟩:=id hn
  have tracked:HOk X.prog X.w H h':=fun b ob e=>by
    refine (I.hok b ob e).stay (fun c w' hc q=>(hs.2 c ?_).trans q) (fun _ q=>q) fun _ _ q=>q
    rintro rfl
    rcases hc with rfl | hc
    · rw [I.free] at e;cases e
    · rw [I.free] at hc;cases hc
  have ne0:∀ b o,X.s₀.heap.get? b=some o→b≠X.env.locals:=fun b o e=>Nat.ne_of_lt (Nat.lt_of_lt_of_le (Heap.lt_size e) I.ok.above)
  refine h _ ⟨I.ok,I.os,I.bare,⟨fun b o e n hb hx=>?_,fun b o e n hb hx=>?_,I.base.free,fun b o e hx=>?_,I.base.tups,I.base.frzs,I.base.tbls⟩,⟨_,hn',fun j y v' e1 e2 e3=>?_⟩,fun y c e=>?_,I.free,I.freeC,fun p hp=>?_,tracked,by simpa using I.len⟩
  · exact (hs.2 b (ne0 b o e)).trans (I.base.keep b o e n hb hx)
  · obtain ⟨sl,e1⟩:=I.base.slot b o e n hb hx
    exact ⟨sl,(hs.2 b (ne0 b o e)).trans e1⟩
  · obtain ⟨o',e1⟩:=I.base.there b o e hx
    exact ⟨o',(hs.2 b (ne0 b o e)).trans e1⟩
  · by_cases hj:j=i
    · subst hj
      rw [List.getElem?_set_self hiσ] at e2
      cases e2
    · rw [List.getElem?_set_ne (Ne.symm hj)] at e2
      obtain ⟨u',r',q⟩:=hl j y v' e1 e2 e3
      refine ⟨u',r',?_⟩
      rcases q with ⟨k,e⟩ | ⟨k,c,e,z⟩
      · refine .inl ⟨k,?_⟩
        have:y≠x:=fun e=>hj (W8 hN e1 (e ▸ hi))
        simp [this,e]
      · exact .inr ⟨k,c,e,z.sameBut hs (cne y c e)⟩
  · obtain ⟨w',z⟩:=I.cell y c e
    exact ⟨w',z.sameBut hs (cne y c e)⟩
  · obtain ⟨e,n,ne,nf,d⟩:=I.pin p hp
    exact ⟨(hs.2 p.1 ne).trans e,n,ne,nf,d⟩
noncomputable def zcU (a C:Addr)(od:Option Addr):HO:=.ext fun h=>∃ oe,h.get? a=some oe∧oe.cls=.ref C∧oe.dict=od∧PySem.W.notCls oe=true
theorem Inv.track {a:Addr}{o:HO}{ob:Obj}{vs:Array Value}(I:Inv X pins σ H s)(ha:H a=none)(he:s.heap.get? a=some ob)(hd:ob.data=.fields vs)(h0:∀ o',X.s₀.heap.get? a=some o'→False)(hp:∀ p∈X.pn++pins,p.1≠a)
    (new:xf X.prog X.w (upd H a o) s.heap a o):Inv X pins σ (upd H a o) s:=by
  have neL:X.env.locals≠a:=by
    rintro rfl
    obtain ⟨m,⟨oL,es,ep,hoL,hdL,_⟩,_⟩:=I.loc
    rw [he] at hoL
    cases hoL
    rw [hd] at hdL
    cases hdL
  have neC:∀ x c,X.env.cells.lookup x=some c→c≠a:=fun x c e=>by
    rintro rfl
    obtain ⟨v,oc,hoc,hdc⟩:=I.cell x c e
    rw [he] at hoc
    cases hoc
    rw [hd] at hdc
    cases hdc
  refine ⟨I.ok,I.os,I.bare,⟨I.base.keep,I.base.slot,fun b u e n hx=>?_,I.base.there,fun b xs e=>?_,fun b u v e=>?_,fun b ps e=>?_⟩,I.loc,I.cell,?_,fun x c e=>?_,fun p hq=>?_,fun b u e=>?_,I.len⟩
  · rw [zm (fun z:b=a=>h0 u (z ▸ e))]
    exact I.base.free b u e n hx
  · have e1:=I.base.tups b xs e
    rw [zm (zk e1 ha)]
    exact e1
  · have e1:=I.base.frzs b u v e
    rw [zm (zk e1 ha)]
    exact e1
  · obtain ⟨more,e1⟩:=I.base.tbls b ps e
    exact ⟨more,by rw [zm (zk e1 ha)];exact e1⟩
  · rw [zm neL]
    exact I.free
  · rw [zm (neC x c e)]
    exact I.freeC x c e
  · obtain ⟨e,n,ne,nf,d⟩:=I.pin p hq
    exact ⟨e,by rw [zm (hp p hq)];exact n,ne,nf,d⟩
  · by_cases c:b=a
    · subst c
      rw [zn] at e
      cases e
      exact new
    · rw [zm c] at e
      refine (I.hok b u e).stay (fun _ _ _ q=>q) (fun c hc=>?_) fun c xs hc=>?_
      · rw [zm (zk hc ha)];exact hc
      · rw [zm (zk hc ha)];exact hc
end
end L2
namespace L2
open PySem PySem.Spec PyProof.Rows
noncomputable abbrev Cx.pinned (X:Cx)(ps:List (Addr × Obj)):Cx:={ X with pn:=X.pn++ps }
section
variable {X:Cx}{pins ps:List (Addr × Obj)}{σ:St}{H H':Hp}{s s':Shared}
theorem Cx.Ok.pinned (ok:X.Ok)(ps:List (Addr × Obj)):(X.pinned ps).Ok :=
  ⟨ok.mod,ok.kind,ok.glob,ok.blt,ok.above,ok.inj,ok.has,ok.cab,ok.hd,ok.frames,ok.stk,ok.exf,ok.bs,ok.bsz,ok.noex,ok.exfs,ok.funs,ok.frf⟩
theorem Inv.pinAll (I:Inv X pins σ H s):Inv (X.pinned pins) [] σ H s:=⟨I.ok.pinned pins,I.os,I.bare,I.base,I.loc,I.cell,I.free,I.freeC,fun p hp=>I.pin p (by rw [List.append_nil] at hp;exact hp),I.hok,I.len⟩
theorem Inv.unpin (ok:X.Ok)(I:Inv (X.pinned pins) ps σ H s):Inv X pins σ H s:=⟨ok,I.os,I.bare,I.base,I.loc,I.cell,I.free,I.freeC,fun p hp=>I.pin p (List.mem_append_left _ hp),I.hok,I.len⟩
end
noncomputable abbrev gone (i:Nat)(D:zae):zae:={ nx:=fun σ H=>D.nx (σ.set i none) H,rt:=D.rt,bk:=fun σ H=>D.bk (σ.set i none) H,ct:=fun σ H=>D.ct (σ.set i none) H }
noncomputable def exW (K:PySem.W.Frag)(CS:Addr)(i n:Nat)(u:TS)(D:zae):XK:=fun cls od H'=>∃ C,cls=.ref C∧PySem.W.exmOne K (.ref C) (.ref CS)=some true∧∀ (ea:Addr) (σ:St),σ.length=n→H' ea=none→u (gone i D) (σ.set i (some (.ref ea))) (upd H' ea (zcU ea C od))
theorem ziC {Y:Cx}{CS:Addr}{x n:Str}{i:Nat}{body suite:List Stmt}{b₀:Stmt}{pos hpos np:Pos}{tb:XK→TS}{u:TS}(hst:Y.stack=Y.env::Y.outer)(hf:Y.env.frame=some Y.env.locals)(hex:Y.ex=[])
    (hN:Y.N.Nodup) (hi:Y.N[i]?=some n) (hk:Y.env.scope.names.lookup n=some .local) (hg:Gl Y x) (hm:Y.mg x=some (.ref CS))
    (hbody:∀ (ps:List (Addr × Obj)) (W:Value→Shared→Prop) (E0:XK),Xs (Air Y.prog Y.w) ((Y.pinned ps).wish W) E0→PSs ((Y.pinned ps).wish W) body (tb E0))
    (hsuite:∀ ea,PSs (Y.held (.ref ea)).nox (b₀::suite) u) (hd:(x == ("__debug__":Str))=false:=by decide) :
    PS Y.nox (.Try body [.ExceptHandler (some (.Name x np)) (some n) (b₀::suite) hpos] [] [] pos) (fun D σ H=>tb (exW Y.K CS i Y.N.length u D) D σ H):=by
  intro pins s σ H D I h
  have ok:Y.Ok:=I.ok.unwish
  have IY:Inv Y pins σ H s:=I.unwish
  refine wpAny_Try_except ?_
  refine wpAny_mono (hbody pins _ (exW Y.K CS i Y.N.length u D) ?_ [] s σ H D (IY.pinAll.wish _) h) ?_ fun e s₁ h=>h
  · intro pins' σ' H1 s1 e s2 I1 a
    have I1':Inv Y pins σ' H1 s1:=I1.unwish.unpin ok
    refine zcE (X:=Y) hst hf hex I1' a fun ea C t od H' B h3 hE di3 hea h0 hpn fl hinv ee=>?_
    obtain ⟨C',ec,hsub,hu⟩:=hE
    cases ec
    have I3:Inv Y pins σ' H' { s2 with heap:=h3 }:=hinv h3 fl.1 fl.2.2.1 (.refl _)
    obtain ⟨ob,hob,hobc⟩:=fl.there
    have ty:PySem.W.Looks (model Y.prog Y.w) h3 (typeOf (.ref ea)) (.ref C):=hobc ▸ (PySem.W.Looks.ld hob).andThen .now
    refine wpAny_handleBy_cons (codeAny_handlers_test (Z9 (X:=Y.held (.ref ea)) (I3.held (.ref ea)) hg hm ?_ hd)) (by intro q;cases q)
    refine (PySem.W.exm_one (M:=model Y.prog Y.w) I3.kIn ty hsub).here ?_
    refine codeAny_handlers_suite_as ?_
    refine Xi (Y2 _ _) (wpAny_setFlight_noneW (Q:=fun _ s''=>∃ h4,s''={ s2 with heap:=h4 }∧B.StaysIn h4∧h4.FunFrames B Y.stack∧h4.TracedW B ea (.ref C) (.ref t)∧∀ b o,h3.get? b=some o→(∀ vs,o.data≠.fields vs)→h4.get? b=some o) (s:={ s2 with heap:=h3 }) fl.1 fl.2.2.1 fl.2.2.2.at fun h4 k1 k2 k3 k4=>⟨h4,rfl,k1,k2,k3,k4⟩) ?_
    rintro _ _ ⟨h4,rfl,k1,k2,k3,k4⟩ dk4
    have I4:Inv Y pins σ' H' { s2 with heap:=h4 }:=hinv h4 k1 k2 fun b o hb hn=>⟨o.slots,k4 b o hb hn⟩
    obtain ⟨oe,vs,_,_,_,he,hcl,hdv,_⟩:=k3
    obtain ⟨oe',he',hdi⟩:=di3.stay dk4 ⟨oe,he⟩
    rw [he] at he'
    cases he'
    have hnc:PySem.W.notCls oe=true:=by unfold PySem.W.notCls;rw [hdv]
    have I5:Inv Y pins σ' (upd H' ea (zcU ea C od)) { s2 with heap:=h4 }:=I4.track hea he hdv h0 hpn ⟨⟨oe,he,hcl.1,hdi,hnc⟩,⟨oe,he⟩,fun h1 h2 ⟨o1,e1,e2⟩ kk=>⟨o1,kk o1 e1,e2⟩⟩
    refine VJ (X:=Y.held (.ref ea)) (v:=.ref ea) (I5.held (.ref ea)) hN hi (.inl hk) rfl (fun s6 I6=>?_) (.inr hk)
    refine wpAny_mono (hsuite ea pins s6 _ _ (gone i D) (I6.wish _) (hu ea σ' I4.len hea)) (fun f s7 q=>?_) fun x s7 q=>q.elim
    cases f with
    | ret uv =>
      obtain ⟨v,σ7,H7,I7,rv,q⟩:=q
      exact Z0 ((Inv.unheld (X:=Y) ok I7.unwish)) hN hi hk fun s8 I8=>⟨v,_,H7,I8.wish _,rv,q⟩
    | next =>
      obtain ⟨σ7,H7,I7,q⟩:=q
      exact Z0 ((Inv.unheld (X:=Y) ok I7.unwish)) hN hi hk fun s8 I8=>⟨_,H7,I8.wish _,q⟩
    | brk =>
      obtain ⟨σ7,H7,I7,q⟩:=q
      exact Z0 ((Inv.unheld (X:=Y) ok I7.unwish)) hN hi hk fun s8 I8=>⟨_,H7,I8.wish _,q⟩
    | cont =>
      obtain ⟨σ7,H7,I7,q⟩:=q
      exact Z0 ((Inv.unheld (X:=Y) ok I7.unwish)) hN hi hk fun s8 I8=>⟨_,H7,I8.wish _,q⟩
  · intro f s₁ q
    cases f with
    | ret uv =>
      obtain ⟨v,σ7,H7,I7,rv,q⟩:=q
      exact ⟨v,σ7,H7,(Inv.unpin (X:=Y) ok I7.unwish).wish _,rv,q⟩
    | next =>
      obtain ⟨σ7,H7,I7,q⟩:=q
      exact wpAny_execs_nil ⟨σ7,H7,(Inv.unpin (X:=Y) ok I7.unwish).wish _,q⟩
    | brk =>
      obtain ⟨σ7,H7,I7,q⟩:=q
      exact ⟨σ7,H7,(Inv.unpin (X:=Y) ok I7.unwish).wish _,q⟩
    | cont =>
      obtain ⟨σ7,H7,I7,q⟩:=q
      exact ⟨σ7,H7,(Inv.unpin (X:=Y) ok I7.unwish).wish _,q⟩
end L2
namespace L2
open PySem PySem.Spec PyProof.Rows PySem.W PySem.Calls PySem.Builtin PySem.Builtin.Getset_descriptor
section
variable {prog:Program}{w:World}{A:Around}{E:Value→Shared→Prop}{K:PySem.W.Frag}{h:Heap}{g:Array GenState}{d:Drawn}{t:Nat}{os:OsState}{a C:Addr}{o:Obj}
noncomputable def Of (h:Heap)(a:Addr)(o:Obj)(C:Addr):Prop:=h.get? a=some o∧o.cls=.ref C
theorem Of.type {M:Model}(I:Of h a o C):Looks M h (typeOf (.ref a)) (.ref C):=I.2 ▸ (Looks.ld I.1).andThen .now
theorem zdF {M:Model} {name:Str} {x gt:Value} (X:K.In h) (ha:findIn K (.ref C) name=some (some x)) (hg:specialIn K x "__get__"=some (some gt)) (ht:takesIn K x=some true):Looks M h (Builtin.ObjectAttr.find (.ref a) (.ref C) name) (.bind gt x):=by
  have L1:=looks_findIn (M:=M) X ha
  have L2:Looks M h (Builtin.ObjectAttr.getOf (some x)) (some gt):=looks_specialIn X hg
  have L3:=looks_takesIn (M:=M) X ht
  exact L1.andThen (L2.andThen ((show Looks M h (Builtin.ObjectAttr.dataDescriptor? (some x) (some gt)) (some (gt,x)) from L3.andThen .now).andThen (Looks.tag .now)))
theorem zht {R:Result→Shared→Prop} {tp:Value} (X:K.In h) (I:Of h a o C) (hm:mroIn K C (.type "object")=some true) (hq:R (.ok (.ret (.ref C))) ⟨h,g,d,t,os⟩) :
    codeAny (model prog w) A (.call (.builtin "getset_descriptor.__get__") ⟨[.builtin "object.__class__",.ref a,tp],[]⟩) R ⟨h,g,d,t,os⟩:=by
  have L0:=I.type (M:=model prog w)
  have L1:=looks_mroIn (M:=model prog w) X hm
  refine codeAny_call_builtin KF.slot_gs.plain KF.entry_gs (KF.slot_gs.check _ _ _ _ _ _ _ _ KF.type_class (KF.args_gs _ _ _) ?_)
  unfold Builtin.«getset_descriptor.__get__» descrGet
  rw [dga_obj]
  refine wpAny_bind (wpAny_pure ?_)
  unfold descrGetter descrCheckInstance descrNameAndClass isInstance
  simp only [KF.owner_class]
  repeat lk
  refine ⟨Code.quiet_builtin _ (by decide +kernel),codeAny_builtin KF.entry_class ?_⟩
  unfold Builtin.«object.__class__» shownTypeOf
  repeat lk
  exact hq
theorem zcZ {tk:Tok} {Q:Fin→Shared→Prop} (X:K.In h) (I:Of h a o C) (ha:findIn K (.ref C) "__class__"=some (some (.builtin "object.__class__"))) (hn:specialIn K (.builtin "object.__class__") "__get__"=some (some (.builtin "getset_descriptor.__get__"))) (ht:takesIn K (.builtin "object.__class__")=some true) (hm:mroIn K C (.type "object")=some true)
    (hq:Q (.done (.ret (.ref C))) ⟨h,g,d,t,os⟩):wpAny (model prog w) A (Builtin.«object.__getattribute__» ⟨[.ref a,.str "__class__" tk],[]⟩) Q E ⟨h,g,d,t,os⟩:=by
  have L0:=I.type (M:=model prog w)
  have L1:=zdF (M:=model prog w) (a:=a) X ha hn ht
  refine wpAny_bind (wpAny_pure (wpAny_bind ?_))
  refine wpAny_pure (wpAny_bind (L0.at (wpAny_bind (L1.at ?_))))
  show wpAny _ _ (holding [.builtin "object.__class__"] (call (.builtin "getset_descriptor.__get__") [.builtin "object.__class__",.ref a,.ref C])>>=ret) _ _ _
  exact wpAny_bind (wpAny_holding (wpAny_call (zht X I hm (wpAny_pure hq))))
theorem zdK {M:Model} {nameV:Value} {Q:Unit→Shared→Prop} (X:K.In h) (I:Of h a o C) (hb:subIn K (.ref C) (.type "BaseException")=some true) (hq:Q () ⟨h,g,d,t,os⟩):wpAny M A (checkBuiltinCall "BaseException.__getattribute__" ⟨[.ref a,nameV],[]⟩) Q E ⟨h,g,d,t,os⟩:=by
  have hk:builtinKind "BaseException.__getattribute__"=some .slot:=by decide +kernel
  have hsplit:splitId "BaseException.__getattribute__"=some ("BaseException","__getattribute__"):=by decide +kernel
  have ha:=F.args_bexc_ga (.ref a) nameV
  have L0:=I.type (M:=M)
  have L1:Looks M h (isSubtype (.ref C) (.type "BaseException")) true:=looks_subIn X hb
  simp only [checkBuiltinCall,hk,hsplit]
  refine wpAny_bind ?_
  unfold isInstance
  refine wpAny_bind (L0.at (L1.at ?_))
  repeat (first | assumption | wp_step)
theorem zjM {tk:Tok} {Q:Value→Shared→Prop} (X:K.In h) (I:Of h a o C) (hga:findIn K (.ref C) "__getattribute__"=some (some (.builtin "BaseException.__getattribute__"))) (hgt:findIn K (.ref C) "__getattr__"=some none)
    (ha:findIn K (.ref C) "__class__"=some (some (.builtin "object.__class__"))) (hn:specialIn K (.builtin "object.__class__") "__get__"=some (some (.builtin "getset_descriptor.__get__"))) (ht:takesIn K (.builtin "object.__class__")=some true) (hm:mroIn K C (.type "object")=some true) (hb:subIn K (.ref C) (.type "BaseException")=some true) (hq:Q (.ref C) ⟨h,g,d,t,os⟩) :
    wpAny (model prog w) A (getAttrBy (.ref a) (.str "__class__" tk) false) Q E ⟨h,g,d,t,os⟩:=by
  have L0:=I.type (M:=model prog w)
  have L1:=looks_findIn (M:=model prog w) X hga
  have L2:=looks_findIn (M:=model prog w) X hgt
  have f3:=F.attrBase_ValueError.ga.bind (.ref a)
  have hx2:(Value.builtin "BaseException.__getattribute__" == Value.builtin "object.__getattribute__")=false:=by decide +kernel
  unfold getAttrBy
  refine wpAny_holding (wpAny_bind (L0.at (wpAny_bind (L1.at ?_))))
  dsimp only
  rw [hx2,Bool.and_false,if_neg Bool.false_ne_true]
  unfold getAttrByItsOwn
  refine wpAny_bind ?_
  show wpAny _ _ (typeLookup (.ref C) "__getattr__") _ _ _
  refine L2.at (wpAny_bind (wpAny_attempt (wpAny_holding ?_)))
  show wpAny _ _ (boundAndCalled (.builtin "BaseException.__getattribute__") (.ref a) (.str "__class__" tk)) _ _ _
  unfold boundAndCalled
  rw [f3]
  refine wpAny_bind (wpAny_pure ?_)
  refine wpAny_call (codeAny_call_builtin F.attrBase_ValueError.ga.plain F.entry_bexc_ga (zdK X I hb (zcZ X I ha hn ht hm ?_)))
  exact handed_on rfl hq
theorem zdl {Q:Option Value→Shared→Prop} {s:Shared} (X:K.In s.heap) (I:Of s.heap a o C) (hga:findIn K (.ref C) "__getattribute__"=some (some (.builtin "BaseException.__getattribute__"))) (hgt:findIn K (.ref C) "__getattr__"=some none)
    (ha:findIn K (.ref C) "__class__"=some (some (.builtin "object.__class__"))) (hn:specialIn K (.builtin "object.__class__") "__get__"=some (some (.builtin "getset_descriptor.__get__"))) (ht:takesIn K (.builtin "object.__class__")=some true) (hm:mroIn K C (.type "object")=some true) (hb:subIn K (.ref C) (.type "BaseException")=some true)
    (hq:Q (some (.ref C)) { s with toks:=s.toks+1 }):wpAny (model prog w) A (getAttr? (.ref a) "__class__") Q E s:=by
  obtain ⟨hh,g,d,t,os⟩:=s
  unfold getAttr? getAttrBy?
  exact wpAny_bind (wpAny_mkText (wpAny_bind (wpAny_attempt (zjM X I hga hgt ha hn ht hm hb (wpAny_pure hq)))))
noncomputable def vv (K:PySem.W.Frag) (C:Addr):Bool:=(clsIn K C).isSome&&findIn K (.ref C) "__getattribute__" == some (some (.builtin "BaseException.__getattribute__"))&&findIn K (.ref C) "__getattr__" == some none&&findIn K (.ref C) "__class__" == some (some (.builtin "object.__class__"))
  && specialIn K (.builtin "object.__class__") "__get__" == some (some (.builtin "getset_descriptor.__get__"))&&takesIn K (.builtin "object.__class__") == some true&&mroIn K C (.type "object") == some true&&subIn K (.ref C) (.type "BaseException") == some true
theorem zfd (q:vv K C=true):KitX K (.ref a) (.ref C) (fun h=>∃ o,Of h a o C):=by
  unfold vv at q
  simp only [Bool.and_eq_true,beq_iff_eq] at q
  obtain ⟨⟨⟨⟨⟨⟨⟨hcls,hga⟩,hgt⟩,ha⟩,hn⟩,ht⟩,hm⟩,hb⟩:=q
  obtain ⟨cd,hcd⟩:=Option.isSome_iff_exists.mp hcls
  unfold clsIn at hcd
  refine ⟨fun _ _ _ ⟨_,I⟩=>I.type,fun _ _ X _=>?_,fun h tp dd its n sl X htp=>?_,fun X ⟨_,I⟩ k=>zdl X I hga hgt ha hn ht hm hb k⟩
  · split at hcd
    · rename_i c' d' cd' sl' ho
      intro A' Q' E' s' k q
      unfold isType loadHead
      exact wpAny_bind (wpAny_loadPart (k _ _ (X _ _ ho)) (wpAny_pure q))
    · cases hcd
  · refine Bool.eq_false_iff.mpr fun q=>?_
    have e:C=tp:=Value.ref.inj (beq_iff_eq.mp q)
    subst e
    split at hcd
    · rename_i c' d' cd' sl' ho
      have z:=(X _ _ ho).symm.trans htp
      cases z
    · cases hcd
theorem WM {c:Value}{b:Bool}{s:Shared}{Q:Value→Shared→Prop}(q:vv K C=true)(X:K.In s.heap)(I:∃ o,Of s.heap a o C)(e:kitOne K (.ref C) c=some b)(hq:∀ tk,Q (.bool b) { s with toks:=tk }) :
    wpAny (model prog w) A (call (.builtin "isinstance") [.ref a,c]) Q E s:=kia_one (zfd q) X I e (by intro z;cases z) hq
end
end L2
namespace L2
open PySem PySem.Spec PyProof.Rows
section
variable {P:Program}{w:World}{K:PySem.W.Frag}{mg:Str→Option Value}{base:Heap}
noncomputable def zez (P:Program)(w:World)(K:PySem.W.Frag)(mg:Str→Option Value)(base:Heap)(k:Nat)(f:Addr)(fd:FuncData)(ps:List Str)(sp:Sp):Prop :=
  (∀ vs H Q E,sp vs H Q E→vs.length=ps.length)∧∀ (A:Around) (outer:List Env) (s:Shared) (H:Hp) (args:Args) (us:List Value) (vs:List V) (Q:VK) (E:XK) (ev:Value),v0 k A→zgZ P w K mg base A outer s H→BindsTo s fd args (ps.zip us)→xj vs us→sp vs H Q E →
    codeAny (model P w) (A.mark (some ev)) (.call (.ref f) args) (CR CX0 outer P w H s Q E) s
theorem zh6 {x qual:Str}{st:Stmt}{f:Addr}{fd:FuncData}{N ps:List Str}{k:Nat}{sp:Sp}(F:Fun K x qual st f fd)(S:zu N ps (ze st))(len:∀ vs H Q E,sp vs H Q E→vs.length=ps.length)
    (hbody:∀ (cdv:Value) (A:Around) (outer:List Env) (s:Shared) (H:Hp) (vs:List V) (Q:VK) (E:XK) (ev:Value),v0 k (A.deeper (envOfC qual (ze st) s.heap.objs.size f cdv))→sp vs H Q E →
      ∃ t,PSs ((YC CX0 P w K mg base N qual (ze st) f cdv A outer s H E).held ev).nox (zt st) t∧t { nx:=fun _ H'=>Q .non H',rt:=Q } (start N vs) H):zez P w K mg base (k+1) f fd ps sp:=by
  obtain ⟨oc,od,kV,doc,pm,an,cdv,ct,osl,rfl,lk,hcd⟩:=F.ex
  refine ⟨len,fun A outer s H args us vs Q E ev hr e0 hb r hsp=>?_⟩
  have KX:K.In s.heap:=e0.mod.kin.keeps fun b o e=>(e0.bs b o e).1
  have lim:s.heap.NoLimit:=e0.mod.nolimit.keeps fun b o e=>(e0.bs b o e).1
  refine codeAny_call_function (A:=A.mark (some ev)) hr.depth (KX _ _ lk) rfl S.co S.gen rfl (PySem.W.codeRec_of KX hcd) (hb _ _ _ _ ?_)
  refine wpAny_newFunctionEnv_cells S.kind (fun y hy=>?_) fun env he s1 x=>?_
  · rcases S.par y.1 (List.of_mem_zip (a:=y.1) (b:=y.2) hy).1 with q | q
    · exact .inl q
    · exact .inr ⟨q,PySem.W.cellsFrom_some _ _ _ (.inl q)⟩
  subst he
  refine ⟨lim.keeps x.toInCall.keep,codeAny_func ?_⟩
  obtain ⟨t,ht,hq⟩:=hbody cdv A outer s H vs Q E ev (hr.deeper _) hsp
  have I:Inv (YC CX0 P w K mg base N qual (ze st) f cdv A outer s H E) [] (start N vs) H s1:=V5 S hr.hd e0 (len _ _ _ _ hsp) r x
  refine wpAny_mono (ht [] s1 (start N vs) H _ ((I.held ev).wish _) hq) (fun fl s' hs=>?_) fun e s' hs=>hs.elim
  cases fl with
  | ret u =>
    obtain ⟨v,σ',H',J,rv,q⟩:=hs
    exact ⟨v,H',J.os,J.bare,J.base,J.hok,rv,q⟩
  | next =>
    obtain ⟨σ',H',J,q⟩:=hs
    exact ⟨V.non,H',J.os,J.bare,J.base,J.hok,rfl,q⟩
  | brk =>
    obtain ⟨_,_,_,q⟩:=hs
    exact False.elim q
  | cont =>
    obtain ⟨_,_,_,q⟩:=hs
    exact False.elim q
end
theorem zbC {Y:Cx}{ev:Value}{k:Nat}{f:Addr}{fd:FuncData}{ps:List Str}{sp:Sp}{x:Str}{p pos:Pos}{e:Expr}{es:List Expr}{t:TA}{E:XK}(F:zez Y.prog Y.w Y.K Y.mg Y.base k f fd ps sp)(hr:v0 k Y.A)(hg:Gl Y x)(hm:Y.mg x=some (.ref f))(hk:PySem.W.keepIn Y.K (.ref f)=true)(hb:XH Y.K fd ps [])(hok:Y.Ok)
    (ha:PA (Y.held ev).nox (e::es) t) (hdb:(x == ("__debug__":Str))=false:=by decide) (he:starEach (e::es) Y.env=(false,eval e Y.env)::starEach es Y.env:=by rfl) (hpl:(backTo pos (starEach es Y.env)).any (·.1)=false:=by rfl) :
    PE (Y.held ev).nox (.Call (.Name x p) (e::es) [] pos) (zhg sp [] E t):=by
  intro pins s σ H Q I h
  refine wpAny_Call_Name_kw (Z9 I hg hm ?_ hdb)
  refine PySem.W.callWith_K (h₀:=Y.base) I.ok.mod.kin hk (thn (ha pos pins s σ H _ I h) fun us s1 ⟨vs,H1,I1,r,q⟩=>⟨I1.kIn,?_⟩) he hpl
  have q:sp (vs++[]) H1 Q E:=q
  rw [List.append_nil] at q
  have I2:Inv Y pins σ H1 s1:=Inv.unheld (X:=Y) hok I1.unwish
  refine wpAny_call (codeAny_mono (F.2 Y.A Y.stack s1 H1 ⟨us,[]⟩ us vs Q E ev hr I2.env0 ?_ r q) fun r s' hq=>?_)
  · have:=hb s1 us I2.kIn (by rw [List.append_nil,← r.length];exact F.1 _ _ _ _ q)
    rwa [List.append_nil] at this
  · cases r with
    | error e=>exact False.elim hq
    | ok fl =>
      cases fl with
      | ret u=>exact I1.after hq
      | next=>exact False.elim hq
      | brk=>exact False.elim hq
      | cont=>exact False.elim hq
end L2
namespace L2
open PySem PySem.Spec PyProof.Rows PySem.SeqAt
theorem VL:∀ {bs:List Bool} {its:List Value},xj (bs.map V.bl) its→its=bs.map Value.bool
  | [],its,r=>by
    have:=r.length
    exact List.eq_nil_of_length_eq_zero (by rw [←this];rfl)
  | b::bs,its,r=>by
    cases r with
    | cons r1 r2 =>
      rw [VL r2]
      cases r1
      rfl
theorem zb2 {A:Around}{s:Shared}{bs:List Bool}{y:Value}(h:y∈(bs.map Value.bool).toArray):EqAt A s y (.bool true) (isBoolOf true y):=by
  obtain ⟨b,_,rfl⟩:=List.mem_map.mp (List.mem_toArray.mp h)
  exact EqAt.bool_bool b true
noncomputable def zey:V→List V→Hp→VK→Prop:=fun x vs H Q=>∃ (l:Addr) (bs:List Bool),x=.ref l∧vs=[.bl true]∧H l=some (.lst (bs.map V.bl))∧Q (.int ((bs.countP (· == true):Nat):Int)) H
theorem zdi {X:Cx}:MtR X "list.count" zey:=by
  intro pins s σ H x vs v us Q I rx rv h
  obtain ⟨l,bs,rfl,rfl,hH,q⟩:=h
  cases rx
  obtain ⟨u,rfl,ru⟩:=rv.one
  cases ru
  obtain ⟨its,r,pl,hz⟩:=I.list (SqL.of (K:=X.K) hH)
  have e:=VL r
  subst e
  obtain ⟨⟨cls,dd,data,sl⟩,ho,hc,n,hd⟩:=pl.isList
  simp only at hc hd
  subst hc hd
  refine call_meets PySem.F.slot_list_count ⟨_,ho,rfl⟩ PySem.F.entry_list_count (PySem.F.args_list_count_2 _ _) (list_countAt l (bs.map Value.bool).toArray n dd sl (.bool true) (isBoolOf true)) ⟨ho,fun y hy=>zb2 hy,?_⟩
  refine ⟨.int (((bs.map Value.bool).toArray.toList.countP (isBoolOf true):Nat):Int),H,I.tok _,⟨_,rfl⟩,?_⟩
  rw [show (bs.map Value.bool).toArray.toList=bs.map Value.bool from rfl,List.countP_map]
  exact q
noncomputable def zd1:V→List V→Hp→VK→Prop:=fun x vs H Q=>∃ (l:Addr) (bs:List Bool),x=.ref l∧vs=[.bl true]∧H l=some (.lst (bs.map V.bl))∧true∈bs∧Q (.int ((bs.idxOf true:Nat):Int)) H
theorem zdC {X:Cx}:MtR X "list.index" zd1:=by
  intro pins s σ H x vs v us Q I rx rv h
  obtain ⟨l,bs,rfl,rfl,hH,hm,q⟩:=h
  cases rx
  obtain ⟨u,rfl,ru⟩:=rv.one
  cases ru
  obtain ⟨its,r,pl,hz⟩:=I.list (SqL.of (K:=X.K) hH)
  have e:=VL r
  subst e
  obtain ⟨⟨cls,dd,data,sl⟩,ho,hc,n,hd⟩:=pl.isList
  simp only at hc hd
  subst hc hd
  have hj:bs.idxOf true < bs.length:=List.idxOf_lt_length_iff.mpr hm
  have hl63:=WY
  have hb:bs.length≤sizeLine:=by simpa using hz
  refine call_meets PySem.F.slot_list_index ⟨_,ho,rfl⟩ PySem.F.entry_list_index (PySem.F.args_list_index_2 _ _) (list_indexAt l (bs.map Value.bool).toArray n dd sl (.bool true) (isBoolOf true) (bs.idxOf true) (by simpa using hj) (by omega) ?_ ?_) ⟨ho,fun y hy=>zb2 hy,⟨.int ((bs.idxOf true:Nat):Int),H,I.tok _,⟨_,rfl⟩,q⟩⟩
  · simp only [List.getElem_toArray,List.getElem_map]
    rw [List.getElem_idxOf hj]
    rfl
  · intro m hm2 hlt
    simp only [List.getElem_toArray,List.getElem_map]
    exact List.not_of_lt_findIdx (p:=(· == true)) (xs:=bs) hlt
end L2
namespace L2
open PySem PySem.Spec PyProof.Rows
noncomputable def clsV:V→Option Value
  | .ref C=>some (.ref C)
  | .ty T=>some (.type T)
  | _=>none
noncomputable def zke (K:PySem.W.Frag):List V→Hp→VK→Prop:=fun vs H Q=>∃ (a C:Addr) (od:Option Addr) (v:V) (c:Value) (b:Bool),vs=[.ref a,v]∧H a=some (zcU a C od)∧vv K C=true∧clsV v=some c∧PySem.W.kitOne K (.ref C) c=some b∧Q (.bl b) H
theorem xv {X:Cx}:Zx X (.builtin "isinstance") (zke X.K):=by
  intro pins s σ H vs us Q I rv h
  obtain ⟨a,C,od,v,c,b,rfl,hH,hl,hc,hk,q⟩:=h
  obtain ⟨u1,u2,rfl,r1,r2⟩:∃ u1 u2,us=[u1,u2]∧xw (.ref a) u1∧xw v u2:=by
    cases rv with
    | cons r1 r=>cases r with
      | cons r2 r=>cases r;exact ⟨_,_,rfl,r1,r2⟩
  cases r1
  have e2:u2=c:=by
    cases v <;> try cases hc
    · cases r2;rfl
    · cases r2;rfl
  subst e2
  obtain ⟨⟨oe,h1,h2,_⟩,_⟩:=I.hok a _ hH
  exact WM hl I.kIn ⟨oe,h1,h2⟩ hk fun tk=>⟨.bl b,H,I.tok tk,rfl,q⟩
theorem zbZ {K:PySem.W.Frag}{σ:St}{H:Hp}{a C:Addr}{od:Option Addr}{v:V}{c:Value}{b:Bool}{Q:VK}(h0:σ[0]?=some (some (.ref a)))(hH:H a=some (zcU a C od))(hl:vv K C=true)(hc:clsV v=some c)(hk:PySem.W.kitOne K (.ref C) c=some b)(q:Q (.bl b) H) :
    tCB (zke K) (XG (Vb 0) (XG (tC v) zfx)) σ H Q:=⟨.ref a,h0,⟨a,C,od,v,c,b,rfl,hH,hl,hc,hk,q⟩⟩
end L2
namespace Dl
open PySem L2
variable [KK]
section
variable {E:XK}{cl:Nat→Addr}{X:Cx}{e:Expr}{es:List Expr}
end
end Dl
namespace L2
open PySem PySem.Spec PyProof.Rows
noncomputable def zci (n j:Nat):List Bool:=(List.range n).map fun i=>i == j
noncomputable def WT (K:PySem.W.Frag) (cs:List Addr) (CS C:Addr) (j:Nat):Bool:=vv K C&&(PySem.W.kitOne K (.ref C) (.type "ValueError") == some true)&&(PySem.W.exmOne K (.ref C) (.ref CS) == some true)&&(cs.map (fun c=>PySem.W.kitOne K (.ref C) (.ref c)) == (zci cs.length j).map some)
set_option genInjectivity false in
set_option genSizeOf false in
set_option genCtorIdx false in
structure zca (K:PySem.W.Frag) (cs:List Addr) (CS C:Addr) (j:Nat):Prop where
  look:vv K C=true
  val:PySem.W.kitOne K (.ref C) (.type "ValueError")=some true
  exm:PySem.W.exmOne K (.ref C) (.ref CS)=some true
  hot:cs.map (fun c=>PySem.W.kitOne K (.ref C) (.ref c))=(zci cs.length j).map some
theorem zca.of {K:PySem.W.Frag}{cs:List Addr}{CS C:Addr}{j:Nat}(h:WT K cs CS C j=true):zca K cs CS C j:=by
  unfold WT at h
  simp only [Bool.and_eq_true,beq_iff_eq] at h
  exact ⟨h.1.1.1,h.1.1.2,h.1.2,h.2⟩
section
variable {K:PySem.W.Frag}{σ:St}{H H0:Hp}{a C:Addr}{od:Option Addr}
noncomputable def tIs (K:PySem.W.Frag):List Addr→TA
  | []=>zfx
  | c::r=>XG (tCB (zke K) (XG (Vb 0) (XG (tC (.ref c)) zfx))) (tIs K r)
theorem zgT (h0:σ[0]?=some (some (.ref a)))(hH:H a=some (zcU a C od))(hl:vv K C=true):∀ (cs:List Addr) (bs:List Bool) (Q:List V→Hp→Prop),cs.map (fun c=>PySem.W.kitOne K (.ref C) (.ref c))=bs.map some→Q (bs.map V.bl) H→tIs K cs σ H Q:=by
  intro cs
  induction cs with
  | nil =>
    intro bs Q e q
    cases bs with
    | nil=>exact q
    | cons b r=>cases e
  | cons c r ih =>
    intro bs Q e q
    cases bs with
    | nil=>cases e
    | cons b bs =>
      obtain ⟨e1,e2⟩:=List.cons.inj e
      exact zbZ h0 hH hl rfl e1 (ih bs _ e2 q)
structure KSt (H0:Hp) (a C:Addr) (od:Option Addr) (bs:List Bool) (σ:St) (H:Hp):Prop where
  same:yJ H0 H
  len:σ.length=2
  e0:σ[0]?=some (some (.ref a))
  he:H a=some (zcU a C od)
  lst:∃ p,σ[1]?=some (some (.ref p))∧H p=some (.lst (bs.map V.bl))
theorem zc1 {bs:List Bool}{p:Addr}(s:yJ H0 H)(hl:σ.length=2)(e0:σ[0]?=some (some (.ref a)))(he:H a=some (zcU a C od))(hp:H p=none):KSt H0 a C od bs (σ.set 1 (some (.ref p))) (upd H p (.lst (bs.map V.bl))):=by
  refine ⟨fun b o e=>?_,by rw [List.length_set];exact hl,?_,?_,p,?_,zn⟩
  · have:=s b o e
    rw [zm (zk this hp)];exact this
  · rw [List.getElem?_set_ne (by decide)];exact e0
  · rw [zm (zk he hp)];exact he
  · rw [List.getElem?_set_self (by omega)]
theorem zcY {cs:List Addr}{bs:List Bool}{D:zae}(hk:vv K C=true)(e:cs.map (fun c=>PySem.W.kitOne K (.ref C) (.ref c))=bs.map some)(hb:bs.length≤sizeLine)(hl:σ.length=2)(e0:σ[0]?=some (some (.ref a)))(he:H a=some (zcU a C od))(k:∀ σ' H',KSt H a C od bs σ' H'→D.nx σ' H') :
    zj9 (zj8 (tIs K cs)) (V7 1) D σ H :=
  zgT e0 he hk cs bs _ e ⟨by rw [List.length_map];exact hb,fun p hp=>k _ _ (zc1 (.refl _) hl e0 he hp)⟩
theorem VH {cs:List Addr}{bs0 bs:List Bool}{D:zae}(hk:vv K C=true)(e:cs.map (fun c=>PySem.W.kitOne K (.ref C) (.ref c))=bs.map some)(hb:bs0.length+bs.length≤sizeLine)(S:KSt H0 a C od bs0 σ H)(k:∀ σ' H',KSt H0 a C od (bs0++bs) σ' H'→D.nx σ' H') :
    zj9 (tOp zkt (Vb 1) (zj8 (tIs K cs))) (V7 1) D σ H:=by
  obtain ⟨p,e1,hp⟩:=S.lst
  refine ⟨.ref p,e1,zgT S.e0 S.he hk cs bs _ e ⟨by rw [List.length_map];omega,fun q hq=>?_⟩⟩
  refine ⟨p,q,bs0.map V.bl,bs.map V.bl,rfl,rfl,by rw [zm (zk hp hq)];exact hp,zn,by rw [List.length_map,List.length_map];exact hb,fun r hr=>?_⟩
  rw [←List.map_append]
  refine k _ _ (zc1 (fun b o e=>?_) S.len S.e0 ?_ hr)
  · have:=S.same b o e
    rw [zm (zk this hq)];exact this
  · rw [zm (zk S.he hq)];exact S.he
theorem zdk:∀ j:Nat,j < 13→(zci 13 j).countP (· == true)=1∧(zci 13 j).idxOf true=j∧true∈zci 13 j:=by decide +kernel
theorem zg8 {j:Nat} {D:zae} {tr:TS} (hv:PySem.W.kitOne K (.ref C) (.type "ValueError")=some true) (hk:vv K C=true) (hj:j < 13) (S:KSt H0 a C od (zci 13 j) σ H) (k:D.rt (.int j) H) :
    zki (zkI (tOr (tNot (tB (tCB (zke K) (XG (Vb 0) (XG (tC (.ty "ValueError")) zfx))))) (zf6 (tOp rNe (tBM K "list" zey (Vb 1) (XG (tC (.bl true)) zfx)) (tC (.int 1))))) tr zhM) (zkq (tBM K "list" zd1 (Vb 1) (XG (tC (.bl true)) zfx))) D σ H:=by
  obtain ⟨h1,h2,h3⟩:=zdk j hj
  obtain ⟨p,e1,hp⟩:=S.lst
  refine zbZ S.e0 S.he hk rfl hv ⟨true,rfl,?_⟩
  show (if (!true)=true then _ else _)
  rw [if_neg (by decide)]
  refine ⟨.ref p,e1,.inl ⟨rfl,_,SqL.of hp⟩,p,_,rfl,rfl,hp,?_⟩
  rw [h1]
  refine ⟨rfl,false,by rw [Vf];rfl,?_⟩
  show (if false=true then _ else _)
  rw [if_neg (by decide)]
  refine ⟨.ref p,e1,.inl ⟨rfl,_,SqL.of hp⟩,p,_,rfl,rfl,hp,h3,?_⟩
  rw [h2]
  exact k
end
noncomputable def zdN (cl:Nat→Addr)(ok:Nat→Prop):Sp:=fun vs H Q _=>∃ a j od,vs=[.ref a]∧H a=some (zcU a (cl j) od)∧ok j∧∀ H',yJ H H'→Q (.int (j:Nat)) H'
noncomputable def tXA (K:PySem.W.Frag)(ta:TE)(f:Str):TE:=fun σ H Q=>ta σ H fun x H1=>∃ a C dx fs v,x=.ref a∧H1 a=some (zcU a C (some dx))∧H1 dx=some (.xd fs)∧wZ K C∧ZW K C f∧fs.lookup f=some v∧Q v H1
theorem ziG {X:Cx}{e:Expr}{ta:TE}{f:Str}{pos:Pos}(he:PE X e ta)(hb:attributeBase e f X.env (eval e X.env)=eval e X.env):PE X (.Attribute e f pos) (tXA X.K ta f):=by
  intro pins s σ H Q I h
  refine zhC hb (thn (he pins s σ H _ I h) fun u s1 hh9=>?_)
  obtain ⟨x,H1,I1,rx,a,C,dx,fs,v,ex,ea,ed,hx,n,l,q⟩:=hh9
  subst ex
  obtain rfl:u=Value.ref a:=rx
  obtain ⟨⟨oe,h1,h2,h3,h4⟩,_⟩:=I1.hok a _ ea
  obtain ⟨mA,hn,hr⟩:=I1.hok dx _ ed
  obtain ⟨od,g1,g2⟩:=zac hn
  obtain ⟨u,hu,ru⟩:=zbR.some_of (v:=v) (o:=mA f) (by rw [←l];exact hr f)
  have II:PySem.W.InstAt s1.heap a oe C (some od):=⟨h1,h2,h4,by rw [h3];exact g1⟩
  obtain ⟨cd,hc,_,hh⟩:=hx.cls
  have hf:PySem.W.findObj X.K C (some od) f=some (.value u):=by
    unfold PySem.W.findObj
    rw [hc,Option.bind_some,show PySem.W.findIn X.K (.ref C) f=some none from n]
    show ((PySem.W.ownOf cd (some od) f).bind _)=_
    unfold PySem.W.ownOf
    rw [hh,if_pos rfl]
    dsimp only
    rw [g2,hu]
    rfl
  exact zhd I1.kIn II hx hf (zdJ ru) ⟨v,H1,I1.tok _,ru,q⟩
theorem PS.nox {X:Cx}{st:Stmt}{t:TS}(h:PS X.nox st t):PS X st t:=fun pins s σ H D I hw =>
  wpAny_mono (h pins s σ H D (I.wish _) hw) (fun _ _ q=>q.unwish) fun _ _ z=>False.elim z
end L2
namespace Dl
open PySem L2
variable [KK]
theorem SD.nox {X:Cx}{st:Stmt}{g:SE→Ctl}(h:SD X.nox st g):SD X st g:=let ⟨t,p,r⟩:=h;⟨t,p.nox,r⟩
noncomputable def xEx (fx:Ev→Option Nat):SE→Option Nat:=fun ρ=>fx (visG ρ)
theorem vo {E:XK}{cl:Nat→Addr}{X:Cx}{sts:List Stmt}:XSs E cl X sts xNo:=⟨fun _ _ _=>False,fun _ _ _ _ _ _ h=>h.elim,fun _ _ _ _ _ _ _ _ _ h _=>by cases h⟩
theorem Gr.more {F H H':Hp}(s:yJ F H)(k:yJ H H'):Gr F H F H':=⟨yJ.refl _,s.trans k,fun p o e1 e2=>⟨.inl e1,k p o e2⟩⟩
noncomputable def zig (gx:SE→Option Nat)(g:SE→Ctl)(h:Nat→Option D):SE→Ctl:=fun ρ=>match gx ρ with
  | some j=>match h j with
    | some d=>.rt d
    | none=>.no
  | none=>g ρ
noncomputable def Vt (H:Hp)(j:Nat)(od:Option Addr):Prop:=match pay j with
  | none=>od=none
  | some fs=>∃ dx,od=some dx∧H dx=some (.xd fs)
theorem Vt.mono {H H':Hp}{j:Nat}{od:Option Addr}(h:Vt H j od)(s:yJ H H'):Vt H' j od:=by
  unfold Vt at h ⊢
  cases e:pay j with
  | none=>rw [e] at h;exact h
  | some fs=>rw [e] at h;obtain ⟨dx,e1,e2⟩:=h;exact ⟨dx,e1,s _ _ e2⟩
structure Est (cl:Nat→Addr) (i j:Nat) (σ:St) (H:Hp) (a:Addr) (od:Option Addr):Prop where
  sl:σ[i]?=some (some (.ref a))
  he:H a=some (zcU a (cl j) od)
  pa:Vt H j od
theorem Est.mono {cl:Nat→Addr}{i j:Nat}{σ:St}{H H':Hp}{a:Addr}{od:Option Addr}(h:Est cl i j σ H a od)(s:yJ H H'):Est cl i j σ H' a od:=⟨h.sl,s _ _ h.he,h.pa.mono s⟩
noncomputable def RU (cl:Nat→Addr)(i:Nat)(u:TS)(h:Nat→Option D):Prop:=∀ (j:Nat) (d:D) (σ:St) (H:Hp) (a:Addr) (od:Option Addr) (D':zae),h j=some d→Est cl i j σ H a od→(∀ H' v,(∀ F,yJ F H→∃ F',Gr F H F' H'∧At F' d v)→D'.rt v H')→u D' σ H
theorem zjj {Y:Cx}{CS:Addr}{x n:Str}{i:Nat}{body suite:List Stmt}{b₀:Stmt}{pos hpos np:Pos}{cl:Nat→Addr}{g:SE→Ctl}{gx:SE→Option Nat}{u:TS}{h:Nat→Option D}(hst:Y.stack=Y.env::Y.outer)(hf:Y.env.frame=some Y.env.locals)(hex:Y.ex=[])
    (hN:Y.N.Nodup) (hi:Y.N[i]?=some n) (hk:Y.env.scope.names.lookup n=some .local) (hg:Gl Y x) (hm:Y.mg x=some (.ref CS))
    (hbx:∀ (ps:List (Addr × Obj)) (W:Value→Shared→Prop) (E0:XK),Xs (Air Y.prog Y.w) ((Y.pinned ps).wish W) E0→XSs E0 cl ((Y.pinned ps).wish W) body gx)
    (hb:∀ (ps:List (Addr × Obj)) (W:Value→Shared→Prop),SDs ((Y.pinned ps).wish W) body g)
    (hexm:∀ j d,h j=some d→PySem.W.exmOne Y.K (.ref (cl j)) (.ref CS)=some true)
    (hsuite:Y.Ok→∀ ea,PSs (Y.held (.ref ea)).nox (b₀::suite) u) (hu:RU cl i u h) (hd:(x == ("__debug__":Str))=false:=by decide) :
    SD Y.nox (.Try body [.ExceptHandler (some (.Name x np)) (some n) (b₀::suite) hpos] [] [] pos) (zig gx g h):=by
  let tb:XK→TS:=fun E0 D σ H=>∀ (ps:List (Addr × Obj)) (W:Value→Shared→Prop),Xs (Air Y.prog Y.w) ((Y.pinned ps).wish W) E0→∃ t,PSs ((Y.pinned ps).wish W) body t∧t D σ H
  refine ⟨fun D σ H=>tb (exW Y.K CS i Y.N.length u D) D σ H,fun pins s σ H D I hq=>?_,fun Fb Hb F H ρ σ D rl k=>?_⟩
  · refine ziC (tb:=tb) hst hf hex hN hi hk hg hm (fun ps W E0 hP pins s σ H D I hq=>?_) (hsuite I.ok.unwish) hd pins s σ H D I hq
    obtain ⟨t,p,ht⟩:=hq ps W hP
    exact p pins s σ H D I ht
  · intro ps W hP
    unfold zig at k
    cases e:gx ρ with
    | none =>
      rw [e] at k
      obtain ⟨t,p,r⟩:=hb ps W
      exact ⟨t,p,r Fb Hb F H ρ σ D rl k⟩
    | some j =>
      rw [e] at k
      dsimp only at k
      cases e2:h j with
      | none=>rw [e2] at k;exact k.elim
      | some d =>
        rw [e2] at k
        obtain ⟨t,p,r⟩:=hbx ps W _ hP
        refine ⟨t,p,r Fb Hb F H ρ σ D j rl e fun F' H' gr=>?_⟩
        have go:∀ (od:Option Addr) (H0:Hp),yJ H' H0→Vt H0 j od→exW Y.K CS i Y.N.length u D (.ref (cl j)) od H0:=fun od H0 sm pa=>⟨_,rfl,hexm j d e2,fun ea σ' hl hn=>by
          have hi':i < σ'.length:=by
            rw [hl]
            exact (List.getElem?_eq_some_iff.mp hi).1
          have sm0:yJ H0 (upd H0 ea (zcU ea (cl j) od)):=fun b o q=>by rw [zm (zk q hn)];exact q
          refine hu j d _ _ ea od _ e2 ⟨by rw [List.getElem?_set_self hi'],zn,pa.mono sm0⟩ fun H'' v av=>?_
          obtain ⟨F2,g2,a2⟩:=av F' (gr.fh.trans (sm.trans sm0))
          exact k F2 H'' v ((gr.trans (Gr.more gr.fh (sm.trans sm0))).trans g2) a2⟩
        unfold EJ
        cases ep:pay j with
        | none=>exact go none H' (yJ.refl _) (by unfold Vt;rw [ep])
        | some fs=>exact fun dx hdx=>go (some dx) _ (fun b o q=>by rw [zm (zk q hdx)];exact q) (by unfold Vt;rw [ep];exact ⟨dx,rfl,zn⟩)
noncomputable def SX (cl:Nat→Addr)(i:Nat)(t:TE)(f:Nat→Option D):Prop:=∀ (j:Nat) (d:D) (σ:St) (H:Hp) (a:Addr) (od:Option Addr) (Q:VK),f j=some d→Est cl i j σ H a od→(∀ H' v,yJ H H'→(∀ F,At F d v)→Q v H')→t σ H Q
noncomputable def SXA (cl:Nat→Addr)(i:Nat)(t:TA)(f:Nat→Option (List D)):Prop:=∀ (j:Nat) (ds:List D) (σ:St) (H:Hp) (a:Addr) (od:Option Addr) (Q:List V→Hp→Prop),f j=some ds→Est cl i j σ H a od→(∀ H' vs,yJ H H'→(∀ F,AtL F ds vs)→Q vs H')→t σ H Q
section
variable {cl:Nat→Addr}{i:Nat}
noncomputable def fK (js:List Nat):Nat→Option D:=fun j=>if j % 16∈js then some (.int (j % 16:Nat)) else none
theorem zce {js:List Nat}{E:XK}{ok:Nat→Prop}(hcl:∀ j,cl j=cl (j % 16))(hok:∀ j,j∈js→ok j):SX cl i (zhg (zdN cl ok) [] E (XG (Vb i) zfx)) (fK js):=by
  intro j d σ H a od Q e es k
  unfold fK at e
  split at e <;> try cases e
  rename_i hj
  refine ⟨.ref a,es.sl,a,j % 16,od,rfl,?_,hok _ hj,fun H' sm=>k H' _ sm fun F=>.int⟩
  rw [←hcl j]
  exact es.he
noncomputable def fA (f:Str)(js:List Nat):Nat→Option D:=fun j=>if j % 16∈js then (pay j).bind fun fs=>match fs.lookup f with
  | some (.int n)=>some (.int n)
  | _=>none
  else none
theorem zex {K:PySem.W.Frag}{f:Str}{js:List Nat}(hx:∀ j,j % 16∈js→wZ K (cl j)∧ZW K (cl j) f):SX cl i (tXA K (Vb i) f) (fA f js):=by
  intro j d σ H a od Q e es k
  unfold fA at e
  split at e <;> try cases e
  rename_i hj
  obtain ⟨fs,e1,e2⟩:=Option.bind_eq_some_iff.mp e
  have pa:=es.pa
  unfold Vt at pa
  rw [e1] at pa
  obtain ⟨dx,rfl,hdx⟩:=pa
  split at e2 <;> cases e2
  rename_i n hl
  exact ⟨.ref a,es.sl,a,_,dx,fs,.int n,rfl,es.he,hdx,(hx j hj).1,(hx j hj).2,hl,k H _ (yJ.refl _) fun F=>.int⟩
theorem zdr:SXA cl i zfx (fun _=>some []):=fun j d σ H a od Q e es k=>by
  cases e
  exact k H _ (yJ.refl _) fun F=>.nil
noncomputable def V1 (f:Nat→Option D)(g:Nat→Option (List D)):Nat→Option (List D):=fun j=>(f j).bind fun d=>(g j).bind fun ds=>some (d::ds)
theorem Va {t:TE}{u:TA}{f:Nat→Option D}{g:Nat→Option (List D)}(h:SX cl i t f)(h2:SXA cl i u g):SXA cl i (XG t u) (V1 f g):=fun j d σ H a od Q e es k=>by
  obtain ⟨x,e1,e2⟩:=Option.bind_eq_some_iff.mp e
  obtain ⟨xs,e3,e4⟩:=Option.bind_eq_some_iff.mp e2
  cases e4
  exact h j x σ H a od _ e1 es fun H1 v s1 a1=>h2 j xs σ H1 a od _ e3 (es.mono s1) fun H2 vs s2 a2=>k H2 _ (s1.trans s2) fun F=>.cons (a1 F) (a2 F)
noncomputable def zih (f:Nat→Option (List D)):Nat→Option D:=fun j=>(f j).bind fun ds=>if ds.length≤1000 then some (.lst ds) else none
theorem zgv {t:TA}{f:Nat→Option (List D)}(h:SXA cl i t f):RU cl i (zkq (zj8 t)) (zih f):=fun j d σ H a od D' e es k=>by
  obtain ⟨ds,e1,e2⟩:=Option.bind_eq_some_iff.mp e
  split at e2 <;> cases e2
  rename_i hz
  refine h j ds σ H a od _ e1 es fun H' vs sm av=>⟨?_,fun p hp=>k _ _ fun F s=>?_⟩
  · rw [(av H).length]
    exact Nat.le_of_lt (YK hz)
  · have s2:=s.trans sm
    exact ⟨_,(Gr.more s sm).trans (Gr.alloc s2 hp _),At.lst zn (av _)⟩
noncomputable def zeo (f:Nat→Option D)(c:Int)(h1 h2:Nat→Option D):Nat→Option D:=fun j=>match f j with
  | some (.int n)=>if n=c then h1 j else h2 j
  | _=>none
theorem zkO {t:TE}{f:Nat→Option D}{c:Int}{u1 u2:TS}{h1 h2:Nat→Option D}(h:SX cl i t f)(k1:RU cl i u1 h1)(k2:RU cl i u2 h2):RU cl i (zki (zkI (zf6 (tOp rEq t (tC (.int c)))) u1 zhM) u2) (zeo f c h1 h2):=fun j d σ H a od D' e es k=>by
  unfold zeo at e
  split at e <;> try cases e
  rename_i n hn
  refine h j _ σ H a od _ hn es fun H' v sm av=>?_
  cases (av H).int_inv
  have back:∀ H2 w,(∀ F,yJ F H'→∃ F',Gr F H' F' H2∧At F' d w)→D'.rt w H2:=fun H2 w q=>k H2 w fun F s=>by
    obtain ⟨F',g,a'⟩:=q F (s.trans sm)
    exact ⟨F',(Gr.more s sm).trans g,a'⟩
  refine ⟨rfl,decide (n=c),by rw [Vf];rfl,?_⟩
  by_cases hc:n=c
  · rw [if_pos hc] at e
    rw [if_pos (by rw [decide_eq_true hc])]
    exact k1 j d σ H' a od _ e (es.mono sm) back
  · rw [if_neg hc] at e
    rw [if_neg (by rw [decide_eq_false hc];decide)]
    exact k2 j d σ H' a od _ e (es.mono sm) back
end
end Dl
namespace L2
open PySem PySem.Spec PyProof.Rows
noncomputable def zaL (a C t:Addr)(od:Option Addr):HO:=.ext fun h=>∃ sl,h.get? a=some { cls:=.ref C,dict:=od,data:=.fields #[.ref t,.none,.none,.none,.bool false,.none],slots:=sl }
section
variable {X:Cx}{pins:List (Addr × Obj)}{σ:St}{H:Hp}{s:Shared}{h':Heap}{a C t dx:Addr}{f:Str}
theorem zbu {P:Program}{w:World}{H:Hp}{h:Heap}{od:Option Addr}{sl:Array (Option Value)}(e:h.get? a=some { cls:=.ref C,dict:=od,data:=.fields #[.ref t,.none,.none,.none,.bool false,.none],slots:=sl }):xf P w H h a (zaL a C t od) :=
  ⟨⟨sl,e⟩,⟨_,e⟩,fun h1 h2 ⟨sl,z⟩ k=>⟨sl,k _ z⟩⟩
theorem Inv.two {φ:Heap→Prop}{o1 o2:HO}{t':Nat}(I:Inv X pins σ H s)(ha:H a=some (.ext φ))(nice:∀ o,H dx=some o→∃ fs,o=.xd fs)(old:∀ o,s.heap.get? dx=some o→H dx≠none)(ne:a≠dx)(k:∀ b o,b≠a→b≠dx→s.heap.get? b=some o→h'.get? b=some o)
    (n1:xf X.prog X.w (upd (upd H dx o2) a o1) h' a o1) (n2:xf X.prog X.w (upd (upd H dx o2) a o1) h' dx o2):Inv X pins σ (upd (upd H dx o2) a o1) { s with heap:=h',toks:=t' }:=by
  have other:∀ b u,H b=some u→(∀ ψ,u≠.ext ψ)→(∀ fs,u≠.xd fs)→upd (upd H dx o2) a o1 b=some u:=fun b u e n1 n2=>by
    have x1:b≠a:=fun z=>by subst z;rw [ha] at e;cases e;exact n1 _ rfl
    have x2:b≠dx:=fun z=>by subst z;obtain ⟨fs,rfl⟩:=nice u e;exact n2 _ rfl
    rw [zm x1,zm x2];exact e
  have free:∀ b o,s.heap.get? b=some o→H b=none→b≠a∧b≠dx:=fun b o e n=>⟨fun z=>by (subst z;rw [ha] at n;cases n),fun z=>by (subst z;exact old o e n)⟩
  refine I.un ⟨fun b o e n _ _=>k b o (free b o e n).1 (free b o e n).2 e,fun b o e n _ _=>⟨o.slots,k b o (free b o e n).1 (free b o e n).2 e⟩,fun b o e n _=>by rw [zm (free b o e n).1,zm (free b o e n).2];exact n,fun b o e _=>?_,
    fun b xs e=>other b _ e (fun _ z=>by cases z) (fun _ z=>by cases z),fun b o u e=>other b _ e (fun _ z=>by cases z) (fun _ z=>by cases z),fun b ps e=>⟨#[],by rw [Array.append_empty];exact other b _ e (fun _ z=>by cases z) (fun _ z=>by cases z)⟩⟩ fun b u e=>?_
  · by_cases x1:b=a
    · subst x1;exact n1.ex
    · by_cases x2:b=dx
      · subst x2;exact n2.ex
      · exact ⟨o,k b o x1 x2 e⟩
  · by_cases x1:b=a
    · subst x1;rw [zn] at e;cases e;exact n1
    · rw [zm x1] at e
      by_cases x2:b=dx
      · subst x2;rw [zn] at e;cases e;exact n2
      · rw [zm x2] at e
        refine (I.hok b u e).stay (fun c v hc q=>?_) (fun c hc=>other c _ hc (fun _ z=>by cases z) fun _ z=>by cases z) fun c xs hc=>other c _ hc (fun _ z=>by cases z) fun _ z=>by cases z
        rcases hc with rfl | hc
        · exact k _ v x1 x2 q
        · refine k c v (fun z=>?_) (fun z=>?_) q
          · subst z;rw [ha] at hc;cases hc
          · subst z;obtain ⟨fs,z⟩:=nice _ hc;cases z
theorem zkz {A:Around}{E:Value→Shared→Prop}{y:V}{u:Value}{Q:Unit→Shared→Prop}(I:Inv X pins σ H s)(e:H a=some (zaL a C t none))(hx:wZ X.K C)(n:ZW X.K C f)(ry:xw y u)
    (h:∀ dx s',H dx=none→Inv X pins σ (upd (upd H dx (.xd [(f,y)])) a (zaL a C t (some dx))) s'→Q () s'):wpAny (model X.prog X.w) A (setAttr (.ref a) f u) Q E s:=by
  obtain ⟨⟨sl,ea⟩,_⟩:=I.hok a _ e
  refine zfP I.kIn ea rfl rfl rfl hx n fun h' e1 e2 e3=>h s.heap.objs.size _ (I.hok.fresh (Nat.le_refl _)) ?_
  have ne:a≠s.heap.objs.size:=Nat.ne_of_lt (Heap.lt_size ea)
  refine I.two e (fun o z=>by rw [I.hok.fresh (Nat.le_refl _)] at z;cases z) (fun o z=>absurd (Heap.lt_size z) (Nat.lt_irrefl _)) ne (fun b o hb _ z=>e3 b o hb z) (zbu (sl:=sl) e1) ⟨_,e2,fun g=>?_⟩
  show zbR (List.lookup g [(f,y)]) _
  by_cases q:g=f
  · subst q
    rw [if_pos rfl]
    simp only [List.lookup,beq_self_eq_true]
    exact ry
  · rw [if_neg q]
    simp only [List.lookup,beq_eq_false_iff_ne.mpr q]
    trivial
theorem zky {A:Around}{E:Value→Shared→Prop}{y:V}{u:Value}{fs:List (Str × V)}{Q:Unit→Shared→Prop}(I:Inv X pins σ H s)(e:H a=some (zaL a C t (some dx)))(ed:H dx=some (.xd fs))(hl:fs.length < 1000)(hx:wZ X.K C)(n:ZW X.K C f)(ry:xw y u)
    (h:∀ s',Inv X pins σ (upd (upd H dx (.xd (zhi f y fs))) a (zaL a C t (some dx))) s'→Q () s'):wpAny (model X.prog X.w) A (setAttr (.ref a) f u) Q E s:=by
  obtain ⟨⟨sl,ea⟩,_⟩:=I.hok a _ e
  obtain ⟨mA,hn,r⟩:=I.hok dx _ ed
  have wi:Within mA (fs.map (·.1)):=fun g hg=>by
    cases q:fs.lookup g with
    | none=>exact absurd (zbR.none_of (by rw [←q];exact r g)) hg
    | some v =>
      have:=PySem.mem_of_lookup q
      exact List.mem_map.mpr ⟨_,this,rfl⟩
  have ne:a≠dx:=zfA e ed (by intro z;cases z)
  refine zfr I.kIn ea rfl rfl rfl hn wi (by rw [List.length_map,sizeLine_eq];omega) hx n fun h' e1 e2=>h _ ?_
  refine I.two e (fun o z=>by rw [ed] at z;cases z;exact ⟨_,rfl⟩) (fun o z=>by rw [ed];intro z;cases z) ne (fun b o _ hb z=>e2 b o hb z) (zbu (sl:=sl) (e2 a _ ne ea)) ⟨_,e1,fun g=>?_⟩
  rw [XW]
  by_cases q:g=f
  · rw [if_pos q,if_pos q];exact ry
  · rw [if_neg q,if_neg q];exact r g
end
noncomputable def sX1 (K:PySem.W.Frag)(ta tv:TE)(f:Str):TS:=fun D σ H=>tv σ H fun y H1=>ta σ H1 fun x H2=>∃ a C t,x=.ref a∧H2 a=some (zaL a C t none)∧wZ K C∧ZW K C f∧∀ dx,H2 dx=none→D.nx σ (upd (upd H2 dx (.xd [(f,y)])) a (zaL a C t (some dx)))
noncomputable def sX2 (K:PySem.W.Frag)(ta tv:TE)(f:Str):TS:=fun D σ H=>tv σ H fun y H1=>ta σ H1 fun x H2=>∃ a C t dx fs,x=.ref a∧H2 a=some (zaL a C t (some dx))∧H2 dx=some (.xd fs)∧fs.length < 1000∧wZ K C∧ZW K C f∧D.nx σ (upd (upd H2 dx (.xd (zhi f y fs))) a (zaL a C t (some dx)))
section
variable {X:Cx}{o e value:Expr}{f:Str}{pos pos':Pos}{ta tv:TE}
theorem zks (ha:PE X o ta)(hv:PE X value tv)(hs:swapsWith value (some (.Attribute o f pos')) pos.line X.env=pure false):PS X (.Assign [.Attribute o f pos'] value pos) (sX1 X.K ta tv f):=by
  intro pins s σ H D I h
  refine plainObj_wpAny_Assign_Attribute (thn (hv pins s σ H _ I h) fun u s1 ⟨y,H1,I1,ry,q⟩=>thn (ha pins s1 σ H1 _ I1 q) fun ov s2 hh9=>?_) hs
  obtain ⟨x,H2,I2,rx,a,C,t,ex,ea,hx,n,q2⟩:=hh9
  subst ex
  obtain rfl:ov=Value.ref a:=rx
  exact zkz I2 ea hx n ry fun dx s3 hd I3=>⟨σ,_,I3,q2 dx hd⟩
theorem zkG (ha:PE X o ta)(hv:PE X value tv)(hs:swapsWith value (some (.Attribute o f pos')) pos.line X.env=pure false):PS X (.Assign [.Attribute o f pos'] value pos) (sX2 X.K ta tv f):=by
  intro pins s σ H D I h
  refine plainObj_wpAny_Assign_Attribute (thn (hv pins s σ H _ I h) fun u s1 ⟨y,H1,I1,ry,q⟩=>thn (ha pins s1 σ H1 _ I1 q) fun ov s2 hh9=>?_) hs
  obtain ⟨x,H2,I2,rx,a,C,t,dx,fs,ex,ea,ed,hl,hx,n,q2⟩:=hh9
  subst ex
  obtain rfl:ov=Value.ref a:=rx
  exact zky I2 ea ed hl hx n ry fun s3 I3=>⟨σ,_,I3,q2⟩
end
noncomputable def spI (K:PySem.W.Frag)(m:Nat)(ns:List Str)(g:List V→List (Str × V)):Sp:=fun vs H Q _=>∃ a C t ys,vs=.ref a::ys∧ys.length=m∧H a=some (zaL a C t none)∧wZ K C∧(∀ f,f∈ns→ZW K C f)∧∀ dx,H dx=none→Q .non (upd (upd H dx (.xd (g ys))) a (zaL a C t (some dx)))
noncomputable def gI2 (f g:Str):List V→List (Str × V):=fun ys=>[(f,ys.getD 0 .non),(g,ys.getD 1 .non)]
theorem zhw {K:PySem.W.Frag}{m:Nat}{ns:List Str}{g:List V→List (Str × V)}(vs:List V)(H:Hp)(Q:VK)(E:XK)(h:spI K m ns g vs H Q E):vs.length=m+1:=by
  obtain ⟨a,C,t,ys,rfl,hl,_⟩:=h
  rw [List.length_cons,hl]
theorem zgi {H:Hp}{a b:Addr}{o o' u:HO}(ne:a≠b):upd (upd (upd (upd H b o) a o') b u) a o'=upd (upd H b u) a o':=by
  funext c
  unfold upd
  by_cases h1:c=a
  · rw [if_pos h1,if_pos h1]
  · rw [if_neg h1,if_neg h1]
    by_cases h2:c=b
    · rw [if_pos h2,if_neg h1,if_pos h2]
    · rw [if_neg h2,if_neg h1,if_neg h2,if_neg h2]
theorem zid {K:PySem.W.Frag} {f g:Str} {vs:List V} {H:Hp} {Q:VK} {E:XK} {rt:VK} (hfg:(f == g)=false) (h:spI K 2 [f,g] (gI2 f g) vs H Q E):zki (sX1 K (Vb 0) (Vb 1) f) (sX2 K (Vb 0) (Vb 2) g) { nx:=fun _ H'=>Q .non H',rt:=rt } (start ["self",f,g] vs) H:=by
  obtain ⟨a,C,t,ys,rfl,hl,ha,hx,hn,q⟩:=h
  obtain ⟨y,z,rfl⟩:∃ y z,ys=[y,z]:=by
    cases ys with
    | nil=>cases hl
    | cons y r=>cases r with
      | nil=>cases hl
      | cons z r=>cases r with
        | nil=>exact ⟨y,z,rfl⟩
        | cons _ _=>cases hl
  refine ⟨y,rfl,.ref a,rfl,a,C,t,rfl,ha,hx,hn f (.head _),fun dx hd=>?_⟩
  have ne:a≠dx:=zk ha hd
  refine ⟨z,rfl,.ref a,rfl,a,C,t,dx,_,rfl,zn,by rw [zm ne.symm];exact zn,(by show 1 < 1000;decide),hx,hn g (.tail _ (.head _)),?_⟩
  rw [zgi ne]
  have e:zhi g z [(f,y)]=gI2 f g [y,z]:=by
    show (if f=g then _ else _)=_
    rw [if_neg (beq_eq_false_iff_ne.mp hfg)]
    rfl
  rw [e]
  exact q dx hd
end L2
namespace L2
open PySem PySem.Spec PyProof.Rows
section
variable {X:Cx}{pins:List (Addr × Obj)}{σ:St}{H:Hp}{s:Shared}{ea dx:Addr}{φ:Heap→Prop}
theorem Inv.untrack {H':Hp}(I:Inv X pins σ H s)(he:H ea=some (.ext φ))(h1:H' ea=none)(h2:∀ b,b≠ea→H' b=H b):Inv X pins σ H' s:=by
  have no:∀ b,H b=none→H' b=none:=fun b e=>by
    have:b≠ea:=fun z=>by (subst z;rw [he] at e;cases e)
    rw [h2 b this];exact e
  have keep:∀ b u,H b=some u→(∀ ψ,u≠.ext ψ)→H' b=some u:=fun b u e n=>by
    have:b≠ea:=fun z=>by (subst z;rw [he] at e;cases e;exact n _ rfl)
    rw [h2 b this];exact e
  refine ⟨I.ok,I.os,I.bare,⟨I.base.keep,I.base.slot,fun b o e n hx=>no b (I.base.free b o e n hx),I.base.there,fun b xs e=>keep b _ (I.base.tups b xs e) (fun _ z=>by cases z),fun b o u e=>keep b _ (I.base.frzs b o u e) (fun _ z=>by cases z),fun b ps e=>?_⟩,I.loc,I.cell,no _ I.free,fun x c e=>no _ (I.freeC x c e),fun p hp=>?_,fun b u e=>?_,I.len⟩
  · obtain ⟨more,z⟩:=I.base.tbls b ps e
    exact ⟨more,keep b _ z fun _ y=>by cases y⟩
  · obtain ⟨e,n,r⟩:=I.pin p hp
    exact ⟨e,no _ n,r⟩
  · have ne:b≠ea:=fun z=>by (subst z;rw [h1] at e;cases e)
    rw [h2 b ne] at e
    exact (I.hok b u e).stay (fun _ _ _ q=>q) (fun c hc=>keep c _ hc fun _ z=>by cases z) fun c xs hc=>keep c _ hc fun _ z=>by cases z
end
structure ziV (K:PySem.W.Frag) (mg:Str→Option Value) (C:Addr) (x:Str) (f:Addr) (ns:List Str):Prop where
  bound:mg x=some (.ref C)
  exc:zjb K C f=true
  attr:VQ K C=true
  no:∀ n,n∈ns→PySem.W.findIn K (.ref C) n=some none
theorem zeQ {P:Program}{w:World}{K:PySem.W.Frag}{mg:Str→Option Value}{base:Heap}{N:List Str}{qual:Str}{scope:Scope}{f:Addr}{cd:Value}{A:Around}{outer:List Env}{s:Shared}{H:Hp}{E:XK}{C fI:Addr}{fd:FuncData}{x:Str}{np cpos pos:Pos}{ns ps:List Str}{m k:Nat}{g:List V→List (Str × V)}{e:Expr}{es:List Expr}{t:TA}
    (hc:ziV K mg C x fI ns) (F:xB P w K mg base CX0 k fI fd ps (spI K m ns g)) (hb:XH K fd ps []) (hr:v0 (k+1) (YC (Air P w) P w K mg base N qual scope f cd A outer s H E).A) (hg:Gl (YC (Air P w) P w K mg base N qual scope f cd A outer s H E) x) (ha:PA (YC (Air P w) P w K mg base N qual scope f cd A outer s H E) (e::es) t) (hd:(x == ("__debug__":Str))=false:=by decide)
    (hse:starEach (e::es) (YC (Air P w) P w K mg base N qual scope f cd A outer s H E).env=(false,eval e (YC (Air P w) P w K mg base N qual scope f cd A outer s H E).env)::starEach es (YC (Air P w) P w K mg base N qual scope f cd A outer s H E).env:=by rfl) (hpl:(backTo cpos (starEach es (YC (Air P w) P w K mg base N qual scope f cd A outer s H E).env)).any (·.1)=false:=by rfl) :
    PS (YC (Air P w) P w K mg base N qual scope f cd A outer s H E) (.Raise (some (.Call (.Name x np) (e::es) [] cpos)) none pos) (fun _ σ H0=>t σ H0 fun vs H1=>vs.length=m∧m≤1000∧∀ dx,H1 dx=none→E (.ref C) (some dx) (upd H1 dx (.xd (g vs)))):=by
  let X:=YC (Air P w) P w K mg base N qual scope f cd A outer s H E
  intro pins s1 σ H0 D I h
  have I:Inv X pins σ H0 s1:=I
  obtain ⟨bm,NN,nm,q,bs,sn,sub,ab,col,dd,k0,k1,k2,k3,k5,mN,oI,hC,hN,hi,T,hf,hfc⟩:=zfW I.ok.mod.kin hc.exc
  refine zcr (C:=C) (nm:=nm) (q:=q) (N:=NN) (bs:=bs) (bm:=bm) (hdct:=true) (sn:=sn) (sub:=sub) (ab:=ab) (col:=col) (dd:=dd) (k0:=k0) (k1:=k1) (k2:=k2) (k3:=k3) (k5:=k5) (mN:=mN) (fI:=fI) (oI:=oI) (T.hasType PySem.F.excBase_ValueError.hasBase) (I.ok.hd rfl) (by rw [hse];show ((false||(backTo cpos (starEach es _)).any (·.1)))=false;rw [hpl];rfl) hi hfc (Z9 I hg hc.bound ⟨rfl,?_⟩ hd)
  have hs:=ha cpos pins s1 σ H0 _ I h
  rw [hse] at hs ⊢
  refine PySem.Calls.evalArgs_plain (wpAny_mono hs (fun us s2 z=>?_) fun _ _ z=>z)
  obtain ⟨vs,H1,I2,r,hl,hm,hE⟩:=z
  have I2:Inv X pins σ H1 s2:=I2
  have hul:us.length≤sizeLine:=by rw [←r.length,hl];exact Nat.le_of_lt (YK hm)
  refine ⟨rfl,hul,I2.bk _ _ hC,hN.keeps I2.bk,T.keeps I2.bk,I2.bk _ _ hf,?_⟩
  have I3:Inv X pins σ (upd H1 (s2.heap.objs.size+1) (zaL (s2.heap.objs.size+1) C s2.heap.objs.size none)) { s2 with heap:=exH s2.heap C us }:=I2.laid (t':=s2.toks) (fun b o z=>vt z) (Nat.le_succ _) (zbu (zgE _ _ _))
  have hn1:H1 (s2.heap.objs.size+1)=none:=I2.hok.fresh (Nat.le_succ _)
  let R:VK:=fun v H'=>v=.non∧∃ dx,upd H1 (s2.heap.objs.size+1) (zaL (s2.heap.objs.size+1) C s2.heap.objs.size none) dx=none∧H'=upd (upd (upd H1 (s2.heap.objs.size+1) (zaL (s2.heap.objs.size+1) C s2.heap.objs.size none)) dx (.xd (g vs))) (s2.heap.objs.size+1) (zaL (s2.heap.objs.size+1) C s2.heap.objs.size (some dx))
  have hsp:spI K m ns g (.ref (s2.heap.objs.size+1)::vs) (upd H1 (s2.heap.objs.size+1) (zaL (s2.heap.objs.size+1) C s2.heap.objs.size none)) R E0:=⟨_,C,_,vs,rfl,hl,zn,.of hc.attr,hc.no,fun dx hdx=>⟨rfl,dx,hdx,rfl⟩⟩
  have r3:xj (V.ref (s2.heap.objs.size+1)::vs) (Value.ref (s2.heap.objs.size+1)::us):=.cons rfl r
  have hl3:(Value.ref (s2.heap.objs.size+1)::us++[]).length=ps.length:=by rw [List.append_nil,← r3.length];exact F.len _ _ _ _ hsp
  have bd:=hb { s2 with heap:=exH s2.heap C us } (Value.ref (s2.heap.objs.size+1)::us) I3.kIn hl3
  rw [List.append_nil] at bd
  refine wpAny_call (codeAny_mono (F.run _ X.stack _ _ ⟨Value.ref (s2.heap.objs.size+1)::us,[]⟩ _ _ R E0 (hr.make C us []) (I3.env0.make C us []) bd r3 hsp) fun res s4 z=>?_)
  cases res with
  | error e=>exact z.elim
  | ok fl =>
    cases fl with
    | next=>exact False.elim z
    | brk=>exact False.elim z
    | cont=>exact False.elim z
    | ret u =>
      obtain ⟨v,H4,os4,bare4,un4,hok4,rv,rfl,dx,hdx,rfl⟩:=id z
      have J4:Inv X pins σ _ s4:=I3.call' (ch:=[]) os4 un4 hok4 bare4 (fun b z=>nomatch z)
      obtain rfl:u=Value.none:=rv
      have ned:s2.heap.objs.size+1≠dx:=fun z=>by (subst z;rw [zn] at hdx;cases hdx)
      have hd1:H1 dx=none:=by rw [zm ned.symm] at hdx;exact hdx
      have J5:Inv X pins σ (upd H1 dx (.xd (g vs))) s4:=J4.untrack (ea:=s2.heap.objs.size+1) zn (by rw [zm ned];exact hn1) fun b hb=>by
        rw [zm hb]
        unfold upd
        by_cases h2:b=dx
        · rw [if_pos h2,if_pos h2]
        · rw [if_neg h2,if_neg h2,if_neg hb]
      obtain ⟨⟨sl,he4⟩,_⟩:=J4.hok _ _ zn
      refine ⟨rfl,_,some dx,sl,J4.bk _ _ hC,he4,?_⟩
      show wpAny (model P w) X.A (leaving X.env (.ref (s2.heap.objs.size+1))) (fun _ s''=>Air P w outer H s E (.ref (s2.heap.objs.size+1)) s'') _ s4
      let B:=PySem.W.hideAll s4.heap ((s2.heap.objs.size+1)::frs X.stack)
      have hin:∀ env∈X.stack,∀ a,env.frame=some a→a∈(s2.heap.objs.size+1)::frs X.stack:=fun env he a ha=>.tail _ (List.mem_filterMap.mpr ⟨env,he,ha⟩)
      refine Xi (Z8 _ _) (wpAny_leaving_firstW (Q:=fun _ s''=>∃ h2,s''={ s4 with heap:=h2 }∧Heap.LeftW B (X.env::outer) (s2.heap.objs.size+1) (.ref C) (.ref s2.heap.objs.size) s4.heap h2) (base:=B) (L:=X.env.locals) (outer:=outer) (J4.ok.frames) (PySem.W.funFrames_hide J4.stack hin) rfl he4 (fun b o q=>PySem.W.of_hideAll _ q) (PySem.W.hideAll_none _ (.head _)) rfl rfl rfl fun h2 y=>⟨h2,rfl,y⟩) ?_
      rintro _ _ ⟨h2,rfl,y1,⟨_,_,y2⟩,y3,y4⟩ dk
      have x1:Heap.FlyingW B outer (s2.heap.objs.size+1) (.ref C) (.ref s2.heap.objs.size) h2:=⟨y1,PySem.W.hideAll_none _ (.head _),y2,y3⟩
      have nfr:∀ b,b∉frs X.stack→b≠s2.heap.objs.size+1→b∉(s2.heap.objs.size+1)::frs X.stack:=fun b h1 h2 z=>(List.mem_cons.mp z).elim h2 h1
      have cov:Cov X.stack H1 s2.heap (upd H1 dx (.xd (g vs))) s4.heap B:=by
        refine ⟨fun b o e n hb=>?_,fun b o e hb=>?_,fun b o hb e=>?_⟩
        · have ne:b≠s2.heap.objs.size+1:=Nat.ne_of_lt (Nat.lt_succ_of_lt (Heap.lt_size e))
          exact PySem.W.hideAll_get _ (un4.keep b o (vt e) (by rw [zm ne];exact n) hb (by simp)) (nfr b hb ne)
        · have ne:b≠s2.heap.objs.size+1:=Nat.ne_of_lt (Nat.lt_succ_of_lt (Heap.lt_size e))
          obtain ⟨o',e'⟩:=un4.there b o (vt e) (by simp)
          exact ⟨o',PySem.W.hideAll_get _ e' (nfr b hb ne)⟩
        · refine PySem.W.hideAll_get _ e (nfr b (fun z=>hb (J5.stkFree b z)) fun z=>?_)
          subst z
          exact hb (by rw [zm ned];exact hn1)
      obtain ⟨u1,u2,u3⟩:=I2.airUn (X:=X) rfl J5 cov x1.1 x1.2.2.1 y4
      obtain ⟨ob,hob,_⟩:=x1.there
      exact ⟨_,C,_,some dx,_,B,rfl,J5.os,J5.bare,u1,u2,x1,u3,ZT.stay (h:=s4.heap) ⟨_,he4,rfl⟩ dk ⟨ob,hob⟩,hE dx hd1⟩
end L2
namespace Dl
open PySem L2
variable [KK]
noncomputable def xRI (enc:List D→Option Nat)(fa:Ev→Option (List D)):SE→Option Nat:=fun ρ=>(fa (visG ρ)).bind enc
noncomputable def enc1 (c kd:Nat):List D→Option Nat
  | [.int i]=>if -1≤i then some (c+16*kd+64*(i+1).toNat) else none
  | _=>none
noncomputable def zk1 (c:Nat):List D→Option Nat
  | [.int m,.int n]=>if 0≤m∧0≤n∧n < 1024 then some (c+48+64*(m.toNat*1024+n.toNat)) else none
  | _=>none
noncomputable def zjp (cl:Nat→Addr)(C:Addr)(m:Nat)(g:List V→List (Str × V))(enc:List D→Option Nat):Prop:=∀ ds j,enc ds=some j→cl j=C∧ds.length=m∧∀ F vs,AtL F ds vs→pay j=some (g vs)
theorem zhW {cl:Nat→Addr} {c:Nat} (hcl:∀ j,cl j=cl (j % 16)) (hc:c < 16):zjp cl (cl c) 2 (gI2 "many" "most") (zk1 c):=by
  intro ds j e
  unfold zk1 at e
  split at e <;> try cases e
  rename_i m n
  split at e <;> cases e
  rename_i hi
  refine ⟨by rw [hcl (c+48+64*(m.toNat*1024+n.toNat))];congr 1;omega,rfl,fun F vs a=>?_⟩
  obtain ⟨v,r,rfl,a1,a2⟩:=a.cons_inv
  obtain ⟨v2,r2,rfl,a3,a4⟩:=a2.cons_inv
  cases a1.int_inv
  cases a3.int_inv
  cases a4.nil_inv
  have e1:(c+48+64*(m.toNat*1024+n.toNat)) / 16 % 4=3:=by omega
  have e2:(c+48+64*(m.toNat*1024+n.toNat)) / 64=m.toNat*1024+n.toNat:=by omega
  have e3:(((m.toNat*1024+n.toNat) / 1024:Nat):Int)=m:=by omega
  have e4:(((m.toNat*1024+n.toNat) % 1024:Nat):Int)=n:=by omega
  unfold pay
  rw [e1]
  show some [(_,V.int _),(_,V.int _)]=_
  rw [e2,e3,e4]
  rfl
theorem zeq {P:Program}{w:World}{K:PySem.W.Frag}{mg:Str→Option Value}{base:Heap}{N:List Str}{qual:Str}{scope:Scope}{f:Addr}{cd:Value}{A:Around}{outer:List Env}{s:Shared}{H:Hp}{E:XK}{cl:Nat→Addr}{C fI:Addr}{fd:FuncData}{x:Str}{np cpos pos:Pos}{ns ps:List Str}{m k:Nat}{g:List V→List (Str × V)}{e:Expr}{es:List Expr}{enc:List D→Option Nat}{fa:Ev→Option (List D)}
    (hc:ziV K mg C x fI ns) (F:xB P w K mg base CX0 k fI fd ps (spI K m ns g)) (hb:XH K fd ps []) (hen:zjp cl C m g enc) (hr:v0 (k+1) (YC (Air P w) P w K mg base N qual scope f cd A outer s H E).A) (hg:Gl (YC (Air P w) P w K mg base N qual scope f cd A outer s H E) x) (ha:AD (YC (Air P w) P w K mg base N qual scope f cd A outer s H E) (e::es) fa) (hm:m≤1000:=by decide) (hd:(x == ("__debug__":Str))=false:=by decide)
    (hse:starEach (e::es) (YC (Air P w) P w K mg base N qual scope f cd A outer s H E).env=(false,eval e (YC (Air P w) P w K mg base N qual scope f cd A outer s H E).env)::starEach es (YC (Air P w) P w K mg base N qual scope f cd A outer s H E).env:=by rfl) (hpl:(backTo cpos (starEach es (YC (Air P w) P w K mg base N qual scope f cd A outer s H E).env)).any (·.1)=false:=by rfl) :
    XS E cl (YC (Air P w) P w K mg base N qual scope f cd A outer s H E) (.Raise (some (.Call (.Name x np) (e::es) [] cpos)) none pos) (xRI enc fa):=by
  obtain ⟨t,pa,ra⟩:=ha
  refine ⟨_,zeQ hc F hb hr hg pa hd hse hpl,fun Fb Hb F H ρ σ D' j rl e w=>?_⟩
  obtain ⟨ds,e1,e2⟩:=Option.bind_eq_some_iff.mp e
  obtain ⟨ec,el,ep⟩:=hen ds j e2
  refine ra σ _ _ H ds _ rl.gh rl.visG e1 fun F' H' vs gr a=>⟨by rw [a.length];exact el,hm,fun dx hdx=>?_⟩
  have z:=w F' H' (rl.out gr)
  unfold EJ at z
  rw [ep F' vs a,ec] at z
  exact z dx hdx
end Dl
namespace L2
open PySem PySem.Spec PyProof.Rows
noncomputable def zjD (s:Stmt)(k:Nat):Stmt:=match s with
  | .ClassDef _ _ _ body _ _ _ _ _ _ _=>body.getD k s
  | _=>s
noncomputable def zkJ (K:PySem.W.Frag)(C:Addr)(ns:List Str):Bool:=ns.all fun n=>PySem.W.findIn K (.ref C) n == some none
theorem zbb {K:PySem.W.Frag}{C:Addr}{ns:List Str}(h:zkJ K C ns=true):∀ n,n∈ns→PySem.W.findIn K (.ref C) n=some none:=fun n hn=>beq_iff_eq.mp (List.all_eq_true.mp h n hn)
end L2
namespace Dl
open PySem L2
end Dl
namespace Dl
open PySem L2
noncomputable def zgY (js:List Nat)(h:Nat→Option D):Nat→Option D:=fun j=>if j % 16∈js then h j else none
theorem zhB {js:List Nat}{h:Nat→Option D}{j:Nat}{d:D}(e:zgY js h j=some d):j % 16∈js:=by
  unfold zgY at e
  split at e
  · assumption
  · cases e
theorem zjA {cl:Nat→Addr}{i:Nat}{js:List Nat}{u:TS}{h:Nat→Option D}[KK](r:RU cl i u h):RU cl i u (zgY js h):=fun j d σ H a od D' e es k=>by
  unfold zgY at e
  split at e
  · exact r j d σ H a od D' e es k
  · cases e
end Dl
namespace OwnSort
open PySem PyProof.Rows
section
variable {prog:Program}{w:World}{A:Around}{E:Value→Shared→Prop}{s:Shared}
end
end OwnSort
namespace Dl
open PySem L2
variable [KK]
section
variable {X:Cx}{e:Expr}{pos:Pos}
end
end Dl
namespace Dl
open PySem L2
variable [KK]
section
variable {E:XK}{cl:Nat→Addr}{X:Cx}{a b:Expr}{pos:Pos}
end
end Dl
namespace L2
open PySem PySem.Spec PyProof.Rows
section
variable {prog:Program}{w:World}{A:Around}{E:Value→Shared→Prop}{s:Shared}
end
section
variable {X:Cx}{e st:Expr}{te:TE}{t3:TO}{pos p2:Pos}
end
end L2
namespace Dl
open PySem L2
variable [KK]
end Dl
namespace L2
open PySem PySem.Spec PyProof.Rows
end L2
namespace Dl
open PySem L2
end Dl
namespace PySem
section
variable {prog:Program}{w:World}{A:Around}{R:Result→Shared→Prop}{it S:Addr}{fp wr:List Addr}{n:Nat}{P:Nat→Value→Prop}{St:Nat→Heap→Prop}{kw:List (Str × Value)}
end
end PySem
namespace PySem
open Sem (wp)
end PySem
namespace L2
open PySem PySem.Spec PyProof.Rows
section
variable {X:Cx}{e de:Expr}{p pos kp:Pos}{t:TA}{td:TE}
end
end L2
namespace Dl
open PySem L2
variable [KK]
section
variable {X:Cx}{e de:Expr}{p pos kp:Pos}
end
end Dl
namespace Dl
open PySem L2
variable [KK]
section
variable {X:Cx}
end
end Dl
namespace OwnSet
open PySem
section
variable {prog:Program}{w:World}{A:Around}{E:Value→Shared→Prop}{s:Shared}
end
end OwnSet
namespace L2
open PySem PySem.Spec PyProof.Rows
end L2
namespace Dl
open PySem L2 PySem.Spec PyProof.Rows
variable [KK]{X:Cx}{e:Expr}
end Dl
namespace OwnSortT
open PySem PyProof.Rows OwnSort
theorem zhr:∀ a:List Int,HT.lexLt a a=false:=by
  intro a
  induction a with
  | nil=>rfl
  | cons x xs ih=>rw [HT.lexLt_cons,if_pos rfl,ih]
theorem V2:∀ a b c:List Int,HT.lexLt a b=true→HT.lexLt b c=true→HT.lexLt a c=true:=by
  intro a
  induction a with
  | nil =>
    intro b c h1 h2
    cases c with
    | nil=>cases b <;> cases h2
    | cons _ _=>rfl
  | cons x xs ih =>
    intro b c h1 h2
    cases b with
    | nil=>cases h1
    | cons y ys=>cases c with
      | nil=>cases h2
      | cons z zs =>
        rw [HT.lexLt_cons] at h1 h2 ⊢
        by_cases e1:x=y
        · rw [if_pos e1] at h1
          by_cases e2:y=z
          · rw [if_pos e2] at h2;rw [if_pos (e1.trans e2)];exact ih _ _ h1 h2
          · rw [if_neg e2,decide_eq_true_eq] at h2;rw [if_neg (by omega),decide_eq_true_eq];omega
        · rw [if_neg e1,decide_eq_true_eq] at h1
          by_cases e2:y=z
          · rw [if_neg (by omega),decide_eq_true_eq];omega
          · rw [if_neg e2,decide_eq_true_eq] at h2;rw [if_neg (by omega),decide_eq_true_eq];omega
theorem zaw:∀ a b:List Int,HT.lexLt a b=false→HT.lexLt b a=false→a=b:=by
  intro a
  induction a with
  | nil =>
    intro b h1 h2
    cases b with
    | nil=>rfl
    | cons _ _=>cases h1
  | cons x xs ih =>
    intro b h1 h2
    cases b with
    | nil=>cases h2
    | cons y ys =>
      rw [HT.lexLt_cons] at h1 h2
      by_cases e:x=y
      · rw [if_pos e] at h1;rw [if_pos e.symm] at h2;rw [e,ih _ h1 h2]
      · rw [if_neg e,decide_eq_false_iff_not] at h1;rw [if_neg (Ne.symm e),decide_eq_false_iff_not] at h2;omega
theorem zhE (a b c:List Int)(h:HT.lexLt a c=true):HT.lexLt a b=true∨HT.lexLt b c=true:=by
  cases h1:HT.lexLt a b with
  | true=>exact .inl rfl
  | false =>
    refine .inr ?_
    cases h2:HT.lexLt b a with
    | true=>exact V2 _ _ _ h2 h
    | false=>rw [←zaw _ _ h1 h2];exact h
noncomputable def TT (h:Heap) (v:Value) (t:List Int):Prop:=∃ a o n its,v=.ref a∧h.get? a=some o∧o.cls=.type "tuple"∧o.data=.seq its.toArray n∧IntsAre its t∧t≠[]
open Classical in
noncomputable def zkK (h:Heap)(v:Value):Option (List Int):=if x:∃ t,TT h v t then some x.choose else none
@[reducible] noncomputable def kindTT (h:Heap):KeyKind where
  α:=List Int
  blt:=HT.lexLt
  irrefl:=zhr
  trans:=V2
  negTrans:=zhE
  total:=zaw
  keyOf:=zkK h
  dflt:=[]
section
variable {prog:Program}{w:World}{A:Around}{E:Value→Shared→Prop}{s:Shared}
end
section
variable {prog:Program}{w:World}{A:Around}{E:Value→Shared→Prop}{s:Shared}
end
end OwnSortT
namespace OwnDk
open PySem
section
variable {prog:Program}{w:World}{A:Around}{E:Value→Shared→Prop}{s:Shared}
end
end OwnDk
namespace Dl
open PySem L2
variable [KK]
section
variable {X:Cx}{e:Expr}{pos:Pos}
end
end Dl
namespace Dl
open PySem L2
variable [KK]{X:Cx}{tg a:Expr}{pos:Pos}
end Dl
namespace Mz
open PySem Dl
noncomputable abbrev Tie:=Int × Int
noncomputable def ltP (s t:Tie):Prop:=s.1 < t.1∨(s.1=t.1∧s.2 < t.2)
noncomputable instance (s t:Tie):Decidable (ltP s t):=by unfold ltP;infer_instance
theorem zeC {a b c:Tie}(h:ltP a b)(k:ltP b c):ltP a c:=by
  unfold ltP at *
  omega
noncomputable def zw (t:Tie):D:=.tup [.int t.1,.int t.2]
theorem zeT {s t:Tie}(h:zw s=zw t):s=t:=by
  unfold zw at h
  injection h with h
  injection h with h1 h2
  injection h2 with h2 _
  injection h1 with h1
  injection h2 with h2
  exact Prod.ext h1 h2
noncomputable def xu (many:Int)(ties:List Tie):D:=.tup [.int many,.tup (ties.map zw)]
set_option genInjectivity false in
set_option genSizeOf false in
set_option genCtorIdx false in
structure Yd (many:Int) (ties:List Tie):Prop where
  lo:1≤many
  hi:many≤8
  rng:∀ t∈ties,0≤t.1∧t.1 < t.2∧t.2 < many
  srt:ties.Pairwise ltP
noncomputable def leP (s t:Tie):Bool:=if s.1=t.1 then (if s.2=t.2 then true else decide (s.2≤t.2)) else decide (s.1≤t.1)
theorem zap {s t:Tie}:leP s t=false↔ltP t s:=by
  unfold leP ltP
  by_cases h:s.1=t.1
  · rw [if_pos h]
    by_cases k:s.2=t.2
    · rw [if_pos k];simp;omega
    · rw [if_neg k,decide_eq_false_iff_not];omega
  · rw [if_neg h,decide_eq_false_iff_not];omega
noncomputable def Zo:D→Option Tie
  | .tup [.int a,.int b]=>some (a,b)
  | _=>none
theorem YU (t:Tie):Zo (zw t)=some t:=rfl
theorem Wo {d:D}{t:Tie}(h:Zo d=some t):d=zw t:=by
  unfold Zo at h
  split at h
  · cases h;rfl
  · cases h
noncomputable def inR (m a:Int):Bool:=decide (0≤a)&&decide (a≤m - 1)
noncomputable def wU (m:Int)(d:D):Bool:=match Zo d with
  | some t=>inR m t.1&&inR m t.2&&!decide (t.1=t.2)
  | none=>false
noncomputable def zaq (p:Option Tie)(t:Tie):Bool:=match p with
  | some q=>!leP t q
  | none=>true
noncomputable def y9 (m:Int):Option Tie→List D→Bool
  | _,[]=>true
  | p,d::r=>match Zo d with
    | some t=>wU m d&&!decide (t.2 < t.1)&&zaq p t&&y9 m (some t) r
    | none=>false
noncomputable def Y7 (m:Int):D→Bool
  | .tup ts=>y9 m none ts
  | _=>false
noncomputable def Yu:D→Bool
  | .tup [.int m,t]=>decide (1≤m)&&decide (m≤8)&&Y7 m t
  | _=>false
theorem XA (m:Int):∀ (ts:List D) (p:Option Tie),y9 m p ts=true↔∃ l:List Tie,ts=l.map zw∧(∀ t∈l,0≤t.1∧t.1 < t.2∧t.2 < m)∧(∀ q,p=some q→∀ t∈l,ltP q t)∧l.Pairwise ltP:=by
  intro ts
  induction ts with
  | nil =>
    intro p
    refine ⟨fun _=>⟨[],rfl,by simp,by simp,.nil⟩,fun _=>rfl⟩
  | cons d r ih =>
    intro p
    unfold y9
    cases e:Zo d with
    | none =>
      refine Iff.intro (fun h=>nomatch h) (fun hh=>?_)
      obtain ⟨l,h,_⟩:=hh
      cases l with
      | nil=>cases h
      | cons t l' =>
        rw [List.map_cons] at h
        injection h with h1 _
        rw [h1,YU] at e
        cases e
    | some t =>
      have ed:=Wo e
      subst ed
      simp only [wU,YU,Bool.and_eq_true,Bool.not_eq_true',decide_eq_false_iff_not,inR,decide_eq_true_eq]
      rw [ih (some t)]
      constructor
      · rintro ⟨⟨⟨⟨⟨h1,h2⟩,h3⟩,h4⟩,h5⟩,l,rfl,hr,hq,hs⟩
        refine ⟨t::l,rfl,?_,?_,List.pairwise_cons.mpr ⟨hq t rfl,hs⟩⟩
        · intro u hu
          rcases List.mem_cons.mp hu with rfl | hu
          · omega
          · exact hr u hu
        · rintro q rfl u hu
          have hqt:ltP q t:=zap.mp (by simpa [zaq] using h5)
          rcases List.mem_cons.mp hu with rfl | hu
          · exact hqt
          · exact zeC hqt (hq t rfl u hu)
      · rintro ⟨l,h,hr,hq,hs⟩
        cases l with
        | nil=>cases h
        | cons u l' =>
          rw [List.map_cons] at h
          injection h with h1 h2
          have hu:=zeT h1
          subst hu
          have hb:=hr t (by simp)
          refine ⟨⟨⟨⟨⟨by omega,by omega⟩,by omega⟩,by omega⟩,?_⟩,l',h2,fun v hv=>hr v (by simp [hv]),fun q hqe v hv=>?_,(List.pairwise_cons.mp hs).2⟩
          · cases p with
            | none=>rfl
            | some q =>
              have:=zap.mpr (hq q rfl t (by simp))
              simp [zaq,this]
          · cases hqe
            exact (List.pairwise_cons.mp hs).1 v hv
theorem Ye (d:D):Yu d=true↔∃ m ties,d=xu m ties∧Yd m ties:=by
  constructor
  · intro h
    unfold Yu at h
    split at h
    · rename_i m t
      simp only [Bool.and_eq_true,decide_eq_true_eq] at h
      obtain ⟨⟨h1,h2⟩,h3⟩:=h
      unfold Y7 at h3
      split at h3
      · rename_i ts
        obtain ⟨l,rfl,hr,_,hs⟩:=(XA m ts none).mp h3
        exact ⟨m,l,rfl,h1,h2,hr,hs⟩
      · cases h3
    · cases h
  · rintro ⟨m,ties,rfl,w⟩
    unfold xu Yu Y7
    simp only [Bool.and_eq_true,decide_eq_true_eq]
    exact ⟨⟨w.lo,w.hi⟩,(XA m _ none).mpr ⟨ties,rfl,w.rng,by simp,w.srt⟩⟩
theorem zhu {d:D}(h:∀ m ties,d=xu m ties→¬ Yd m ties):Yu d=false:=by
  cases e:Yu d with
  | false=>rfl
  | true =>
    obtain ⟨m,ties,rfl,w⟩:=(Ye d).mp e
    exact absurd w (h m ties rfl)
noncomputable def wY (n:Nat):List Tie:=(List.range n).flatMap fun a=>(List.range (n - (a+1))).map fun (j:Nat)=>((a:Int),(a:Int)+1+(j:Int))
theorem VT:∀ n:Nat,n≤8→(wY n).Pairwise ltP∧(∀ t∈wY n,0≤t.1∧t.1 < t.2∧t.2 < (n:Int))∧(wY n).length≤28:=by
  have h:∀ n:_root_.Fin 9,(wY n.val).Pairwise ltP∧(∀ t∈wY n.val,0≤t.1∧t.1 < t.2∧t.2 < (n.val:Int))∧(wY n.val).length≤28:=by decide +kernel
  exact fun n hn=>h ⟨n,by omega⟩
end Mz
namespace Mz
open Dl
noncomputable def zbA (i j:Nat):List Tie:=(List.range j).map fun (k:Nat)=>((i:Int),(i:Int)+1+(k:Int))
noncomputable def wC (n i:Nat):List Tie:=(List.range i).flatMap fun a=>zbA a (n - (a+1))
theorem zds (n:Nat):wY n=wC n n:=rfl
theorem Xx (n i:Nat):wC n (i+1)=wC n i++zbA i (n - (i+1)):=by
  unfold wC
  rw [List.range_succ,List.flatMap_append]
  simp
theorem Xy (i j:Nat):(zbA i j).length=j:=by unfold zbA;simp
theorem zcl (n:Nat)(hn:n≤8):∀ i:Nat,(wC n i).length≤8*i:=by
  intro i
  induction i with
  | zero=>simp [wC]
  | succ i ih =>
    rw [Xx,List.length_append,Xy]
    omega
noncomputable def zgx (c k:Int):Int :=
  let a:=(c % 2147483647+977*k+1)*48271 % 2147483647
  let b:=a*a % 2147483629
  (b+40692*(k+3))*69621 % 2147483647 / 8
end Mz
namespace Mz
open Dl
noncomputable def adj (ts:List Tie)(a b:Int):Prop:=(a,b)∈ts∨(b,a)∈ts
inductive zfN (ts:List Tie) (p:Int):Nat→Int→Prop
  | zero:zfN ts p 0 p
  | step {k:Nat} {a b:Int}:zfN ts p k a→adj ts a b→zfN ts p (k+1) b
theorem YL {P:Nat→Prop}:∀ k,P k→∃ j,P j∧∀ i,P i→j≤i:=by
  intro k
  induction k using Nat.strongRecOn with
  | _ k ih =>
    intro h
    by_cases c:∃ i,i < k∧P i
    · obtain ⟨i,hi,h2⟩:=c
      exact ih i hi h2
    · exact ⟨k,h,fun i hi=>Nat.le_of_not_lt fun z=>c ⟨i,z,hi⟩⟩
noncomputable def Within (ts:List Tie)(p:Int)(k:Nat)(v:Int):Prop:=∃ j,j≤k∧zfN ts p j v
theorem zjz {n:Nat}{i:Int}(h0:0≤i)(h1:i < n):L2.ixN n i=some i.toNat:=by
  unfold L2.ixN
  rw [if_pos h0,if_pos h1]
theorem zgG {α:Type}{xs:List α}{i:Int}{x:α}(h0:0≤i)(h:xs[i.toNat]?=some x):L2.atI xs i=some x:=by
  have:=(List.getElem?_eq_some_iff.mp h).1
  unfold L2.atI
  rw [zjz h0 (by omega)]
  exact h
theorem zeY {α:Type}(xs:List α)(lo hi:Option Int):(zaM xs lo hi).length≤xs.length:=by
  unfold zaM
  rw [List.length_take,List.length_drop]
  omega
theorem ze3 {a b:List D}(h:a.length+b.length≤1000):Y3 (.lst a) (.lst b)=some (.lst (a++b)):=by
  show (if lim (a.length+b.length)=true then _ else none)=_
  rw [if_pos (vU h)]
theorem zgU:∀ {ns:List Int},(∀ x∈ns,0≤x)→0≤ns.sum
  | [],_=>by simp
  | n::ns,h=>by
    have:=zgU (ns:=ns) fun x hx=>h x (List.mem_cons_of_mem _ hx)
    have:=h n List.mem_cons_self
    rw [List.sum_cons]
    omega
theorem Xd {m:Bool}{i:Nat}{f:Ev→Option D}{ρ ρ':SE}{d:D}(h:vEv m f ρ=some d)(h2:ρ.set i (.v d)=ρ':=by rfl):wu m i f ρ=.nx ρ':=by
  unfold wu
  rw [h,← h2]
theorem yP {f:Ev→Option D}{ρ:SE}{d:D}(h:f (visG ρ)=some d):xJ f ρ=.nx ρ:=by
  unfold xJ
  rw [h]
theorem Wv {f:Ev→Option D}{ρ:SE}{d:D}(h:f (visG ρ)=some d):xp f ρ=.rt d:=by
  unfold xp
  rw [h]
theorem zR {a b:Int}:neD (.int a) (.int b)=some (.bl (!decide (a=b))):=rfl
theorem VB {a m x:Int}(h:0 < m)(hx:a % m=x):0≤x∧x < m:=by
  subst hx
  exact ⟨Int.emod_nonneg _ (by omega),Int.emod_lt_of_pos _ h⟩
theorem zD {a b:Int}:YM (.int a) (.int b)=some (.bl (decide (a=b))):=rfl
theorem zU {a b:Bool}:YM (.bl a) (.bl b)=some (.bl (decide (a=b))):=rfl
theorem zI {a b:PySem.Str}:YM (.str a) (.str b)=some (.bl (decide (a=b))):=rfl
theorem zE {a b:Int}:Y3 (.int a) (.int b)=some (.int (a+b)):=rfl
end Mz
namespace Mz
open Dl
section
variable {ρ:Ev}{f g h:Ev→Option D}{a:Ev→Option (List D)}{t u:Ev→Option Bool}{d e x y z:D}{ds es:List D}{b c:Bool}
theorem Yt:zq ρ=some []:=rfl
theorem yg (h1:f ρ=some d)(h2:a ρ=some ds):zc f a ρ=some (d::ds):=by unfold zc;rw [h1,h2];rfl
theorem Yl {n:Nat}{p:List D→Option D}(h1:a ρ=some ds)(h2:p ds=some d)(hl:ds.length=n:=by rfl):zo n p a ρ=some d:=by
  unfold zo
  rw [h1,Option.bind_some,if_pos hl,h2]
theorem X6 {i n:Nat}{p:List D→Option D}{σ σ':SE}(h1:a (visF σ)=some ds)(h2:p ds=some d)(hl:ds.length=n:=by rfl)(h3:σ.set i (.v d)=σ':=by rfl):wu false i (zo n p a) σ=.nx σ':=Xd (show zo n p a (visF σ)=some d from Yl h1 h2 hl) h3
theorem zfs {i:Nat}{f:Ev→Option D}{σ σ':SE}(h:f (visF σ)=some d)(h3:σ.set i (.v d)=σ':=by rfl):wu false i f σ=.nx σ':=Xd (show f (visF σ)=some d from h) h3
theorem xr {k:D→D→Option D}(h1:f ρ=some x)(h2:g ρ=some y)(h3:k x y=some z):zp k f g ρ=some z:=by unfold zp;rw [h1,h2];exact h3
theorem zgq (h1:a ρ=some ds):wK a ρ=some (.lst ds):=by unfold wK;rw [h1];rfl
theorem zkW {k:List D→Option D}(h1:a ρ=some ds)(h2:k ds=some d):eFn k a ρ=some d:=by unfold eFn;rw [h1];exact h2
theorem zd9 (h1:a ρ=some ds)(hl:ds.length≤1000):yd a ρ=some ds:=by unfold yd;rw [h1,Option.bind_some,if_pos (vU hl)]
theorem ziE (h1:a ρ=some ds)(hl:ds.length≤1000):vC a ρ=some (.tup ds):=by unfold vC;rw [h1,Option.bind_some,if_pos (vU hl)]
theorem ziv (h1:f ρ=some d)(h2:xo d=some ds):iOf f ρ=some ds:=by unfold iOf;rw [h1];exact h2
theorem Wk (h1:f ρ=some (.bl b)):tOf f ρ=some b:=by unfold tOf;rw [h1];rfl
theorem zeI (h1:t ρ=some b):yr t ρ=some (!b):=by unfold yr;rw [h1];rfl
theorem zk8 (h1:t ρ=some b)(h2:u ρ=some c):YB t u ρ=some (b||c):=by unfold YB;rw [h1,h2];cases b <;> rfl
theorem zdu (h1:t ρ=some false):yA t u ρ=some false:=by unfold yA;rw [h1];rfl
theorem zdd (h1:t ρ=some true)(h2:u ρ=some c):yA t u ρ=some c:=by unfold yA;rw [h1];exact h2
end
end Mz
namespace Mz
open PySem L2 Dl
noncomputable def top (i:Nat):Stmt:=PySem.Challenge.pw_twoforone_k44_refused_of_gets.main.body.getD i (.Pass ⟨0,0,0,0⟩)
noncomputable abbrev wB:Stmt:=top 18
noncomputable abbrev yc:Stmt:=top 19
noncomputable abbrev yj:Stmt:=top 20
noncomputable abbrev ya:Stmt:=top 21
noncomputable abbrev yl:Stmt:=top 22
noncomputable abbrev wz:Stmt:=top 23
noncomputable abbrev xF:Stmt:=top 24
noncomputable abbrev vk:Stmt:=top 26
noncomputable abbrev wA:Stmt:=top 27
noncomputable abbrev Yc:Stmt:=top 28
noncomputable abbrev xm:Stmt:=top 29
noncomputable abbrev yu:Stmt:=top 30
noncomputable abbrev xg:Stmt:=top 31
noncomputable abbrev xC:Stmt:=top 32
noncomputable abbrev xG:Stmt:=top 34
noncomputable abbrev yT:Stmt:=top 35
noncomputable abbrev xU:Stmt:=top 36
noncomputable abbrev vn:Stmt:=top 37
noncomputable abbrev yO:Stmt:=top 40
noncomputable abbrev vh:Stmt:=top 41
noncomputable abbrev vy:Stmt:=top 42
noncomputable abbrev yx:Stmt:=top 43
noncomputable abbrev Ze:Stmt:=top 44
noncomputable abbrev vj:Stmt:=top 45
noncomputable abbrev xX:Stmt:=top 46
noncomputable abbrev yU:Stmt:=top 47
noncomputable abbrev xE:Stmt:=top 48
noncomputable abbrev xD:Stmt:=top 50
noncomputable abbrev xH:Stmt:=top 51
noncomputable abbrev x6:Stmt:=top 52
noncomputable abbrev xi:Stmt:=top 53
noncomputable abbrev yQ:Stmt:=top 54
noncomputable abbrev xZ:Stmt:=top 55
noncomputable abbrev xV:Stmt:=top 56
noncomputable abbrev WO:Stmt:=top 57
theorem za5:zu ["thing"] ["thing"] (ze wB):=⟨rfl,rfl,rfl,by decide +kernel,rfl,by decide +kernel,by decide +kernel⟩
theorem ZO:zu ["thing","least","most"] ["thing","least","most"] (ze yc):=⟨rfl,rfl,rfl,by decide +kernel,rfl,by decide +kernel,by decide +kernel⟩
theorem vW:zu ["thing","least","most"] ["thing","least","most"] (ze yj):=⟨rfl,rfl,rfl,by decide +kernel,rfl,by decide +kernel,by decide +kernel⟩
theorem vJ:zu ["many","most"] ["many","most"] (ze ya):=⟨rfl,rfl,rfl,by decide +kernel,rfl,by decide +kernel,by decide +kernel⟩
theorem Z6:zu ["thing"] ["thing"] (ze yl):=⟨rfl,rfl,rfl,by decide +kernel,rfl,by decide +kernel,by decide +kernel⟩
theorem zby:zu ["many","thing"] ["many","thing"] (ze wz):=⟨rfl,rfl,rfl,by decide +kernel,rfl,by decide +kernel,by decide +kernel⟩
theorem W3:zu ["many","thing"] ["many","thing"] (ze xF):=⟨rfl,rfl,rfl,by decide +kernel,rfl,by decide +kernel,by decide +kernel⟩
theorem zcB:zu ["many","thing"] ["many","thing"] (ze vk):=⟨rfl,rfl,rfl,by decide +kernel,rfl,by decide +kernel,by decide +kernel⟩
theorem Zs:zu ["many","thing","at","tie"] ["many","thing"] (ze wA):=⟨rfl,rfl,rfl,by decide +kernel,rfl,by decide +kernel,by decide +kernel⟩
theorem zc6:zu ["thing"] ["thing"] (ze Yc):=⟨rfl,rfl,rfl,by decide +kernel,rfl,by decide +kernel,by decide +kernel⟩
theorem Wz:zu ["thing"] ["thing"] (ze xm):=⟨rfl,rfl,rfl,by decide +kernel,rfl,by decide +kernel,by decide +kernel⟩
theorem XC:zu ["web","thing"] ["web","thing"] (ze yu):=⟨rfl,rfl,rfl,by decide +kernel,rfl,by decide +kernel,by decide +kernel⟩
theorem WL:zu ["one","other"] ["one","other"] (ze xg):=⟨rfl,rfl,rfl,by decide +kernel,rfl,by decide +kernel,by decide +kernel⟩
theorem Vj:zu ["web","place"] ["web","place"] (ze xC):=⟨rfl,rfl,rfl,by decide +kernel,rfl,by decide +kernel,by decide +kernel⟩
theorem VF:zu ["web","thing"] ["web","thing"] (ze xG):=⟨rfl,rfl,rfl,by decide +kernel,rfl,by decide +kernel,by decide +kernel⟩
theorem XX:zu ["web","thing"] ["web","thing"] (ze yT):=⟨rfl,rfl,rfl,by decide +kernel,rfl,by decide +kernel,by decide +kernel⟩
theorem YZ:zu ["web","found","place"] ["web"] (ze xU):=⟨rfl,rfl,rfl,by decide +kernel,rfl,by decide +kernel,by decide +kernel⟩
theorem WV:zu ["heap","step","stones"] ["heap","step"] (ze vn):=⟨rfl,rfl,rfl,by decide +kernel,rfl,by decide +kernel,by decide +kernel⟩
theorem zP:zu ["web","heap","steps","found","rim","further","now","step","then"] ["web","heap"] (ze yO):=⟨rfl,rfl,rfl,by decide +kernel,rfl,by decide +kernel,by decide +kernel⟩
theorem WX:zu ["web","heap","place"] ["web","heap","place"] (ze vh):=⟨rfl,rfl,rfl,by decide +kernel,rfl,by decide +kernel,by decide +kernel⟩
theorem Ys:zu ["web","heap","place","many"] ["web","heap","place","many"] (ze yx):=⟨rfl,rfl,rfl,by decide +kernel,rfl,by decide +kernel,by decide +kernel⟩
theorem zb6:zu ["web","heap","place","many","found","other"] ["web","heap","place","many"] (ze Ze):=⟨rfl,rfl,rfl,by decide +kernel,rfl,by decide +kernel,by decide +kernel⟩
theorem Z7:zu ["web","heap","found"] ["web","heap"] (ze vj):=⟨rfl,rfl,rfl,by decide +kernel,rfl,by decide +kernel,by decide +kernel⟩
theorem zaj:zu ["web","held","steps","heap","step"] ["web","held"] (ze xX):=⟨rfl,rfl,rfl,by decide +kernel,rfl,by decide +kernel,by decide +kernel⟩
theorem wj:zu ["web","heap","place","many","thing","held","other"] ["web","heap","place","many","thing"] (ze yU):=⟨rfl,rfl,rfl,by decide +kernel,rfl,by decide +kernel,by decide +kernel⟩
theorem ZR:zu ["web","heap","place","many","found"] ["web","heap","place","many"] (ze xE):=⟨rfl,rfl,rfl,by decide +kernel,rfl,by decide +kernel,by decide +kernel⟩
theorem wq:zu ["e","found"] ["e"] (ze xD):=⟨rfl,rfl,rfl,by decide +kernel,rfl,by decide +kernel,by decide +kernel⟩
theorem vb:zu ["many","found","a"] ["many"] (ze xH):=⟨rfl,rfl,rfl,by decide +kernel,rfl,by decide +kernel,by decide +kernel⟩
theorem vM:zu ["cell","k","number"] ["cell","k"] (ze x6):=⟨rfl,rfl,rfl,by decide +kernel,rfl,by decide +kernel,by decide +kernel⟩
theorem wJ:zu ["many","cell","ties","k","tie"] ["many","cell"] (ze xi):=⟨rfl,rfl,rfl,by decide +kernel,rfl,by decide +kernel,by decide +kernel⟩
theorem zQ:zu ["many","cell","most","left","heap","digits","k","stones"] ["many","cell","most"] (ze yQ):=⟨rfl,rfl,rfl,by decide +kernel,rfl,by decide +kernel,by decide +kernel⟩
theorem Y0:zu ["found","due","one","other"] ["found","due"] (ze xZ):=⟨rfl,rfl,rfl,by decide +kernel,rfl,by decide +kernel,by decide +kernel⟩
theorem Xn:zu ["way","web","heap","many","e"] ["way","web","heap","many"] (ze xV):=⟨rfl,rfl,rfl,by decide +kernel,rfl,by decide +kernel,by decide +kernel⟩
theorem Zk:zu ["script","cell","many","web","heap","bad","way","found","twelve"] ["script"] (ze WO):=⟨rfl,rfl,rfl,by decide +kernel,rfl,by decide +kernel,by decide +kernel⟩
noncomputable abbrev wy:Stmt:=zjD (top 14) 0
theorem zau:zu ["self","many","most"] ["self","many","most"] (ze wy):=⟨rfl,rfl,rfl,by decide +kernel,rfl,by decide +kernel,by decide +kernel⟩
set_option genInjectivity false in
set_option genSizeOf false in
set_option genCtorIdx false in
structure Adr where
  f_is_whole:Addr
  e_is_whole:FuncData
  f_is_whole_within:Addr
  e_is_whole_within:FuncData
  f_must_be_within:Addr
  e_must_be_within:FuncData
  f_must_be_at_most:Addr
  e_must_be_at_most:FuncData
  f_is_place_count:Addr
  e_is_place_count:FuncData
  f_is_place:Addr
  e_is_place:FuncData
  f_are_counts:Addr
  e_are_counts:FuncData
  f_is_pair:Addr
  e_is_pair:FuncData
  f_are_ties:Addr
  e_are_ties:FuncData
  f_is_web:Addr
  e_is_web:FuncData
  f_must_be_web:Addr
  e_must_be_web:FuncData
  f_must_be_place:Addr
  e_must_be_place:FuncData
  f_tie_between:Addr
  e_tie_between:FuncData
  f_neighbours:Addr
  e_neighbours:FuncData
  f_are_stones:Addr
  e_are_stones:FuncData
  f_must_be_heap:Addr
  e_must_be_heap:FuncData
  f_all_steps:Addr
  e_all_steps:FuncData
  f_stepped:Addr
  e_stepped:FuncData
  f_heaps_behind:Addr
  e_heaps_behind:FuncData
  f_most_at:Addr
  e_most_at:FuncData
  f_steps_to:Addr
  e_steps_to:FuncData
  f_must_be_asked:Addr
  e_must_be_asked:FuncData
  f_reach:Addr
  e_reach:FuncData
  f_reached:Addr
  e_reached:FuncData
  f_is_closed:Addr
  e_is_closed:FuncData
  f_closed_holds:Addr
  e_closed_holds:FuncData
  f_closed_for:Addr
  e_closed_for:FuncData
  f__law_kinds:Addr
  e__law_kinds:FuncData
  f__law_pairs:Addr
  e__law_pairs:FuncData
  f__law_stir:Addr
  e__law_stir:FuncData
  f__law_web_by:Addr
  e__law_web_by:FuncData
  f__law_heap_by:Addr
  e__law_heap_by:FuncData
  f__law_same:Addr
  e__law_same:FuncData
  f__law_came:Addr
  e__law_came:FuncData
  f_law:Addr
  e_law:FuncData
  t_MOST_PLACES:Tok
  t_MOST_STONES:Tok
  t_MOST_SEARCHED:Tok
  x_NoWeb:Addr
  x_NoKind:Addr
  x_NoHeap:Addr
  x_NoPlace:Addr
  x_NoNumber:Addr
  x_NoTally:Addr
  x_NotTree:Addr
  x_NotJoined:Addr
  x_NoWeights:Addr
  x_NoRow:Addr
  x_NoSteps:Addr
  x_NoText:Addr
  x_TooGreat:Addr
  x_StoneError:Addr
  i_TooGreat:Addr
  j_TooGreat:FuncData
noncomputable def ziJ (ad:Adr):List Addr:=[ad.x_NoWeb,ad.x_NoKind,ad.x_NoHeap,ad.x_NoPlace,ad.x_NoNumber,ad.x_NoTally,ad.x_NotTree,ad.x_NotJoined,ad.x_NoWeights,ad.x_NoRow,ad.x_NoSteps,ad.x_NoText,ad.x_TooGreat]
noncomputable def clT (ad:Adr)(j:Nat):Addr:=(ziJ ad).getD (j % 16) 0
theorem zik (ad:Adr)(j:Nat):clT ad j=clT ad (j % 16):=by unfold clT;rw [Nat.mod_mod]
set_option genInjectivity false in
set_option genSizeOf false in
set_option genCtorIdx false in
structure Txt (K:PySem.W.Frag) (mg:Str→Option Value) (ad:Adr):Prop where
  d_is_whole:Def K mg "is_whole" wB ["thing"] ad.f_is_whole ad.e_is_whole
  d_is_whole_within:Def K mg "is_whole_within" yc ["thing","least","most"] ad.f_is_whole_within ad.e_is_whole_within
  d_must_be_within:Def K mg "must_be_within" yj ["thing","least","most"] ad.f_must_be_within ad.e_must_be_within
  d_must_be_at_most:Def K mg "must_be_at_most" ya ["many","most"] ad.f_must_be_at_most ad.e_must_be_at_most
  d_is_place_count:Def K mg "is_place_count" yl ["thing"] ad.f_is_place_count ad.e_is_place_count
  d_is_place:Def K mg "is_place" wz ["many","thing"] ad.f_is_place ad.e_is_place
  d_are_counts:Def K mg "are_counts" xF ["many","thing"] ad.f_are_counts ad.e_are_counts
  d_is_pair:Def K mg "is_pair" vk ["many","thing"] ad.f_is_pair ad.e_is_pair
  d_are_ties:Def K mg "are_ties" wA ["many","thing"] ad.f_are_ties ad.e_are_ties
  d_is_web:Def K mg "is_web" Yc ["thing"] ad.f_is_web ad.e_is_web
  d_must_be_web:Def K mg "must_be_web" xm ["thing"] ad.f_must_be_web ad.e_must_be_web
  d_must_be_place:Def K mg "must_be_place" yu ["web","thing"] ad.f_must_be_place ad.e_must_be_place
  d_tie_between:Def K mg "tie_between" xg ["one","other"] ad.f_tie_between ad.e_tie_between
  d_neighbours:Def K mg "neighbours" xC ["web","place"] ad.f_neighbours ad.e_neighbours
  d_are_stones:Def K mg "are_stones" xG ["web","thing"] ad.f_are_stones ad.e_are_stones
  d_must_be_heap:Def K mg "must_be_heap" yT ["web","thing"] ad.f_must_be_heap ad.e_must_be_heap
  d_all_steps:Def K mg "all_steps" xU ["web"] ad.f_all_steps ad.e_all_steps
  d_stepped:Def K mg "stepped" vn ["heap","step"] ad.f_stepped ad.e_stepped
  d_heaps_behind:Def K mg "heaps_behind" yO ["web","heap"] ad.f_heaps_behind ad.e_heaps_behind
  d_most_at:Def K mg "most_at" vh ["web","heap","place"] ad.f_most_at ad.e_most_at
  d_steps_to:Def K mg "steps_to" vy ["found","heap"] ad.f_steps_to ad.e_steps_to
  d_must_be_asked:Def K mg "must_be_asked" yx ["web","heap","place","many"] ad.f_must_be_asked ad.e_must_be_asked
  d_reach:Def K mg "reach" Ze ["web","heap","place","many"] ad.f_reach ad.e_reach
  d_reached:Def K mg "reached" vj ["web","heap"] ad.f_reached ad.e_reached
  d_is_closed:Def K mg "is_closed" xX ["web","held"] ad.f_is_closed ad.e_is_closed
  d_closed_holds:Def K mg "closed_holds" yU ["web","heap","place","many","thing"] ad.f_closed_holds ad.e_closed_holds
  d_closed_for:Def K mg "closed_for" xE ["web","heap","place","many"] ad.f_closed_for ad.e_closed_for
  d__law_kinds:Def K mg "_law_kinds" xD ["e"] ad.f__law_kinds ad.e__law_kinds
  d__law_pairs:Def K mg "_law_pairs" xH ["many"] ad.f__law_pairs ad.e__law_pairs
  d__law_stir:Def K mg "_law_stir" x6 ["cell","k"] ad.f__law_stir ad.e__law_stir
  d__law_web_by:Def K mg "_law_web_by" xi ["many","cell"] ad.f__law_web_by ad.e__law_web_by
  d__law_heap_by:Def K mg "_law_heap_by" yQ ["many","cell","most"] ad.f__law_heap_by ad.e__law_heap_by
  d__law_same:Def K mg "_law_same" xZ ["found","due"] ad.f__law_same ad.e__law_same
  d__law_came:Def K mg "_law_came" xV ["way","web","heap","many"] ad.f__law_came ad.e__law_came
  d_law:Def K mg "law" WO ["script"] ad.f_law ad.e_law
  g_MOST_PLACES:mg "MOST_PLACES"=some (Value.int 8 ad.t_MOST_PLACES)
  g_MOST_STONES:mg "MOST_STONES"=some (Value.int 300 ad.t_MOST_STONES)
  g_MOST_SEARCHED:mg "MOST_SEARCHED"=some (Value.int 12 ad.t_MOST_SEARCHED)
  z_ValueError:mg "ValueError"=none
  z_all:mg "all"=none
  z_any:mg "any"=none
  z_bool:mg "bool"=none
  z_enumerate:mg "enumerate"=none
  z_int:mg "int"=none
  z_isinstance:mg "isinstance"=none
  z_len:mg "len"=none
  z_list:mg "list"=none
  z_max:mg "max"=none
  z_min:mg "min"=none
  z_range:mg "range"=none
  z_str:mg "str"=none
  z_sum:mg "sum"=none
  z_tuple:mg "tuple"=none
  z_zip:mg "zip"=none
  g_NoWeb:mg "NoWeb"=some (Value.ref ad.x_NoWeb)
  g_NoKind:mg "NoKind"=some (Value.ref ad.x_NoKind)
  g_NoHeap:mg "NoHeap"=some (Value.ref ad.x_NoHeap)
  g_NoPlace:mg "NoPlace"=some (Value.ref ad.x_NoPlace)
  g_NoNumber:mg "NoNumber"=some (Value.ref ad.x_NoNumber)
  g_NoTally:mg "NoTally"=some (Value.ref ad.x_NoTally)
  g_NotTree:mg "NotTree"=some (Value.ref ad.x_NotTree)
  g_NotJoined:mg "NotJoined"=some (Value.ref ad.x_NotJoined)
  g_NoWeights:mg "NoWeights"=some (Value.ref ad.x_NoWeights)
  g_NoRow:mg "NoRow"=some (Value.ref ad.x_NoRow)
  g_NoSteps:mg "NoSteps"=some (Value.ref ad.x_NoSteps)
  g_NoText:mg "NoText"=some (Value.ref ad.x_NoText)
  g_TooGreat:mg "TooGreat"=some (Value.ref ad.x_TooGreat)
  g_StoneError:mg "StoneError"=some (Value.ref ad.x_StoneError)
  c_NoNumber:PySem.W.excIn K ad.x_NoNumber bmV "ValueError.__new__"=true
  y_NoNumber:WT K (ziJ ad) ad.x_StoneError ad.x_NoNumber 4=true
  y_TooGreat:WT K (ziJ ad) ad.x_StoneError ad.x_TooGreat 12=true
  fi_TooGreat:Fun K "__init__" "TooGreat.__init__" wy ad.i_TooGreat ad.j_TooGreat
  bi_TooGreat:XH K ad.j_TooGreat ["self","many","most"] []
  ei_TooGreat:zjb K ad.x_TooGreat ad.i_TooGreat=true
  ea_TooGreat:VQ K ad.x_TooGreat=true
  na_TooGreat:zkJ K ad.x_TooGreat ["many","most"]=true
theorem zkx:(["part","many","thing"]:List Str).Nodup:=by decide +kernel
theorem zkY:(["other","web","place"]:List Str).Nodup:=by decide +kernel
theorem zkE:(["other","web","found","place"]:List Str).Nodup:=by decide +kernel
theorem zk6:(["b","many","found","a"]:List Str).Nodup:=by decide +kernel
theorem zkr:(["step","web","heap","steps","found","rim","further","now","·step","then"]:List Str).Nodup:=by decide +kernel
theorem zk7:(["place","web","heap","found"]:List Str).Nodup:=by decide +kernel
theorem zkQ:(["other","place","web","heap","found"]:List Str).Nodup:=by decide +kernel
noncomputable def Z1:D→Bool
  | .int _=>true
  | _=>false
noncomputable def y6 (d:D)(lo hi:Int):Bool:=match d with
  | .int i=>decide (lo≤i)&&decide (i≤hi)
  | _=>false
section
variable {P:Program}{w:World}{K:PySem.W.Frag}{mg:Str→Option Value}{base:Heap}{ad:Adr}
noncomputable def yy:List D→Option D
  | [d]=>if noS d=true then some (.bl (Z1 d)) else none
  | _=>none
noncomputable def Xa:SE→Ctl :=
  (xp (vF (eUn (yo .int) (zd 0)) (ZF (eUn (yo .bool) (zd 0)))))
noncomputable def zcF:List D→Option D:=fnD 1 Xa
theorem zim {α:Type}{ds:List α}(h:ds.length=1):∃ a,ds=[a]:=by match ds,h with | [a],_=>exact ⟨a,rfl⟩
theorem zcT {α:Type}{ds:List α}(h:ds.length=2):∃ a b,ds=[a,b]:=by match ds,h with | [a,b],_=>exact ⟨a,b,rfl⟩
theorem len3 {α:Type}{ds:List α}(h:ds.length=3):∃ a b c,ds=[a,b,c]:=by match ds,h with | [a,b,c],_=>exact ⟨a,b,c,rfl⟩
theorem ifS {c:Bool}{x y:D}(h:(if c=true then some x else none)=some y):c=true∧x=y:=by
  split at h
  · cases h
    exact ⟨by assumption,rfl⟩
  · cases h
theorem zaX:∀ ds d,ds.length=1→yy ds=some d→zcF ds=some d:=by
  intro ds d hl h
  obtain ⟨a,rfl⟩:=zim hl
  obtain ⟨hn,rfl⟩:=ifS h
  cases a <;> first | rfl | cases hn
theorem Wp (T:Txt K mg ad):xB P w K mg base CX0 1 ad.f_is_whole ad.e_is_whole ["thing"] (@spD ⟨K⟩ 1 yy):=by
  letI:KK:=⟨K⟩
  refine wO (xK (N:=["thing"]) (ps:=["thing"]) T.d_is_whole.fn za5 (g:=Xa) fun cdv A outer s H E hr=>?_) zaX
  unfold Xa
  exact (zj (zN (Yy (zS .int rfl T.z_isinstance (zb 0 (pv 0)) (y8 (v:=.ty "int") rfl T.z_int zc3 rfl)) (Zn (zgR (zS .bool rfl T.z_isinstance (zb 0 (pv 0)) (y8 (v:=.ty "bool") rfl T.z_bool W9 rfl)))))))
noncomputable def yY:SE→Ctl :=
  (xp (vF (zo 1 yy (zc (zd 0) zq)) (yp leD leD (zd 1) (zd 0) (zd 2))))
noncomputable def v8:List D→Option D:=fnD 3 yY
noncomputable def zv:List D→Option D
  | [d,.int lo,.int hi]=>if noS d=true then some (.bl (y6 d lo hi)) else none
  | _=>none
theorem VI {a:D}{lo hi:Int}(hn:noS a=true)(hw:Z1 a=false):v8 [a,.int lo,.int hi]=some (.bl false):=by
  have e:yy [a]=some (.bl false):=by
    show (if noS a=true then some (D.bl (Z1 a)) else none)=_
    rw [if_pos hn,hw]
  refine Wy (ρ:=[.v a,.v (.int lo),.v (.int hi)]) rfl ?_
  unfold yY
  refine Xv (Wv ?_) rfl
  show (((yy [a]).bind asB).bind fun c=>if c=true then _ else some (D.bl false))=_
  rw [e]
  rfl
theorem ZH:∀ ds d,ds.length=3→zv ds=some d→v8 ds=some d:=by
  intro ds d hl h
  obtain ⟨a,b,c,rfl⟩:=len3 hl
  cases b <;> try cases h
  cases c <;> try cases h
  rename_i lo hi
  obtain ⟨hn,rfl⟩:=ifS h
  cases a with
  | scr _=>cases hn
  | int i =>
    refine Wy (ρ:=[.v (.int i),.v (.int lo),.v (.int hi)]) rfl ?_
    unfold yY
    refine Xv (Wv ?_) rfl
    show (if decide (lo≤i)=true then some (D.bl (decide (i≤hi))) else some (.bl false))=some (.bl (decide (lo≤i)&&decide (i≤hi)))
    cases decide (lo≤i) <;> rfl
  | tup es=>exact VI hn rfl
  | lst es=>exact VI hn rfl
  | dct z t ks vs=>exact VI hn rfl
  | non=>rfl
  | bl _=>rfl
  | str _=>rfl
theorem xq (T:Txt K mg ad):xB P w K mg base CX0 2 ad.f_is_whole_within ad.e_is_whole_within ["thing","least","most"] (@spD ⟨K⟩ 3 zv):=by
  letI:KK:=⟨K⟩
  have G_is_whole:=Wp (P:=P) (w:=w) (base:=base) T
  refine wO (xK (N:=["thing","least","most"]) (ps:=["thing","least","most"]) T.d_is_whole_within.fn ZO (g:=yY) fun cdv A outer s H E hr=>?_) ZH
  unfold yY
  exact (zj (zN (Yy (zl (G_is_whole.mono (by decide)) hr rfl T.d_is_whole.at_ T.d_is_whole.kp T.d_is_whole.bd (za (zb 0 (pv 0)) zf)) (Zn (zf2 zdp zdp xa xa (zb 1 (pv 1)) (zb 0 (pv 0)) (zb 2 (pv 2)) (fun a b c=>zff zdp zdp a b c))))))
noncomputable def xS:SE→Ctl :=
  (xp (zo 3 zv (zc (zd 0) (zc (eC (.int 1)) (zc (eC (.int 8)) zq)))))
noncomputable def wT:List D→Option D:=fnD 1 xS
noncomputable def xc:List D→Option D
  | [d]=>if noS d=true then some (.bl (y6 d 1 8)) else none
  | _=>none
theorem Xb:∀ ds d,ds.length=1→xc ds=some d→wT ds=some d:=by
  intro ds d hl h
  obtain ⟨a,rfl⟩:=zim hl
  have e:wT [a]=zv [a,.int 1,.int 8]:=by
    cases h2:zv [a,.int 1,.int 8] <;> simp [wT,xS,fnD,zT,xp,wE,sIf,wu,xJ,sNo,zJ,Xh,Zb,YF,ZG,Zr,vEv,visF,visG,Sl.f,Sl.g,zd,eC,zp,vF,eOr,ZF,eIf,eUn,Z2,vC,wK,yd,zc,zq,zo,eFn,fFn,tOf,yA,YB,yr,asB,asI,zE,Zc,vP,yB,xT,Za,xN,ltD,leD,gtD,geD,Zh,zD,zU,zI,zR,Zu,zV,ixD,YN,yo,isT,eSl,wa,x9,yp,xo,iOf,Yq,xA,YE,vE,Y1,yq,wn,fLC,yZ,yh,x8,yM,Zl,xI,Zw,b1,b2,h2]
  rw [e]
  exact h
theorem Xj (T:Txt K mg ad):xB P w K mg base CX0 3 ad.f_is_place_count ad.e_is_place_count ["thing"] (@spD ⟨K⟩ 1 xc):=by
  letI:KK:=⟨K⟩
  have G_is_whole_within:=xq (P:=P) (w:=w) (base:=base) T
  refine wO (xK (N:=["thing"]) (ps:=["thing"]) T.d_is_place_count.fn Z6 (g:=xS) fun cdv A outer s H E hr=>?_) Xb
  unfold xS
  exact (zj (zN (zl (G_is_whole_within.mono (by decide)) hr rfl T.d_is_whole_within.at_ T.d_is_whole_within.kp T.d_is_whole_within.bd (za (zb 0 (pv 0)) (za (zg zi) (za (zg (yf (v:=.int 8) rfl T.g_MOST_PLACES ⟨_,rfl⟩)) zf))))))
noncomputable def Y8:SE→Ctl :=
  (xp (zo 3 zv (zc (zd 1) (zc (eC (.int 0)) (zc (zp Zc (zd 0) (eC (.int 1))) zq)))))
noncomputable def Xk:List D→Option D:=fnD 2 Y8
noncomputable def xl:List D→Option D
  | [.int m,d]=>if noS d=true then some (.bl (y6 d 0 (m - 1))) else none
  | _=>none
theorem zbz:∀ ds d,ds.length=2→xl ds=some d→Xk ds=some d:=by
  intro ds d hl h
  obtain ⟨a,b,rfl⟩:=zcT hl
  cases a <;> try cases h
  rename_i m
  have e:Xk [.int m,b]=zv [b,.int 0,.int (m - 1)]:=by
    cases h2:zv [b,.int 0,.int (m - 1)] <;> simp [Xk,Y8,fnD,zT,xp,wE,sIf,wu,xJ,sNo,zJ,Xh,Zb,YF,ZG,Zr,vEv,visF,visG,Sl.f,Sl.g,zd,eC,zp,vF,eOr,ZF,eIf,eUn,Z2,vC,wK,yd,zc,zq,zo,eFn,fFn,tOf,yA,YB,yr,asB,asI,zE,Zc,vP,yB,xT,Za,xN,ltD,leD,gtD,geD,Zh,zD,zU,zI,zR,Zu,zV,ixD,YN,yo,isT,eSl,wa,x9,yp,xo,iOf,Yq,xA,YE,vE,Y1,yq,wn,fLC,yZ,yh,x8,yM,Zl,xI,Zw,b1,b2,h2]
  rw [e]
  exact h
theorem Wt (T:Txt K mg ad):xB P w K mg base CX0 3 ad.f_is_place ad.e_is_place ["many","thing"] (@spD ⟨K⟩ 2 xl):=by
  letI:KK:=⟨K⟩
  have G_is_whole_within:=xq (P:=P) (w:=w) (base:=base) T
  refine wO (xK (N:=["many","thing"]) (ps:=["many","thing"]) T.d_is_place.fn zby (g:=Y8) fun cdv A outer s H E hr=>?_) zbz
  unfold Y8
  exact (zj (zN (zl (G_is_whole_within.mono (by decide)) hr rfl T.d_is_whole_within.at_ T.d_is_whole_within.kp T.d_is_whole_within.bd (za (zb 1 (pv 1)) (za (zg zi) (za (VY (zb 0 (pv 0)) (zg zi)) zf))))))
theorem za4 {m i:Int}:y6 (.int i) 0 (m - 1)=inR m i:=rfl
theorem zhP {d:D}{lo hi:Int}(h:∀ i,d≠.int i):y6 d lo hi=false:=by
  cases d <;> first | rfl | exact absurd rfl (h _)
theorem zaz {d:D}{lo hi:Int}(h:y6 d lo hi=true):∃ i,d=.int i:=by
  cases d with
  | int i=>exact ⟨i,rfl⟩
  | _=>cases h
noncomputable def ZL:SE→Ctl :=
  (zT (sIf (YB (yr (tOf (eUn (yo .tuple) (zd 1)))) (tOf (zp neD (eFn YN (zc (zd 1) zq)) (eC (.int 2))))) (xp (eC (.bl false))) zJ)
    (xp (vF (zo 2 xl (zc (zd 0) (zc (zp ixD (zd 1) (eC (.int 0))) zq))) (vF (zo 2 xl (zc (zd 0) (zc (zp ixD (zd 1) (eC (.int 1))) zq))) (zp neD (zp ixD (zd 1) (eC (.int 0))) (zp ixD (zd 1) (eC (.int 1))))))))
noncomputable def zeF:List D→Option D:=fnD 2 ZL
noncomputable def vz:List D→Option D
  | [.int m,d]=>if noS d=true then some (.bl (wU m d)) else none
  | _=>none
theorem zfR {m:Int}{x y:D}(h:y6 x 0 (m - 1)=false):wU m (.tup [x,y])=false:=by
  cases x with
  | int i =>
    cases y with
    | int j =>
      show (inR m i&&inR m j&&!decide (i=j))=false
      rw [show inR m i=false from h]
      rfl
    | _=>rfl
  | _=>rfl
theorem zfz {m:Int}{x y:D}(h:y6 y 0 (m - 1)=false):wU m (.tup [x,y])=false:=by
  cases x with
  | int i =>
    cases y with
    | int j =>
      show (inR m i&&inR m j&&!decide (i=j))=false
      rw [show inR m j=false from h,Bool.and_false]
      rfl
    | _=>rfl
  | _=>rfl
theorem zcM:∀ ds d,ds.length=2→vz ds=some d→zeF ds=some d:=by
  intro ds d hl h
  obtain ⟨a,b,rfl⟩:=zcT hl
  cases a <;> try cases h
  rename_i m
  obtain ⟨hn,rfl⟩:=ifS h
  clear h
  cases b with
  | tup es =>
    refine Wy (ρ:=[.v (.int m),.v (.tup es)]) rfl ?_
    unfold ZL
    by_cases hl:es.length=2
    · obtain ⟨x,y,rfl⟩:=zcT hl
      have hx:noS x=true:=Yn (ds:=[x,y]) (i:=0) hn rfl
      have hy:noS y=true:=Yn (ds:=[x,y]) (i:=1) hn rfl
      have e0:xl [.int m,x]=some (.bl (y6 x 0 (m - 1))):=by
        show (if noS x=true then some (D.bl (y6 x 0 (m - 1))) else none)=_
        rw [if_pos hx]
      have e1:xl [.int m,y]=some (.bl (y6 y 0 (m - 1))):=by
        show (if noS y=true then some (D.bl (y6 y 0 (m - 1))) else none)=_
        rw [if_pos hy]
      refine zM (ρ':=[.v (.int m),.v (.tup [x,y])]) rfl (Xv (Wv ?_) rfl)
      show (((xl [.int m,x]).bind asB).bind fun c=>if c=true then (((xl [.int m,y]).bind asB).bind fun c=>if c=true then neD x y else some (D.bl false)) else some (D.bl false))=_
      rw [e0,e1]
      cases h1:y6 x 0 (m - 1) with
      | false=>rw [zfR h1];rfl
      | true =>
        cases h2:y6 y 0 (m - 1) with
        | false=>rw [zfz h2];rfl
        | true =>
          obtain ⟨i,rfl⟩:=zaz h1
          obtain ⟨j,rfl⟩:=zaz h2
          show some (D.bl (!decide (i=j)))=some (.bl (inR m i&&inR m j&&!decide (i=j)))
          rw [show inR m i=true from h1,show inR m j=true from h2]
          rfl
    · have e:wU m (.tup es)=false:=by
        unfold wU Zo
        split
        · rename_i t ht
          split at ht
          · rename_i e'
            injection e' with e'
            rw [e'] at hl
            exact absurd rfl hl
          · cases ht
        · rfl
      rw [e]
      refine vg (zaK (c:=true) ?_ (fun _=>Xv rfl rfl) fun z=>by cases z)
      show some (!decide ((es.length:Int)=2))=_
      rw [decide_eq_false (show ¬ (es.length:Int)=2 from fun h=>hl (Int.ofNat.inj h))]
      rfl
  | scr _=>cases hn
  | _=>rfl
theorem zcI (T:Txt K mg ad):xB P w K mg base CX0 4 ad.f_is_pair ad.e_is_pair ["many","thing"] (@spD ⟨K⟩ 2 vz):=by
  letI:KK:=⟨K⟩
  have G_is_place:=Wt (P:=P) (w:=w) (base:=base) T
  refine wO (xK (N:=["many","thing"]) (ps:=["many","thing"]) T.d_is_pair.fn zcB (g:=ZL) fun cdv A outer s H E hr=>?_) zcM
  unfold ZL
  exact (zh (xn (zcA (zbw (vK (wx (zS .tuple rfl T.z_isinstance (zb 1 (pv 1)) (y8 (v:=.ty "tuple") rfl T.z_tuple vc rfl)))) (Wn (zL Vg Xp (zA _) (zY x5 Xl rfl T.z_len W0 (za (zb 1 (pv 1)) zf)) (zg zi))))) (zj (zN (vY vD))) zB)
      (zj (zN (Yy (zl (G_is_place.mono (by decide)) hr rfl T.d_is_place.at_ T.d_is_place.kp T.d_is_place.bd (za (zb 0 (pv 0)) (za (wv (zb 1 (pv 1)) (zg zi) (fun _ _=>rfl)) zf))) (Yy (zl (G_is_place.mono (by decide)) hr rfl T.d_is_place.at_ T.d_is_place.kp T.d_is_place.bd (za (zb 0 (pv 0)) (za (wv (zb 1 (pv 1)) (zg zi) (fun _ _=>rfl)) zf))) (Zn (ZV Vg Xp (zA _) (wv (zb 1 (pv 1)) (zg zi) (fun _ _=>rfl)) (wv (zb 1 (pv 1)) (zg zi) (fun _ _=>rfl)))))))))
end
section
variable {P:Program}{w:World}{K:PySem.W.Frag}{mg:Str→Option Value}{base:Heap}{ad:Adr}
noncomputable def V8 (ds:List D):Nat→Option Tie
  | 0=>none
  | k+1=>(ds[k]?).bind Zo
noncomputable def YQ:SE→Ctl :=
  (zT (sIf (YB (yr (tOf (zo 2 vz (zc (zd 0) (zc (zd 3) zq))))) (tOf (zp gtD (zp ixD (zd 3) (eC (.int 0))) (zp ixD (zd 3) (eC (.int 1)))))) (xp (eC (.bl false))) zJ)
    (sIf (yA (tOf (zp gtD (zd 2) (eC (.int 0)))) (tOf (zp leT (zd 3) (zp ixD (zd 1) (zp Zc (zd 2) (eC (.int 1))))))) (xp (eC (.bl false))) zJ))
noncomputable def v9:SE→Ctl :=
  (zT (sIf (yr (tOf (eUn (yo .tuple) (zd 1)))) (xp (eC (.bl false))) zJ)
    (zT (Yq (yq (zc (zd 1) zq)) (Zl 2 (xI (yM 2) (xI (yM 3) Zw))) YQ)
    (xp (eC (.bl true)))))
noncomputable def zcm:List D→Option D:=fnD 4 v9
noncomputable def vZ:List D→Option D
  | [.int m,d]=>if noS d=true then some (.bl (Y7 m d)) else none
  | _=>none
theorem WF {m:Int}{d:D}(h:wU m d=true):∃ t,d=zw t:=by
  unfold wU at h
  split at h
  · rename_i t ht
    exact ⟨t,Wo ht⟩
  · cases h
theorem zaY:∀ ds d,ds.length=2→vZ ds=some d→zcm ds=some d:=by
  intro ds d hl h
  obtain ⟨a,b,rfl⟩:=zcT hl
  cases a <;> try cases h
  rename_i m
  obtain ⟨hn,rfl⟩:=ifS h
  clear h hl
  cases b with
  | scr _=>cases hn
  | tup es =>
    refine Wy (g:=v9) rfl ?_
    unfold v9
    refine zM rfl ?_
    refine vg (zee (ds:=WB 0 es) (fun i ρ=>∃ o1 o2,ρ=[.v (.int m),.v (.tup es),o1,o2]∧y9 m none es=y9 m (V8 es i) (es.drop i)∧∀ k,i=k+1→∃ p,es[k]?=some (zw p)) rfl
      ⟨.no,.no,rfl,rfl,fun k e=>by cases e⟩ ?_ ?_)
    · rintro i d ρ hd ⟨o1,o2,rfl,hp,hk⟩
      rw [ZP] at hd
      obtain ⟨dx,hdx,rfl⟩:=Option.map_eq_some_iff.mp hd
      rw [Nat.zero_add]
      refine ⟨_,rfl,?_⟩
      have hdrop:es.drop i=dx::es.drop (i+1):=by
        obtain ⟨h1,h2⟩:=List.getElem?_eq_some_iff.mp hdx
        rw [List.drop_eq_getElem_cons h1,h2]
      have hnx:noS dx=true:=Yn hn hdx
      unfold YQ
      cases hpr:wU m dx with
      | false =>
        have e1:vz [.int m,dx]=some (.bl false):=by
          show (if noS dx=true then some (D.bl (wU m dx)) else none)=_
          rw [if_pos hnx,hpr]
        refine vg (zaK (c:=true) (show (((vz [.int m,dx]).bind asB).map (!·)).bind (fun c=>if c=true then some true else _)=_ by rw [e1];rfl) (fun _=>Xv rfl ?_) (fun z=>by cases z))
        have e:y9 m none es=false:=by
          rw [hp,hdrop]
          unfold y9
          split
          · rw [hpr];rfl
          · rfl
        show D.bl false=.bl (y9 m none es)
        rw [e]
      | true =>
        obtain ⟨t,rfl⟩:=WF hpr
        have e1:vz [.int m,zw t]=some (.bl true):=by
          show (if noS (zw t)=true then some (D.bl (wU m (zw t))) else none)=_
          rw [if_pos hnx,hpr]
        have step:y9 m none es=(!decide (t.2 < t.1)&&zaq (V8 es i) t&&y9 m (some t) (es.drop (i+1))):=by
          rw [hp,hdrop]
          conv=>lhs;unfold y9
          rw [YU,hpr]
          rfl
        have prevS:V8 es (i+1)=some t:=by
          show (es[i]?).bind Zo=some t
          rw [hdx]
          rfl
        refine vg (zaK (c:=decide (t.2 < t.1)) (show (((vz [.int m,zw t]).bind asB).map (!·)).bind (fun c=>if c=true then some true else some (decide (t.2 < t.1)))=_ by rw [e1];rfl) (fun c=>Xv rfl ?_) (fun c=>Wx rfl ?_))
        · show D.bl false=.bl (y9 m none es)
          rw [step,c]
          rfl
        · cases i with
          | zero =>
            refine zaK (c:=false) rfl (fun z=>by cases z) (fun _=>Wx rfl ?_)
            refine ⟨_,_,rfl,?_,fun k e=>?_⟩
            · rw [prevS,step,c]
              rfl
            · cases e
              exact ⟨t,hdx⟩
          | succ j =>
            obtain ⟨p,hpk⟩:=hk j rfl
            have prevK:V8 es (j+1)=some p:=by
              show (es[j]?).bind Zo=some p
              rw [hpk]
              rfl
            rw [prevK] at step
            have ea:atI es ((((j+1:Nat):Int)) - 1)=some (zw p):=by
              rw [show (((j+1:Nat):Int)) - 1=(j:Nat) from Int.add_sub_cancel (j:Int) 1]
              exact zhY hpk
            have okP:zaq (some p) t=!leP t p:=rfl
            refine zaK (c:=leP t p) ?_ (fun c2=>Xv rfl ?_) (fun c2=>Wx rfl ?_)
            · have z:decide ((0:Int) < ((j+1:Nat):Int))=true:=decide_eq_true (Int.natCast_pos.mpr (Nat.succ_pos j))
              show ((some (decide ((0:Int) < ((j+1:Nat):Int)))).bind fun c=>if c=true then (((atI es (((j+1:Nat):Int) - 1)).bind fun y=>leT (zw t) y).bind asB) else some false)=_
              rw [z,ea]
              rfl
            · show D.bl false=.bl (y9 m none es)
              rw [step,okP,c2,c]
              rfl
            · refine ⟨_,_,rfl,?_,fun k' e=>?_⟩
              · rw [prevS,step,okP,c2,c]
                rfl
              · cases e
                exact ⟨t,hdx⟩
    · rintro ρ ⟨o1,o2,rfl,hp,hk⟩
      refine Xv rfl ?_
      show D.bl true=.bl (y9 m none es)
      rw [hp,YY,List.drop_length]
      cases V8 es es.length <;> rfl
  | _=>rfl
theorem za2 (T:Txt K mg ad):xB P w K mg base CX0 5 ad.f_are_ties ad.e_are_ties ["many","thing"] (@spD ⟨K⟩ 2 vZ):=by
  letI:KK:=⟨K⟩
  have G_is_pair:=zcI (P:=P) (w:=w) (base:=base) T
  refine wO (xK (N:=["many","thing","at","tie"]) (ps:=["many","thing"]) T.d_are_ties.fn Zs (g:=v9) fun cdv A outer s H E hr=>?_) zaY
  unfold v9 YQ
  exact (zh (xn (vK (wx (zS .tuple rfl T.z_isinstance (zb 1 (pv 1)) (y8 (v:=.ty "tuple") rfl T.z_tuple vc rfl)))) (zj (zN (vY vD))) zB)
      (zh (Wu PassesOwn.never rfl (zcX rfl T.z_enumerate Xt (za (zb 1 (pv 1)) zf)) (zeR rfl (Zd (wc (yI (i:=2) Zs.nd rfl (Or.inl rfl))) (Zd (wc (yI (i:=3) Zs.nd rfl (Or.inl rfl))) zaS))) (zh (xn (zcA (zbw (vK (wx (zl (G_is_pair.mono (by decide)) hr rfl T.d_is_pair.at_ T.d_is_pair.kp T.d_is_pair.bd (za (zb 0 (pv 0)) (za (zb 3 (pv 3)) zf))))) (Wn (zL zcN xa (zA _) (wv (zb 3 (pv 3)) (zg zi) (fun _ _=>rfl)) (wv (zb 3 (pv 3)) (zg zi) (fun _ _=>rfl)))))) (zj (zN (vY vD))) zB)
      (zj (xn (zcA (WP (zL zcN xa (zA _) (zb 2 (pv 2)) (zg zi)) (Xm (zL (zj3 hr.units0) zhz (zA _) (zb 3 (pv 3)) (wv (zb 1 (pv 1)) (VY (zb 2 (pv 2)) (zg zi)) (fun _ _=>rfl)))))) (zj (zN (vY vD))) zB))))
      (zj (zN (vY vD)))))
noncomputable def Y6:SE→Ctl :=
  (zT (sIf (YB (yr (tOf (eUn (yo .tuple) (zd 0)))) (tOf (zp neD (eFn YN (zc (zd 0) zq)) (eC (.int 2))))) (xp (eC (.bl false))) zJ)
    (xp (vF (zo 1 xc (zc (zp ixD (zd 0) (eC (.int 0))) zq)) (zo 2 vZ (zc (zp ixD (zd 0) (eC (.int 0))) (zc (zp ixD (zd 0) (eC (.int 1))) zq))))))
noncomputable def XV:List D→Option D:=fnD 1 Y6
noncomputable def ZM:List D→Option D
  | [d]=>if noS d=true then some (.bl (Yu d)) else none
  | _=>none
theorem zdY {x y:D}:Yu (.tup [x,y])=(y6 x 1 8&&match x with | .int m=>Y7 m y | _=>false):=by
  cases x <;> rfl
theorem zeG:∀ ds d,ds.length=1→ZM ds=some d→XV ds=some d:=by
  intro ds d hl h
  obtain ⟨a,rfl⟩:=zim hl
  obtain ⟨hn,rfl⟩:=ifS h
  clear h hl
  cases a with
  | scr _=>cases hn
  | tup es =>
    by_cases hl:es.length=2
    · obtain ⟨x,y,rfl⟩:=zcT hl
      have hx:noS x=true:=Yn (ds:=[x,y]) (i:=0) hn rfl
      have hy:noS y=true:=Yn (ds:=[x,y]) (i:=1) hn rfl
      have ec:xc [x]=some (.bl (y6 x 1 8)):=by simp [xc,hx]
      rw [zdY]
      by_cases ix:∃ i,x=.int i
      · obtain ⟨i,rfl⟩:=ix
        have et:vZ [.int i,y]=some (.bl (Y7 i y)):=by simp [vZ,hy]
        cases hc:y6 (.int i) 1 8 <;> rw [hc] at ec <;> simp [XV,Y6,fnD,zT,xp,wE,sIf,wu,xJ,sNo,zJ,Xh,Zb,YF,ZG,Zr,vEv,visF,visG,Sl.f,Sl.g,zd,eC,zp,vF,eOr,ZF,eIf,eUn,Z2,vC,wK,yd,zc,zq,zo,eFn,fFn,tOf,yA,YB,yr,asB,asI,zE,Zc,vP,yB,xT,Za,xN,ltD,leD,gtD,geD,Zh,zD,zU,zI,zR,Zu,zV,ixD,YN,yo,isT,eSl,wa,x9,yp,xo,iOf,Yq,xA,YE,vE,Y1,yq,wn,fLC,yZ,yh,x8,yM,Zl,xI,Zw,b1,b2,ec,et,atI,ixN]
      · have n2:y6 x 1 8=false:=zhP fun j hj=>ix ⟨j,hj⟩
        rw [n2] at ec ⊢
        simp [XV,Y6,fnD,zT,xp,wE,sIf,wu,xJ,sNo,zJ,Xh,Zb,YF,ZG,Zr,vEv,visF,visG,Sl.f,Sl.g,zd,eC,zp,vF,eOr,ZF,eIf,eUn,Z2,vC,wK,yd,zc,zq,zo,eFn,fFn,tOf,yA,YB,yr,asB,asI,zE,Zc,vP,yB,xT,Za,xN,ltD,leD,gtD,geD,Zh,zD,zU,zI,zR,Zu,zV,ixD,YN,yo,isT,eSl,wa,x9,yp,xo,iOf,Yq,xA,YE,vE,Y1,yq,wn,fLC,yZ,yh,x8,yM,Zl,xI,Zw,b1,b2,ec,atI,ixN]
    · have e:Yu (.tup es)=false:=zhu fun m ties h _=>by
        unfold xu at h
        injection h with h
        rw [h] at hl
        exact hl rfl
      rw [e]
      have:¬ (es.length:Int)=2:=by omega
      simp [XV,Y6,fnD,zT,xp,wE,sIf,wu,xJ,sNo,zJ,Xh,Zb,YF,ZG,Zr,vEv,visF,visG,Sl.f,Sl.g,zd,eC,zp,vF,eOr,ZF,eIf,eUn,Z2,vC,wK,yd,zc,zq,zo,eFn,fFn,tOf,yA,YB,yr,asB,asI,zE,Zc,vP,yB,xT,Za,xN,ltD,leD,gtD,geD,Zh,zD,zU,zI,zR,Zu,zV,ixD,YN,yo,isT,eSl,wa,x9,yp,xo,iOf,Yq,xA,YE,vE,Y1,yq,wn,fLC,yZ,yh,x8,yM,Zl,xI,Zw,b1,b2,this]
  | _=>rfl
theorem zdg (T:Txt K mg ad):xB P w K mg base CX0 6 ad.f_is_web ad.e_is_web ["thing"] (@spD ⟨K⟩ 1 ZM):=by
  letI:KK:=⟨K⟩
  have G_is_place_count:=Xj (P:=P) (w:=w) (base:=base) T
  have G_are_ties:=za2 (P:=P) (w:=w) (base:=base) T
  refine wO (xK (N:=["thing"]) (ps:=["thing"]) T.d_is_web.fn zc6 (g:=Y6) fun cdv A outer s H E hr=>?_) zeG
  unfold Y6
  exact (zh (xn (zcA (zbw (vK (wx (zS .tuple rfl T.z_isinstance (zb 0 (pv 0)) (y8 (v:=.ty "tuple") rfl T.z_tuple vc rfl)))) (Wn (zL Vg Xp (zA _) (zY x5 Xl rfl T.z_len W0 (za (zb 0 (pv 0)) zf)) (zg zi))))) (zj (zN (vY vD))) zB)
      (zj (zN (Yy (zl (G_is_place_count.mono (by decide)) hr rfl T.d_is_place_count.at_ T.d_is_place_count.kp T.d_is_place_count.bd (za (wv (zb 0 (pv 0)) (zg zi) (fun _ _=>rfl)) zf)) (Zn (zl (G_are_ties.mono (by decide)) hr rfl T.d_are_ties.at_ T.d_are_ties.kp T.d_are_ties.bd (za (wv (zb 0 (pv 0)) (zg zi) (fun _ _=>rfl)) (za (wv (zb 0 (pv 0)) (zg zi) (fun _ _=>rfl)) zf))))))))
theorem zh2 (m:Int)(ts:List Tie):noS (xu m ts)=true:=by
  have:∀ ts:List Tie,zeW (ts.map zw)=true:=by
    intro ts
    induction ts with
    | nil=>rfl
    | cons t ts ih=>show (noS (zw t)&&zeW (ts.map zw))=true;rw [ih];rfl
  show (noS (.int m)&&(noS (.tup (ts.map zw))&&true))=true
  rw [show noS (.tup (ts.map zw))=zeW (ts.map zw) from rfl,this ts]
  rfl
noncomputable def vd:SE→Ctl :=
  (sIf (yr (tOf (zo 1 ZM (zc (zd 0) zq)))) sNo zJ)
noncomputable def ZQ:List D→Option D:=fnD 1 vd
noncomputable def zX:List D→Option D
  | [d]=>if Yu d=true then some .non else none
  | _=>none
theorem WE:∀ ds d,ds.length=1→zX ds=some d→ZQ ds=some d:=by
  intro ds d hl h
  obtain ⟨a,rfl⟩:=zim hl
  obtain ⟨hw,rfl⟩:=ifS h
  obtain ⟨m,ts,rfl,_⟩:=(Ye a).mp hw
  have e:ZM [xu m ts]=some (.bl true):=by simp [ZM,zh2 m ts,hw]
  simp [ZQ,vd,fnD,zT,xp,wE,sIf,wu,xJ,sNo,zJ,Xh,Zb,YF,ZG,Zr,vEv,visF,visG,Sl.f,Sl.g,zd,eC,zp,vF,eOr,ZF,eIf,eUn,Z2,vC,wK,yd,zc,zq,zo,eFn,fFn,tOf,yA,YB,yr,asB,asI,zE,Zc,vP,yB,xT,Za,xN,ltD,leD,gtD,geD,Zh,zD,zU,zI,zR,Zu,zV,ixD,YN,yo,isT,eSl,wa,x9,yp,xo,iOf,Yq,xA,YE,vE,Y1,yq,wn,fLC,yZ,yh,x8,yM,Zl,xI,Zw,b1,b2,e]
theorem xh (T:Txt K mg ad):xB P w K mg base CX0 7 ad.f_must_be_web ad.e_must_be_web ["thing"] (@spD ⟨K⟩ 1 zX):=by
  letI:KK:=⟨K⟩
  have G_is_web:=zdg (P:=P) (w:=w) (base:=base) T
  refine wO (xK (N:=["thing"]) (ps:=["thing"]) T.d_must_be_web.fn Wz (g:=vd) fun cdv A outer s H E hr=>?_) WE
  unfold vd
  exact (zj (xn (vK (wx (zl (G_is_web.mono (by decide)) hr rfl T.d_is_web.at_ T.d_is_web.kp T.d_is_web.bd (za (zb 0 (pv 0)) zf)))) (zj ZK) zB))
end
section
variable {P:Program}{w:World}{K:PySem.W.Frag}{mg:Str→Option Value}{base:Heap}{ad:Adr}
noncomputable def wl:D→Bool
  | .int i=>decide (0≤i)
  | _=>false
noncomputable def zkC:D→Int
  | .int i=>i
  | _=>0
noncomputable def wm (m:Int):D→Bool
  | .tup ds=>decide ((ds.length:Int)=m)&&ds.all wl
  | _=>false
theorem zgb {α:Type}(f:α→Bool)(l:List α):zi7 [.lst (l.map fun x=>.bl (f x))]=some (.bl (l.all f)):=by
  have:zgr (l.map fun x=>D.bl (f x))=some (l.map f):=by
    have:=ze8 (l.map f)
    rwa [List.map_map] at this
  show ((zgr (l.map fun x=>D.bl (f x))).bind fun bs=>some (D.bl (bs.all id)))=_
  rw [this]
  show some (D.bl ((l.map f).all id))=_
  rw [List.all_map]
  rfl
theorem zbg {ds:List D}(h:ds.all wl=true):∃ ns:List Int,ds=ns.map .int∧∀ n∈ns,0≤n:=by
  induction ds with
  | nil=>exact ⟨[],rfl,by simp⟩
  | cons d ds ih =>
    rw [List.all_cons,Bool.and_eq_true] at h
    obtain ⟨ns,rfl,hn⟩:=ih h.2
    cases d with
    | int i=>exact ⟨i::ns,rfl,fun n hm=>by
        rcases List.mem_cons.mp hm with rfl | hm
        · exact of_decide_eq_true h.1
        · exact hn n hm⟩
    | _=>exact absurd h.1 Bool.false_ne_true
theorem zc8 {ns:List Int}(h:∀ n∈ns,0≤n):(ns.map D.int).all wl=true:=by
  rw [List.all_map,List.all_eq_true]
  exact fun n hn=>decide_eq_true (h n hn)
theorem zeL (ns:List Int):VN [.tup (ns.map .int)]=some (.int ns.sum):=by
  show ((zg2 (ns.map .int)).bind fun ns=>some (D.int ns.sum))=_
  rw [zbW]
  rfl
noncomputable def xW:SE→Ctl :=
  (zT (sIf (YB (yr (tOf (eUn (yo .tuple) (zd 1)))) (tOf (zp neD (eFn YN (zc (zd 1) zq)) (zd 0)))) (xp (eC (.bl false))) zJ)
    (xp (eFn zi7 (zc (wK (fLC (iOf (zd 1)) b1 yZ (vF (zo 1 yy (zc (zd 0) zq)) (zp geD (zd 0) (eC (.int 0)))))) zq))))
noncomputable def Xu:List D→Option D:=fnD 2 xW
noncomputable def wQ:List D→Option D
  | [.int m,d]=>if (noS d&&decide (m≤1000))=true then some (.bl (wm m d)) else none
  | _=>none
theorem zjF {d:D}(hn:noS d=true):((yy [d]).bind asB).bind (fun c=>if c=true then geD d (.int 0) else some (.bl false))=some (.bl (wl d)):=by
  cases d with
  | scr _=>cases hn
  | tup _=>simp [yy,hn,Z1,asB,wl]
  | lst _=>simp [yy,hn,Z1,asB,wl]
  | _=>rfl
theorem Vm:∀ ds d,ds.length=2→wQ ds=some d→Xu ds=some d:=by
  intro ds d hl h
  obtain ⟨a,b,rfl⟩:=zcT hl
  cases a <;> try cases h
  rename_i m
  obtain ⟨hn,rfl⟩:=ifS h
  clear h hl
  rw [Bool.and_eq_true,decide_eq_true_eq] at hn
  obtain ⟨hn,hm⟩:=hn
  cases b with
  | scr _=>cases hn
  | tup es =>
    by_cases hl:(es.length:Int)=m
    · have e:fLC (iOf (zd 1)) b1 yZ (vF (zo 1 yy (zc (zd 0) zq)) (zp geD (zd 0) (eC (.int 0)))) [some (.int m),some (.tup es)]=some (es.map fun d=>.bl (wl d)):=by
        unfold fLC
        show (if lim es.length=true then _ else none)=_
        rw [if_pos (vU (by omega))]
        have:=Ve (b:=b1) (t:=yZ) (f:=vF (zo 1 yy (zc (zd 0) zq)) (zp geD (zd 0) (eC (.int 0)))) (ρ:=[some (.int m),some (.tup es)]) id (fun d=>.bl (wl d)) es
          (fun d hd=>⟨[some d],rfl,rfl,zjF (by obtain ⟨j,hj,rfl⟩:=List.getElem_of_mem hd;exact Yn (i:=j) hn (by simp [hj]))⟩)
        rwa [List.map_id] at this
      show fnD 2 xW _=_
      refine Wy rfl ?_
      unfold xW
      refine vg (zaK (c:=false) (by simp [fnD,zT,xp,wE,sIf,wu,xJ,sNo,zJ,Xh,Zb,YF,ZG,Zr,vEv,visF,visG,Sl.f,Sl.g,zd,eC,zp,vF,eOr,ZF,eIf,eUn,Z2,vC,wK,yd,zc,zq,zo,eFn,fFn,tOf,yA,YB,yr,asB,asI,zE,Zc,vP,yB,xT,Za,xN,ltD,leD,gtD,geD,Zh,zD,zU,zI,zR,Zu,zV,ixD,YN,yo,isT,eSl,wa,x9,yp,xo,iOf,Yq,xA,YE,vE,Y1,yq,wn,fLC,yZ,yh,x8,yM,Zl,xI,Zw,b1,b2,hl]) (fun z=>by cases z) fun _=>Wx rfl (Xv (d:=.bl (es.all wl)) ?_ ?_))
      · show (match (((fLC (iOf (zd 1)) b1 yZ (vF (zo 1 yy (zc (zd 0) zq)) (zp geD (zd 0) (eC (.int 0)))) [some (.int m),some (.tup es)]).map D.lst).bind fun d=>(some []:Option (List D)).map (d::·)).bind zi7 with | some d=>Ctl.rt d | none=>Ctl.no)=_
        rw [e]
        show (match zi7 [.lst (es.map fun d=>.bl (wl d))] with | some d=>Ctl.rt d | none=>Ctl.no)=_
        rw [zgb]
      · show D.bl (es.all wl)=.bl (decide ((es.length:Int)=m)&&es.all wl)
        rw [decide_eq_true hl,Bool.true_and]
    · have e:wm m (.tup es)=false:=by
        show (decide ((es.length:Int)=m)&&es.all wl)=false
        rw [decide_eq_false hl,Bool.false_and]
      rw [e]
      simp [Xu,xW,fnD,zT,xp,wE,sIf,wu,xJ,sNo,zJ,Xh,Zb,YF,ZG,Zr,vEv,visF,visG,Sl.f,Sl.g,zd,eC,zp,vF,eOr,ZF,eIf,eUn,Z2,vC,wK,yd,zc,zq,zo,eFn,fFn,tOf,yA,YB,yr,asB,asI,zE,Zc,vP,yB,xT,Za,xN,ltD,leD,gtD,geD,Zh,zD,zU,zI,zR,Zu,zV,ixD,YN,yo,isT,eSl,wa,x9,yp,xo,iOf,Yq,xA,YE,vE,Y1,yq,wn,fLC,yZ,yh,x8,yM,Zl,xI,Zw,b1,b2,hl]
  | _=>rfl
theorem Vc (T:Txt K mg ad):xB P w K mg base CX0 2 ad.f_are_counts ad.e_are_counts ["many","thing"] (@spD ⟨K⟩ 2 wQ):=by
  letI:KK:=⟨K⟩
  have G_is_whole:=Wp (P:=P) (w:=w) (base:=base) T
  refine wO (xK (N:=["many","thing"]) (ps:=["many","thing"]) T.d_are_counts.fn W3 (g:=xW) fun cdv A outer s H E hr=>?_) Vm
  unfold xW
  exact (zh (xn (zcA (zbw (vK (wx (zS .tuple rfl T.z_isinstance (zb 1 (pv 1)) (y8 (v:=.ty "tuple") rfl T.z_tuple vc rfl)))) (Wn (zL Vg Xp (zA _) (zY x5 Xl rfl T.z_len W0 (za (zb 1 (pv 1)) zf)) (zb 0 (pv 0)))))) (zj (zN (vY vD))) zB)
      (zj (zN (zY (zdE rfl) zha rfl T.z_all ziS (za (vX (zbG (L:=["part"]) (M:=["many","thing"]) rfl (WZ (by rfl) (by rfl) (by rfl) (by with_unfolding_all rfl) (by rfl) (by rfl) (by kernel_rfl) ZD) (We (zb 1 (pv 1))) gs1 rb1 (fun _ _ _ _=>(yI (i:=0) zkx rfl (Or.inl rfl) (.inr rfl))) (fun _ _ _ _=>(Yy (zl (G_is_whole.mono (by decide)) hr rfl T.d_is_whole.at_ T.d_is_whole.kp T.d_is_whole.bd (za (zb 0 (pv 0)) zf)) (Zn (ZV zhG xa (zA _) (zb 0 (pv 0)) (zg zi))))))) zf)))))
noncomputable def ZB (m:Int):D→Bool
  | .tup ds=>wm m (.tup ds)&&decide ((ds.map zkC).sum≤300)
  | _=>false
theorem WU (ns:List Int):(ns.map D.int).map zkC=ns:=by rw [List.map_map];exact (List.map_congr_left fun _ _=>rfl).trans (List.map_id _)
noncomputable def wN:SE→Ctl :=
  (xp (vF (zo 2 wQ (zc (zp ixD (zd 0) (eC (.int 0))) (zc (zd 1) zq))) (zp leD (eFn VN (zc (zd 1) zq)) (eC (.int 300)))))
noncomputable def YV:List D→Option D:=fnD 2 wN
noncomputable def xz:List D→Option D
  | [.tup [.int m,_],d]=>if (noS d&&decide (m≤1000))=true then some (.bl (ZB m d)) else none
  | _=>none
theorem Vn:∀ ds d,ds.length=2→xz ds=some d→YV ds=some d:=by
  intro ds d hl h
  obtain ⟨a,b,rfl⟩:=zcT hl
  unfold xz at h
  split at h
  · rename_i m t b' e
    injection e with e1 e2
    injection e2 with e2 _
    subst e1 e2
    obtain ⟨hn,rfl⟩:=ifS h
    have ec:wQ [.int m,b]=some (.bl (wm m b)):=by simp only [wQ];rw [if_pos hn]
    cases hc:wm m b with
    | false =>
      rw [hc] at ec
      have e3:ZB m b=false:=by
        cases b <;> try rfl
        show (wm m _&&_)=false
        rw [hc]
        rfl
      rw [e3]
      simp [YV,wN,fnD,zT,xp,wE,sIf,wu,xJ,sNo,zJ,Xh,Zb,YF,ZG,Zr,vEv,visF,visG,Sl.f,Sl.g,zd,eC,zp,vF,eOr,ZF,eIf,eUn,Z2,vC,wK,yd,zc,zq,zo,eFn,fFn,tOf,yA,YB,yr,asB,asI,zE,Zc,vP,yB,xT,Za,xN,ltD,leD,gtD,geD,Zh,zD,zU,zI,zR,Zu,zV,ixD,YN,yo,isT,eSl,wa,x9,yp,xo,iOf,Yq,xA,YE,vE,Y1,yq,wn,fLC,yZ,yh,x8,yM,Zl,xI,Zw,b1,b2,ec,atI,ixN]
    | true =>
      rw [hc] at ec
      cases b with
      | tup es =>
        have h2:es.all wl=true:=by
          unfold wm at hc
          rw [Bool.and_eq_true] at hc
          exact hc.2
        obtain ⟨ns,rfl,hns⟩:=zbg h2
        have e3:ZB m (.tup (ns.map .int))=decide (ns.sum≤300):=by
          show (wm m _&&decide (((ns.map D.int).map zkC).sum≤300))=_
          rw [hc,WU,Bool.true_and]
        rw [e3]
        simp [YV,wN,fnD,zT,xp,wE,sIf,wu,xJ,sNo,zJ,Xh,Zb,YF,ZG,Zr,vEv,visF,visG,Sl.f,Sl.g,zd,eC,zp,vF,eOr,ZF,eIf,eUn,Z2,vC,wK,yd,zc,zq,zo,eFn,fFn,tOf,yA,YB,yr,asB,asI,zE,Zc,vP,yB,xT,Za,xN,ltD,leD,gtD,geD,Zh,zD,zU,zI,zR,Zu,zV,ixD,YN,yo,isT,eSl,wa,x9,yp,xo,iOf,Yq,xA,YE,vE,Y1,yq,wn,fLC,yZ,yh,x8,yM,Zl,xI,Zw,b1,b2,ec,zeL,atI,ixN]
      | _=>cases hc
  · cases h
theorem Yj (T:Txt K mg ad):xB P w K mg base CX0 3 ad.f_are_stones ad.e_are_stones ["web","thing"] (@spD ⟨K⟩ 2 xz):=by
  letI:KK:=⟨K⟩
  have G_are_counts:=Vc (P:=P) (w:=w) (base:=base) T
  refine wO (xK (N:=["web","thing"]) (ps:=["web","thing"]) T.d_are_stones.fn VF (g:=wN) fun cdv A outer s H E hr=>?_) Vn
  unfold wN
  exact (zj (zN (Yy (zl (G_are_counts.mono (by decide)) hr rfl T.d_are_counts.at_ T.d_are_counts.kp T.d_are_counts.bd (za (wv (zb 0 (pv 0)) (zg zi) (fun _ _=>rfl)) (za (zb 1 (pv 1)) zf))) (Zn (ZV zdp xa (zA _) (zY (xO rfl) vS rfl T.z_sum Zj (za (zb 1 (pv 1)) zf)) (zg (yf (v:=.int 300) rfl T.g_MOST_STONES ⟨_,rfl⟩)))))))
end
section
variable {P:Program}{w:World}{K:PySem.W.Frag}{mg:Str→Option Value}{base:Heap}{ad:Adr}
theorem zbB {m:Int}{ts:List Tie}(h:Yd m ts):vE [.int m]=some (XJ 0 m.toNat):=by
  have:=h.lo
  have:=h.hi
  show (if ze9 m=true then some (XJ 0 m.toNat) else none)=_
  rw [if_pos (xR.mpr ⟨by omega,by omega⟩)]
noncomputable def wH:SE→Ctl :=
  (sIf (yr (tOf (zo 2 xz (zc (zd 0) (zc (zd 1) zq))))) sNo zJ)
noncomputable def Zm:List D→Option D:=fnD 2 wH
noncomputable def zO:List D→Option D
  | [.tup [.int m,_],d]=>if (noS d&&decide (m≤1000)&&ZB m d)=true then some .non else none
  | _=>none
theorem Wc:∀ ds d,ds.length=2→zO ds=some d→Zm ds=some d:=by
  intro ds d hl h
  obtain ⟨a,b,rfl⟩:=zcT hl
  unfold zO at h
  split at h
  · rename_i m t b' e
    injection e with e1 e2
    injection e2 with e2 _
    subst e1 e2
    obtain ⟨hn,rfl⟩:=ifS h
    rw [Bool.and_eq_true] at hn
    have ec:xz [.tup [.int m,t],b]=some (.bl true):=by simp only [xz];rw [if_pos hn.1,hn.2]
    simp [Zm,wH,fnD,zT,xp,wE,sIf,wu,xJ,sNo,zJ,Xh,Zb,YF,ZG,Zr,vEv,visF,visG,Sl.f,Sl.g,zd,eC,zp,vF,eOr,ZF,eIf,eUn,Z2,vC,wK,yd,zc,zq,zo,eFn,fFn,tOf,yA,YB,yr,asB,asI,zE,Zc,vP,yB,xT,Za,xN,ltD,leD,gtD,geD,Zh,zD,zU,zI,zR,Zu,zV,ixD,YN,yo,isT,eSl,wa,x9,yp,xo,iOf,Yq,xA,YE,vE,Y1,yq,wn,fLC,yZ,yh,x8,yM,Zl,xI,Zw,b1,b2,ec]
  · cases h
theorem yX (T:Txt K mg ad):xB P w K mg base CX0 4 ad.f_must_be_heap ad.e_must_be_heap ["web","thing"] (@spD ⟨K⟩ 2 zO):=by
  letI:KK:=⟨K⟩
  have G_are_stones:=Yj (P:=P) (w:=w) (base:=base) T
  refine wO (xK (N:=["web","thing"]) (ps:=["web","thing"]) T.d_must_be_heap.fn XX (g:=wH) fun cdv A outer s H E hr=>?_) Wc
  unfold wH
  exact (zj (xn (vK (wx (zl (G_are_stones.mono (by decide)) hr rfl T.d_are_stones.at_ T.d_are_stones.kp T.d_are_stones.bd (za (zb 0 (pv 0)) (za (zb 1 (pv 1)) zf))))) (zj ZK) zB))
theorem zeE {m:Int}{ts:List Tie}(h:Yd m ts):decide (m≤1000)=true:=decide_eq_true (by have:=h.hi;omega)
noncomputable def zhm:D→Int
  | .tup [.int m,_]=>m
  | _=>0
noncomputable def zhR:D→List Tie
  | .tup [_,.tup l]=>(zdL l).getD []
  | _=>[]
theorem Wr (m:Int)(ts:List Tie):zhm (xu m ts)=m:=rfl
theorem zeH (ts:List Tie):ts.map zw=ts.map prD:=rfl
theorem Wd (m:Int)(ts:List Tie):zhR (xu m ts)=ts:=by
  show (zdL (ts.map zw)).getD []=ts
  rw [zeH,zdX]
  rfl
noncomputable def zkc (a b:Int):Tie:=(if b < a then b else a,if b > a then b else a)
noncomputable def we:SE→Ctl :=
  (sIf (yr (tOf (zo 2 xl (zc (zp ixD (zd 0) (eC (.int 0))) (zc (zd 1) zq))))) sNo zJ)
noncomputable def YR:List D→Option D:=fnD 2 we
noncomputable def zZ:List D→Option D
  | [.tup [.int m,_],.int p]=>if (decide (0≤p)&&decide (p≤m - 1))=true then some .non else none
  | _=>none
theorem XF:∀ ds d,ds.length=2→zZ ds=some d→YR ds=some d:=by
  intro ds d hl h
  obtain ⟨a,b,rfl⟩:=zcT hl
  unfold zZ at h
  split at h
  · rename_i m t p' e
    injection e with e1 e2
    injection e2 with e2 _
    subst e1 e2
    obtain ⟨hn,rfl⟩:=ifS h
    have ec:xl [.int m,.int p']=some (.bl true):=by
      show (if noS (.int p')=true then some (D.bl (y6 (.int p') 0 (m - 1))) else none)=_
      rw [if_pos (show noS (.int p')=true from rfl),za4]
      unfold inR
      rw [hn]
    simp [YR,we,fnD,zT,xp,wE,sIf,wu,xJ,sNo,zJ,Xh,Zb,YF,ZG,Zr,vEv,visF,visG,Sl.f,Sl.g,zd,eC,zp,vF,eOr,ZF,eIf,eUn,Z2,vC,wK,yd,zc,zq,zo,eFn,fFn,tOf,yA,YB,yr,asB,asI,zE,Zc,vP,yB,xT,Za,xN,ltD,leD,gtD,geD,Zh,zD,zU,zI,zR,Zu,zV,ixD,YN,yo,isT,eSl,wa,x9,yp,xo,iOf,Yq,xA,YE,vE,Y1,yq,wn,fLC,yZ,yh,x8,yM,Zl,xI,Zw,b1,b2,ec,atI,ixN]
  · cases h
theorem xQ (T:Txt K mg ad):xB P w K mg base CX0 4 ad.f_must_be_place ad.e_must_be_place ["web","thing"] (@spD ⟨K⟩ 2 zZ):=by
  letI:KK:=⟨K⟩
  have G_is_place:=Wt (P:=P) (w:=w) (base:=base) T
  refine wO (xK (N:=["web","thing"]) (ps:=["web","thing"]) T.d_must_be_place.fn XC (g:=we) fun cdv A outer s H E hr=>?_) XF
  unfold we
  exact (zj (xn (vK (wx (zl (G_is_place.mono (by decide)) hr rfl T.d_is_place.at_ T.d_is_place.kp T.d_is_place.bd (za (wv (zb 0 (pv 0)) (zg zi) (fun _ _=>rfl)) (za (zb 1 (pv 1)) zf))))) (zj ZK) zB))
theorem Xe {m:Int}{ts:List Tie}{p:Int}(hp:0≤p∧p < m):zZ [xu m ts,.int p]=some .non:=by
  show (if (decide (0≤p)&&decide (p≤m - 1))=true then some D.non else none)=_
  rw [decide_eq_true hp.1,decide_eq_true (by omega)]
  rfl
noncomputable def Yp:SE→Ctl :=
  (xp (vC (zc (eFn zgd (zc (zd 0) (zc (zd 1) zq))) (zc (eFn ziR (zc (zd 0) (zc (zd 1) zq))) zq))))
noncomputable def VD:List D→Option D:=fnD 2 Yp
noncomputable def wk:List D→Option D
  | [.int a,.int b]=>some (zw (zkc a b))
  | _=>none
theorem WC:∀ ds d,ds.length=2→wk ds=some d→VD ds=some d:=by
  intro ds d hl h
  obtain ⟨a,b,rfl⟩:=zcT hl
  cases a <;> try cases h
  cases b <;> try cases h
  rfl
theorem WK (T:Txt K mg ad):xB P w K mg base CX0 1 ad.f_tie_between ad.e_tie_between ["one","other"] (@spD ⟨K⟩ 2 wk):=by
  letI:KK:=⟨K⟩
  refine wO (xK (N:=["one","other"]) (ps:=["one","other"]) T.d_tie_between.fn WL (g:=Yp) fun cdv A outer s H E hr=>?_) WC
  unfold Yp
  exact (zj (zN (YX (za (zY (zay rfl) zbU rfl T.z_min zgs (za (zb 0 (pv 0)) (za (zb 1 (pv 1)) zf))) (za (zY (zdH rfl) zfc rfl T.z_max ziQ (za (zb 0 (pv 0)) (za (zb 1 (pv 1)) zf))) zf)))))
theorem zdc (ts:List Tie):(ts.map zw).all (okE 20)=true:=by
  rw [List.all_map,List.all_eq_true]
  exact fun t _=>rfl
theorem zbQ (s t:Tie):eqN 20 (zw s) (zw t)=decide (s=t):=by
  have:eqN 20 (zw s) (zw t)=((s.1 == t.1)&&((s.2 == t.2)&&true)&&true):=rfl
  rw [this,Bool.and_true,Bool.and_true]
  by_cases h:s=t
  · subst h
    simp
  · rw [decide_eq_false h,Bool.and_eq_false_iff]
    by_cases h1:s.1=t.1
    · exact .inr (beq_eq_false_iff_ne.mpr fun h2=>h (Prod.ext h1 h2))
    · exact .inl (beq_eq_false_iff_ne.mpr h1)
theorem zfH (t:Tie)(ts:List Tie):inD (zw t) (.tup (ts.map zw))=some (.bl (decide (t∈ts))):=by
  show (zj1 (zw t) (ts.map zw)).map D.bl=_
  unfold zj1
  rw [if_pos ⟨rfl,zdc ts⟩]
  show some (D.bl ((ts.map zw).any fun e=>eqN 20 e (zw t)))=_
  rw [List.any_map]
  congr 2
  rw [Bool.eq_iff_iff,List.any_eq_true,decide_eq_true_eq]
  constructor
  · rintro ⟨s,hs,h⟩
    have h:eqN 20 (zw s) (zw t)=true:=h
    rw [zbQ,decide_eq_true_eq] at h
    subst h
    exact hs
  · exact fun h=>⟨t,h,by show eqN 20 (zw t) (zw t)=true;rw [zbQ];exact decide_eq_true rfl⟩
end
section
variable {P:Program}{w:World}{K:PySem.W.Frag}{mg:Str→Option Value}{base:Heap}{ad:Adr}
noncomputable def nbN (m:Int)(ts:List Tie)(p:Int):List Nat:=(List.range m.toNat).filter fun k:Nat=>decide (zkc p k∈ts)
noncomputable def zeV (k:Nat):D:=.int ((0:Int)+(k:Int))
noncomputable def vI:SE→Ctl :=
  (xp (wK (fLC (YE vE (zc (zp ixD (zd 0) (eC (.int 0))) zq)) b1 (tOf (zp inD (zo 2 wk (zc (zd 2) (zc (zd 0) zq))) (zp ixD (zd 1) (eC (.int 1))))) (zd 0))))
noncomputable def VZ:List D→Option D:=fnD 2 vI
noncomputable def y0:List D→Option D
  | [w,.int p]=>if Yu w=true then some (.lst ((nbN (zhm w) (zhR w) p).map zeV)) else none
  | _=>none
theorem Vw:∀ ds d,ds.length=2→y0 ds=some d→VZ ds=some d:=by
  intro ds d hl h
  obtain ⟨a,b,rfl⟩:=zcT hl
  cases b <;> try cases h
  rename_i p
  obtain ⟨hw,rfl⟩:=ifS h
  obtain ⟨m,ts,rfl,ok⟩:=(Ye a).mp hw
  rw [Wr,Wd]
  refine Wy rfl ?_
  unfold vI
  refine Xv (d:=.lst ((nbN m ts p).map zeV)) ?_ rfl
  have e:fLC (YE vE (zc (zp ixD (zd 0) (eC (.int 0))) zq)) b1 (tOf (zp inD (zo 2 wk (zc (zd 2) (zc (zd 0) zq))) (zp ixD (zd 1) (eC (.int 1))))) (zd 0) [some (xu m ts),some (.int p)]=some ((nbN m ts p).map zeV):=by
    unfold fLC
    show ((vE [.int m]).bind fun ds=>if lim ds.length=true then _ else none)=_
    rw [zbB ok]
    show (if lim (XJ 0 m.toNat).length=true then _ else none)=_
    rw [if_pos (vU (by rw [Wq];have:=ok.hi;omega))]
    refine WR (c:=zeV) (p:=fun k=>decide (zkc p k∈ts)) (y:=zeV) (List.range m.toNat) fun k hk=>⟨[some (zeV k)],rfl,?_,fun _=>rfl⟩
    show ((inD (zw (zkc p (0+(k:Int)))) (.tup (ts.map zw))).bind asB)=_
    rw [Int.zero_add,zfH]
    rfl
  show (match ((fLC (YE vE (zc (zp ixD (zd 0) (eC (.int 0))) zq)) b1 (tOf (zp inD (zo 2 wk (zc (zd 2) (zc (zd 0) zq))) (zp ixD (zd 1) (eC (.int 1))))) (zd 0) [some (xu m ts),some (.int p)]).map D.lst) with | some d=>Ctl.rt d | none=>Ctl.no)=_
  rw [e]
  rfl
theorem VE (T:Txt K mg ad):xB P w K mg base CX0 2 ad.f_neighbours ad.e_neighbours ["web","place"] (@spD ⟨K⟩ 2 y0):=by
  letI:KK:=⟨K⟩
  have G_tie_between:=WK (P:=P) (w:=w) (base:=base) T
  refine wO (xK (N:=["web","place"]) (ps:=["web","place"]) T.d_neighbours.fn Vj (g:=vI) fun cdv A outer s H E hr=>?_) Vw
  unfold vI
  exact (zj (zN (vX (zgK (L:=["other"]) (M:=["web","place"]) rfl (WZ (by rfl) (by rfl) (by rfl) (by with_unfolding_all rfl) (by rfl) (by rfl) (by kernel_rfl) (all_cons rfl (all_cons rfl ZD))) (zaB rfl T.z_range (za (wv (zb 0 (pv 0)) (zg zi) (fun _ _=>rfl)) zf)) gs1 rb1 (fun _ _ _ _=>(yI (i:=0) zkY rfl (Or.inl rfl) (.inr rfl))) (fun _ _ _ _=>(zL (zjm hr) ziB (by with_unfolding_all rfl) (zl (G_tie_between.mono (by decide)) hr rfl T.d_tie_between.at_ T.d_tie_between.kp T.d_tie_between.bd (za (zb 2 (pv 2)) (za (zb 0 (pv 0)) zf))) (wv (zb 1 (pv 1)) (zg zi) (fun _ _=>rfl)))) (fun _ _ _ _=>(zb 0 (pv 0)))))))
noncomputable def wX (m:Int)(ts:List Tie)(i:Nat):List Tie:=(List.range i).flatMap fun k:Nat=>(nbN m ts k).map fun o:Nat=>((0:Int)+(k:Int),(0:Int)+(o:Int))
noncomputable def zjn (m:Int)(ts:List Tie):List Tie:=wX m ts m.toNat
theorem XB (m:Int)(ts:List Tie)(i:Nat):wX m ts (i+1)=wX m ts i++(nbN m ts i).map fun o:Nat=>((0:Int)+(i:Int),(0:Int)+(o:Int)):=by
  unfold wX
  rw [List.range_succ,List.flatMap_append]
  simp
theorem Xf {m:Int}{ts:List Tie}{p:Int}(h:Yd m ts):(nbN m ts p).length≤8:=by
  refine Nat.le_trans (List.length_filter_le _ _) ?_
  rw [List.length_range]
  have:=h.hi
  omega
theorem WI {m:Int}{ts:List Tie}(h:Yd m ts)(i:Nat):(wX m ts i).length≤8*i:=by
  induction i with
  | zero=>simp [wX]
  | succ i ih =>
    rw [XB,List.length_append,List.length_map]
    have:=Xf (p:=(i:Int)) h
    omega
noncomputable def Yf:SE→Ctl :=
  (ZG 1 (wK (fLC (iOf (zo 2 y0 (zc (zd 0) (zc (zd 2) zq)))) b1 yZ (vC (zc (zd 3) (zc (zd 0) zq))))))
noncomputable def Ym:SE→Ctl :=
  (zT (Zb 1 (yd zq))
    (zT (xA vE (zc (zp ixD (zd 0) (eC (.int 0))) zq) (yM 2) Yf)
    (sFz 1 (xp (zd 1)))))
noncomputable def zbe:List D→Option D:=fnD 3 Ym
noncomputable def Zz:List D→Option D
  | [w]=>if Yu w=true then some (.lst ((zjn (zhm w) (zhR w)).map zw)) else none
  | _=>none
theorem zat:∀ ds d,ds.length=1→Zz ds=some d→zbe ds=some d:=by
  intro ds d hl h
  obtain ⟨a,rfl⟩:=zim hl
  obtain ⟨hw,rfl⟩:=ifS h
  obtain ⟨m,ts,rfl,ok⟩:=(Ye a).mp hw
  rw [Wr,Wd]
  refine Wy rfl ?_
  unfold Ym
  refine zM rfl ?_
  refine vg (zbI (lo:=0) (c:=m.toNat) (fun i ρ=>∃ o2,ρ=[.v (xu m ts),.o ((wX m ts i).map zw),o2]) (zbB ok) ⟨.no,rfl⟩ ?_ ?_)
  · rintro i ρ hi ⟨o2,rfl⟩
    refine ⟨_,rfl,?_⟩
    unfold Yf
    refine Wx (ρ':=[.v (xu m ts),.o ((wX m ts (i+1)).map zw),.v (.int (0+(i:Int)))]) ?_ ⟨_,rfl⟩
    have e:fLC (iOf (zo 2 y0 (zc (zd 0) (zc (zd 2) zq)))) b1 yZ (vC (zc (zd 3) (zc (zd 0) zq))) [some (xu m ts),none,some (.int (0+(i:Int)))]=some (((nbN m ts i).map fun o:Nat=>((0:Int)+(i:Int),(0:Int)+(o:Int))).map zw):=by
      unfold fLC
      have e1:y0 [xu m ts,.int (0+(i:Int))]=some (.lst ((nbN m ts i).map zeV)):=by
        simp only [y0]
        rw [if_pos hw,Wr,Wd,Int.zero_add]
      show ((y0 [xu m ts,.int (0+(i:Int))]).bind xo).bind _=_
      rw [e1]
      show (if lim ((nbN m ts i).map zeV).length=true then _ else none)=_
      rw [if_pos (vU (by rw [List.length_map];have:=Xf (p:=(i:Int)) ok;omega)),List.map_map]
      refine Ve zeV _ (nbN m ts i) fun o _=>⟨[some (zeV o)],rfl,rfl,?_⟩
      rfl
    have hl:lim (((wX m ts i).map zw).length+(((nbN m ts i).map fun o:Nat=>((0:Int)+(i:Int),(0:Int)+(o:Int))).map zw).length)=true:=by
      refine vU ?_
      simp only [List.length_map]
      have:=WI ok i
      have:=Xf (p:=(i:Int)) ok
      have:=ok.hi
      omega
    show (match (((fLC (iOf (zo 2 y0 (zc (zd 0) (zc (zd 2) zq)))) b1 yZ (vC (zc (zd 3) (zc (zd 0) zq))) [some (xu m ts),none,some (.int (0+(i:Int)))]).map D.lst).bind fun d=>match (some (Sl.o ((wX m ts i).map zw))),d with
      | some (.o ds),.lst es=>if lim (ds.length+es.length)=true then some ([.v (xu m ts),.o (ds++es),.v (.int (0+(i:Int)))]:SE) else none
      | _,_=>none) with | some ρ'=>Ctl.nx ρ' | none=>Ctl.no)=_
    rw [e]
    show (match (if lim (((wX m ts i).map zw).length+(((nbN m ts i).map fun o:Nat=>((0:Int)+(i:Int),(0:Int)+(o:Int))).map zw).length)=true then some ([.v (xu m ts),.o ((wX m ts i).map zw++((nbN m ts i).map fun o:Nat=>((0:Int)+(i:Int),(0:Int)+(o:Int))).map zw),.v (.int (0+(i:Int)))]:SE) else none) with | some ρ'=>Ctl.nx ρ' | none=>Ctl.no)=_
    rw [if_pos hl,XB,List.map_append]
  · rintro ρ ⟨o2,rfl⟩
    exact zk0 rfl (Xv rfl rfl)
theorem VS (T:Txt K mg ad):xB P w K mg base CX0 3 ad.f_all_steps ad.e_all_steps ["web"] (@spD ⟨K⟩ 1 Zz):=by
  letI:KK:=⟨K⟩
  have G_neighbours:=VE (P:=P) (w:=w) (base:=base) T
  refine wO (xK (N:=["web","found","place"]) (ps:=["web"]) T.d_all_steps.fn YZ (g:=Ym) fun cdv A outer s H E hr=>?_) zat
  unfold Ym Yf
  exact (zh (zaC (i:=1) YZ.nd rfl (Or.inl rfl) (wM zf))
      (zh (XN PassesOwn.never rfl rfl T.z_range (za (wv (zb 0 (pv 0)) (zg zi) (fun _ _=>rfl)) zf) (wc (yI (i:=2) YZ.nd rfl (Or.inr rfl))) (zj (zjC (pv 1) (vX (zbG (L:=["other"]) (M:=["web","found","place"]) rfl (WZ (by rfl) (by rfl) (by rfl) (by with_unfolding_all rfl) (by rfl) (by rfl) (by kernel_rfl) (all_cons rfl ZD)) (We (zl (G_neighbours.mono (by decide)) hr rfl T.d_neighbours.at_ T.d_neighbours.kp T.d_neighbours.bd (za (zb 0 (pv 0)) (za (zb 2 (pv 2)) zf)))) gs1 rb1 (fun _ _ _ _=>(yI (i:=0) zkE rfl (Or.inl rfl) (.inr rfl))) (fun _ _ _ _=>(YX (za (zb 3 (pv 3)) (za (zb 0 (pv 0)) zf)))))) (fun a b=>za3 PySem.F.plainAttrs_list PySem.F.slot_list_extend PySem.F.type_list_extend zem a b))))
      (zao 1 (zj (zN (zb 1 (pv 1)))))))
end
theorem zjY {m:Nat}{g:SE→Ctl}{ds:List D}{R:D→Prop}{ρ:SE}(e:ds.map .v++List.replicate (m - ds.length) .no=ρ)(q:(g ρ).w (fun _=>R .non) noP noP R):∃ d,fnD m g ds=some d∧R d:=by
  unfold fnD
  rw [e]
  cases hg:g ρ with
  | nx ρ'=>rw [hg] at q;exact ⟨_,rfl,q.nxi⟩
  | rt d'=>rw [hg] at q;exact ⟨_,rfl,q.rti⟩
  | bk _=>rw [hg] at q;exact q.bki.elim
  | ct _=>rw [hg] at q;exact q.cti.elim
  | no=>rw [hg] at q;exact q.noi.elim
section
variable {P:Program}{w:World}{K:PySem.W.Frag}{mg:Str→Option Value}{base:Heap}{ad:Adr}
noncomputable def Yh:SE→Ctl :=
  (zT (wu false 2 (zp xT (zp vP (zp Y3 (zp Y3 (zp xT (zd 0) (eC (.int 2147483647))) (zp vP (eC (.int 977)) (zd 1))) (eC (.int 1))) (eC (.int 48271))) (eC (.int 2147483647))))
    (zT (wu false 2 (zp xT (zp vP (zd 2) (zd 2)) (eC (.int 2147483629))))
    (zT (wu false 2 (zp xT (zp vP (zp Y3 (zd 2) (zp vP (eC (.int 40692)) (zp Y3 (zd 1) (eC (.int 3))))) (eC (.int 69621))) (eC (.int 2147483647))))
    (xp (zp yB (zd 2) (eC (.int 8)))))))
noncomputable def zbs:List D→Option D:=fnD 3 Yh
noncomputable def yE:List D→Option D
  | [.int c,.int k]=>some (.int (zgx c k))
  | _=>none
theorem zaQ {i j:Int}(h1:-(2 ^ 64) < i)(h2:i < 2 ^ 64):XY i j=true:=decide_eq_true (.inl ⟨h1,h2⟩)
theorem zc7 {i j:Int}(h1:-(2 ^ 64) < j)(h2:j < 2 ^ 64):XY i j=true:=decide_eq_true (.inr ⟨h1,h2⟩)
theorem Wm {i j:Int}(h:XY i j=true):vP (.int i) (.int j)=some (.int (i*j)):=by
  show (if XY i j=true then _ else none)=_
  rw [if_pos h]
theorem vA {i j:Int}(h:0 < j):xT (.int i) (.int j)=some (.int (i % j)):=by
  show (if decide (0 < j)=true then _ else none)=_
  rw [if_pos (decide_eq_true h)]
theorem XM {i j:Int}(h:0 < j)(h2:j < 1606938044258990275541962092341162602522202993782792835301376):yB (.int i) (.int j)=some (.int (i / j)):=by
  show (if decide (0 < j∧j < 1606938044258990275541962092341162602522202993782792835301376)=true then _ else none)=_
  rw [if_pos (decide_eq_true ⟨h,h2⟩)]
theorem V4:∀ ds d,ds.length=2→yE ds=some d→zbs ds=some d:=by
  intro ds d hl h
  obtain ⟨a,b,rfl⟩:=zcT hl
  cases a <;> try cases h
  cases b <;> try cases h
  rename_i c k
  have h1:=Int.emod_nonneg ((c % 2147483647+977*k+1)*48271) (show (2147483647:Int)≠0 by decide)
  have h2:=Int.emod_lt_of_pos ((c % 2147483647+977*k+1)*48271) (show (0:Int) < 2147483647 by decide)
  have m1:XY 977 k=true:=zaQ (by decide) (by decide)
  have m2:XY (c % 2147483647+977*k+1) 48271=true:=zc7 (by decide) (by decide)
  obtain ⟨x,hx⟩:∃ x,(c % 2147483647+977*k+1)*48271 % 2147483647=x:=⟨_,rfl⟩
  rw [hx] at h1 h2
  have m3:XY x x=true:=zaQ (Int.lt_of_lt_of_le (by decide) h1) (Int.lt_trans h2 (by decide))
  have m4:XY 40692 (k+3)=true:=zaQ (by decide) (by decide)
  have m5:∀ x,XY x 69621=true:=fun x=>zc7 (by decide) (by decide)
  obtain ⟨y,hy⟩:∃ y,x*x % 2147483629=y:=⟨_,rfl⟩
  obtain ⟨z,hz⟩:∃ z,(y+40692*(k+3))*69621 % 2147483647=z:=⟨_,rfl⟩
  have hst:zgx c k=z / 8:=by
    show ((((c % 2147483647+977*k+1)*48271 % 2147483647)*((c % 2147483647+977*k+1)*48271 % 2147483647) % 2147483629+40692*(k+3))*69621 % 2147483647 / 8)=_
    rw [hx,hy,hz]
  rw [hst]
  refine Wy (ρ:=[.v (.int c),.v (.int k),.no]) rfl ?_
  unfold Yh
  refine zM (ρ':=[.v (.int c),.v (.int k),.v (.int x)]) (Xd ?_) ?_
  · show (((((xT (.int c) (.int 2147483647)).bind fun a=>(vP (.int 977) (.int k)).bind fun b=>Y3 a b).bind fun a=>Y3 a (.int 1)).bind fun a=>vP a (.int 48271)).bind fun a=>xT a (.int 2147483647))=_
    rw [vA (by decide),Wm m1]
    show ((vP (.int (c % 2147483647+977*k+1)) (.int 48271)).bind fun a=>xT a (.int 2147483647))=_
    rw [Wm m2,← hx]
    exact vA (by decide)
  refine zM (ρ':=[.v (.int c),.v (.int k),.v (.int y)]) (Xd ?_) ?_
  · show ((vP (.int x) (.int x)).bind fun a=>xT a (.int 2147483629))=_
    rw [Wm m3,← hy]
    exact vA (by decide)
  refine zM (ρ':=[.v (.int c),.v (.int k),.v (.int z)]) (Xd ?_) ?_
  · show ((((vP (.int 40692) (.int (k+3))).bind fun b=>Y3 (.int y) b).bind fun a=>vP a (.int 69621)).bind fun a=>xT a (.int 2147483647))=_
    rw [Wm m4]
    show ((vP (.int (y+40692*(k+3))) (.int 69621)).bind fun a=>xT a (.int 2147483647))=_
    rw [Wm (m5 _),← hz]
    exact vA (by decide)
  exact Xv (Wv (show yB (.int z) (.int 8)=_ from XM (by decide) (by decide))) rfl
theorem YG (T:Txt K mg ad):xB P w K mg base CX0 1 ad.f__law_stir ad.e__law_stir ["cell","k"] (@spD ⟨K⟩ 2 yE):=by
  letI:KK:=⟨K⟩
  refine wO (xK (N:=["cell","k","number"]) (ps:=["cell","k"]) T.d__law_stir.fn vM (g:=Yh) fun cdv A outer s H E hr=>?_) V4
  unfold Yh
  exact (zh (xy (m:=false) (i:=2) vM.nd rfl (Or.inl rfl) (vB (zad (ww (ww (vB (zb 0 (pv 0)) (zg zi)) (zad (zg zi) (zb 1 (pv 1)))) (zg zi)) (zg zi)) (zg zi)))
      (zh (xy (m:=false) (i:=2) vM.nd rfl (Or.inl rfl) (vB (zad (zb 2 (pv 2)) (zb 2 (pv 2))) (zg zi)))
      (zh (xy (m:=false) (i:=2) vM.nd rfl (Or.inl rfl) (vB (zad (ww (zb 2 (pv 2)) (zad (zg zi) (ww (zb 1 (pv 1)) (zg zi)))) (zg zi)) (zg zi)))
      (zj (zN (ZE (zb 2 (pv 2)) (zg zi)))))))
theorem zcu {i j:Int}(h1:0≤i)(h2:i≤1000)(h3:0≤j)(h4:j≤1000):Y1 [.int i,.int j]=some (XJ i (j - i).toNat):=by
  show (if ze9 i=true∧ze9 j=true then some (XJ i (j - i).toNat) else none)=_
  rw [if_pos ⟨xR.mpr ⟨by (clear h4 h3 h2;omega),by (clear h4 h3;omega)⟩,xR.mpr ⟨by omega,by omega⟩⟩]
theorem Xc {j:Int}(h3:0≤j)(h4:j≤1000000):vE [.int j]=some (XJ 0 j.toNat):=by
  show (if ze9 j=true then some (XJ 0 j.toNat) else none)=_
  rw [if_pos (xR.mpr ⟨by omega,by omega⟩)]
end
section
variable {P:Program}{w:World}{K:PySem.W.Frag}{mg:Str→Option Value}{base:Heap}{ad:Adr}
theorem zcv {m:Int}{ns:List Int}(h1:(ns.length:Int)=m)(h2:∀ n∈ns,0≤n)(h3:ns.sum≤300):ZB m (.tup (ns.map .int))=true:=by
  unfold ZB wm
  rw [Bool.and_eq_true,Bool.and_eq_true,decide_eq_true_eq,decide_eq_true_eq,WU,List.length_map]
  exact ⟨⟨h1,zc8 h2⟩,h3⟩
theorem zga (ns:List Int):noS (.tup (ns.map .int))=true:=by
  show zeW (ns.map .int)=true
  induction ns with
  | nil=>rfl
  | cons n ns ih=>show (noS (.int n)&&zeW (ns.map .int))=true;rw [ih];rfl
end
section
variable {P:Program}{w:World}{K:PySem.W.Frag}{mg:Str→Option Value}{base:Heap}{ad:Adr}
noncomputable def vQ:SE→Ctl :=
  (wu false 1 (zp Y3 (zd 1) (wK (fLC (YE Y1 (zc (zp Y3 (zd 2) (eC (.int 1))) (zc (zd 0) zq))) b1 yZ (vC (zc (zd 3) (zc (zd 0) zq)))))))
noncomputable def vL:SE→Ctl :=
  (zT (wu false 1 (wK (yd zq)))
    (zT (xA vE (zc (zd 0) zq) (yM 2) vQ)
    (xp (zd 1))))
noncomputable def V3:List D→Option D:=fnD 3 vL
noncomputable def wR:List D→Option D
  | [.int n]=>if decide (0≤n∧n≤8)=true then some (.lst ((wY n.toNat).map zw)) else none
  | _=>none
theorem W6:∀ ds d,ds.length=1→wR ds=some d→V3 ds=some d:=by
  intro ds d hl h
  obtain ⟨a,rfl⟩:=zim hl
  cases a <;> try cases h
  rename_i n
  obtain ⟨hn,rfl⟩:=ifS h
  have hn:0≤n∧n≤8:=of_decide_eq_true hn
  clear h hl
  obtain ⟨k,hk⟩:∃ k:Nat,n.toNat=k:=⟨_,rfl⟩
  have hk8:k≤8:=by omega
  have hkn:n=(k:Int):=by omega
  rw [hk]
  have hr:vE [.int n]=some (XJ 0 k):=by rw [Xc hn.1 (by omega),hk]
  clear hk
  refine Wy (ρ:=[.v (.int n),.no,.no]) rfl ?_
  unfold vL
  have e0:wu false 1 (wK (yd zq)) [.v (.int n),.no,.no]=.nx [.v (.int n),.v (.lst []),.no]:=rfl
  refine zM e0 (vg (zbI (lo:=0) (c:=k) (fun i ρ=>∃ o2,ρ=[.v (.int n),.v (.lst ((wC k i).map zw)),o2]) hr ⟨.no,rfl⟩ ?_ ?_))
  · rintro i ρ hi ⟨o2,rfl⟩
    refine ⟨_,rfl,?_⟩
    obtain ⟨x,hx⟩:∃ x:Int,(0:Int)+(i:Int)=x:=⟨_,rfl⟩
    rw [hx]
    unfold vQ
    refine Wx (ρ':=[.v (.int n),.v (.lst ((wC k (i+1)).map zw)),.v (.int x)]) (Xd (d:=.lst ((wC k (i+1)).map zw)) ?_) ⟨_,rfl⟩
    have e:fLC (YE Y1 (zc (zp Y3 (zd 2) (eC (.int 1))) (zc (zd 0) zq))) b1 yZ (vC (zc (zd 3) (zc (zd 0) zq))) [some (.int n),some (.lst ((wC k i).map zw)),some (.int x)]=some ((zbA i (k - (i+1))).map zw):=by
      have e1:Y1 [.int (x+1),.int n]=some (XJ (x+1) (k - (i+1))):=by
        rw [zcu (by omega) (by omega) (by omega) (by omega)]
        have et:(n - (x+1)).toNat=k - (i+1):=by omega
        rw [et]
      unfold fLC
      show (Y1 [.int (x+1),.int n]).bind _=_
      rw [e1]
      show (if lim (XJ (x+1) (k - (i+1))).length=true then _ else none)=_
      rw [if_pos (vU (by rw [Wq];omega))]
      unfold zbA
      rw [List.map_map]
      refine Ve (fun j:Nat=>D.int (x+1+(j:Int))) _ (List.range (k - (i+1))) fun j _=>⟨[some (.int (x+1+(j:Int)))],rfl,rfl,?_⟩
      show some (D.tup [.int x,.int (x+1+(j:Int))])=some (D.tup [.int (i:Int),.int ((i:Int)+1+(j:Int))])
      rw [←hx,Int.zero_add]
    show (((fLC (YE Y1 (zc (zp Y3 (zd 2) (eC (.int 1))) (zc (zd 0) zq))) b1 yZ (vC (zc (zd 3) (zc (zd 0) zq))) [some (.int n),some (.lst ((wC k i).map zw)),some (.int x)]).map D.lst).bind fun y=>Y3 (.lst ((wC k i).map zw)) y)=_
    rw [e]
    show Y3 (.lst ((wC k i).map zw)) (.lst ((zbA i (k - (i+1))).map zw))=_
    rw [ze3 (by rw [List.length_map,List.length_map,Xy];have:=zcl k hk8 i;omega),Xx,List.map_append]
  · rintro ρ ⟨o2,rfl⟩
    refine Xv rfl ?_
    rw [zds]
theorem VC (T:Txt K mg ad):xB P w K mg base CX0 1 ad.f__law_pairs ad.e__law_pairs ["many"] (@spD ⟨K⟩ 1 wR):=by
  letI:KK:=⟨K⟩
  refine wO (xK (N:=["many","found","a"]) (ps:=["many"]) T.d__law_pairs.fn vb (g:=vL) fun cdv A outer s H E hr=>?_) W6
  unfold vL vQ
  exact (zh (xy (m:=false) (i:=1) vb.nd rfl (Or.inl rfl) (vX (wM zf)))
      (zh (XN PassesOwn.never rfl rfl T.z_range (za (zb 0 (pv 0)) zf) (wc (yI (i:=2) vb.nd rfl (Or.inr rfl))) (zj (xy (m:=false) (i:=1) vb.nd rfl (Or.inl rfl) (ww (zb 1 (pv 1)) (vX (zbG (L:=["b"]) (M:=["many","found","a"]) rfl (WZ (by rfl) (by rfl) (by rfl) (by with_unfolding_all rfl) (by rfl) (by rfl) (by kernel_rfl) (all_cons rfl ZD)) (zeJ rfl T.z_range (za (ww (zb 2 (pv 2)) (zg zi)) (za (zb 0 (pv 0)) zf))) gs1 rb1 (fun _ _ _ _=>(yI (i:=0) zk6 rfl (Or.inl rfl) (.inr rfl))) (fun _ _ _ _=>(YX (za (zb 3 (pv 3)) (za (zb 0 (pv 0)) zf))))))))))
      (zj (zN (zb 1 (pv 1))))))
noncomputable def wf:SE→Ctl :=
  (zT (sIf (yA (tOf (zp YM (zp xT (zd 1) (eC (.int 2))) (eC (.int 0)))) (tOf (zp YM (zp xT (zp zij (zp yB (zd 1) (eC (.int 2))) (zd 3)) (eC (.int 2))) (eC (.int 1))))) (YF false 2 (zd 4)) zJ)
    (sIf (yA (tOf (zp YM (zp xT (zd 1) (eC (.int 2))) (eC (.int 1)))) (tOf (zp ltD (zp xT (zo 2 yE (zc (zd 1) (zc (zd 3) zq))) (eC (.int 5))) (zp Y3 (eC (.int 2)) (zp xT (zp yB (zd 1) (eC (.int 2))) (eC (.int 2))))))) (YF false 2 (zd 4)) zJ))
noncomputable def wg:SE→Ctl :=
  (zT (Zb 2 (yd zq))
    (zT (Yq (yq (zc (zo 1 wR (zc (zd 0) zq)) zq)) (Zl 2 (xI (yM 3) (xI (yM 4) Zw))) wf)
    (sFz 2 (xp (vC (zc (zd 0) (zc (eFn yh (zc (zd 2) zq)) zq)))))))
noncomputable def Yo:List D→Option D:=fnD 5 wg
theorem zg3 {a k:Int}(h:0≤k):zij (.int a) (.int k)=some (.int (a / 2 ^ k.toNat)):=by
  show (if decide (0≤k)=true then some (D.int (a / 2 ^ k.toNat)) else none)=_
  rw [if_pos (decide_eq_true h)]
theorem zjE {ρ:Ev}{c x:Int}(h1:ρ[1]?=some (some (.int c)))(h3:ρ[3]?=some (some (.int x)))(hx:0≤x) :
    (∃ b,yA (tOf (zp YM (zp xT (zd 1) (eC (.int 2))) (eC (.int 0)))) (tOf (zp YM (zp xT (zp zij (zp yB (zd 1) (eC (.int 2))) (zd 3)) (eC (.int 2))) (eC (.int 1)))) ρ=some (decide (c % 2=0)&&b)) ∧
    ∃ b,yA (tOf (zp YM (zp xT (zd 1) (eC (.int 2))) (eC (.int 1)))) (tOf (zp ltD (zp xT (zo 2 yE (zc (zd 1) (zc (zd 3) zq))) (eC (.int 5))) (zp Y3 (eC (.int 2)) (zp xT (zp yB (zd 1) (eC (.int 2))) (eC (.int 2)))))) ρ=some (decide (c % 2=1)&&b):=by
  have v1:zd 1 ρ=some (.int c):=by unfold zd;rw [h1];rfl
  have v3:zd 3 ρ=some (.int x):=by unfold zd;rw [h3];rfl
  have f2:yB (.int c) (.int 2)=some (.int (c / 2)):=XM (by decide) (by decide)
  have m0:∀ k:Int,tOf (zp YM (zp xT (zd 1) (eC (.int 2))) (eC (.int k))) ρ=some (decide (c % 2=k)):=fun k=>by
    show (((zd 1 ρ).bind fun a=>xT a (.int 2)).bind fun y=>YM y (.int k)).bind asB=_
    rw [v1,Option.bind_some,vA (by decide)]
    rfl
  constructor
  · refine ⟨decide (c / 2 / 2 ^ x.toNat % 2=1),?_⟩
    have m2:tOf (zp YM (zp xT (zp zij (zp yB (zd 1) (eC (.int 2))) (zd 3)) (eC (.int 2))) (eC (.int 1))) ρ=some (decide (c / 2 / 2 ^ x.toNat % 2=1)):=by
      show (((((zd 1 ρ).bind fun a=>yB a (.int 2)).bind fun a=>(zd 3 ρ).bind fun b=>zij a b).bind fun a=>xT a (.int 2)).bind fun y=>YM y (.int 1)).bind asB=_
      rw [v1,v3,Option.bind_some,f2,Option.bind_some,Option.bind_some,zg3 hx,Option.bind_some,vA (by decide)]
      rfl
    unfold yA
    rw [m0,Option.bind_some,m2]
    cases decide (c % 2=0) <;> rfl
  · refine ⟨decide (zgx c x % 5 < 2+c / 2 % 2),?_⟩
    have es:zo 2 yE (zc (zd 1) (zc (zd 3) zq)) ρ=some (.int (zgx c x)):=by
      unfold zo zc
      rw [v1,v3]
      rfl
    have m2:tOf (zp ltD (zp xT (zo 2 yE (zc (zd 1) (zc (zd 3) zq))) (eC (.int 5))) (zp Y3 (eC (.int 2)) (zp xT (zp yB (zd 1) (eC (.int 2))) (eC (.int 2))))) ρ=some (decide (zgx c x % 5 < 2+c / 2 % 2)):=by
      show ((((zo 2 yE (zc (zd 1) (zc (zd 3) zq)) ρ).bind fun a=>xT a (.int 5)).bind fun a=>((((zd 1 ρ).bind fun a=>yB a (.int 2)).bind fun a=>xT a (.int 2)).bind fun y=>Y3 (.int 2) y).bind fun b=>ltD a b)).bind asB=_
      rw [es,v1,Option.bind_some,Option.bind_some,vA (by decide),f2,Option.bind_some,Option.bind_some,vA (by decide)]
      rfl
    unfold yA
    rw [m0,Option.bind_some,m2]
    cases decide (c % 2=1) <;> rfl
theorem zkU {n c x:Int}{ts:List Tie}{t:Tie}{N B C:SE→Prop}{R:D→Prop}(hx:0≤x)(hl:(ts.map zw).length≤1000)
    (q1:N [.v (.int n),.v (.int c),.o (ts.map zw),.v (.int x),.v (zw t)]) (q2:N [.v (.int n),.v (.int c),.o ((ts++[t]).map zw),.v (.int x),.v (zw t)]) :
    (wf [.v (.int n),.v (.int c),.o (ts.map zw),.v (.int x),.v (zw t)]).w N B C R:=by
  rw [List.map_append] at q2
  unfold wf
  obtain ⟨⟨b1,e1⟩,b2,e2⟩:=zjE (ρ:=visG [.v (.int n),.v (.int c),.o (ts.map zw),.v (.int x),.v (zw t)]) (c:=c) (x:=x) rfl rfl hx
  obtain ⟨_,b3,e3⟩:=zjE (ρ:=visG [.v (.int n),.v (.int c),.o (ts.map zw++[zw t]),.v (.int x),.v (zw t)]) (c:=c) (x:=x) rfl rfl hx
  have ap:=zjT (m:=false) (i:=2) (f:=zd 4) (ρ:=[.v (.int n),.v (.int c),.o (ts.map zw),.v (.int x),.v (zw t)]) (ds:=ts.map zw) (d:=zw t) rfl rfl hl
  refine vg (zaK e1 (fun k=>Wx ap ?_) (fun _=>Wx rfl (zaK e2 (fun _=>Wx ap q2) (fun _=>Wx rfl q1))))
  refine zaK e3 (fun k3=>?_) (fun _=>Wx rfl q2)
  have h0:c % 2=0:=of_decide_eq_true (Bool.and_eq_true_iff.mp k).1
  have h1:c % 2=1:=of_decide_eq_true (Bool.and_eq_true_iff.mp k3).1
  exact absurd (h0.symm.trans h1) (by decide)
theorem zeK {n c:Int}(h1:1≤n)(h8:n≤8):∃ ts,Yo [.int n,.int c]=some (xu n ts)∧ts.Sublist (wY n.toNat):=by
  have key:=zjY (m:=5) (g:=wg) (ds:=[.int n,.int c]) (R:=fun d=>∃ ts:List Tie,d=xu n ts∧ts.Sublist (wY n.toNat)) rfl ?_
  · obtain ⟨d,e,ts,rfl,hs⟩:=key
    exact ⟨ts,e,hs⟩
  unfold wg
  refine zM rfl ?_
  have ep:wR [.int n]=some (.lst ((wY n.toNat).map zw)):=by
    show (if decide (0≤n∧n≤8)=true then some (D.lst ((wY n.toNat).map zw)) else none)=_
    rw [if_pos (decide_eq_true ⟨by omega,by omega⟩)]
  have h28:=(VT n.toNat (by omega)).2.2
  refine vg (zee (ds:=WB 0 ((wY n.toNat).map zw)) (fun i ρ=>∃ ts o3 o4,ρ=[.v (.int n),.v (.int c),.o (ts.map zw),o3,o4]∧ts.Sublist ((wY n.toNat).take i)) ?_ ⟨[],.no,.no,rfl,List.nil_sublist _⟩ ?_ ?_)
  · show ((wR [.int n]).bind fun d=>(some []:Option (List D)).map (d::·)).bind _=_
    rw [ep]
    rfl
  · rintro i d ρ hd ⟨ts,o3,o4,rfl,hs⟩
    rw [ZP] at hd
    obtain ⟨dx,hdx,rfl⟩:=Option.map_eq_some_iff.mp hd
    rw [List.getElem?_map] at hdx
    obtain ⟨t,ht,rfl⟩:=Option.map_eq_some_iff.mp hdx
    rw [Nat.zero_add]
    have htake:(wY n.toNat).take (i+1)=(wY n.toNat).take i++[t]:=by rw [List.take_succ,ht];rfl
    have hlen:ts.length≤28:=Nat.le_trans hs.length_le (Nat.le_trans (List.length_take_le _ _) (by have:=(List.getElem?_eq_some_iff.mp ht).1;omega))
    refine ⟨_,rfl,zkU (Int.natCast_nonneg i) (by rw [List.length_map];omega) ⟨ts,_,_,rfl,?_⟩ ⟨ts++[t],_,_,rfl,?_⟩⟩
    · rw [htake];exact hs.trans (List.sublist_append_left _ _)
    · rw [htake];exact hs.append (List.Sublist.refl _)
  · rintro ρ ⟨ts,o3,o4,rfl,hs⟩
    exact zk0 rfl (Xv rfl ⟨ts,rfl,hs.trans (List.take_sublist _ _)⟩)
theorem WJ (T:Txt K mg ad):xB P w K mg base CX0 2 ad.f__law_web_by ad.e__law_web_by ["many","cell"] (@spD ⟨K⟩ 2 Yo):=by
  letI:KK:=⟨K⟩
  have G__law_pairs:=VC (P:=P) (w:=w) (base:=base) T
  have G__law_stir:=YG (P:=P) (w:=w) (base:=base) T
  refine xK (N:=["many","cell","ties","k","tie"]) (ps:=["many","cell"]) T.d__law_web_by.fn wJ (g:=wg) fun cdv A outer s H E hr=>?_
  unfold wg wf
  exact (zh (zaC (i:=2) wJ.nd rfl (Or.inl rfl) (wM zf))
      (zh (Wu PassesOwn.never rfl (zcX rfl T.z_enumerate Xt (za (zl (G__law_pairs.mono (by decide)) hr rfl T.d__law_pairs.at_ T.d__law_pairs.kp T.d__law_pairs.bd (za (zb 0 (pv 0)) zf)) zf)) (zeR rfl (Zd (wc (yI (i:=3) wJ.nd rfl (Or.inl rfl))) (Zd (wc (yI (i:=4) wJ.nd rfl (Or.inl rfl))) zaS))) (zh (xn (zcA (WP (zL (xM hr) yH (zA _) (vB (zb 1 (pv 1)) (zg zi)) (zg zi)) (Xm (zL (xM hr) yH (zA _) (vB (zj0 (ZE (zb 1 (pv 1)) (zg zi)) (zb 3 (pv 3))) (zg zi)) (zg zi))))) (zj (zbM (m:=false) (pv 2) (zb 4 (pv 4)) (fun a b=>za3 PySem.F.plainAttrs_list PySem.F.slot_list_append PySem.F.type_list_append ZJ a b))) zB)
      (zj (xn (zcA (WP (zL (xM hr) yH (zA _) (vB (zb 1 (pv 1)) (zg zi)) (zg zi)) (Xm (zL zhH xa (zA _) (vB (zl (G__law_stir.mono (by decide)) hr rfl T.d__law_stir.at_ T.d__law_stir.kp T.d__law_stir.bd (za (zb 1 (pv 1)) (za (zb 3 (pv 3)) zf))) (zg zi)) (ww (zg zi) (vB (ZE (zb 1 (pv 1)) (zg zi)) (zg zi))))))) (zj (zbM (m:=false) (pv 2) (zb 4 (pv 4)) (fun a b=>za3 PySem.F.plainAttrs_list PySem.F.slot_list_append PySem.F.type_list_append ZJ a b))) zB))))
      (zao 2 (zj (zN (YX (za (zb 0 (pv 0)) (za (Wl Yk X9 rfl T.z_tuple vc (za (zb 2 (pv 2)) zf)) zf))))))))
end
section
variable {P:Program}{w:World}{K:PySem.W.Frag}{mg:Str→Option Value}{base:Heap}{ad:Adr}
noncomputable def ve (r:List D→Option D):SE→Ctl :=
  (sIf (yr (tOf (zo 2 r (zc (zd 2) (zc (zd 3) zq))))) (xp (eC (.bl false))) zJ)
noncomputable def yG (r:List D→Option D):SE→Ctl :=
  (zT (sIf (tOf (zp Zu (zd 1) (eC .non))) (xp (zp Zu (zd 0) (eC .non))) zJ)
    (zT (sIf (tOf (eUn (yo .bool) (zd 1))) (xp (vF (eUn (yo .bool) (zd 0)) (zp YM (zd 0) (zd 1)))) zJ)
    (zT (sIf (tOf (eUn (yo .int) (zd 1))) (xp (vF (eUn (yo .int) (zd 0)) (vF (ZF (eUn (yo .bool) (zd 0))) (zp YM (zd 0) (zd 1))))) zJ)
    (zT (sIf (tOf (eUn (yo .str) (zd 1))) (xp (vF (eUn (yo .str) (zd 0)) (zp YM (zd 0) (zd 1)))) zJ)
    (zT (sIf (YB (tOf (zp neD (eUn (yo .list) (zd 1)) (eUn (yo .list) (zd 0)))) (tOf (zp neD (eUn (yo .tuple) (zd 1)) (eUn (yo .tuple) (zd 0))))) (xp (eC (.bl false))) zJ)
    (zT (sIf (tOf (zp neD (eFn YN (zc (zd 0) zq)) (eFn YN (zc (zd 1) zq)))) (xp (eC (.bl false))) zJ)
    (zT (Yq (wn (zc (zd 0) (zc (zd 1) zq))) (Zl 2 (xI (yM 2) (xI (yM 3) Zw))) (ve r))
    (xp (eC (.bl true))))))))))
noncomputable def Yi:List D→Option D:=zjy 4 yG 6
theorem zab (ds:List D):zbS ds ds=ds.map fun d=>.tup [d,d]:=by
  induction ds with
  | nil=>rfl
  | cons d ds ih=>show D.tup [d,d]::zbS ds ds=_;rw [ih];rfl
theorem V0 {r:List D→Option D}{d:D}(hr:∀ es,(d=.tup es∨d=.lst es)→∀ e∈es,r [e,e]=some (.bl true))(hn:∀ ns,d≠.scr ns)(hd:∀ z t ks vs,d≠.dct z t ks vs):fnD 4 (yG r) [d,d]=some (.bl true):=by
  cases d with
  | scr ns=>exact absurd rfl (hn ns)
  | dct z t ks vs=>exact absurd rfl (hd z t ks vs)
  | non=>rfl
  | bl b=>cases b <;> rfl
  | int i=>simp [yG,fnD,zT,xp,wE,sIf,wu,xJ,sNo,zJ,Xh,Zb,YF,ZG,Zr,vEv,visF,visG,Sl.f,Sl.g,zd,eC,zp,vF,eOr,ZF,eIf,eUn,Z2,vC,wK,yd,zc,zq,zo,eFn,fFn,tOf,yA,YB,yr,asB,asI,zE,Zc,vP,yB,xT,Za,xN,ltD,leD,gtD,geD,Zh,zD,zU,zI,zR,Zu,zV,ixD,YN,yo,isT,eSl,wa,x9,yp,xo,iOf,Yq,xA,YE,vE,Y1,yq,wn,fLC,yZ,yh,x8,yM,Zl,xI,Zw,b1,b2]
  | str x=>simp [yG,fnD,zT,xp,wE,sIf,wu,xJ,sNo,zJ,Xh,Zb,YF,ZG,Zr,vEv,visF,visG,Sl.f,Sl.g,zd,eC,zp,vF,eOr,ZF,eIf,eUn,Z2,vC,wK,yd,zc,zq,zo,eFn,fFn,tOf,yA,YB,yr,asB,asI,zE,Zc,vP,yB,xT,Za,xN,ltD,leD,gtD,geD,Zh,zD,zU,zI,zR,Zu,zV,ixD,YN,yo,isT,eSl,wa,x9,yp,xo,iOf,Yq,xA,YE,vE,Y1,yq,wn,fLC,yZ,yh,x8,yM,Zl,xI,Zw,b1,b2]
  | tup es =>
    refine Wy (ρ:=[.v (.tup es),.v (.tup es),.no,.no]) rfl ?_
    unfold yG
    refine zM rfl (zM rfl (zM rfl (zM rfl (zM rfl (vg (zaK (c:=false) (by simp [fnD,zT,xp,wE,sIf,wu,xJ,sNo,zJ,Xh,Zb,YF,ZG,Zr,vEv,visF,visG,Sl.f,Sl.g,zd,eC,zp,vF,eOr,ZF,eIf,eUn,Z2,vC,wK,yd,zc,zq,zo,eFn,fFn,tOf,yA,YB,yr,asB,asI,zE,Zc,vP,yB,xT,Za,xN,ltD,leD,gtD,geD,Zh,zD,zU,zI,zR,Zu,zV,ixD,YN,yo,isT,eSl,wa,x9,yp,xo,iOf,Yq,xA,YE,vE,Y1,yq,wn,fLC,yZ,yh,x8,yM,Zl,xI,Zw,b1,b2]) (fun z=>by cases z) fun _=>Wx rfl ?_))))))
    refine vg (zee (ds:=zbS es es) (fun i ρ=>∃ o1 o2,ρ=[.v (.tup es),.v (.tup es),o1,o2]) (by simp [fnD,zT,xp,wE,sIf,wu,xJ,sNo,zJ,Xh,Zb,YF,ZG,Zr,vEv,visF,visG,Sl.f,Sl.g,zd,eC,zp,vF,eOr,ZF,eIf,eUn,Z2,vC,wK,yd,zc,zq,zo,eFn,fFn,tOf,yA,YB,yr,asB,asI,zE,Zc,vP,yB,xT,Za,xN,ltD,leD,gtD,geD,Zh,zD,zU,zI,zR,Zu,zV,ixD,YN,yo,isT,eSl,wa,x9,yp,xo,iOf,Yq,xA,YE,vE,Y1,yq,wn,fLC,yZ,yh,x8,yM,Zl,xI,Zw,b1,b2]) ⟨_,_,rfl⟩ ?_ ?_)
    · rintro i d ρ hd ⟨o1,o2,rfl⟩
      rw [zab,List.getElem?_map] at hd
      obtain ⟨e,he,rfl⟩:=Option.map_eq_some_iff.mp hd
      have hre:=hr es (.inl rfl) e (List.mem_of_getElem? he)
      refine ⟨_,rfl,?_⟩
      unfold ve
      refine zaK (c:=false) (by simp [fnD,zT,xp,wE,sIf,wu,xJ,sNo,zJ,Xh,Zb,YF,ZG,Zr,vEv,visF,visG,Sl.f,Sl.g,zd,eC,zp,vF,eOr,ZF,eIf,eUn,Z2,vC,wK,yd,zc,zq,zo,eFn,fFn,tOf,yA,YB,yr,asB,asI,zE,Zc,vP,yB,xT,Za,xN,ltD,leD,gtD,geD,Zh,zD,zU,zI,zR,Zu,zV,ixD,YN,yo,isT,eSl,wa,x9,yp,xo,iOf,Yq,xA,YE,vE,Y1,yq,wn,fLC,yZ,yh,x8,yM,Zl,xI,Zw,b1,b2,hre]) (fun z=>by cases z) fun _=>Wx rfl ⟨_,_,rfl⟩
    · rintro ρ ⟨o1,o2,rfl⟩
      exact Xv rfl rfl
  | lst es =>
    refine Wy (ρ:=[.v (.lst es),.v (.lst es),.no,.no]) rfl ?_
    unfold yG
    refine zM rfl (zM rfl (zM rfl (zM rfl (zM rfl (vg (zaK (c:=false) (by simp [fnD,zT,xp,wE,sIf,wu,xJ,sNo,zJ,Xh,Zb,YF,ZG,Zr,vEv,visF,visG,Sl.f,Sl.g,zd,eC,zp,vF,eOr,ZF,eIf,eUn,Z2,vC,wK,yd,zc,zq,zo,eFn,fFn,tOf,yA,YB,yr,asB,asI,zE,Zc,vP,yB,xT,Za,xN,ltD,leD,gtD,geD,Zh,zD,zU,zI,zR,Zu,zV,ixD,YN,yo,isT,eSl,wa,x9,yp,xo,iOf,Yq,xA,YE,vE,Y1,yq,wn,fLC,yZ,yh,x8,yM,Zl,xI,Zw,b1,b2]) (fun z=>by cases z) fun _=>Wx rfl ?_))))))
    refine vg (zee (ds:=zbS es es) (fun i ρ=>∃ o1 o2,ρ=[.v (.lst es),.v (.lst es),o1,o2]) (by simp [fnD,zT,xp,wE,sIf,wu,xJ,sNo,zJ,Xh,Zb,YF,ZG,Zr,vEv,visF,visG,Sl.f,Sl.g,zd,eC,zp,vF,eOr,ZF,eIf,eUn,Z2,vC,wK,yd,zc,zq,zo,eFn,fFn,tOf,yA,YB,yr,asB,asI,zE,Zc,vP,yB,xT,Za,xN,ltD,leD,gtD,geD,Zh,zD,zU,zI,zR,Zu,zV,ixD,YN,yo,isT,eSl,wa,x9,yp,xo,iOf,Yq,xA,YE,vE,Y1,yq,wn,fLC,yZ,yh,x8,yM,Zl,xI,Zw,b1,b2]) ⟨_,_,rfl⟩ ?_ ?_)
    · rintro i d ρ hd ⟨o1,o2,rfl⟩
      rw [zab,List.getElem?_map] at hd
      obtain ⟨e,he,rfl⟩:=Option.map_eq_some_iff.mp hd
      have hre:=hr es (.inr rfl) e (List.mem_of_getElem? he)
      refine ⟨_,rfl,?_⟩
      unfold ve
      refine zaK (c:=false) (by simp [fnD,zT,xp,wE,sIf,wu,xJ,sNo,zJ,Xh,Zb,YF,ZG,Zr,vEv,visF,visG,Sl.f,Sl.g,zd,eC,zp,vF,eOr,ZF,eIf,eUn,Z2,vC,wK,yd,zc,zq,zo,eFn,fFn,tOf,yA,YB,yr,asB,asI,zE,Zc,vP,yB,xT,Za,xN,ltD,leD,gtD,geD,Zh,zD,zU,zI,zR,Zu,zV,ixD,YN,yo,isT,eSl,wa,x9,yp,xo,iOf,Yq,xA,YE,vE,Y1,yq,wn,fLC,yZ,yh,x8,yM,Zl,xI,Zw,b1,b2,hre]) (fun z=>by cases z) fun _=>Wx rfl ⟨_,_,rfl⟩
    · rintro ρ ⟨o1,o2,rfl⟩
      exact Xv rfl rfl
theorem zdz:∀ (n:Nat) {d:D},okE n d=true→zjy 4 yG (n+1) [d,d]=some (.bl true):=by
  intro n
  induction n with
  | zero =>
    intro d h
    refine V0 (fun es he=>?_) (fun ns e=>by subst e;cases h) (fun _ _ _ _ e=>by subst e;cases h)
    rcases he with rfl | rfl <;> cases h
  | succ n ih =>
    intro d h
    refine V0 (fun es he e hm=>?_) (fun ns e=>by subst e;cases h) (fun _ _ _ _ e=>by subst e;cases h)
    rcases he with rfl | rfl
    · exact ih (List.all_eq_true.mp h e hm)
    · exact ih (List.all_eq_true.mp h e hm)
theorem zjs {d:D}(h:okE 5 d=true):Yi [d,d]=some (.bl true):=zdz 5 h
theorem zaF (T:Txt K mg ad):xB P w K mg base CX0 7 ad.f__law_same ad.e__law_same ["found","due"] (@spD ⟨K⟩ 2 Yi):=by
  letI:KK:=⟨K⟩
  have R:∀ n,xB P w K mg base CX0 (1+n) ad.f__law_same ad.e__law_same ["found","due"] (spD 2 (zjy 4 yG n)):=by
    refine zjc (P:=P) (w:=w) (mg:=mg) (base:=base) (k0:=1) (g:=yG) T.d__law_same.fn Y0 fun k r hrec cdv A outer s H E hr=>?_
    unfold yG ve
    exact (zh (xn (zL zgV zdR (zA _) (zb 1 (pv 1)) (zcf zbP)) (zj (zN (ZV zgV zdR (zA _) (zb 0 (pv 0)) (zcf zbP)))) zB)
      (zh (xn (wx (zS .bool rfl T.z_isinstance (zb 1 (pv 1)) (y8 (v:=.ty "bool") rfl T.z_bool W9 rfl))) (zj (zN (Yy (zS .bool rfl T.z_isinstance (zb 0 (pv 0)) (y8 (v:=.ty "bool") rfl T.z_bool W9 rfl)) (Zn (ZV (xM hr) yH (zA _) (zb 0 (pv 0)) (zb 1 (pv 1))))))) zB)
      (zh (xn (wx (zS .int rfl T.z_isinstance (zb 1 (pv 1)) (y8 (v:=.ty "int") rfl T.z_int zc3 rfl))) (zj (zN (Yy (zS .int rfl T.z_isinstance (zb 0 (pv 0)) (y8 (v:=.ty "int") rfl T.z_int zc3 rfl)) (Yy (zgR (zS .bool rfl T.z_isinstance (zb 0 (pv 0)) (y8 (v:=.ty "bool") rfl T.z_bool W9 rfl))) (Zn (ZV (xM hr) yH (zA _) (zb 0 (pv 0)) (zb 1 (pv 1)))))))) zB)
      (zh (xn (wx (zS .str rfl T.z_isinstance (zb 1 (pv 1)) (y8 (v:=.ty "str") rfl T.z_str zgJ rfl))) (zj (zN (Yy (zS .str rfl T.z_isinstance (zb 0 (pv 0)) (y8 (v:=.ty "str") rfl T.z_str zgJ rfl)) (Zn (ZV (xM hr) yH (zA _) (zb 0 (pv 0)) (zb 1 (pv 1))))))) zB)
      (zh (xn (zcA (zbw (zL Vg Xp (zA _) (zS .list rfl T.z_isinstance (zb 1 (pv 1)) (y8 (v:=.ty "list") rfl T.z_list Vl rfl)) (zS .list rfl T.z_isinstance (zb 0 (pv 0)) (y8 (v:=.ty "list") rfl T.z_list Vl rfl))) (Wn (zL Vg Xp (zA _) (zS .tuple rfl T.z_isinstance (zb 1 (pv 1)) (y8 (v:=.ty "tuple") rfl T.z_tuple vc rfl)) (zS .tuple rfl T.z_isinstance (zb 0 (pv 0)) (y8 (v:=.ty "tuple") rfl T.z_tuple vc rfl)))))) (zj (zN (vY vD))) zB)
      (zh (xn (zL Vg Xp (zA _) (zY x5 Xl rfl T.z_len W0 (za (zb 0 (pv 0)) zf)) (zY x5 Xl rfl T.z_len W0 (za (zb 1 (pv 1)) zf))) (zj (zN (vY vD))) zB)
      (zh (Wu PassesOwn.never rfl (zi1 rfl T.z_zip (za (zb 0 (pv 0)) (za (zb 1 (pv 1)) zf))) (zeR rfl (Zd (wc (yI (i:=2) Y0.nd rfl (Or.inl rfl))) (Zd (wc (yI (i:=3) Y0.nd rfl (Or.inl rfl))) zaS))) (zj (xn (vK (wx (zl hrec hr rfl T.d__law_same.at_ T.d__law_same.kp T.d__law_same.bd (za (zb 2 (pv 2)) (za (zb 3 (pv 3)) zf))))) (zj (zN (vY vD))) zB)))
      (zj (zN (vY vD))))))))))
  exact R 6
end
section
variable {P:Program}{w:World}{K:PySem.W.Frag}{mg:Str→Option Value}{base:Heap}{ad:Adr}
theorem zar (T:Txt K mg ad):xB P w K mg base CX0 1 ad.i_TooGreat ad.j_TooGreat ["self","many","most"] (spI K 2 ["many","most"] (gI2 "many" "most")):=by
  refine T.fi_TooGreat.ok zau (fun vs H Q E h=>zhw vs H Q E h) fun cdv A outer s H vs Q E hr hsp=>?_
  exact ⟨_,(wL (zks (pv 0) (pv 1) rfl) (ZA (zkG (pv 0) (pv 2) rfl))),(zid (by decide) hsp)⟩
noncomputable def wV:SE→Ctl :=
  (zT (wu false 7 (zp xT (zo 2 yE (zc (zd 1) (zc (zp Y3 (eC (.int 60)) (zd 6)) zq))) (zp Y3 (zd 3) (eC (.int 1)))))
    (zT (sIf (tOf (zp YM (zp xT (zd 1) (eC (.int 2))) (eC (.int 0)))) (zT (wu false 7 (eFn zgd (zc (zd 3) (zc (zp xT (zd 5) (zp Y3 (zd 2) (eC (.int 1)))) zq))))
    (wu false 5 (zp yB (zd 5) (zp Y3 (zd 2) (eC (.int 1)))))) zJ)
    (zT (YF false 4 (zd 7))
    (wu false 3 (zp Zc (zd 3) (zd 7))))))
noncomputable def xL:SE→Ctl :=
  (zT (wu false 3 (zd 2))
    (zT (Zb 4 (yd zq))
    (zT (wu false 5 (zp yB (zd 1) (eC (.int 2))))
    (zT (xA vE (zc (zd 0) zq) (yM 6) wV)
    (sFz 4 (xp (eFn yh (zc (zd 4) zq))))))))
noncomputable def vN:List D→Option D:=fnD 8 xL
theorem zcD {n c mo:Int}(h0:0≤n)(h8:n≤8)(hm0:0≤mo)(hm:mo≤1000):∃ ns:List Int,vN [.int n,.int c,.int mo]=some (.tup (ns.map .int))∧(ns.length:Int)=n∧(∀ x∈ns,0≤x)∧ns.sum≤mo:=by
  have key:=zjY (m:=8) (g:=xL) (ds:=[.int n,.int c,.int mo]) (R:=fun d=>∃ ns:List Int,d=.tup (ns.map .int)∧(ns.length:Int)=n∧(∀ x∈ns,0≤x)∧ns.sum≤mo) (ρ:=[.v (.int n),.v (.int c),.v (.int mo),.no,.no,.no,.no,.no]) rfl ?_
  · obtain ⟨d,e,ns,rfl,h⟩:=key
    exact ⟨ns,e,h⟩
  unfold xL
  refine zM rfl (zM (ρ':=[.v (.int n),.v (.int c),.v (.int mo),.v (.int mo),.o [],.no,.no,.no]) (by simp [fnD,zT,xp,wE,sIf,wu,xJ,sNo,zJ,Xh,Zb,YF,ZG,Zr,vEv,visF,visG,Sl.f,Sl.g,zd,eC,zp,vF,eOr,ZF,eIf,eUn,Z2,vC,wK,yd,zc,zq,zo,eFn,fFn,tOf,yA,YB,yr,asB,asI,zE,Zc,vP,yB,xT,Za,xN,ltD,leD,gtD,geD,Zh,zD,zU,zI,zR,Zu,zV,ixD,YN,yo,isT,eSl,wa,x9,yp,xo,iOf,Yq,xA,YE,vE,Y1,yq,wn,fLC,yZ,yh,x8,yM,Zl,xI,Zw,b1,b2,vU]) (zM (ρ':=[.v (.int n),.v (.int c),.v (.int mo),.v (.int mo),.o [],.v (.int (c / 2)),.no,.no]) (by simp [fnD,zT,xp,wE,sIf,wu,xJ,sNo,zJ,Xh,Zb,YF,ZG,Zr,vEv,visF,visG,Sl.f,Sl.g,zd,eC,zp,vF,eOr,ZF,eIf,eUn,Z2,vC,wK,yd,zc,zq,zo,eFn,fFn,tOf,yA,YB,yr,asB,asI,zE,Zc,vP,yB,xT,Za,xN,ltD,leD,gtD,geD,Zh,zD,zU,zI,zR,Zu,zV,ixD,YN,yo,isT,eSl,wa,x9,yp,xo,iOf,Yq,xA,YE,vE,Y1,yq,wn,fLC,yZ,yh,x8,yM,Zl,xI,Zw,b1,b2]) ?_))
  refine vg (zbI (lo:=0) (c:=n.toNat) (fun i ρ=>∃ (le dg:Int) (ns:List Int) (o1 o2:Sl),ρ=[.v (.int n),.v (.int c),.v (.int mo),.v (.int le),.o (ns.map .int),.v (.int dg),o1,o2]∧ns.length=i∧(∀ x∈ns,0≤x)∧0≤le∧ns.sum+le=mo) (Xc h0 (by omega)) ⟨mo,c / 2,[],.no,.no,rfl,rfl,by simp,hm0,by simp⟩ ?_ ?_)
  · rintro i ρ hi ⟨le,dg,ns,o1,o2,rfl,hl,hnn,hle,hs⟩
    obtain ⟨x,hx⟩:∃ x:Int,(0:Int)+(i:Int)=x:=⟨_,rfl⟩
    rw [hx]
    refine ⟨_,rfl,?_⟩
    unfold wV
    obtain ⟨st,hst⟩:∃ st:Int,zgx c (60+x)=st:=⟨_,rfl⟩
    have hlo:0≤st % (le+1):=Int.emod_nonneg _ (by omega)
    have hhi:st % (le+1) < le+1:=Int.emod_lt_of_pos _ (by omega)
    have es:yE [.int c,.int (60+x)]=some (.int st):=by rw [←hst];rfl
    have hz:decide ((ns.map D.int).length < sizeLine)=true:=decide_eq_true (YK (by rw [List.length_map];omega))
    have fin:∀ (s2 dg2:Int),0≤s2→s2≤le→(zT (YF false 4 (zd 7)) (wu false 3 (zp Zc (zd 3) (zd 7))) [.v (.int n),.v (.int c),.v (.int mo),.v (.int le),.o (ns.map .int),.v (.int dg2),.v (.int x),.v (.int s2)]).w
        (fun ρ=>∃ (le dg:Int) (ns:List Int) (o1 o2:Sl),ρ=[.v (.int n),.v (.int c),.v (.int mo),.v (.int le),.o (ns.map .int),.v (.int dg),o1,o2]∧ns.length=i+1∧(∀ x∈ns,0≤x)∧0≤le∧ns.sum+le=mo)
        (fun ρ'=>(sFz 4 (xp (eFn yh (zc (zd 4) zq))) ρ').w (fun _=>∃ ns:List Int,D.non=.tup (ns.map .int)∧(ns.length:Int)=n∧(∀ x∈ns,0≤x)∧ns.sum≤mo) noP noP fun d=>∃ ns:List Int,d=.tup (ns.map .int)∧(ns.length:Int)=n∧(∀ x∈ns,0≤x)∧ns.sum≤mo)
        (fun ρ=>∃ (le dg:Int) (ns:List Int) (o1 o2:Sl),ρ=[.v (.int n),.v (.int c),.v (.int mo),.v (.int le),.o (ns.map .int),.v (.int dg),o1,o2]∧ns.length=i+1∧(∀ x∈ns,0≤x)∧0≤le∧ns.sum+le=mo)
        (fun d=>∃ ns:List Int,d=.tup (ns.map .int)∧(ns.length:Int)=n∧(∀ x∈ns,0≤x)∧ns.sum≤mo):=fun s2 dg2 g1 g2=>by
      refine zM (ρ':=[.v (.int n),.v (.int c),.v (.int mo),.v (.int le),.o ((ns++[s2]).map .int),.v (.int dg2),.v (.int x),.v (.int s2)]) ?_ (Wx rfl ⟨le - s2,dg2,ns++[s2],_,_,rfl,?_,?_,by omega,?_⟩)
      · show (match (if decide ((ns.map D.int).length < sizeLine)=true then some ([.v (.int n),.v (.int c),.v (.int mo),.v (.int le),.o (ns.map .int++[.int s2]),.v (.int dg2),.v (.int x),.v (.int s2)]:SE) else none) with | some ρ'=>Ctl.nx ρ' | none=>Ctl.no)=_
        rw [if_pos hz,List.map_append]
        rfl
      · rw [List.length_append,hl];rfl
      · intro y hy
        rcases List.mem_append.mp hy with hy | hy
        · exact hnn y hy
        · rw [List.mem_singleton.mp hy];exact g1
      · rw [List.sum_append]
        simp
        omega
    have hm1:(0:Int) < le+1:=by omega
    refine zM (ρ':=[.v (.int n),.v (.int c),.v (.int mo),.v (.int le),.o (ns.map .int),.v (.int dg),.v (.int x),.v (.int (st % (le+1)))]) (by simp [fnD,zT,xp,wE,sIf,wu,xJ,sNo,zJ,Xh,Zb,YF,ZG,Zr,vEv,visF,visG,Sl.f,Sl.g,zd,eC,zp,vF,eOr,ZF,eIf,eUn,Z2,vC,wK,yd,zc,zq,zo,eFn,fFn,tOf,yA,YB,yr,asB,asI,zE,Zc,vP,yB,xT,Za,xN,ltD,leD,gtD,geD,Zh,zD,zU,zI,zR,Zu,zV,ixD,YN,yo,isT,eSl,wa,x9,yp,xo,iOf,Yq,xA,YE,vE,Y1,yq,wn,fLC,yZ,yh,x8,yM,Zl,xI,Zw,b1,b2,es,hm1]) ?_
    by_cases hc:c % 2=0
    · have hm2:(0:Int) < mo+1:=by omega
      have hm3:mo+1 < 1606938044258990275541962092341162602522202993782792835301376:=by omega
      refine vg (zaK (c:=true) (by simp [fnD,zT,xp,wE,sIf,wu,xJ,sNo,zJ,Xh,Zb,YF,ZG,Zr,vEv,visF,visG,Sl.f,Sl.g,zd,eC,zp,vF,eOr,ZF,eIf,eUn,Z2,vC,wK,yd,zc,zq,zo,eFn,fFn,tOf,yA,YB,yr,asB,asI,zE,Zc,vP,yB,xT,Za,xN,ltD,leD,gtD,geD,Zh,zD,zU,zI,zR,Zu,zV,ixD,YN,yo,isT,eSl,wa,x9,yp,xo,iOf,Yq,xA,YE,vE,Y1,yq,wn,fLC,yZ,yh,x8,yM,Zl,xI,Zw,b1,b2,hc]) (fun _=>?_) (fun z=>by cases z))
      refine zM (ρ':=[.v (.int n),.v (.int c),.v (.int mo),.v (.int le),.o (ns.map .int),.v (.int dg),.v (.int x),.v (.int (if dg % (mo+1) < le then dg % (mo+1) else le))]) (by simp [fnD,zT,xp,wE,sIf,wu,xJ,sNo,zJ,Xh,Zb,YF,ZG,Zr,vEv,visF,visG,Sl.f,Sl.g,zd,eC,zp,vF,eOr,ZF,eIf,eUn,Z2,vC,wK,yd,zc,zq,zo,eFn,fFn,tOf,yA,YB,yr,asB,asI,zE,Zc,vP,yB,xT,Za,xN,ltD,leD,gtD,geD,Zh,zD,zU,zI,zR,Zu,zV,ixD,YN,yo,isT,eSl,wa,x9,yp,xo,iOf,Yq,xA,YE,vE,Y1,yq,wn,fLC,yZ,yh,x8,yM,Zl,xI,Zw,b1,b2,hm2,zgd]) (Wx (ρ':=[.v (.int n),.v (.int c),.v (.int mo),.v (.int le),.o (ns.map .int),.v (.int (dg / (mo+1))),.v (.int x),.v (.int (if dg % (mo+1) < le then dg % (mo+1) else le))]) (by simp [fnD,zT,xp,wE,sIf,wu,xJ,sNo,zJ,Xh,Zb,YF,ZG,Zr,vEv,visF,visG,Sl.f,Sl.g,zd,eC,zp,vF,eOr,ZF,eIf,eUn,Z2,vC,wK,yd,zc,zq,zo,eFn,fFn,tOf,yA,YB,yr,asB,asI,zE,Zc,vP,yB,xT,Za,xN,ltD,leD,gtD,geD,Zh,zD,zU,zI,zR,Zu,zV,ixD,YN,yo,isT,eSl,wa,x9,yp,xo,iOf,Yq,xA,YE,vE,Y1,yq,wn,fLC,yZ,yh,x8,yM,Zl,xI,Zw,b1,b2,hm2,hm3]) ?_)
      have p1:0≤dg % (mo+1):=Int.emod_nonneg _ (by omega)
      exact fin _ _ (by split <;> omega) (by split <;> omega)
    · refine vg (zaK (c:=false) (by simp [fnD,zT,xp,wE,sIf,wu,xJ,sNo,zJ,Xh,Zb,YF,ZG,Zr,vEv,visF,visG,Sl.f,Sl.g,zd,eC,zp,vF,eOr,ZF,eIf,eUn,Z2,vC,wK,yd,zc,zq,zo,eFn,fFn,tOf,yA,YB,yr,asB,asI,zE,Zc,vP,yB,xT,Za,xN,ltD,leD,gtD,geD,Zh,zD,zU,zI,zR,Zu,zV,ixD,YN,yo,isT,eSl,wa,x9,yp,xo,iOf,Yq,xA,YE,vE,Y1,yq,wn,fLC,yZ,yh,x8,yM,Zl,xI,Zw,b1,b2,hc]) (fun z=>by cases z) (fun _=>Wx rfl ?_))
      exact fin _ _ hlo (by omega)
  · rintro ρ ⟨le,dg,ns,o1,o2,rfl,hl,hnn,hle,hs⟩
    refine zk0 rfl (Xv rfl ⟨ns,rfl,by omega,hnn,by omega⟩)
theorem Wg (T:Txt K mg ad):xB P w K mg base CX0 2 ad.f__law_heap_by ad.e__law_heap_by ["many","cell","most"] (@spD ⟨K⟩ 3 vN):=by
  letI:KK:=⟨K⟩
  have G__law_stir:=YG (P:=P) (w:=w) (base:=base) T
  refine xK (N:=["many","cell","most","left","heap","digits","k","stones"]) (ps:=["many","cell","most"]) T.d__law_heap_by.fn zQ (g:=xL) fun cdv A outer s H E hr=>?_
  unfold xL wV
  exact (zh (xy (m:=false) (i:=3) zQ.nd rfl (Or.inl rfl) (zb 2 (pv 2)))
      (zh (zaC (i:=4) zQ.nd rfl (Or.inl rfl) (wM zf))
      (zh (xy (m:=false) (i:=5) zQ.nd rfl (Or.inl rfl) (ZE (zb 1 (pv 1)) (zg zi)))
      (zh (XN PassesOwn.never rfl rfl T.z_range (za (zb 0 (pv 0)) zf) (wc (yI (i:=6) zQ.nd rfl (Or.inl rfl))) (zh (xy (m:=false) (i:=7) zQ.nd rfl (Or.inl rfl) (vB (zl (G__law_stir.mono (by decide)) hr rfl T.d__law_stir.at_ T.d__law_stir.kp T.d__law_stir.bd (za (zb 1 (pv 1)) (za (ww (zg zi) (zb 6 (pv 6))) zf))) (ww (zb 3 (pv 3)) (zg zi))))
      (zh (xn (zL (xM hr) yH (zA _) (vB (zb 1 (pv 1)) (zg zi)) (zg zi)) (zh (xy (m:=false) (i:=7) zQ.nd rfl (Or.inl rfl) (zY (zay rfl) zbU rfl T.z_min zgs (za (zb 3 (pv 3)) (za (vB (zb 5 (pv 5)) (ww (zb 2 (pv 2)) (zg zi))) zf))))
      (zj (xy (m:=false) (i:=5) zQ.nd rfl (Or.inl rfl) (ZE (zb 5 (pv 5)) (ww (zb 2 (pv 2)) (zg zi)))))) zB)
      (zh (zbM (m:=false) (pv 4) (zb 7 (pv 7)) (fun a b=>za3 PySem.F.plainAttrs_list PySem.F.slot_list_append PySem.F.type_list_append ZJ a b))
      (zj (xy (m:=false) (i:=3) zQ.nd rfl (Or.inl rfl) (VY (zb 3 (pv 3)) (zb 7 (pv 7)))))))))
      (zao 4 (zj (zN (Wl Yk X9 rfl T.z_tuple vc (za (zb 4 (pv 4)) zf)))))))))
theorem Y5 {gx hx:SE→Option Nat}{g:SE→Ctl}{ρ:SE}{j:Nat}(e:gx ρ=some j):Ww gx g hx ρ=some j:=by
  unfold Ww
  rw [e]
theorem yR {gx hx:SE→Option Nat}{g:SE→Ctl}{ρ ρ':SE}{j:Nat}(e:gx ρ=none)(e2:g ρ=.nx ρ')(e3:hx ρ'=some j):Ww gx g hx ρ=some j:=by
  unfold Ww
  rw [e,e2]
  exact e3
theorem ZX {gx:SE→Option Nat}{g:SE→Ctl}{h:Nat→Option D}{ρ:SE}{j:Nat}{d:D}(e:gx ρ=some j)(e2:h j=some d):zig gx g h ρ=.rt d:=by
  unfold zig
  rw [e]
  show (match h j with | some d=>Ctl.rt d | none=>.no)=_
  rw [e2]
theorem Xg {t:Ev→Option Bool}{g h:SE→Option Nat}{ρ:SE}{j:Nat}(e:t (visG ρ)=some true)(e2:g ρ=some j):xIf t g h ρ=some j:=by
  unfold xIf
  rw [e]
  exact e2
theorem wt {t:Ev→Option Bool}{g h:SE→Option Nat}{ρ:SE}{r:Option Nat}(e:t (visG ρ)=some false)(e2:h ρ=r):xIf t g h ρ=r:=by
  unfold xIf
  rw [e]
  exact e2
theorem vq {gx hx:SE→Option Nat}{g:SE→Ctl}{ρ ρ':SE}(e:gx ρ=none)(e2:g ρ=.nx ρ')(e3:hx ρ'=none):Ww gx g hx ρ=none:=by
  unfold Ww
  rw [e,e2]
  exact e3
theorem yz {t:Ev→Option Bool}{g:SE→Ctl}{ρ:SE}(e:t (visG ρ)=some false):sIf t g zJ ρ=.nx ρ:=by
  unfold sIf
  rw [e]
  rfl
theorem YW {g h:SE→Ctl}{ρ ρ':SE}{c:Ctl}(e:g ρ=.nx ρ')(e2:h ρ'=c):zT g h ρ=c:=by
  unfold zT
  rw [e]
  exact e2
noncomputable abbrev Hl:=List Int
noncomputable def hD (h:Hl):D:=.tup (h.map .int)
theorem zbJ {m:Int}{ts:List Tie}(ok:Yd m ts):zX [xu m ts]=some .non:=by
  have hw:Yu (xu m ts)=true:=(Ye _).mpr ⟨_,_,rfl,ok⟩
  simp only [zX]
  rw [if_pos hw]
set_option genInjectivity false in
set_option genSizeOf false in
set_option genCtorIdx false in
structure zbm (m:Int) (h:Hl):Prop where
  len:(h.length:Int)=m
  nn:∀ v∈h,0≤v
  sum:h.sum≤300
theorem Vr {m:Int}{ts:List Tie}{h:Hl}(ok:Yd m ts)(hp:zbm m h):zO [xu m ts,hD h]=some .non:=by
  show (if (noS (.tup (h.map .int))&&decide (m≤1000)&&ZB m (.tup (h.map .int)))=true then some D.non else none)=_
  rw [zga,zeE ok,zcv hp.len hp.nn hp.sum]
  rfl
noncomputable def xP:SE→Ctl :=
  (sIf (yr (tOf (zo 3 zv (zc (zd 0) (zc (zd 1) (zc (zd 2) zq)))))) sNo zJ)
noncomputable def wS:List D→Option D:=fnD 3 xP
theorem vV (T:Txt K mg ad):xB P w K mg base CX0 3 ad.f_must_be_within ad.e_must_be_within ["thing","least","most"] (@spD ⟨K⟩ 3 wS):=by
  letI:KK:=⟨K⟩
  have G_is_whole_within:=xq (P:=P) (w:=w) (base:=base) T
  refine xK (N:=["thing","least","most"]) (ps:=["thing","least","most"]) T.d_must_be_within.fn vW (g:=xP) fun cdv A outer s H E hr=>?_
  unfold xP
  exact (zj (xn (vK (wx (zl (G_is_whole_within.mono (by decide)) hr rfl T.d_is_whole_within.at_ T.d_is_whole_within.kp T.d_is_whole_within.bd (za (zb 0 (pv 0)) (za (zb 1 (pv 1)) (za (zb 2 (pv 2)) zf)))))) (zj ZK) zB))
noncomputable def yW:SE→Option Nat :=
  (xIf (yr (tOf (zo 3 zv (zc (zd 0) (zc (zd 1) (zc (zd 2) zq)))))) (zgB 4) xNo)
noncomputable def zH:List D→Option Nat:=fnX 3 yW
theorem vG (T:Txt K mg ad):xB P w K mg base (Air P w) 3 ad.f_must_be_within ad.e_must_be_within ["thing","least","most"] (@spX ⟨K⟩ (clT ad) 3 zH):=by
  letI:KK:=⟨K⟩
  have G_is_whole_within:=xq (P:=P) (w:=w) (base:=base) T
  refine Xo (cl:=clT ad) (N:=["thing","least","most"]) (ps:=["thing","least","most"]) T.d_must_be_within.fn vW (gx:=yW) fun cdv A outer s H E hr=>?_
  unfold yW
  exact (vx (za6 (vK (wx (zl (G_is_whole_within.mono (by decide)) hr rfl T.d_is_whole_within.at_ T.d_is_whole_within.kp T.d_is_whole_within.bd (za (zb 0 (pv 0)) (za (zb 1 (pv 1)) (za (zb 2 (pv 2)) zf)))))) (vx (zfu (cl:=clT ad) (j:=4) ⟨T.g_NoNumber,T.c_NoNumber⟩ rfl)) vo))
noncomputable def wG:SE→Ctl :=
  (sIf (tOf (zp gtD (zd 0) (zd 1))) sNo zJ)
noncomputable def yV:List D→Option D:=fnD 2 wG
theorem zK (T:Txt K mg ad):xB P w K mg base CX0 3 ad.f_must_be_at_most ad.e_must_be_at_most ["many","most"] (@spD ⟨K⟩ 2 yV):=by
  letI:KK:=⟨K⟩
  refine xK (N:=["many","most"]) (ps:=["many","most"]) T.d_must_be_at_most.fn vJ (g:=wG) fun cdv A outer s H E hr=>?_
  unfold wG
  exact (zj (xn (zL zcN xa (zA _) (zb 0 (pv 0)) (zb 1 (pv 1))) (zj ZK) zB))
noncomputable def yC:SE→Option Nat :=
  (xIf (tOf (zp gtD (zd 0) (zd 1))) (xRI (zk1 12) (zc (zd 0) (zc (zd 1) zq))) xNo)
noncomputable def yb:List D→Option Nat:=fnX 2 yC
theorem zG (T:Txt K mg ad):xB P w K mg base (Air P w) 3 ad.f_must_be_at_most ad.e_must_be_at_most ["many","most"] (@spX ⟨K⟩ (clT ad) 2 yb):=by
  letI:KK:=⟨K⟩
  refine Xo (cl:=clT ad) (N:=["many","most"]) (ps:=["many","most"]) T.d_must_be_at_most.fn vJ (gx:=yC) fun cdv A outer s H E hr=>?_
  unfold yC
  exact (vx (za6 (zL zcN xa (zA _) (zb 0 (pv 0)) (zb 1 (pv 1))) (vx (zeq (cl:=clT ad) ⟨T.g_TooGreat,T.ei_TooGreat,T.ea_TooGreat,zbb T.na_TooGreat⟩ (zar (P:=P) (w:=w) (base:=base) T) T.bi_TooGreat (zhW (zik ad) (show 12 < 16 by decide)) (hr.mono (by decide)) rfl (za (zb 0 (pv 0)) (za (zb 1 (pv 1)) zf)))) vo))
noncomputable def Wh:SE→Ctl :=
  (zT (Zb 2 (fFn x8 (zc (zd 0) zq)))
    (zT (Zr true 2 (zp ixD (zd 1) (eC (.int 0))) (zp Zc (zp ixD (zd 2) (zp ixD (zd 1) (eC (.int 0)))) (eC (.int 2))))
    (zT (Zr true 2 (zp ixD (zd 1) (eC (.int 1))) (zp Y3 (zp ixD (zd 2) (zp ixD (zd 1) (eC (.int 1)))) (eC (.int 1))))
    (sFz 2 (xp (eFn yh (zc (zd 2) zq)))))))
noncomputable def zaI:List D→Option D:=fnD 3 Wh
theorem zcs (T:Txt K mg ad):xB P w K mg base CX0 1 ad.f_stepped ad.e_stepped ["heap","step"] (@spD ⟨K⟩ 2 zaI):=by
  letI:KK:=⟨K⟩
  refine xK (N:=["heap","step","stones"]) (ps:=["heap","step"]) T.d_stepped.fn WV (g:=Wh) fun cdv A outer s H E hr=>?_
  unfold Wh
  exact (zh (zaC (i:=2) WV.nd rfl (Or.inl rfl) (zhD rfl T.z_list (za (zb 0 (pv 0)) zf)))
      (zh (zgl (m:=true) (VY (wv (zb 2 (pv 2)) (wv (zb 1 (pv 1)) (zg zi) (fun _ _=>rfl)) (fun _ _=>rfl)) (zg zi)) (pv 2) (wv (zb 1 (pv 1)) (zg zi) (fun _ _=>rfl)))
      (zh (zgl (m:=true) (ww (wv (zb 2 (pv 2)) (wv (zb 1 (pv 1)) (zg zi) (fun _ _=>rfl)) (fun _ _=>rfl)) (zg zi)) (pv 2) (wv (zb 1 (pv 1)) (zg zi) (fun _ _=>rfl)))
      (zao 2 (zj (zN (Wl Yk X9 rfl T.z_tuple vc (za (zb 2 (pv 2)) zf))))))))
noncomputable def Yx:SE→Ctl :=
  (zT (wu false 8 (zo 2 zaI (zc (zd 6) (zc (zd 7) zq))))
    (sIf (tOf (zp (zjI true) (zd 8) (zd 3))) (zT (zfX false 3 (zd 8) (vC (zc (zd 6) (zc (zd 7) zq))))
    (YF false 5 (zd 8))) zJ))
noncomputable def Yw:SE→Ctl :=
  (Yq (iOf (wK (fLC (iOf (zd 2)) b1 (tOf (zp geD (zp ixD (zd 7) (zp ixD (zd 0) (eC (.int 0)))) (eC (.int 2)))) (zd 0)))) (yM 7) Yx)
noncomputable def Yz:SE→Ctl :=
  (zT (Zb 5 (yd zq))
    (zT (Yq (iOf (zd 4)) (yM 6) Yw)
    (sFz 5 (wu false 4 (zd 5)))))
noncomputable def vR:SE→Ctl :=
  (zT (wu false 2 (zo 1 Zz (zc (zd 0) zq)))
    (zT (zhk 3 (zd 1) (eC .non))
    (zT (wu false 4 (wK (yd (zc (zd 1) zq))))
    (zT (Wb (tOf (zp gtD (eFn YN (zc (zd 4) zq)) (eC (.int 0)))) Yz 40)
    (zkd 3 (xp (zd 3)))))))
noncomputable def Zi:List D→Option D:=fnD 9 vR
theorem YO (T:Txt K mg ad):xB P w K mg base CX0 4 ad.f_heaps_behind ad.e_heaps_behind ["web","heap"] (@spD ⟨K⟩ 2 Zi):=by
  letI:KK:=⟨K⟩
  have G_all_steps:=VS (P:=P) (w:=w) (base:=base) T
  have G_stepped:=zcs (P:=P) (w:=w) (base:=base) T
  refine xK (N:=["web","heap","steps","found","rim","further","now","step","then"]) (ps:=["web","heap"]) T.d_heaps_behind.fn zP (g:=vR) fun cdv A outer s H E hr=>?_
  unfold vR Yz Yw Yx
  exact (zh (xy (m:=false) (i:=2) zP.nd rfl (Or.inl rfl) (zl (G_all_steps.mono (by decide)) hr rfl T.d_all_steps.at_ T.d_all_steps.kp T.d_all_steps.bd (za (zb 0 (pv 0)) zf)))
      (zh (zhp (i:=3) hr zP.nd rfl (Or.inl rfl) (zb 1 (pv 1)) (zcf zbP))
      (zh (xy (m:=false) (i:=4) zP.nd rfl (Or.inl rfl) (vX (wM (za (zb 1 (pv 1)) zf))))
      (zh (zf3 40 PassesOwn.never (zL zcN xa (zA _) (zY x5 Xl rfl T.z_len W0 (za (zb 4 (pv 4)) zf)) (zg zi)) (zh (zaC (i:=5) zP.nd rfl (Or.inl rfl) (wM zf))
      (zh (Wu PassesOwn.never rfl (We (zb 4 (pv 4))) (wc (yI (i:=6) zP.nd rfl (Or.inr rfl))) (zj (Wu PassesOwn.never rfl (We (vX (zgK (L:=["step"]) (M:=["web","heap","steps","found","rim","further","now","·step","then"]) rfl (WZ (by rfl) (by rfl) (by rfl) (by with_unfolding_all rfl) (by rfl) (by rfl) (by kernel_rfl) (all_cons rfl ZD)) (We (zb 2 (pv 2))) gs1 rb1 (fun _ _ _ _=>(yI (i:=0) zkr rfl (Or.inl rfl) (.inr rfl))) (fun _ _ _ _=>(zL zhG xa (zA _) (wv (zb 7 (pv 7)) (wv (zb 0 (pv 0)) (zg zi) (fun _ _=>rfl)) (fun _ _=>rfl)) (zg zi))) (fun _ _ _ _=>(zb 0 (pv 0)))))) (wc (yI (i:=7) zP.nd rfl (Or.inl rfl))) (zh (xy (m:=false) (i:=8) zP.nd rfl (Or.inl rfl) (zl (G_stepped.mono (by decide)) hr rfl T.d_stepped.at_ T.d_stepped.kp T.d_stepped.bd (za (zb 6 (pv 6)) (za (zb 7 (pv 7)) zf))))
      (zj (xn (zL (zeN hr) zdU (by with_unfolding_all rfl) (zb 8 (pv 8)) (zb 3 (pv 3))) (zh (zc9 (m:=false) hr (YX (za (zb 6 (pv 6)) (za (zb 7 (pv 7)) zf))) (pv 3) (zb 8 (pv 8)))
      (zj (zbM (m:=false) (pv 5) (zb 8 (pv 8)) (fun a b=>za3 PySem.F.plainAttrs_list PySem.F.slot_list_append PySem.F.type_list_append ZJ a b)))) zB))))))
      (zao 5 (zj (xy (m:=false) (i:=4) zP.nd rfl (Or.inl rfl) (zb 5 (pv 5))))))))
      (zec 3 (zj (zN (zb 3 (pv 3)))))))))
noncomputable def Wj:SE→Ctl :=
  (zT (xJ (zo 1 zX (zc (zd 0) zq)))
    (zT (xJ (zo 2 zO (zc (zd 0) (zc (zd 1) zq))))
    (zT (xJ (zo 2 zZ (zc (zd 0) (zc (zd 2) zq))))
    (zT (xJ (zo 2 yV (zc (eFn VN (zc (zd 1) zq)) (zc (eC (.int 12)) zq))))
    sNo))))
noncomputable def X8:List D→Option D:=fnD 3 Wj
theorem zcP (T:Txt K mg ad):xB P w K mg base CX0 8 ad.f_most_at ad.e_most_at ["web","heap","place"] (@spD ⟨K⟩ 3 X8):=by
  letI:KK:=⟨K⟩
  have G_must_be_at_most:=zK (P:=P) (w:=w) (base:=base) T
  have X_must_be_at_most:=zG (P:=P) (w:=w) (base:=base) T
  have G_must_be_web:=xh (P:=P) (w:=w) (base:=base) T
  have G_must_be_place:=xQ (P:=P) (w:=w) (base:=base) T
  have G_must_be_heap:=yX (P:=P) (w:=w) (base:=base) T
  refine xK (N:=["web","heap","place"]) (ps:=["web","heap","place"]) T.d_most_at.fn WX (g:=Wj) fun cdv A outer s H E hr=>?_
  unfold Wj
  exact (zh (zF (zl (G_must_be_web.mono (by decide)) hr rfl T.d_must_be_web.at_ T.d_must_be_web.kp T.d_must_be_web.bd (za (zb 0 (pv 0)) zf)))
      (zh (zF (zl (G_must_be_heap.mono (by decide)) hr rfl T.d_must_be_heap.at_ T.d_must_be_heap.kp T.d_must_be_heap.bd (za (zb 0 (pv 0)) (za (zb 1 (pv 1)) zf))))
      (zh (zF (zl (G_must_be_place.mono (by decide)) hr rfl T.d_must_be_place.at_ T.d_must_be_place.kp T.d_must_be_place.bd (za (zb 0 (pv 0)) (za (zb 2 (pv 2)) zf))))
      (zh (zF (zl (G_must_be_at_most.mono (by decide)) hr rfl T.d_must_be_at_most.at_ T.d_must_be_at_most.kp T.d_must_be_at_most.bd (za (zY (xO rfl) vS rfl T.z_sum Zj (za (zb 1 (pv 1)) zf)) (za (zg (yf (v:=.int 12) rfl T.g_MOST_SEARCHED ⟨_,rfl⟩)) zf))))
      ZN))))
noncomputable def Ya:SE→Option Nat :=
  (Ww xNo (xJ (zo 1 zX (zc (zd 0) zq)))
    (Ww xNo (xJ (zo 2 zO (zc (zd 0) (zc (zd 1) zq))))
    (Ww xNo (xJ (zo 2 zZ (zc (zd 0) (zc (zd 2) zq))))
    (xEx (YA 2 yb (zc (eFn VN (zc (zd 1) zq)) (zc (eC (.int 12)) zq)))))))
noncomputable def Y4:List D→Option Nat:=fnX 3 Ya
theorem zaP (T:Txt K mg ad):xB P w K mg base (Air P w) 8 ad.f_most_at ad.e_most_at ["web","heap","place"] (@spX ⟨K⟩ (clT ad) 3 Y4):=by
  letI:KK:=⟨K⟩
  have G_must_be_at_most:=zK (P:=P) (w:=w) (base:=base) T
  have X_must_be_at_most:=zG (P:=P) (w:=w) (base:=base) T
  have G_must_be_web:=xh (P:=P) (w:=w) (base:=base) T
  have G_must_be_place:=xQ (P:=P) (w:=w) (base:=base) T
  have G_must_be_heap:=yX (P:=P) (w:=w) (base:=base) T
  refine Xo (cl:=clT ad) (N:=["web","heap","place"]) (ps:=["web","heap","place"]) T.d_most_at.fn WX (gx:=Ya) fun cdv A outer s H E hr=>?_
  unfold Ya
  exact (xt vH (SD.nox (zF (zl (G_must_be_web.mono (by decide)) hr rfl T.d_must_be_web.at_ T.d_must_be_web.kp T.d_must_be_web.bd (za (zb 0 (pv 0)) zf))))
      (xt vH (SD.nox (zF (zl (G_must_be_heap.mono (by decide)) hr rfl T.d_must_be_heap.at_ T.d_must_be_heap.kp T.d_must_be_heap.bd (za (zb 0 (pv 0)) (za (zb 1 (pv 1)) zf)))))
      (xt vH (SD.nox (zF (zl (G_must_be_place.mono (by decide)) hr rfl T.d_must_be_place.at_ T.d_must_be_place.kp T.d_must_be_place.bd (za (zb 0 (pv 0)) (za (zb 2 (pv 2)) zf)))))
      (YI (wD (wF (X_must_be_at_most.mono (by decide)) xY hr rfl T.d_must_be_at_most.at_ T.d_must_be_at_most.kp T.d_must_be_at_most.bd (za (zY (xO rfl) vS rfl T.z_sum Zj (za (zb 1 (pv 1)) zf)) (za (zg (yf (v:=.int 12) rfl T.g_MOST_SEARCHED ⟨_,rfl⟩)) zf))))))))
noncomputable def wd:SE→Ctl :=
  (zT (xJ (zo 1 zX (zc (zd 0) zq)))
    (zT (xJ (zo 2 zO (zc (zd 0) (zc (zd 1) zq))))
    (zT (xJ (zo 2 zZ (zc (zd 0) (zc (zd 2) zq))))
    (xJ (zo 3 wS (zc (zd 3) (zc (eC (.int 1)) (zc (eC (.int 300)) zq))))))))
noncomputable def yn:List D→Option D:=fnD 4 wd
theorem yw (T:Txt K mg ad):xB P w K mg base CX0 8 ad.f_must_be_asked ad.e_must_be_asked ["web","heap","place","many"] (@spD ⟨K⟩ 4 yn):=by
  letI:KK:=⟨K⟩
  have G_must_be_within:=vV (P:=P) (w:=w) (base:=base) T
  have X_must_be_within:=vG (P:=P) (w:=w) (base:=base) T
  have G_must_be_web:=xh (P:=P) (w:=w) (base:=base) T
  have G_must_be_place:=xQ (P:=P) (w:=w) (base:=base) T
  have G_must_be_heap:=yX (P:=P) (w:=w) (base:=base) T
  refine xK (N:=["web","heap","place","many"]) (ps:=["web","heap","place","many"]) T.d_must_be_asked.fn Ys (g:=wd) fun cdv A outer s H E hr=>?_
  unfold wd
  exact (zh (zF (zl (G_must_be_web.mono (by decide)) hr rfl T.d_must_be_web.at_ T.d_must_be_web.kp T.d_must_be_web.bd (za (zb 0 (pv 0)) zf)))
      (zh (zF (zl (G_must_be_heap.mono (by decide)) hr rfl T.d_must_be_heap.at_ T.d_must_be_heap.kp T.d_must_be_heap.bd (za (zb 0 (pv 0)) (za (zb 1 (pv 1)) zf))))
      (zh (zF (zl (G_must_be_place.mono (by decide)) hr rfl T.d_must_be_place.at_ T.d_must_be_place.kp T.d_must_be_place.bd (za (zb 0 (pv 0)) (za (zb 2 (pv 2)) zf))))
      (zj (zF (zl (G_must_be_within.mono (by decide)) hr rfl T.d_must_be_within.at_ T.d_must_be_within.kp T.d_must_be_within.bd (za (zb 3 (pv 3)) (za (zg zi) (za (zg (yf (v:=.int 300) rfl T.g_MOST_STONES ⟨_,rfl⟩)) zf)))))))))
noncomputable def ye:SE→Option Nat :=
  (Ww xNo (xJ (zo 1 zX (zc (zd 0) zq)))
    (Ww xNo (xJ (zo 2 zO (zc (zd 0) (zc (zd 1) zq))))
    (Ww xNo (xJ (zo 2 zZ (zc (zd 0) (zc (zd 2) zq))))
    (xEx (YA 3 zH (zc (zd 3) (zc (eC (.int 1)) (zc (eC (.int 300)) zq))))))))
noncomputable def yt:List D→Option Nat:=fnX 4 ye
theorem yk (T:Txt K mg ad):xB P w K mg base (Air P w) 8 ad.f_must_be_asked ad.e_must_be_asked ["web","heap","place","many"] (@spX ⟨K⟩ (clT ad) 4 yt):=by
  letI:KK:=⟨K⟩
  have G_must_be_within:=vV (P:=P) (w:=w) (base:=base) T
  have X_must_be_within:=vG (P:=P) (w:=w) (base:=base) T
  have G_must_be_web:=xh (P:=P) (w:=w) (base:=base) T
  have G_must_be_place:=xQ (P:=P) (w:=w) (base:=base) T
  have G_must_be_heap:=yX (P:=P) (w:=w) (base:=base) T
  refine Xo (cl:=clT ad) (N:=["web","heap","place","many"]) (ps:=["web","heap","place","many"]) T.d_must_be_asked.fn Ys (gx:=ye) fun cdv A outer s H E hr=>?_
  unfold ye
  exact (xt vH (SD.nox (zF (zl (G_must_be_web.mono (by decide)) hr rfl T.d_must_be_web.at_ T.d_must_be_web.kp T.d_must_be_web.bd (za (zb 0 (pv 0)) zf))))
      (xt vH (SD.nox (zF (zl (G_must_be_heap.mono (by decide)) hr rfl T.d_must_be_heap.at_ T.d_must_be_heap.kp T.d_must_be_heap.bd (za (zb 0 (pv 0)) (za (zb 1 (pv 1)) zf)))))
      (xt vH (SD.nox (zF (zl (G_must_be_place.mono (by decide)) hr rfl T.d_must_be_place.at_ T.d_must_be_place.kp T.d_must_be_place.bd (za (zb 0 (pv 0)) (za (zb 2 (pv 2)) zf)))))
      (vx (wD (wF (X_must_be_within.mono (by decide)) xY hr rfl T.d_must_be_within.at_ T.d_must_be_within.kp T.d_must_be_within.bd (za (zb 3 (pv 3)) (za (zg zi) (za (zg (yf (v:=.int 300) rfl T.g_MOST_STONES ⟨_,rfl⟩)) zf)))))))))
noncomputable def zbk:SE→Ctl :=
  (zT (xJ (zo 4 yn (zc (zd 0) (zc (zd 1) (zc (zd 2) (zc (zd 3) zq))))))
    (zT (xJ (zo 2 yV (zc (eFn VN (zc (zd 1) zq)) (zc (eC (.int 12)) zq))))
    sNo))
noncomputable def za8:List D→Option D:=fnD 6 zbk
theorem zfy (T:Txt K mg ad):xB P w K mg base CX0 9 ad.f_reach ad.e_reach ["web","heap","place","many"] (@spD ⟨K⟩ 4 za8):=by
  letI:KK:=⟨K⟩
  have G_must_be_at_most:=zK (P:=P) (w:=w) (base:=base) T
  have X_must_be_at_most:=zG (P:=P) (w:=w) (base:=base) T
  have G_must_be_asked:=yw (P:=P) (w:=w) (base:=base) T
  have X_must_be_asked:=yk (P:=P) (w:=w) (base:=base) T
  refine xK (N:=["web","heap","place","many","found","other"]) (ps:=["web","heap","place","many"]) T.d_reach.fn zb6 (g:=zbk) fun cdv A outer s H E hr=>?_
  unfold zbk
  exact (zh (zF (zl (G_must_be_asked.mono (by decide)) hr rfl T.d_must_be_asked.at_ T.d_must_be_asked.kp T.d_must_be_asked.bd (za (zb 0 (pv 0)) (za (zb 1 (pv 1)) (za (zb 2 (pv 2)) (za (zb 3 (pv 3)) zf))))))
      (zh (zF (zl (G_must_be_at_most.mono (by decide)) hr rfl T.d_must_be_at_most.at_ T.d_must_be_at_most.kp T.d_must_be_at_most.bd (za (zY (xO rfl) vS rfl T.z_sum Zj (za (zb 1 (pv 1)) zf)) (za (zg (yf (v:=.int 12) rfl T.g_MOST_SEARCHED ⟨_,rfl⟩)) zf))))
      ZN))
noncomputable def Yg:SE→Option Nat :=
  (Ww (xEx (YA 4 yt (zc (zd 0) (zc (zd 1) (zc (zd 2) (zc (zd 3) zq)))))) (xJ (zo 4 yn (zc (zd 0) (zc (zd 1) (zc (zd 2) (zc (zd 3) zq))))))
    (xEx (YA 2 yb (zc (eFn VN (zc (zd 1) zq)) (zc (eC (.int 12)) zq)))))
noncomputable def ZS:List D→Option Nat:=fnX 6 Yg
theorem zev (T:Txt K mg ad):xB P w K mg base (Air P w) 9 ad.f_reach ad.e_reach ["web","heap","place","many"] (@spX ⟨K⟩ (clT ad) 4 ZS):=by
  letI:KK:=⟨K⟩
  have G_must_be_at_most:=zK (P:=P) (w:=w) (base:=base) T
  have X_must_be_at_most:=zG (P:=P) (w:=w) (base:=base) T
  have G_must_be_asked:=yw (P:=P) (w:=w) (base:=base) T
  have X_must_be_asked:=yk (P:=P) (w:=w) (base:=base) T
  refine Xo (cl:=clT ad) (N:=["web","heap","place","many","found","other"]) (ps:=["web","heap","place","many"]) T.d_reach.fn zb6 (gx:=Yg) fun cdv A outer s H E hr=>?_
  unfold Yg
  exact (xt (wD (wF (X_must_be_asked.mono (by decide)) xY hr rfl T.d_must_be_asked.at_ T.d_must_be_asked.kp T.d_must_be_asked.bd (za (zb 0 (pv 0)) (za (zb 1 (pv 1)) (za (zb 2 (pv 2)) (za (zb 3 (pv 3)) zf)))))) (SD.nox (zF (zl (G_must_be_asked.mono (by decide)) hr rfl T.d_must_be_asked.at_ T.d_must_be_asked.kp T.d_must_be_asked.bd (za (zb 0 (pv 0)) (za (zb 1 (pv 1)) (za (zb 2 (pv 2)) (za (zb 3 (pv 3)) zf)))))))
      (YI (wD (wF (X_must_be_at_most.mono (by decide)) xY hr rfl T.d_must_be_at_most.at_ T.d_must_be_at_most.kp T.d_must_be_at_most.bd (za (zY (xO rfl) vS rfl T.z_sum Zj (za (zb 1 (pv 1)) zf)) (za (zg (yf (v:=.int 12) rfl T.g_MOST_SEARCHED ⟨_,rfl⟩)) zf))))))
noncomputable def X1:SE→Ctl :=
  (zT (xJ (zo 1 zX (zc (zd 0) zq)))
    (zT (xJ (zo 2 zO (zc (zd 0) (zc (zd 1) zq))))
    (zT (xJ (zo 2 yV (zc (eFn VN (zc (zd 1) zq)) (zc (eC (.int 12)) zq))))
    (zT (wu false 2 (zo 2 Zi (zc (zd 0) (zc (zd 1) zq))))
    (xp (wK (fLC (YE vE (zc (zp ixD (zd 0) (eC (.int 0))) zq)) b1 (tOf (eFn anyD (zc (wK (fLC (iDct (zd 3)) b1 yZ (zp gtD (zp ixD (zd 0) (zd 1)) (eC (.int 0))))) zq))) (zd 0))))))))
noncomputable def ZU:List D→Option D:=fnD 3 X1
theorem zcQ (T:Txt K mg ad):xB P w K mg base CX0 8 ad.f_reached ad.e_reached ["web","heap"] (@spD ⟨K⟩ 2 ZU):=by
  letI:KK:=⟨K⟩
  have G_must_be_at_most:=zK (P:=P) (w:=w) (base:=base) T
  have X_must_be_at_most:=zG (P:=P) (w:=w) (base:=base) T
  have G_must_be_web:=xh (P:=P) (w:=w) (base:=base) T
  have G_must_be_heap:=yX (P:=P) (w:=w) (base:=base) T
  have G_heaps_behind:=YO (P:=P) (w:=w) (base:=base) T
  refine xK (N:=["web","heap","found"]) (ps:=["web","heap"]) T.d_reached.fn Z7 (g:=X1) fun cdv A outer s H E hr=>?_
  unfold X1
  exact (zh (zF (zl (G_must_be_web.mono (by decide)) hr rfl T.d_must_be_web.at_ T.d_must_be_web.kp T.d_must_be_web.bd (za (zb 0 (pv 0)) zf)))
      (zh (zF (zl (G_must_be_heap.mono (by decide)) hr rfl T.d_must_be_heap.at_ T.d_must_be_heap.kp T.d_must_be_heap.bd (za (zb 0 (pv 0)) (za (zb 1 (pv 1)) zf))))
      (zh (zF (zl (G_must_be_at_most.mono (by decide)) hr rfl T.d_must_be_at_most.at_ T.d_must_be_at_most.kp T.d_must_be_at_most.bd (za (zY (xO rfl) vS rfl T.z_sum Zj (za (zb 1 (pv 1)) zf)) (za (zg (yf (v:=.int 12) rfl T.g_MOST_SEARCHED ⟨_,rfl⟩)) zf))))
      (zh (xy (m:=false) (i:=2) Z7.nd rfl (Or.inr rfl) (zl (G_heaps_behind.mono (by decide)) hr rfl T.d_heaps_behind.at_ T.d_heaps_behind.kp T.d_heaps_behind.bd (za (zb 0 (pv 0)) (za (zb 1 (pv 1)) zf))))
      (zj (zN (vX (zhQ (x0:="place") (M:=["web","heap","found"]) rfl (zix (by rfl) (by rfl) (by rfl) (by with_unfolding_all rfl) (fun _=>rfl) (fun _=>rfl) (by rfl) (by rfl) (by kernel_rfl) (all_cons rfl ZD)) (zaB rfl T.z_range (za (wv (zb 0 (pv 0)) (zg zi) (fun _ _=>rfl)) zf)) gs1 rb1 (fun _ _ _ _=>(yI (i:=0) zk7 rfl (Or.inr rfl) (.inl rfl))) (fun _ _ _ _=>(wx (zY (zc2 rfl) zhc rfl T.z_any ziz (za (vX (zbG (L:=["other"]) (M:=["place","web","heap","found"]) rfl (WZ (by rfl) (by rfl) (by rfl) (by with_unfolding_all rfl) (by rfl) (by rfl) (by kernel_rfl) (all_cons rfl ZD)) (zh3 (zb 3 (pv 3))) gs1 rb1 (fun _ _ _ _=>(yI (i:=0) zkQ rfl (Or.inl rfl) (.inr rfl))) (fun _ _ _ _=>(ZV zcN xa (zA _) (wv (zb 0 (pv 0)) (zb 1 (pv 1)) (fun _ _=>rfl)) (zg zi))))) zf)))) (fun _ _ _ _=>(zb 0 (pv 0)))))))))))
noncomputable def Yb:SE→Option Nat :=
  (Ww xNo (xJ (zo 1 zX (zc (zd 0) zq)))
    (Ww xNo (xJ (zo 2 zO (zc (zd 0) (zc (zd 1) zq))))
    (xEx (YA 2 yb (zc (eFn VN (zc (zd 1) zq)) (zc (eC (.int 12)) zq))))))
noncomputable def vm:List D→Option Nat:=fnX 3 Yb
theorem zaN (T:Txt K mg ad):xB P w K mg base (Air P w) 8 ad.f_reached ad.e_reached ["web","heap"] (@spX ⟨K⟩ (clT ad) 2 vm):=by
  letI:KK:=⟨K⟩
  have G_must_be_at_most:=zK (P:=P) (w:=w) (base:=base) T
  have X_must_be_at_most:=zG (P:=P) (w:=w) (base:=base) T
  have G_must_be_web:=xh (P:=P) (w:=w) (base:=base) T
  have G_must_be_heap:=yX (P:=P) (w:=w) (base:=base) T
  have G_heaps_behind:=YO (P:=P) (w:=w) (base:=base) T
  refine Xo (cl:=clT ad) (N:=["web","heap","found"]) (ps:=["web","heap"]) T.d_reached.fn Z7 (gx:=Yb) fun cdv A outer s H E hr=>?_
  unfold Yb
  exact (xt vH (SD.nox (zF (zl (G_must_be_web.mono (by decide)) hr rfl T.d_must_be_web.at_ T.d_must_be_web.kp T.d_must_be_web.bd (za (zb 0 (pv 0)) zf))))
      (xt vH (SD.nox (zF (zl (G_must_be_heap.mono (by decide)) hr rfl T.d_must_be_heap.at_ T.d_must_be_heap.kp T.d_must_be_heap.bd (za (zb 0 (pv 0)) (za (zb 1 (pv 1)) zf)))))
      (YI (wD (wF (X_must_be_at_most.mono (by decide)) xY hr rfl T.d_must_be_at_most.at_ T.d_must_be_at_most.kp T.d_must_be_at_most.bd (za (zY (xO rfl) vS rfl T.z_sum Zj (za (zb 1 (pv 1)) zf)) (za (zg (yf (v:=.int 12) rfl T.g_MOST_SEARCHED ⟨_,rfl⟩)) zf)))))))
noncomputable def Zt:SE→Ctl :=
  sNo
noncomputable def Zy:List D→Option D:=fnD 5 Zt
theorem Xq (T:Txt K mg ad):xB P w K mg base CX0 1 ad.f_is_closed ad.e_is_closed ["web","held"] (@spD ⟨K⟩ 2 Zy):=by
  letI:KK:=⟨K⟩
  refine xK (N:=["web","held","steps","heap","step"]) (ps:=["web","held"]) T.d_is_closed.fn zaj (g:=Zt) fun cdv A outer s H E hr=>?_
  unfold Zt
  exact ZN
noncomputable def Yr:SE→Ctl :=
  (zT (sIf (YB (yr (tOf (zo 2 xz (zc (zd 0) (zc (zd 6) zq))))) (tOf (zp geD (zp ixD (zd 6) (zd 2)) (zd 3)))) (xp (eC (.bl false))) zJ)
    (zfX false 5 (zd 6) (eC (.bl true))))
noncomputable def wI:SE→Ctl :=
  (zT (xJ (zo 4 yn (zc (zd 0) (zc (zd 1) (zc (zd 2) (zc (zd 3) zq))))))
    (zT (sIf (yr (tOf (eUn (yo .list) (zd 4)))) (xp (eC (.bl false))) zJ)
    (zT (zhN true 5)
    (zT (Yq (iOf (zd 4)) (yM 6) Yr)
    (zkd 5 (xp (vF (zp (zjI false) (zd 1) (zd 5)) (zo 2 Zy (zc (zd 0) (zc (zd 5) zq))))))))))
noncomputable def xk:List D→Option D:=fnD 7 wI
theorem X4 (T:Txt K mg ad):xB P w K mg base CX0 9 ad.f_closed_holds ad.e_closed_holds ["web","heap","place","many","thing"] (@spD ⟨K⟩ 5 xk):=by
  letI:KK:=⟨K⟩
  have G_are_stones:=Yj (P:=P) (w:=w) (base:=base) T
  have G_must_be_asked:=yw (P:=P) (w:=w) (base:=base) T
  have X_must_be_asked:=yk (P:=P) (w:=w) (base:=base) T
  have G_is_closed:=Xq (P:=P) (w:=w) (base:=base) T
  refine xK (N:=["web","heap","place","many","thing","held","other"]) (ps:=["web","heap","place","many","thing"]) T.d_closed_holds.fn wj (g:=wI) fun cdv A outer s H E hr=>?_
  unfold wI Yr
  exact (zh (zF (zl (G_must_be_asked.mono (by decide)) hr rfl T.d_must_be_asked.at_ T.d_must_be_asked.kp T.d_must_be_asked.bd (za (zb 0 (pv 0)) (za (zb 1 (pv 1)) (za (zb 2 (pv 2)) (za (zb 3 (pv 3)) zf))))))
      (zh (xn (vK (wx (zS .list rfl T.z_isinstance (zb 4 (pv 4)) (y8 (v:=.ty "list") rfl T.z_list Vl rfl)))) (zj (zN (vY vD))) zB)
      (zh (zhj (t:=true) (i:=5) wj.nd rfl (Or.inl rfl))
      (zh (Wu PassesOwn.never rfl (We (zb 4 (pv 4))) (wc (yI (i:=6) wj.nd rfl (Or.inl rfl))) (zh (xn (zcA (zbw (vK (wx (zl (G_are_stones.mono (by decide)) hr rfl T.d_are_stones.at_ T.d_are_stones.kp T.d_are_stones.bd (za (zb 0 (pv 0)) (za (zb 6 (pv 6)) zf))))) (Wn (zL zhG xa (zA _) (wv (zb 6 (pv 6)) (zb 2 (pv 2)) (fun _ _=>rfl)) (zb 3 (pv 3)))))) (zj (zN (vY vD))) zB)
      (zj (zc9 (m:=false) hr (vY vD) (pv 5) (zb 6 (pv 6))))))
      (zec 5 (zj (zN (Yy (ZV (zi0 hr) zdU (by with_unfolding_all rfl) (zb 1 (pv 1)) (zb 5 (pv 5))) (Zn (zl (G_is_closed.mono (by decide)) hr rfl T.d_is_closed.at_ T.d_is_closed.kp T.d_is_closed.bd (za (zb 0 (pv 0)) (za (zb 5 (pv 5)) zf))))))))))))
noncomputable def vp:SE→Option Nat :=
  (xEx (YA 4 yt (zc (zd 0) (zc (zd 1) (zc (zd 2) (zc (zd 3) zq))))))
noncomputable def yS:List D→Option Nat:=fnX 7 vp
theorem XD (T:Txt K mg ad):xB P w K mg base (Air P w) 9 ad.f_closed_holds ad.e_closed_holds ["web","heap","place","many","thing"] (@spX ⟨K⟩ (clT ad) 5 yS):=by
  letI:KK:=⟨K⟩
  have G_are_stones:=Yj (P:=P) (w:=w) (base:=base) T
  have G_must_be_asked:=yw (P:=P) (w:=w) (base:=base) T
  have X_must_be_asked:=yk (P:=P) (w:=w) (base:=base) T
  have G_is_closed:=Xq (P:=P) (w:=w) (base:=base) T
  refine Xo (cl:=clT ad) (N:=["web","heap","place","many","thing","held","other"]) (ps:=["web","heap","place","many","thing"]) T.d_closed_holds.fn wj (gx:=vp) fun cdv A outer s H E hr=>?_
  unfold vp
  exact (YI (wD (wF (X_must_be_asked.mono (by decide)) xY hr rfl T.d_must_be_asked.at_ T.d_must_be_asked.kp T.d_must_be_asked.bd (za (zb 0 (pv 0)) (za (zb 1 (pv 1)) (za (zb 2 (pv 2)) (za (zb 3 (pv 3)) zf)))))))
noncomputable def YJ:SE→Ctl :=
  (zT (xJ (zo 4 yn (zc (zd 0) (zc (zd 1) (zc (zd 2) (zc (zd 3) zq))))))
    (zT (xJ (zo 2 yV (zc (eFn VN (zc (zd 1) zq)) (zc (eC (.int 12)) zq))))
    sNo))
noncomputable def YH:List D→Option D:=fnD 5 YJ
theorem VG (T:Txt K mg ad):xB P w K mg base CX0 9 ad.f_closed_for ad.e_closed_for ["web","heap","place","many"] (@spD ⟨K⟩ 4 YH):=by
  letI:KK:=⟨K⟩
  have G_must_be_at_most:=zK (P:=P) (w:=w) (base:=base) T
  have X_must_be_at_most:=zG (P:=P) (w:=w) (base:=base) T
  have G_must_be_asked:=yw (P:=P) (w:=w) (base:=base) T
  have X_must_be_asked:=yk (P:=P) (w:=w) (base:=base) T
  refine xK (N:=["web","heap","place","many","found"]) (ps:=["web","heap","place","many"]) T.d_closed_for.fn ZR (g:=YJ) fun cdv A outer s H E hr=>?_
  unfold YJ
  exact (zh (zF (zl (G_must_be_asked.mono (by decide)) hr rfl T.d_must_be_asked.at_ T.d_must_be_asked.kp T.d_must_be_asked.bd (za (zb 0 (pv 0)) (za (zb 1 (pv 1)) (za (zb 2 (pv 2)) (za (zb 3 (pv 3)) zf))))))
      (zh (zF (zl (G_must_be_at_most.mono (by decide)) hr rfl T.d_must_be_at_most.at_ T.d_must_be_at_most.kp T.d_must_be_at_most.bd (za (zY (xO rfl) vS rfl T.z_sum Zj (za (zb 1 (pv 1)) zf)) (za (zg (yf (v:=.int 12) rfl T.g_MOST_SEARCHED ⟨_,rfl⟩)) zf))))
      ZN))
noncomputable def xb:SE→Option Nat :=
  (Ww (xEx (YA 4 yt (zc (zd 0) (zc (zd 1) (zc (zd 2) (zc (zd 3) zq)))))) (xJ (zo 4 yn (zc (zd 0) (zc (zd 1) (zc (zd 2) (zc (zd 3) zq))))))
    (xEx (YA 2 yb (zc (eFn VN (zc (zd 1) zq)) (zc (eC (.int 12)) zq)))))
noncomputable def wo:List D→Option Nat:=fnX 5 xb
theorem WH (T:Txt K mg ad):xB P w K mg base (Air P w) 9 ad.f_closed_for ad.e_closed_for ["web","heap","place","many"] (@spX ⟨K⟩ (clT ad) 4 wo):=by
  letI:KK:=⟨K⟩
  have G_must_be_at_most:=zK (P:=P) (w:=w) (base:=base) T
  have X_must_be_at_most:=zG (P:=P) (w:=w) (base:=base) T
  have G_must_be_asked:=yw (P:=P) (w:=w) (base:=base) T
  have X_must_be_asked:=yk (P:=P) (w:=w) (base:=base) T
  refine Xo (cl:=clT ad) (N:=["web","heap","place","many","found"]) (ps:=["web","heap","place","many"]) T.d_closed_for.fn ZR (gx:=xb) fun cdv A outer s H E hr=>?_
  unfold xb
  exact (xt (wD (wF (X_must_be_asked.mono (by decide)) xY hr rfl T.d_must_be_asked.at_ T.d_must_be_asked.kp T.d_must_be_asked.bd (za (zb 0 (pv 0)) (za (zb 1 (pv 1)) (za (zb 2 (pv 2)) (za (zb 3 (pv 3)) zf)))))) (SD.nox (zF (zl (G_must_be_asked.mono (by decide)) hr rfl T.d_must_be_asked.at_ T.d_must_be_asked.kp T.d_must_be_asked.bd (za (zb 0 (pv 0)) (za (zb 1 (pv 1)) (za (zb 2 (pv 2)) (za (zb 3 (pv 3)) zf)))))))
      (YI (wD (wF (X_must_be_at_most.mono (by decide)) xY hr rfl T.d_must_be_at_most.at_ T.d_must_be_at_most.kp T.d_must_be_at_most.bd (za (zY (xO rfl) vS rfl T.z_sum Zj (za (zb 1 (pv 1)) zf)) (za (zg (yf (v:=.int 12) rfl T.g_MOST_SEARCHED ⟨_,rfl⟩)) zf))))))
theorem zcL {n:Int}(h1:1≤n)(h2:n≤300):zv [.int n,.int 1,.int 300]=some (.bl true):=by
  show some (D.bl (decide (1≤n)&&decide (n≤300)))=_
  rw [decide_eq_true h1,decide_eq_true h2]
  rfl
theorem zcV {n:Int}(h1:1≤n)(h2:n≤300):wS [.int n,.int 1,.int 300]=some .non∧zH [.int n,.int 1,.int 300]=none:=by
  have e:=zcL h1 h2
  refine ⟨Wy (ρ:=[.v (.int n),.v (.int 1),.v (.int 300)]) rfl ?_,?_⟩
  · unfold xP
    exact zaK (c:=false) (zeI (b:=true) (Wk (Yl (ds:=[_,_,_]) rfl e))) (fun z=>by cases z) (fun _=>Wx rfl rfl)
  · show yW [.v (.int n),.v (.int 1),.v (.int 300)]=none
    unfold yW
    exact wt (zeI (b:=true) (Wk (Yl (ds:=[_,_,_]) rfl e))) rfl
noncomputable def jT (S:Int):Nat:=60+64*(S.toNat*1024+12)
theorem zb3 {S:Int}(h:12 < S):yb [.int S,.int 12]=some (jT S):=by
  show yC [.v (.int S),.v (.int 12)]=_
  unfold yC
  refine Xg (Wk (xr (x:=.int S) (y:=.int 12) rfl rfl (by show some (D.bl (decide (12 < S)))=_;rw [decide_eq_true h]))) ?_
  show (if 0≤S∧(0:Int)≤12∧(12:Int) < 1024 then some (12+48+64*(S.toNat*1024+(12:Int).toNat)) else none)=_
  rw [if_pos ⟨by omega,by decide,by decide⟩]
  rfl
theorem VX {h:Hl}{f:Ev→Option D}{ρ:Ev}(e:f ρ=some (hD h)):eFn VN (zc f zq) ρ=some (.int h.sum) :=
  zkW (ds:=[hD h]) (yg e Yt) (by show (zg2 (h.map D.int)).bind _=_;rw [zbW];rfl)
theorem zf5 (l:Hl):zgt (hD l)=some (l.map Sum.inl):=by
  show zcz (l.map D.int)=_
  induction l with
  | nil=>rfl
  | cons a l ih =>
    show (zcz (l.map D.int)).map (Sum.inl a::·)=_
    rw [ih]
    rfl
theorem Vu {m n:Int}{ts:List Tie}{h:Hl}(ok:Yd m ts)(hp:zbm m h)(h1:1≤n)(h2:n≤300):yn [xu m ts,hD h,.int 0,.int n]=some .non∧yt [xu m ts,hD h,.int 0,.int n]=none:=by
  have e1:=zbJ ok
  have e2:=Vr ok hp
  have e3:=Xe (ts:=ts) (p:=0) (m:=m) ⟨by decide,by have:=ok.lo;omega⟩
  obtain ⟨e4,e5⟩:=zcV h1 h2
  refine ⟨Wy (ρ:=[.v (xu m ts),.v (hD h),.v (.int 0),.v (.int n)]) rfl ?_,?_⟩
  · unfold wd
    refine zM (yP (d:=.non) e1) (zM (yP (d:=.non) e2) (zM (yP (d:=.non) e3) ?_))
    exact Wx (yP (d:=.non) e4) rfl
  · show ye [.v (xu m ts),.v (hD h),.v (.int 0),.v (.int n)]=none
    unfold ye
    exact vq rfl (yP (d:=.non) e1) (vq rfl (yP (d:=.non) e2) (vq rfl (yP (d:=.non) e3) e5))
theorem zbl {m:Int}{ts:List Tie}{h:Hl}{d:D}(ok:Yd m ts)(hp:zbm m h)(hd:zH [d,.int 1,.int 300]=some 4):yt [xu m ts,hD h,.int 0,d]=some 4:=by
  have e1:=zbJ ok
  have e2:=Vr ok hp
  have e3:=Xe (ts:=ts) (p:=0) (m:=m) ⟨by decide,by have:=ok.lo;omega⟩
  show ye [.v (xu m ts),.v (hD h),.v (.int 0),.v d]=some 4
  unfold ye
  exact yR rfl (yP (d:=.non) e1) (yR rfl (yP (d:=.non) e2) (yR rfl (yP (d:=.non) e3) hd))
section
variable {m n:Int}{ts:List Tie}{h:Hl}{d:D}
theorem zhX (ok:Yd m ts)(hp:zbm m h)(hs:12 < h.sum)(h1:1≤n)(h2:n≤300):ZS [xu m ts,hD h,.int 0,.int n]=some (jT h.sum):=by
  obtain ⟨e1,e2⟩:=Vu ok hp h1 h2
  show Yg [.v (xu m ts),.v (hD h),.v (.int 0),.v (.int n),.no,.no]=_
  unfold Yg
  refine yR e2 (yP (d:=.non) e1) ?_
  unfold xEx YA
  rw [show zc (eFn VN (zc (zd 1) zq)) (zc (eC (.int 12)) zq) (visG [.v (xu m ts),.v (hD h),.v (.int 0),.v (.int n),.no,.no])=some [.int h.sum,.int 12] from yg (VX rfl) (yg rfl Yt),Option.bind_some]
  exact zb3 hs
theorem zdD (ok:Yd m ts)(hp:zbm m h)(hd:zH [d,.int 1,.int 300]=some 4):ZS [xu m ts,hD h,.int 0,d]=some 4:=by
  show Yg [.v (xu m ts),.v (hD h),.v (.int 0),.v d,.no,.no]=_
  unfold Yg
  exact Y5 (zbl ok hp hd)
theorem zjq (ok:Yd m ts)(hp:zbm m h)(hs:12 < h.sum)(h1:1≤n)(h2:n≤300):wo [xu m ts,hD h,.int 0,.int n]=some (jT h.sum):=by
  obtain ⟨e1,e2⟩:=Vu ok hp h1 h2
  show xb [.v (xu m ts),.v (hD h),.v (.int 0),.v (.int n),.no]=_
  unfold xb
  refine yR e2 (yP (d:=.non) e1) ?_
  unfold xEx YA
  rw [show zc (eFn VN (zc (zd 1) zq)) (zc (eC (.int 12)) zq) (visG [.v (xu m ts),.v (hD h),.v (.int 0),.v (.int n),.no])=some [.int h.sum,.int 12] from yg (VX rfl) (yg rfl Yt),Option.bind_some]
  exact zb3 hs
theorem zgL (ok:Yd m ts)(hp:zbm m h)(hd:zH [d,.int 1,.int 300]=some 4):wo [xu m ts,hD h,.int 0,d]=some 4:=by
  show xb [.v (xu m ts),.v (hD h),.v (.int 0),.v d,.no]=_
  unfold xb
  exact Y5 (zbl ok hp hd)
theorem zgu (ok:Yd m ts)(hp:zbm m h)(hd:zH [d,.int 1,.int 300]=some 4):yS [xu m ts,hD h,.int 0,d,.lst []]=some 4:=zbl ok hp hd
theorem W4 (ok:Yd m ts)(hp:zbm m h)(h1:1≤n)(h2:n≤300):xk [xu m ts,hD h,.int 0,.int n,.lst []]=some (.bl false)∧yS [xu m ts,hD h,.int 0,.int n,.lst []]=none:=by
  obtain ⟨e1,e2⟩:=Vu ok hp h1 h2
  refine ⟨Wy (ρ:=[.v (xu m ts),.v (hD h),.v (.int 0),.v (.int n),.v (.lst []),.no,.no]) rfl ?_,e2⟩
  unfold wI
  refine zM (yP (d:=.non) e1) ?_
  refine zM (ρ':=[.v (xu m ts),.v (hD h),.v (.int 0),.v (.int n),.v (.lst []),.no,.no]) rfl ?_
  refine zM (ρ':=[.v (xu m ts),.v (hD h),.v (.int 0),.v (.int n),.v (.lst []),.m true [] [],.no]) rfl ?_
  refine zM (ρ':=[.v (xu m ts),.v (hD h),.v (.int 0),.v (.int n),.v (.lst []),.m true [] [],.no]) rfl ?_
  refine Xv (d:=.bl false) ?_ rfl
  show xp (vF (zp (zjI false) (zd 1) (zd 5)) (zo 2 Zy (zc (zd 0) (zc (zd 5) zq)))) [.v (xu m ts),.v (hD h),.v (.int 0),.v (.int n),.v (.lst []),.v (.dct true true [] []),.no]=_
  refine Wv ?_
  have ek:zgt (hD h)=some (h.map Sum.inl):=zf5 h
  have e3:zp (zjI false) (zd 1) (zd 5) (visG [.v (xu m ts),.v (hD h),.v (.int 0),.v (.int n),.v (.lst []),.v (.dct true true [] []),.no])=some (.bl false):=by
    refine xr (x:=hD h) (y:=.dct true true [] []) rfl rfl ?_
    show (zgt (hD h)).map _=_
    rw [ek]
    rfl
  unfold vF
  rw [e3]
  rfl
theorem zdW (ok:Yd m ts)(hp:zbm m h)(hs:12 < h.sum):Y4 [xu m ts,hD h,.int 0]=some (jT h.sum):=by
  have e1:=zbJ ok
  have e2:=Vr ok hp
  have e3:=Xe (ts:=ts) (p:=0) (m:=m) ⟨by decide,by have:=ok.lo;omega⟩
  show Ya [.v (xu m ts),.v (hD h),.v (.int 0)]=_
  unfold Ya
  refine yR rfl (yP (d:=.non) e1) (yR rfl (yP (d:=.non) e2) (yR rfl (yP (d:=.non) e3) ?_))
  unfold xEx YA
  rw [show zc (eFn VN (zc (zd 1) zq)) (zc (eC (.int 12)) zq) (visG [.v (xu m ts),.v (hD h),.v (.int 0)])=some [.int h.sum,.int 12] from yg (VX rfl) (yg rfl Yt),Option.bind_some]
  exact zb3 hs
theorem zek (ok:Yd m ts)(hp:zbm m h)(hs:12 < h.sum):vm [xu m ts,hD h]=some (jT h.sum):=by
  have e1:=zbJ ok
  have e2:=Vr ok hp
  show Yb [.v (xu m ts),.v (hD h),.no]=_
  unfold Yb
  refine yR rfl (yP (d:=.non) e1) (yR rfl (yP (d:=.non) e2) ?_)
  unfold xEx YA
  rw [show zc (eFn VN (zc (zd 1) zq)) (zc (eC (.int 12)) zq) (visG [.v (xu m ts),.v (hD h),.no])=some [.int h.sum,.int 12] from yg (VX rfl) (yg rfl Yt),Option.bind_some]
  exact zb3 hs
end
theorem zd2:∀ k:Nat,k < 8→(ZU [xu ((k:Int)+1) [],hD (12::List.replicate k 0)]).isSome=true∧vm [xu ((k:Int)+1) [],hD (12::List.replicate k 0)]=none:=by
  intro k hk
  match k,hk with
  | 0,_=>exact ⟨by kernel_rfl,by kernel_rfl⟩
  | 1,_=>exact ⟨by kernel_rfl,by kernel_rfl⟩
  | 2,_=>exact ⟨by kernel_rfl,by kernel_rfl⟩
  | 3,_=>exact ⟨by kernel_rfl,by kernel_rfl⟩
  | 4,_=>exact ⟨by kernel_rfl,by kernel_rfl⟩
  | 5,_=>exact ⟨by kernel_rfl,by kernel_rfl⟩
  | 6,_=>exact ⟨by kernel_rfl,by kernel_rfl⟩
  | 7,_=>exact ⟨by kernel_rfl,by kernel_rfl⟩
theorem Vp:bootBuiltins "ValueError"=some (.type "ValueError"):=by decide +kernel
theorem zgj {n:Nat}(h:n≤13):n≤sizeLine:=by rw [sizeLine_eq];omega
theorem WA (T:Txt K mg ad):zez P w K mg base 1 ad.f__law_kinds ad.e__law_kinds ["e"] (zdN (clT ad) (fun j=>j < 13∧zca K (ziJ ad) ad.x_StoneError (clT ad j) j)):=by
  letI:KK:=⟨K⟩
  refine zh6 (N:=["e","found"]) (ps:=["e"]) T.d__law_kinds.fn wq (fun vs H Q E h=>by obtain ⟨a,j,od,rfl,_⟩:=h;rfl) fun cdv A outer s H vs Q E ev hr hsp=>?_
  obtain ⟨a,j,od,rfl,hH,⟨hj,kj⟩,q⟩:=hsp
  refine ⟨_,(wL (ZI (i:=1) wq.nd rfl (Or.inl rfl) (X5 (zr (yN xv rfl T.z_isinstance zy (zr (pv 0) (zr (yf (v:=.ref ad.x_NoWeb) rfl T.g_NoWeb rfl) yL))) (zr (yN xv rfl T.z_isinstance zy (zr (pv 0) (zr (yf (v:=.ref ad.x_NoKind) rfl T.g_NoKind rfl) yL))) (zr (yN xv rfl T.z_isinstance zy (zr (pv 0) (zr (yf (v:=.ref ad.x_NoHeap) rfl T.g_NoHeap rfl) yL))) (zr (yN xv rfl T.z_isinstance zy (zr (pv 0) (zr (yf (v:=.ref ad.x_NoPlace) rfl T.g_NoPlace rfl) yL))) yL))))))
      (wL (ZI (i:=1) wq.nd rfl (Or.inl rfl) (zgf zbN (pv 1) (X5 (zr (yN xv rfl T.z_isinstance zy (zr (pv 0) (zr (yf (v:=.ref ad.x_NoNumber) rfl T.g_NoNumber rfl) yL))) (zr (yN xv rfl T.z_isinstance zy (zr (pv 0) (zr (yf (v:=.ref ad.x_NoTally) rfl T.g_NoTally rfl) yL))) (zr (yN xv rfl T.z_isinstance zy (zr (pv 0) (zr (yf (v:=.ref ad.x_NotTree) rfl T.g_NotTree rfl) yL))) (zr (yN xv rfl T.z_isinstance zy (zr (pv 0) (zr (yf (v:=.ref ad.x_NotJoined) rfl T.g_NotJoined rfl) yL))) yL)))))))
      (wL (ZI (i:=1) wq.nd rfl (Or.inl rfl) (zgf zbN (pv 1) (X5 (zr (yN xv rfl T.z_isinstance zy (zr (pv 0) (zr (yf (v:=.ref ad.x_NoWeights) rfl T.g_NoWeights rfl) yL))) (zr (yN xv rfl T.z_isinstance zy (zr (pv 0) (zr (yf (v:=.ref ad.x_NoRow) rfl T.g_NoRow rfl) yL))) (zr (yN xv rfl T.z_isinstance zy (zr (pv 0) (zr (yf (v:=.ref ad.x_NoSteps) rfl T.g_NoSteps rfl) yL))) (zr (yN xv rfl T.z_isinstance zy (zr (pv 0) (zr (yf (v:=.ref ad.x_NoText) rfl T.g_NoText rfl) yL))) yL)))))))
      (wL (ZI (i:=1) wq.nd rfl (Or.inl rfl) (zgf zbN (pv 1) (X5 (zr (yN xv rfl T.z_isinstance zy (zr (pv 0) (zr (yf (v:=.ref ad.x_TooGreat) rfl T.g_TooGreat rfl) yL))) yL))))
      (wL (zfp (PW.pt (zj6 (zgz (zgp (yN xv rfl T.z_isinstance zy (zr (pv 0) (zr (y8 (v:=.ty "ValueError") rfl T.z_ValueError Vp rfl) yL))))) (zgO (zbt Vg (za3 PySem.F.plainAttrs_list PySem.F.slot_list_count PySem.F.type_list_count zdi (pv 1) (zr vD yL)) zi (zA _))))) (ZA (zai (zjh zgP zi))) zbq) (ZA (zai (za3 PySem.F.plainAttrs_list PySem.F.slot_list_index PySem.F.type_list_index zdC (pv 1) (zr vD yL))))))))),?_⟩
  refine zcY (cs:=[ad.x_NoWeb,ad.x_NoKind,ad.x_NoHeap,ad.x_NoPlace]) (bs:=[0 == j,1 == j,2 == j,3 == j]) kj.look (congrArg (fun l=>(l.drop 0).take 4) kj.hot) (zgj (n:=4) (by decide)) rfl rfl hH fun σ1 H1 S1=>?_
  refine VH (cs:=[ad.x_NoNumber,ad.x_NoTally,ad.x_NotTree,ad.x_NotJoined]) (bs:=[4 == j,5 == j,6 == j,7 == j]) kj.look (congrArg (fun l=>(l.drop 4).take 4) kj.hot) (by exact zgj (n:=8) (by decide)) S1 fun σ2 H2 S2=>?_
  refine VH (cs:=[ad.x_NoWeights,ad.x_NoRow,ad.x_NoSteps,ad.x_NoText]) (bs:=[8 == j,9 == j,10 == j,11 == j]) kj.look (congrArg (fun l=>(l.drop 8).take 4) kj.hot) (by exact zgj (n:=12) (by decide)) S2 fun σ3 H3 S3=>?_
  refine VH (cs:=[ad.x_TooGreat]) (bs:=[12 == j]) kj.look (congrArg (fun l=>(l.drop 12).take 1) kj.hot) (by exact zgj (n:=13) (by decide)) S3 fun σ4 H4 S4=>?_
  exact zg8 kj.val kj.look hj S4 (q _ S4.same)
noncomputable def yF:SE→Ctl :=
  (zT (zig (Ww (xIf (tOf (zp YM (zd 0) (eC (.int 0)))) (xEx (YA 4 ZS (zc (zd 1) (zc (zd 2) (zc (eC (.int 0)) (zc (zd 3) zq)))))) xNo) (sIf (tOf (zp YM (zd 0) (eC (.int 0)))) (xJ (zo 4 za8 (zc (zd 1) (zc (zd 2) (zc (eC (.int 0)) (zc (zd 3) zq)))))) zJ)
    (Ww (xIf (tOf (zp YM (zd 0) (eC (.int 1)))) (xEx (YA 4 wo (zc (zd 1) (zc (zd 2) (zc (eC (.int 0)) (zc (zd 3) zq)))))) xNo) (sIf (tOf (zp YM (zd 0) (eC (.int 1)))) (xJ (zo 4 YH (zc (zd 1) (zc (zd 2) (zc (eC (.int 0)) (zc (zd 3) zq)))))) zJ)
    (Ww (xIf (tOf (zp YM (zd 0) (eC (.int 2)))) (xEx (YA 5 yS (zc (zd 1) (zc (zd 2) (zc (eC (.int 0)) (zc (zd 3) (zc (wK (yd zq)) zq))))))) xNo) (sIf (tOf (zp YM (zd 0) (eC (.int 2)))) (xJ (zo 5 xk (zc (zd 1) (zc (zd 2) (zc (eC (.int 0)) (zc (zd 3) (zc (wK (yd zq)) zq))))))) zJ)
    (Ww (xIf (tOf (zp YM (zd 0) (eC (.int 3)))) (xEx (YA 3 Y4 (zc (zd 1) (zc (zd 2) (zc (eC (.int 0)) zq))))) xNo) (sIf (tOf (zp YM (zd 0) (eC (.int 3)))) (xJ (zo 3 X8 (zc (zd 1) (zc (zd 2) (zc (eC (.int 0)) zq))))) zJ)
    (xIf (tOf (zp YM (zd 0) (eC (.int 4)))) (xEx (YA 2 vm (zc (zd 1) (zc (zd 2) zq)))) xNo))))) (zT (sIf (tOf (zp YM (zd 0) (eC (.int 0)))) (xJ (zo 4 za8 (zc (zd 1) (zc (zd 2) (zc (eC (.int 0)) (zc (zd 3) zq)))))) zJ)
    (zT (sIf (tOf (zp YM (zd 0) (eC (.int 1)))) (xJ (zo 4 YH (zc (zd 1) (zc (zd 2) (zc (eC (.int 0)) (zc (zd 3) zq)))))) zJ)
    (zT (sIf (tOf (zp YM (zd 0) (eC (.int 2)))) (xJ (zo 5 xk (zc (zd 1) (zc (zd 2) (zc (eC (.int 0)) (zc (zd 3) (zc (wK (yd zq)) zq))))))) zJ)
    (zT (sIf (tOf (zp YM (zd 0) (eC (.int 3)))) (xJ (zo 3 X8 (zc (zd 1) (zc (zd 2) (zc (eC (.int 0)) zq))))) zJ)
    (sIf (tOf (zp YM (zd 0) (eC (.int 4)))) (xJ (zo 2 ZU (zc (zd 1) (zc (zd 2) zq)))) zJ))))) (zgY [4,12] (zeo (fK [4,12]) 12 (zih (V1 (fA "many" [12]) (V1 (fA "most" [12]) (fun _=>some [])))) (zih (V1 (fK [4,12]) (fun _=>some []))))))
    (xp (wK (yd zq))))
noncomputable def zC:List D→Option D:=fnD 5 yF
noncomputable def hh:Nat→Option D:=zgY [4,12] (zeo (fK [4,12]) 12 (zih (V1 (fA "many" [12]) (V1 (fA "most" [12]) (fun _=>some [])))) (zih (V1 (fK [4,12]) (fun _=>some []))))
theorem hh_t {S:Int}(h:0≤S):hh (jT S)=some (.lst [.int S,.int 12]):=by
  have m16:jT S % 16=12:=by unfold jT;omega
  have k1:jT S / 16 % 4=3:=by unfold jT;omega
  have k2:jT S / 64=S.toNat*1024+12:=by unfold jT;omega
  have k3:(((S.toNat*1024+12) / 1024:Nat):Int)=S:=by omega
  have k4:(((S.toNat*1024+12) % 1024:Nat):Int)=12:=by omega
  have ep:pay (jT S)=some [(("many":Str),V.int S),(("most":Str),V.int 12)]:=by
    unfold pay
    rw [k1]
    show some [(_,V.int _),(_,V.int _)]=_
    rw [k2,k3,k4]
  unfold hh zgY zeo zih V1 fK fA
  rw [m16,ep]
  rfl
theorem zil:hh 4=some (.lst [.int 4]):=rfl
section
variable {W Hd d:D}{j:Nat}{r:D}
theorem yK {k c:Int}{ρ:SE}(h:zd 0 (visG ρ)=some (.int k))(ne:k≠c):tOf (zp YM (zd 0) (eC (.int c))) (visG ρ)=some false:=Wk (xr (x:=.int k) (y:=.int c) h rfl (by rw [zD,decide_eq_false ne]))
theorem Zv {k:Int}{ρ:SE}(h:zd 0 (visG ρ)=some (.int k)):tOf (zp YM (zd 0) (eC (.int k))) (visG ρ)=some true:=Wk (xr (x:=.int k) (y:=.int k) h rfl (by rw [zD,decide_eq_true rfl]))
theorem zdI (h:ZS [W,Hd,.int 0,d]=some j)(hr:hh j=some r):zC [.int 0,W,Hd,d]=some r:=by
  refine Wy (ρ:=[.v (.int 0),.v W,.v Hd,.v d,.no]) rfl ?_
  unfold yF
  refine vg (Xv (ZX (j:=j) (d:=r) ?_ hr) rfl)
  exact Y5 (Xg (Zv rfl) h)
theorem zdt (h:wo [W,Hd,.int 0,d]=some j)(hr:hh j=some r):zC [.int 1,W,Hd,d]=some r:=by
  refine Wy (ρ:=[.v (.int 1),.v W,.v Hd,.v d,.no]) rfl ?_
  unfold yF
  refine vg (Xv (ZX (j:=j) (d:=r) ?_ hr) rfl)
  refine yR (wt (yK (k:=1) rfl (by decide)) rfl) (yz (yK (k:=1) rfl (by decide))) ?_
  exact Y5 (Xg (Zv rfl) h)
theorem zgw (h:yS [W,Hd,.int 0,d,.lst []]=some j)(hr:hh j=some r):zC [.int 2,W,Hd,d]=some r:=by
  refine Wy (ρ:=[.v (.int 2),.v W,.v Hd,.v d,.no]) rfl ?_
  unfold yF
  refine vg (Xv (ZX (j:=j) (d:=r) ?_ hr) rfl)
  refine yR (wt (yK (k:=2) rfl (by decide)) rfl) (yz (yK (k:=2) rfl (by decide))) ?_
  refine yR (wt (yK (k:=2) rfl (by decide)) rfl) (yz (yK (k:=2) rfl (by decide))) ?_
  exact Y5 (Xg (Zv rfl) h)
theorem zjg (h:Y4 [W,Hd,.int 0]=some j)(hr:hh j=some r):zC [.int 3,W,Hd,d]=some r:=by
  refine Wy (ρ:=[.v (.int 3),.v W,.v Hd,.v d,.no]) rfl ?_
  unfold yF
  refine vg (Xv (ZX (j:=j) (d:=r) ?_ hr) rfl)
  refine yR (wt (yK (k:=3) rfl (by decide)) rfl) (yz (yK (k:=3) rfl (by decide))) ?_
  refine yR (wt (yK (k:=3) rfl (by decide)) rfl) (yz (yK (k:=3) rfl (by decide))) ?_
  refine yR (wt (yK (k:=3) rfl (by decide)) rfl) (yz (yK (k:=3) rfl (by decide))) ?_
  exact Y5 (Xg (Zv rfl) h)
theorem zj2 (h:vm [W,Hd]=some j)(hr:hh j=some r):zC [.int 4,W,Hd,d]=some r:=by
  refine Wy (ρ:=[.v (.int 4),.v W,.v Hd,.v d,.no]) rfl ?_
  unfold yF
  refine vg (Xv (ZX (j:=j) (d:=r) ?_ hr) rfl)
  refine yR (wt (yK (k:=4) rfl (by decide)) rfl) (yz (yK (k:=4) rfl (by decide))) ?_
  refine yR (wt (yK (k:=4) rfl (by decide)) rfl) (yz (yK (k:=4) rfl (by decide))) ?_
  refine yR (wt (yK (k:=4) rfl (by decide)) rfl) (yz (yK (k:=4) rfl (by decide))) ?_
  refine yR (wt (yK (k:=4) rfl (by decide)) rfl) (yz (yK (k:=4) rfl (by decide))) ?_
  exact Xg (Zv rfl) h
theorem zaH {gx:SE→Option Nat}{g:SE→Ctl}{h:Nat→Option D}{ρ:SE}{c:Ctl}(e:gx ρ=none)(e2:g ρ=c):zig gx g h ρ=c:=by
  unfold zig
  rw [e]
  exact e2
theorem zen {t:Ev→Option Bool}{g h:SE→Ctl}{ρ:SE}{c:Ctl}(e:t (visG ρ)=some true)(e2:g ρ=c):sIf t g h ρ=c:=by
  unfold sIf
  rw [e]
  exact e2
theorem zd5 {b:D}(h:yS [W,Hd,.int 0,d,.lst []]=none)(hb:xk [W,Hd,.int 0,d,.lst []]=some b):zC [.int 2,W,Hd,d]=some (.lst []):=by
  refine Wy (ρ:=[.v (.int 2),.v W,.v Hd,.v d,.no]) rfl ?_
  unfold yF
  have n0:=yK (k:=2) (c:=0) (ρ:=[.v (.int 2),.v W,.v Hd,.v d,.no]) rfl (by decide)
  have n1:=yK (k:=2) (c:=1) (ρ:=[.v (.int 2),.v W,.v Hd,.v d,.no]) rfl (by decide)
  have n3:=yK (k:=2) (c:=3) (ρ:=[.v (.int 2),.v W,.v Hd,.v d,.no]) rfl (by decide)
  have n4:=yK (k:=2) (c:=4) (ρ:=[.v (.int 2),.v W,.v Hd,.v d,.no]) rfl (by decide)
  have y2:=Zv (k:=2) (ρ:=[.v (.int 2),.v W,.v Hd,.v d,.no]) rfl
  have s2:sIf (tOf (zp YM (zd 0) (eC (.int 2)))) (xJ (zo 5 xk (zc (zd 1) (zc (zd 2) (zc (eC (.int 0)) (zc (zd 3) (zc (wK (yd zq)) zq))))))) zJ [.v (.int 2),.v W,.v Hd,.v d,.no]=.nx [.v (.int 2),.v W,.v Hd,.v d,.no]:=zen y2 (yP (d:=b) (Yl (ds:=[W,Hd,.int 0,d,.lst []]) rfl hb))
  refine zM (ρ':=[.v (.int 2),.v W,.v Hd,.v d,.no]) (zaH ?_ ?_) (Xv rfl rfl)
  · exact vq (wt n0 rfl) (yz n0) (vq (wt n1 rfl) (yz n1) (vq (by unfold xIf;rw [y2];exact h) s2 (vq (wt n3 rfl) (yz n3) (wt n4 rfl))))
  · exact YW (yz n0) (YW (yz n1) (YW s2 (YW (yz n3) (yz n4))))
theorem zhL {b:D}(h:vm [W,Hd]=none)(hb:ZU [W,Hd]=some b):zC [.int 4,W,Hd,d]=some (.lst []):=by
  refine Wy (ρ:=[.v (.int 4),.v W,.v Hd,.v d,.no]) rfl ?_
  unfold yF
  have n0:=yK (k:=4) (c:=0) (ρ:=[.v (.int 4),.v W,.v Hd,.v d,.no]) rfl (by decide)
  have n1:=yK (k:=4) (c:=1) (ρ:=[.v (.int 4),.v W,.v Hd,.v d,.no]) rfl (by decide)
  have n2:=yK (k:=4) (c:=2) (ρ:=[.v (.int 4),.v W,.v Hd,.v d,.no]) rfl (by decide)
  have n3:=yK (k:=4) (c:=3) (ρ:=[.v (.int 4),.v W,.v Hd,.v d,.no]) rfl (by decide)
  have y4:=Zv (k:=4) (ρ:=[.v (.int 4),.v W,.v Hd,.v d,.no]) rfl
  refine zM (ρ':=[.v (.int 4),.v W,.v Hd,.v d,.no]) (zaH ?_ ?_) (Xv rfl rfl)
  · exact vq (wt n0 rfl) (yz n0) (vq (wt n1 rfl) (yz n1) (vq (wt n2 rfl) (yz n2) (vq (wt n3 rfl) (yz n3) (by unfold xIf;rw [y4];exact h))))
  · exact YW (yz n0) (YW (yz n1) (YW (yz n2) (YW (yz n3) (zen y4 (yP (d:=b) (Yl (ds:=[W,Hd]) rfl hb))))))
end
theorem zaf (T:Txt K mg ad):xB P w K mg base CX0 10 ad.f__law_came ad.e__law_came ["way","web","heap","many"] (@spD ⟨K⟩ 4 zC):=by
  letI:KK:=⟨K⟩
  have G_most_at:=zcP (P:=P) (w:=w) (base:=base) T
  have X_most_at:=zaP (P:=P) (w:=w) (base:=base) T
  have G_reach:=zfy (P:=P) (w:=w) (base:=base) T
  have X_reach:=zev (P:=P) (w:=w) (base:=base) T
  have G_reached:=zcQ (P:=P) (w:=w) (base:=base) T
  have X_reached:=zaN (P:=P) (w:=w) (base:=base) T
  have G_closed_holds:=X4 (P:=P) (w:=w) (base:=base) T
  have X_closed_holds:=XD (P:=P) (w:=w) (base:=base) T
  have G_closed_for:=VG (P:=P) (w:=w) (base:=base) T
  have X_closed_for:=WH (P:=P) (w:=w) (base:=base) T
  have H_kinds:=WA (P:=P) (w:=w) (base:=base) T
  have okj:∀ j,j∈[4,12]→j < 13∧zca K (ziJ ad) ad.x_StoneError (clT ad j) j:=by
    intro j hj
    simp only [List.mem_cons,List.not_mem_nil,or_false] at hj
    rcases hj with rfl | rfl
    · exact ⟨by decide,.of T.y_NoNumber⟩
    · exact ⟨by decide,.of T.y_TooGreat⟩
  have exj:∀ (h:Nat→Option D) j d,zgY [4,12] h j=some d→PySem.W.exmOne K (.ref (clT ad j)) (.ref ad.x_StoneError)=some true:=fun h j d e=>by rw [zik ad j];exact (okj _ (zhB e)).2.exm
  have xat_many:∀ j,j % 16∈[12]→wZ K (clT ad j)∧ZW K (clT ad j) "many":=by
    intro j hj
    rw [zik ad j]
    generalize j % 16=m at hj ⊢
    simp only [List.mem_cons,List.not_mem_nil,or_false] at hj
    rcases hj with rfl
    · exact ⟨.of T.ea_TooGreat,zbb T.na_TooGreat _ (by decide)⟩
  have xat_most:∀ j,j % 16∈[12]→wZ K (clT ad j)∧ZW K (clT ad j) "most":=by
    intro j hj
    rw [zik ad j]
    generalize j % 16=m at hj ⊢
    simp only [List.mem_cons,List.not_mem_nil,or_false] at hj
    rcases hj with rfl
    · exact ⟨.of T.ea_TooGreat,zbb T.na_TooGreat _ (by decide)⟩
  refine xK (N:=["way","web","heap","many","e"]) (ps:=["way","web","heap","many"]) T.d__law_came.fn Xn (g:=yF) fun cdv A outer s H E hr=>?_
  unfold yF
  exact (zh (zjj (i:=4) rfl rfl rfl Xn.nd rfl rfl rfl T.g_StoneError (fun ps W E0 hx=>(xt (za6 (zL (xM hr) yH (zA _) (zb 0 (pv 0)) (zg zi)) (vx (wD (wF (X_reach.mono (by decide)) hx hr rfl T.d_reach.at_ T.d_reach.kp T.d_reach.bd (za (zb 1 (pv 1)) (za (zb 2 (pv 2)) (za (zg zi) (za (zb 3 (pv 3)) zf))))))) vo) (SD.nox (xn (zL (xM hr) yH (zA _) (zb 0 (pv 0)) (zg zi)) (zj (zF (zl (G_reach.mono (by decide)) hr rfl T.d_reach.at_ T.d_reach.kp T.d_reach.bd (za (zb 1 (pv 1)) (za (zb 2 (pv 2)) (za (zg zi) (za (zb 3 (pv 3)) zf))))))) zB))
      (xt (za6 (zL (xM hr) yH (zA _) (zb 0 (pv 0)) (zg zi)) (vx (wD (wF (X_closed_for.mono (by decide)) hx hr rfl T.d_closed_for.at_ T.d_closed_for.kp T.d_closed_for.bd (za (zb 1 (pv 1)) (za (zb 2 (pv 2)) (za (zg zi) (za (zb 3 (pv 3)) zf))))))) vo) (SD.nox (xn (zL (xM hr) yH (zA _) (zb 0 (pv 0)) (zg zi)) (zj (zF (zl (G_closed_for.mono (by decide)) hr rfl T.d_closed_for.at_ T.d_closed_for.kp T.d_closed_for.bd (za (zb 1 (pv 1)) (za (zb 2 (pv 2)) (za (zg zi) (za (zb 3 (pv 3)) zf))))))) zB))
      (xt (za6 (zL (xM hr) yH (zA _) (zb 0 (pv 0)) (zg zi)) (vx (wD (wF (X_closed_holds.mono (by decide)) hx hr rfl T.d_closed_holds.at_ T.d_closed_holds.kp T.d_closed_holds.bd (za (zb 1 (pv 1)) (za (zb 2 (pv 2)) (za (zg zi) (za (zb 3 (pv 3)) (za (vX (wM zf)) zf)))))))) vo) (SD.nox (xn (zL (xM hr) yH (zA _) (zb 0 (pv 0)) (zg zi)) (zj (zF (zl (G_closed_holds.mono (by decide)) hr rfl T.d_closed_holds.at_ T.d_closed_holds.kp T.d_closed_holds.bd (za (zb 1 (pv 1)) (za (zb 2 (pv 2)) (za (zg zi) (za (zb 3 (pv 3)) (za (vX (wM zf)) zf)))))))) zB))
      (xt (za6 (zL (xM hr) yH (zA _) (zb 0 (pv 0)) (zg zi)) (vx (wD (wF (X_most_at.mono (by decide)) hx hr rfl T.d_most_at.at_ T.d_most_at.kp T.d_most_at.bd (za (zb 1 (pv 1)) (za (zb 2 (pv 2)) (za (zg zi) zf)))))) vo) (SD.nox (xn (zL (xM hr) yH (zA _) (zb 0 (pv 0)) (zg zi)) (zj (zF (zl (G_most_at.mono (by decide)) hr rfl T.d_most_at.at_ T.d_most_at.kp T.d_most_at.bd (za (zb 1 (pv 1)) (za (zb 2 (pv 2)) (za (zg zi) zf)))))) zB))
      (vx (za6 (zL (xM hr) yH (zA _) (zb 0 (pv 0)) (zg zi)) (vx (wD (wF (X_reached.mono (by decide)) hx hr rfl T.d_reached.at_ T.d_reached.kp T.d_reached.bd (za (zb 1 (pv 1)) (za (zb 2 (pv 2)) zf))))) vo))))))) (fun ps W=>(zh (xn (zL (xM hr) yH (zA _) (zb 0 (pv 0)) (zg zi)) (zj (zF (zl (G_reach.mono (by decide)) hr rfl T.d_reach.at_ T.d_reach.kp T.d_reach.bd (za (zb 1 (pv 1)) (za (zb 2 (pv 2)) (za (zg zi) (za (zb 3 (pv 3)) zf))))))) zB)
      (zh (xn (zL (xM hr) yH (zA _) (zb 0 (pv 0)) (zg zi)) (zj (zF (zl (G_closed_for.mono (by decide)) hr rfl T.d_closed_for.at_ T.d_closed_for.kp T.d_closed_for.bd (za (zb 1 (pv 1)) (za (zb 2 (pv 2)) (za (zg zi) (za (zb 3 (pv 3)) zf))))))) zB)
      (zh (xn (zL (xM hr) yH (zA _) (zb 0 (pv 0)) (zg zi)) (zj (zF (zl (G_closed_holds.mono (by decide)) hr rfl T.d_closed_holds.at_ T.d_closed_holds.kp T.d_closed_holds.bd (za (zb 1 (pv 1)) (za (zb 2 (pv 2)) (za (zg zi) (za (zb 3 (pv 3)) (za (vX (wM zf)) zf)))))))) zB)
      (zh (xn (zL (xM hr) yH (zA _) (zb 0 (pv 0)) (zg zi)) (zj (zF (zl (G_most_at.mono (by decide)) hr rfl T.d_most_at.at_ T.d_most_at.kp T.d_most_at.bd (za (zb 1 (pv 1)) (za (zb 2 (pv 2)) (za (zg zi) zf)))))) zB)
      (zj (xn (zL (xM hr) yH (zA _) (zb 0 (pv 0)) (zg zi)) (zj (zF (zl (G_reached.mono (by decide)) hr rfl T.d_reached.at_ T.d_reached.kp T.d_reached.bd (za (zb 1 (pv 1)) (za (zb 2 (pv 2)) zf))))) zB))))))) (exj _) (fun ok ea=>(wL (zfp (zbt zi3 (zbC (E:=fun _ _ _=>False) H_kinds (hr.mono (by decide)) rfl T.d__law_kinds.at_ T.d__law_kinds.kp T.d__law_kinds.bd ok (zr (pv 4) yL)) zi (zA _)) (ZA (zai (X5 (zr (ziG (pv 4) rfl) (zr (ziG (pv 4) rfl) yL))))) zbq) (ZA (zai (X5 (zr (zbC (E:=fun _ _ _=>False) H_kinds (hr.mono (by decide)) rfl T.d__law_kinds.at_ T.d__law_kinds.kp T.d__law_kinds.bd ok (zr (pv 4) yL)) yL)))))) (zjA (zkO (zce (ok:=_) (zik ad) okj) (zgv (Va (zex xat_many) (Va (zex xat_most) zdr))) (zgv (Va (zce (ok:=_) (zik ad) okj) zdr)))))
      (zj (zN (vX (wM zf)))))
noncomputable def za1:SE→Ctl :=
  (zT (wu false 7 (zo 4 zC (zc (zd 6) (zc (zd 3) (zc (zd 4) (zc (zp Y3 (eC (.int 1)) (zp xT (zd 1) (eC (.int 300)))) zq))))))
    (zT (sIf (yA (tOf (zp neD (zd 6) (eC (.int 2)))) (yr (tOf (zo 2 Yi (zc (zd 7) (zc (wK (yd (zc (eFn VN (zc (zd 4) zq)) (zc (eC (.int 12)) zq)))) zq)))))) (xp (eC (.bl false))) zJ)
    (zT (sIf (yA (tOf (zp ltD (zd 6) (eC (.int 3)))) (tOf (zp zgS (zo 4 zC (zc (zd 6) (zc (zd 3) (zc (zd 4) (zc (zd 5) zq))))) (wK (yd (zc (eC (.int 4)) zq)))))) (xp (eC (.bl false))) zJ)
    (sIf (yA (tOf (zp ltD (zd 6) (eC (.int 3)))) (tOf (zp zgS (zo 4 zC (zc (zd 6) (zc (zd 3) (zc (zp zaU (vC (zc (eC (.int 0)) zq)) (zd 2)) (zc (zd 5) zq))))) (wK (yd (zc (eC (.int 4)) zq)))))) (xp (eC (.bl false))) zJ))))
noncomputable def Vs:SE→Ctl :=
  (zT (wu false 2 (zp Y3 (eC (.int 1)) (zp xT (zp yB (zd 1) (eC (.int 64))) (eC (.int 8)))))
    (zT (wu false 3 (zo 2 Yo (zc (zd 2) (zc (zp yB (zd 1) (eC (.int 512))) zq))))
    (zT (wu false 4 (zo 3 vN (zc (zd 2) (zc (zd 1) (zc (eC (.int 280)) zq)))))
    (zT (wu false 4 (zp Y3 (vC (zc (zp Y3 (zp ixD (zd 4) (eC (.int 0))) (eC (.int 13))) zq)) (eSl slD (zd 4) (x9 (eC (.int 1))) wa)))
    (zT (wu false 5 (zp ixD (wK (yd (zc (eC (.int 0)) (zc (eC (.int 301)) (zc (eUn Z2 (eC (.int 1))) (zc (eC (.bl true)) (zc (eC .non) (zc (eC (.str "1")) (zc (zp powD (eC (.int 10)) (eC (.int 30))) zq))))))))) (zp xT (zo 2 yE (zc (zd 1) (zc (eC (.int 3)) zq))) (eC (.int 7)))))
    (zT (xA vE (zc (eC (.int 5)) zq) (yM 6) za1)
    (zT (wu false 8 (zp Y3 (vC (zc (eC (.int 12)) zq)) (zp zaU (vC (zc (eC (.int 0)) zq)) (zp Zc (zd 2) (eC (.int 1))))))
    (sIf (YB (tOf (zp zgS (zo 4 zC (zc (eC (.int 2)) (zc (zd 3) (zc (zd 4) (zc (eC (.int 300)) zq))))) (wK (yd zq)))) (tOf (zp zgS (zo 4 zC (zc (eC (.int 4)) (zc (vC (zc (zd 2) (zc (vC zq) zq))) (zc (zd 8) (zc (eC (.int 1)) zq))))) (wK (yd zq))))) (xp (eC (.bl false))) zJ))))))))
noncomputable def zft:SE→Ctl :=
  (zT (Yq (iOf (zp Y3 (eSl slD (zd 0) wa (x9 (eC (.int 10)))) (wK (yd (zc (eC (.int 0)) (zc (eC (.int 7)) (zc (eC (.int 14)) zq))))))) (yM 1) Vs)
    (xp (eC (.bl true))))
noncomputable def ziP:List D→Option D:=fnD 9 zft
theorem zg6 {a b:List D}(h:a.length+b.length≤1000):Y3 (.lst a) (.lst b)=some (.lst (a++b)):=by
  show (if lim (a.length+b.length)=true then _ else none)=_
  rw [if_pos (vU h)]
theorem zcc {P:D→Prop}{ds:List D}{j:Int}(h:∀ d∈ds,P d)(h0:0≤j)(h1:j < ds.length):∃ d,L2.atI ds j=some d∧P d:=by
  have hj:j.toNat < ds.length:=by omega
  exact ⟨ds[j.toNat],zgG h0 (List.getElem?_eq_getElem hj),h _ (List.getElem_mem hj)⟩
theorem bad7:∀ x∈[D.int 0,.int 301,.int (-1),.bl true,.non,.str "1",.int (10 ^ 30)],zH [x,.int 1,.int 300]=some 4:=by
  intro x hx
  simp only [List.mem_cons,List.not_mem_nil,or_false] at hx
  rcases hx with rfl | rfl | rfl | rfl | rfl | rfl | rfl <;> rfl
theorem zfO:zgS (.lst [.int 4]) (.lst [.int 4])=some (.bl false):=rfl
theorem zfm (k:Nat):(List.replicate k (0:Int)).sum=0:=by
  induction k with
  | zero=>rfl
  | succ k ih=>rw [List.replicate_succ,List.sum_cons,ih];rfl
theorem zf7 {x:Int}{tl:Hl}:zaM ((x::tl).map D.int) (some 1) none=tl.map D.int:=by
  have e1:HT.sIx ((x::tl).map D.int).length 0 (some 1)=1:=by
    rw [show (1:Int)=((1:Nat):Int) from rfl,HT.sIx_nat,List.length_map,List.length_cons]
    exact Nat.min_eq_left (by omega)
  unfold zaM
  rw [e1,HT.sIx_none]
  show ((tl.map D.int).take _)=_
  rw [List.take_of_length_le]
  simp
theorem rep0 {m:Int}(h0:0≤m)(h8:m≤8):zaU (.tup [.int 0]) (.int m)=some (hD (List.replicate m.toNat 0)):=by
  show (if [D.int 0]≠[]∧-(2 ^ 63)≤m∧m < 2 ^ 63∧lim ([D.int 0].length*m.toNat)=true then some (D.tup (List.replicate m.toNat [D.int 0]).flatten) else none)=_
  rw [if_pos ⟨by simp,by omega,by omega,vU (by show 1*m.toNat≤1000;omega)⟩]
  congr 2
  rw [List.map_replicate]
  generalize m.toNat=k
  induction k with
  | zero=>rfl
  | succ k ih=>rw [List.replicate_succ,List.replicate_succ,List.flatten_cons,ih];rfl
theorem zhh {m n:Int}{ts:List Tie}{h g:Hl}{d:D}(ok:Yd m ts)(hp:zbm m h)(hg:zbm m g)(hs:12 < h.sum)(h1:1≤n)(h2:n≤300)(hd:zH [d,.int 1,.int 300]=some 4)(k:Nat)(hk:k < 5) :
    (∃ r,zC [.int (k:Int),xu m ts,hD h,.int n]=some r∧(k≠2→r=.lst [.int h.sum,.int 12]))∧(k < 3→zC [.int (k:Int),xu m ts,hD h,d]=some (.lst [.int 4])∧zC [.int (k:Int),xu m ts,hD g,d]=some (.lst [.int 4])):=by
  have ht:=hh_t (S:=h.sum) (by omega)
  match k,hk with
  | 0,_=>exact ⟨⟨_,zdI (zhX ok hp hs h1 h2) ht,fun _=>rfl⟩,fun _=>⟨zdI (zdD ok hp hd) zil,zdI (zdD ok hg hd) zil⟩⟩
  | 1,_=>exact ⟨⟨_,zdt (zjq ok hp hs h1 h2) ht,fun _=>rfl⟩,fun _=>⟨zdt (zgL ok hp hd) zil,zdt (zgL ok hg hd) zil⟩⟩
  | 2,_=>exact ⟨⟨_,zd5 (W4 ok hp h1 h2).2 (W4 ok hp h1 h2).1,fun z=>absurd rfl z⟩,fun _=>⟨zgw (zgu ok hp hd) zil,zgw (zgu ok hg hd) zil⟩⟩
  | 3,_=>exact ⟨⟨_,zjg (zdW ok hp hs) ht,fun _=>rfl⟩,fun z=>by omega⟩
  | 4,_=>exact ⟨⟨_,zj2 (zek ok hp hs) ht,fun _=>rfl⟩,fun z=>by omega⟩
theorem zh0 (s:D)(z:Int)(o2 o3 o4 o5 o6 o7 o8:Sl)(n b:SE→Prop)(r:D→Prop)(I:SE→Prop)(hI:∀ o2 o3 o4 o5 o6 o7 o8,I [.v s,.v (.int z),o2,o3,o4,o5,o6,o7,o8]):(Vs [.v s,.v (.int z),o2,o3,o4,o5,o6,o7,o8]).w I b n r:=by
  obtain ⟨q,hq⟩:∃ q:Int,z / 64 % 8=q:=⟨_,rfl⟩
  obtain ⟨q0,q1⟩:=VB (by decide) hq
  obtain ⟨m,hm⟩:∃ m:Int,1+q=m:=⟨_,rfl⟩
  have hm8:1≤m∧m≤8:=by omega
  obtain ⟨ts,ew,hsub⟩:=zeK (n:=m) (c:=z / 512) hm8.1 hm8.2
  have ok:Yd m ts:=by
    obtain ⟨p1,p2,_⟩:=VT m.toNat (by omega)
    exact ⟨hm8.1,hm8.2,fun t ht=>by have:=p2 t (hsub.subset ht);omega,p1.sublist hsub⟩
  obtain ⟨hs,eh,hl,hn,hsum⟩:=zcD (n:=m) (c:=z) (mo:=280) (by omega) (by omega) (by decide) (by decide)
  obtain ⟨x,tl,rfl⟩:∃ x tl,hs=x::tl:=by
    cases hs with
    | nil=>exact absurd hl (by show (0:Int)≠m;omega)
    | cons x tl=>exact ⟨x,tl,rfl⟩
  have hx0:=hn x (.head _)
  have hsum':x+tl.sum≤280:=by rw [List.sum_cons] at hsum;exact hsum
  have htl0:0≤tl.sum:=zgU fun v hv=>hn v (.tail _ hv)
  have hp:zbm m ((x+13)::tl):=⟨by rw [List.length_cons] at hl ⊢;exact hl,fun v hv=>by
    rcases List.mem_cons.mp hv with rfl | hv
    · omega
    · exact hn v (.tail _ hv),by rw [List.sum_cons];omega⟩
  have hs12:12 < ((x+13)::tl).sum:=by rw [List.sum_cons];omega
  have hp0:zbm m (List.replicate m.toNat 0):=⟨by rw [List.length_replicate];omega,fun v hv=>by rw [List.eq_of_mem_replicate hv];exact Int.le_refl _,by rw [zfm];decide⟩
  obtain ⟨j,hj⟩:∃ j:Int,zgx z 3 % 7=j:=⟨_,rfl⟩
  obtain ⟨j0,j1⟩:=VB (by decide) hj
  obtain ⟨bd,ebd,hbd⟩:=zcc bad7 j0 j1
  obtain ⟨e,he⟩:∃ e:Int,z % 300=e:=⟨_,rfl⟩
  obtain ⟨e0,e1⟩:=VB (by decide) he
  unfold Vs
  refine zM (ρ':=[.v s,.v (.int z),.v (.int m),o3,o4,o5,o6,o7,o8]) (zfs (xr (x:=.int 1) (y:=.int q) rfl (xr (x:=.int (z / 64)) (y:=.int 8) (xr (x:=.int z) (y:=.int 64) rfl rfl (XM (by decide) (by decide))) rfl (by rw [vA (by decide),hq])) (by rw [zE,hm]))) ?_
  refine zM (ρ':=[.v s,.v (.int z),.v (.int m),.v (xu m ts),o4,o5,o6,o7,o8]) (X6 (ds:=[.int m,.int (z / 512)]) (yg rfl (yg (xr (x:=.int z) (y:=.int 512) rfl rfl (XM (by decide) (by decide))) Yt)) ew) ?_
  refine zM (ρ':=[.v s,.v (.int z),.v (.int m),.v (xu m ts),.v (hD (x::tl)),o5,o6,o7,o8]) (X6 (ds:=[.int m,.int z,.int 280]) rfl eh) ?_
  refine zM (ρ':=[.v s,.v (.int z),.v (.int m),.v (xu m ts),.v (hD ((x+13)::tl)),o5,o6,o7,o8]) (zfs (xr (x:=.tup [.int (x+13)]) (y:=.tup (tl.map .int)) (ziE (yg (xr (x:=.int x) (y:=.int 13) (xr (x:=hD (x::tl)) (y:=.int 0) rfl rfl (show L2.atI ((x::tl).map D.int) 0=_ from zgG (by decide) rfl)) rfl rfl) Yt) (by show 1≤1000;decide)) ?_ ?_)) ?_
  · show some (D.tup (zaM ((x::tl).map D.int) (some 1) none))=_
    rw [zf7]
  · show (if lim ([D.int (x+13)].length+(tl.map D.int).length)=true then _ else none)=_
    rw [if_pos (vU (by rw [List.length_map];rw [List.length_cons] at hl;show 1+_≤1000;omega))]
    rfl
  refine zM (ρ':=[.v s,.v (.int z),.v (.int m),.v (xu m ts),.v (hD ((x+13)::tl)),.v bd,o6,o7,o8]) (zfs (xr (x:=.lst [D.int 0,.int 301,.int (-1),.bl true,.non,.str "1",.int (10 ^ 30)]) (y:=.int j) rfl (xr (x:=.int (zgx z 3)) (y:=.int 7) rfl rfl (by rw [vA (by decide),hj])) ebd)) ?_
  refine vg (zbI (lo:=0) (c:=5) (fun _ ρ=>∃ o6 o7:Sl,ρ=[.v s,.v (.int z),.v (.int m),.v (xu m ts),.v (hD ((x+13)::tl)),.v bd,o6,o7,o8]) (show vE [.int 5]=some (XJ 0 5) from Xc (by decide) (by decide)) ⟨_,_,rfl⟩ ?_ ?_)
  · rintro i ρ hi ⟨o6,o7,rfl⟩
    refine ⟨[.v s,.v (.int z),.v (.int m),.v (xu m ts),.v (hD ((x+13)::tl)),.v bd,.v (.int ((0:Int)+(i:Int))),o7,o8],rfl,?_⟩
    rw [Int.zero_add]
    obtain ⟨⟨rr,er,hr⟩,hb3⟩:=zhh (n:=1+e) ok hp hp0 hs12 (by omega) (by omega) hbd i hi
    unfold za1
    refine zM (ρ':=[.v s,.v (.int z),.v (.int m),.v (xu m ts),.v (hD ((x+13)::tl)),.v bd,.v (.int (i:Int)),.v rr,o8]) (X6 (ds:=[.int (i:Int),xu m ts,hD ((x+13)::tl),.int (1+e)]) (yg rfl (yg rfl (yg rfl (yg (xr (x:=.int 1) (y:=.int e) rfl (xr (x:=.int z) (y:=.int 300) rfl rfl (by rw [vA (by decide),he])) rfl) Yt)))) er) ?_
    have t1:∀ ρ:Ev,zd 6 ρ=some (.int (i:Int))→zd 7 ρ=some rr→zd 4 ρ=some (hD ((x+13)::tl))→yA (tOf (zp neD (zd 6) (eC (.int 2)))) (yr (tOf (zo 2 Yi (zc (zd 7) (zc (wK (yd (zc (eFn VN (zc (zd 4) zq)) (zc (eC (.int 12)) zq)))) zq))))) ρ=some false:=fun ρ v6 v7 v4=>by
      have en:tOf (zp neD (zd 6) (eC (.int 2))) ρ=some (!decide ((i:Int)=2)):=Wk (xr (x:=.int (i:Int)) (y:=.int 2) v6 rfl zR)
      by_cases h2:(i:Int)=2
      · rw [decide_eq_true h2] at en
        exact zdu en
      · rw [decide_eq_false h2] at en
        refine zdd en (zeI (b:=true) (Wk (Yl (ds:=[rr,rr]) (yg v7 (yg ?_ Yt)) (zjs ?_))))
        · rw [hr (by omega)]
          exact zgq (zd9 (yg (VX v4) (yg rfl Yt)) (by show 2≤1000;decide))
        · rw [hr (by omega)]
          rfl
    refine zM (yz (t1 _ rfl rfl rfl)) ?_
    have lt:∀ ρ:Ev,zd 6 ρ=some (.int (i:Int))→tOf (zp ltD (zd 6) (eC (.int 3))) ρ=some (decide ((i:Int) < 3)):=fun ρ v6=>Wk (xr (x:=.int (i:Int)) (y:=.int 3) v6 rfl rfl)
    have t2:∀ (ρ:Ev) (f:Ev→Option D) (G:D),zd 6 ρ=some (.int (i:Int))→f ρ=some G→zd 3 ρ=some (xu m ts)→zd 5 ρ=some bd→(i < 3→zC [.int (i:Int),xu m ts,G,bd]=some (.lst [.int 4]))→yA (tOf (zp ltD (zd 6) (eC (.int 3)))) (tOf (zp zgS (zo 4 zC (zc (zd 6) (zc (zd 3) (zc f (zc (zd 5) zq))))) (wK (yd (zc (eC (.int 4)) zq))))) ρ=some false:=fun ρ f G v6 vf v3 v5 hc=>by
      have en:=lt ρ v6
      by_cases h3:(i:Int) < 3
      · rw [decide_eq_true h3] at en
        exact zdd en (Wk (xr (x:=.lst [.int 4]) (y:=.lst [.int 4]) (Yl (ds:=[.int (i:Int),xu m ts,G,bd]) (yg v6 (yg v3 (yg vf (yg v5 Yt)))) (hc (by omega))) (zgq (zd9 (yg rfl Yt) (by show 1≤1000;decide))) zfO))
      · rw [decide_eq_false h3] at en
        exact zdu en
    refine zM (yz (t2 _ (zd 4) _ rfl rfl rfl rfl fun z=>(hb3 z).1)) ?_
    refine Wx (yz (t2 _ (zp zaU (vC (zc (eC (.int 0)) zq)) (zd 2)) (hD (List.replicate m.toNat 0)) rfl ?_ rfl rfl fun z=>(hb3 z).2)) ⟨_,_,rfl⟩
    exact xr (x:=.tup [.int 0]) (y:=.int m) rfl rfl (rep0 (by omega) (by omega))
  · rintro ρ ⟨o6,o7,rfl⟩
    obtain ⟨k,hk⟩:∃ k:Nat,m.toNat=k+1:=⟨m.toNat - 1,by omega⟩
    obtain ⟨tw1,tw2⟩:=zd2 k (by omega)
    obtain ⟨rb,erb⟩:=Option.isSome_iff_exists.mp tw1
    have hmk:m=(k:Int)+1:=by omega
    refine zM (ρ':=[.v s,.v (.int z),.v (.int m),.v (xu m ts),.v (hD ((x+13)::tl)),.v bd,o6,o7,.v (hD (12::List.replicate k 0))]) (zfs (xr (x:=.tup [.int 12]) (y:=hD (List.replicate k 0)) rfl (xr (x:=.tup [.int 0]) (y:=.int (m - 1)) rfl rfl ?_) ?_)) ?_
    · rw [rep0 (by omega) (by omega),show (m - 1).toNat=k by omega]
    · show (if lim ([D.int 12].length+((List.replicate k (0:Int)).map D.int).length)=true then _ else none)=_
      rw [if_pos (vU (by rw [List.length_map,List.length_replicate];show 1+_≤1000;omega))]
      rfl
    have c1:=zd5 (W4 ok hp (n:=300) (by decide) (by decide)).2 (W4 ok hp (n:=300) (by decide) (by decide)).1
    have c2:=zhL (d:=.int 1) tw2 erb
    rw [←hmk] at c2
    exact Wx (yz (zk8 (b:=false) (c:=false) (Wk (xr (x:=.lst []) (y:=.lst []) (Yl (ds:=[.int 2,xu m ts,hD ((x+13)::tl),.int 300]) rfl c1) rfl rfl)) (Wk (xr (x:=.lst []) (y:=.lst []) (Yl (ds:=[.int 4,xu m [],hD (12::List.replicate k 0),.int 1]) rfl c2) rfl rfl)))) (hI _ _ _ _ _ _ _)
theorem zfk (ns:List Int)(h:ns.length≤63):ziP [.scr ns]=some (.bl true):=by
  refine Wy (ρ:=[.v (.scr ns),.no,.no,.no,.no,.no,.no,.no,.no]) rfl ?_
  unfold zft
  obtain ⟨xs,hxs⟩:∃ xs:List Int,(zaM ns none (some 10))++[0,7,14]=xs:=⟨_,rfl⟩
  have hl:((zaM ns none (some 10)).map D.int).length+3≤1000:=by rw [List.length_map];have:=zeY ns none (some 10);omega
  refine vg (zee (ds:=xs.map .int) (fun i ρ=>∃ o1 o2 o3 o4 o5 o6 o7 o8,ρ=[.v (.scr ns),o1,o2,o3,o4,o5,o6,o7,o8]) ?_ ⟨_,_,_,_,_,_,_,_,rfl⟩ ?_ ?_)
  · refine ziv (d:=.lst (xs.map .int)) (xr (x:=.lst ((zaM ns none (some 10)).map D.int)) (y:=.lst [.int 0,.int 7,.int 14]) rfl rfl ?_) rfl
    rw [zg6 hl,← hxs,List.map_append]
    rfl
  · rintro i d ρ hd ⟨o1,o2,o3,o4,o5,o6,o7,o8,rfl⟩
    rw [List.getElem?_map] at hd
    obtain ⟨z,hz,rfl⟩:=Option.map_eq_some_iff.mp hd
    exact ⟨_,rfl,zh0 _ _ _ _ _ _ _ _ _ _ _ _ _ fun _ _ _ _ _ _ _=>⟨_,_,_,_,_,_,_,_,rfl⟩⟩
  · rintro ρ ⟨o1,o2,o3,o4,o5,o6,o7,o8,rfl⟩
    exact Xv rfl rfl
theorem zjL (T:Txt K mg ad):xB P w K mg base CX0 20 ad.f_law ad.e_law ["script"] (zdq K):=by
  letI:KK:=⟨K⟩
  have G__law_stir:=YG (P:=P) (w:=w) (base:=base) T
  have G__law_web_by:=WJ (P:=P) (w:=w) (base:=base) T
  have G__law_heap_by:=Wg (P:=P) (w:=w) (base:=base) T
  have G__law_same:=zaF (P:=P) (w:=w) (base:=base) T
  have G__law_came:=zaf (P:=P) (w:=w) (base:=base) T
  refine (ziU (p:=ziP) (xK (N:=["script","cell","many","web","heap","bad","way","found","twelve"]) (ps:=["script"]) T.d_law.fn Zk (g:=zft) fun cdv A outer s H E hr=>?_) zfk).mono (j:=11) (by decide)
  unfold zft Vs za1
  exact (zh (Wu PassesOwn.never rfl (We (ww (zcd (zb 0 (pv 0)) zdS (zer (zg zi))) (vX (wM (za (zg zi) (za (zg zi) (za (zg zi) zf))))))) (wc (yI (i:=1) Zk.nd rfl (Or.inl rfl))) (zh (xy (m:=false) (i:=2) Zk.nd rfl (Or.inl rfl) (ww (zg zi) (vB (ZE (zb 1 (pv 1)) (zg zi)) (zg zi))))
      (zh (xy (m:=false) (i:=3) Zk.nd rfl (Or.inl rfl) (zl (G__law_web_by.mono (by decide)) hr rfl T.d__law_web_by.at_ T.d__law_web_by.kp T.d__law_web_by.bd (za (zb 2 (pv 2)) (za (ZE (zb 1 (pv 1)) (zg zi)) zf))))
      (zh (xy (m:=false) (i:=4) Zk.nd rfl (Or.inl rfl) (zl (G__law_heap_by.mono (by decide)) hr rfl T.d__law_heap_by.at_ T.d__law_heap_by.kp T.d__law_heap_by.bd (za (zb 2 (pv 2)) (za (zb 1 (pv 1)) (za (zg zi) zf)))))
      (zh (xy (m:=false) (i:=4) Zk.nd rfl (Or.inl rfl) (ww (YX (za (ww (wv (zb 4 (pv 4)) (zg zi) (fun _ _=>rfl)) (zg zi)) zf)) (zcd (zb 4 (pv 4)) (zer (zg zi)) zdS)))
      (zh (xy (m:=false) (i:=5) Zk.nd rfl (Or.inl rfl) (wv (vX (wM (za (zg zi) (za (zg zi) (za (zir (zg zi)) (za (vY vD) (za (zcf zbP) (za (zin ziD) (za (zjW (zg zi) (zg zi)) zf))))))))) (vB (zl (G__law_stir.mono (by decide)) hr rfl T.d__law_stir.at_ T.d__law_stir.kp T.d__law_stir.bd (za (zb 1 (pv 1)) (za (zg zi) zf))) (zg zi)) (fun _ _=>rfl)))
      (zh (XN PassesOwn.never rfl rfl T.z_range (za (zg zi) zf) (wc (yI (i:=6) Zk.nd rfl (Or.inl rfl))) (zh (xy (m:=false) (i:=7) Zk.nd rfl (Or.inl rfl) (zl (G__law_came.mono (by decide)) hr rfl T.d__law_came.at_ T.d__law_came.kp T.d__law_came.bd (za (zb 6 (pv 6)) (za (zb 3 (pv 3)) (za (zb 4 (pv 4)) (za (ww (zg zi) (vB (zb 1 (pv 1)) (zg zi))) zf))))))
      (zh (xn (zcA (WP (zL Vg Xp (zA _) (zb 6 (pv 6)) (zg zi)) (Xm (vK (wx (zl (G__law_same.mono (by decide)) hr rfl T.d__law_same.at_ T.d__law_same.kp T.d__law_same.bd (za (zb 7 (pv 7)) (za (vX (wM (za (zY (xO rfl) vS rfl T.z_sum Zj (za (zb 4 (pv 4)) zf)) (za (zg zi) zf)))) zf)))))))) (zj (zN (vY vD))) zB)
      (zh (xn (zcA (WP (zL zhH xa (zA _) (zb 6 (pv 6)) (zg zi)) (Xm (zL (zbK hr) Vk (zA _) (zl (G__law_came.mono (by decide)) hr rfl T.d__law_came.at_ T.d__law_came.kp T.d__law_came.bd (za (zb 6 (pv 6)) (za (zb 3 (pv 3)) (za (zb 4 (pv 4)) (za (zb 5 (pv 5)) zf))))) (vX (wM (za (zg zi) zf))))))) (zj (zN (vY vD))) zB)
      (zj (xn (zcA (WP (zL zhH xa (zA _) (zb 6 (pv 6)) (zg zi)) (Xm (zL (zbK hr) Vk (zA _) (zl (G__law_came.mono (by decide)) hr rfl T.d__law_came.at_ T.d__law_came.kp T.d__law_came.bd (za (zb 6 (pv 6)) (za (zb 3 (pv 3)) (za (zd6 (YX (za (zg zi) zf)) (zb 2 (pv 2))) (za (zb 5 (pv 5)) zf))))) (vX (wM (za (zg zi) zf))))))) (zj (zN (vY vD))) zB))))))
      (zh (xy (m:=false) (i:=8) Zk.nd rfl (Or.inl rfl) (ww (YX (za (zg zi) zf)) (zd6 (YX (za (zg zi) zf)) (VY (zb 2 (pv 2)) (zg zi)))))
      (zj (xn (zcA (zbw (zL (zbK hr) Vk (zA _) (zl (G__law_came.mono (by decide)) hr rfl T.d__law_came.at_ T.d__law_came.kp T.d__law_came.bd (za (zg zi) (za (zb 3 (pv 3)) (za (zb 4 (pv 4)) (za (zg zi) zf))))) (vX (wM zf))) (Wn (zL (zbK hr) Vk (zA _) (zl (G__law_came.mono (by decide)) hr rfl T.d__law_came.at_ T.d__law_came.kp T.d__law_came.bd (za (zg zi) (za (YX (za (zb 2 (pv 2)) (za (YX zf) zf))) (za (zb 8 (pv 8)) (za (zg zi) zf))))) (vX (wM zf)))))) (zj (zN (vY vD))) zB))))))))))
      (zj (zN (vY vD))))
end
theorem zaE {us:List Value}(h:us.length=1):∃ x0,us=[x0]:=by
  cases us with
  | nil=>cases h
  | cons x0 us =>
    cases us with
    | nil=>exact ⟨x0,rfl⟩
    | cons _ _=>cases h
theorem YD {us:List Value}(h:us.length=2):∃ x0 x1,us=[x0,x1]:=by
  cases us with
  | nil=>cases h
  | cons x0 us =>
    cases us with
    | nil=>cases h
    | cons x1 us =>
      cases us with
      | nil=>exact ⟨x0,x1,rfl⟩
      | cons _ _=>cases h
theorem zdB {us:List Value}(h:us.length=3):∃ x0 x1 x2,us=[x0,x1,x2]:=by
  cases us with
  | nil=>cases h
  | cons x0 us =>
    cases us with
    | nil=>cases h
    | cons x1 us =>
      cases us with
      | nil=>cases h
      | cons x2 us =>
        cases us with
        | nil=>exact ⟨x0,x1,x2,rfl⟩
        | cons _ _=>cases h
theorem zfl {us:List Value}(h:us.length=4):∃ x0 x1 x2 x3,us=[x0,x1,x2,x3]:=by
  cases us with
  | nil=>cases h
  | cons x0 us =>
    cases us with
    | nil=>cases h
    | cons x1 us =>
      cases us with
      | nil=>cases h
      | cons x2 us =>
        cases us with
        | nil=>cases h
        | cons x3 us =>
          cases us with
          | nil=>exact ⟨x0,x1,x2,x3,rfl⟩
          | cons _ _=>cases h
theorem zkn {us:List Value}(h:us.length=5):∃ x0 x1 x2 x3 x4,us=[x0,x1,x2,x3,x4]:=by
  cases us with
  | nil=>cases h
  | cons x0 us =>
    cases us with
    | nil=>cases h
    | cons x1 us =>
      cases us with
      | nil=>cases h
      | cons x2 us =>
        cases us with
        | nil=>cases h
        | cons x3 us =>
          cases us with
          | nil=>cases h
          | cons x4 us =>
            cases us with
            | nil=>exact ⟨x0,x1,x2,x3,x4,rfl⟩
            | cons _ _=>cases h
theorem all_mk {l:PySem.W.OpenLaw} {w:World} {K:PySem.W.Frag} {h:Heap} {mg:Str→Option Value} {fa f0 f1 f2 f3 f4 f5 f6 f7 f8 f9 f10 f11 f12 f13 f14 f15 f16 f17 f18 f19 f20 f21 f22 f23 f24 f25 f26 f27 f28 f29 f30 f31 f32 f33 f34:Addr} (X:K.In h) (G:h.Ns mainGlobals mg) (hfa:mg "law"=some (.ref fa))
    {od0 an0 od1 an1 od2 an2 od3 an3 od4 an4 od5 an5 od6 an6 od7 an7 od8 an8 od9 an9 od10 an10 od11 an11 od12 an12 od13 an13 od14 an14 od15 an15 od16 an16 od17 an17 od18 an18 od19 an19 od20 an20 od21 an21 od22 an22 od23 an23 od24 an24 od25 an25 od26 an26 od27 an27 od28 an28 od29 an29 od30 an30 od31 an31 od32 an32 od33 an33 od34 an34:Option Addr} {sl0 sl1 sl2 sl3 sl4 sl5 sl6 sl7 sl8 sl9 sl10 sl11 sl12 sl13 sl14 sl15 sl16 sl17 sl18 sl19 sl20 sl21 sl22 sl23 sl24 sl25 sl26 sl27 sl28 sl29 sl30 sl31 sl32 sl33 sl34:Array (Option Value)} {oc0 kV0 dc0 pm0 cd0 ct0 oc1 kV1 dc1 pm1 cd1 ct1 oc2 kV2 dc2 pm2 cd2 ct2 oc3 kV3 dc3 pm3 cd3 ct3 oc4 kV4 dc4 pm4 cd4 ct4 oc5 kV5 dc5 pm5 cd5 ct5 oc6 kV6 dc6 pm6 cd6 ct6 oc7 kV7 dc7 pm7 cd7 ct7 oc8 kV8 dc8 pm8 cd8 ct8 oc9 kV9 dc9 pm9 cd9 ct9 oc10 kV10 dc10 pm10 cd10 ct10 oc11 kV11 dc11 pm11 cd11 ct11 oc12 kV12 dc12 pm12 cd12 ct12 oc13 kV13 dc13 pm13 cd13 ct13 oc14 kV14 dc14 pm14 cd14 ct14 oc15 kV15 dc15 pm15 cd15 ct15 oc16 kV16 dc16 pm16 cd16 ct16 oc17 kV17 dc17 pm17 cd17 ct17 oc18 kV18 dc18 pm18 cd18 ct18 oc19 kV19 dc19 pm19 cd19 ct19 oc20 kV20 dc20 pm20 cd20 ct20 oc21 kV21 dc21 pm21 cd21 ct21 oc22 kV22 dc22 pm22 cd22 ct22 oc23 kV23 dc23 pm23 cd23 ct23 oc24 kV24 dc24 pm24 cd24 ct24 oc25 kV25 dc25 pm25 cd25 ct25 oc26 kV26 dc26 pm26 cd26 ct26 oc27 kV27 dc27 pm27 cd27 ct27 oc28 kV28 dc28 pm28 cd28 ct28 oc29 kV29 dc29 pm29 cd29 ct29 oc30 kV30 dc30 pm30 cd30 ct30 oc31 kV31 dc31 pm31 cd31 ct31 oc32 kV32 dc32 pm32 cd32 ct32 oc33 kV33 dc33 pm33 cd33 ct33 oc34 kV34 dc34 pm34 cd34 ct34:Value} {tk0:Tok} {tk1:Tok} {tk2:Tok}
    (a0:PySem.W.nsIn K mainGlobals "is_whole"=some (some (.ref f0))) (l0:K.lookup f0=some ⟨oc0,od0,.func (PySem.W.fnOf "is_whole" "is_whole" (zx wB) (zt wB) (ze wB) .none kV0 dc0 pm0 an0 cd0 ct0),sl0⟩) (c0:PySem.W.codeIn K cd0 "is_whole"=true) (k0:PySem.W.keepIn K (.ref f0)=true)
    (a1:PySem.W.nsIn K mainGlobals "is_whole_within"=some (some (.ref f1))) (l1:K.lookup f1=some ⟨oc1,od1,.func (PySem.W.fnOf "is_whole_within" "is_whole_within" (zx yc) (zt yc) (ze yc) .none kV1 dc1 pm1 an1 cd1 ct1),sl1⟩) (c1:PySem.W.codeIn K cd1 "is_whole_within"=true) (k1:PySem.W.keepIn K (.ref f1)=true)
    (a2:PySem.W.nsIn K mainGlobals "must_be_within"=some (some (.ref f2))) (l2:K.lookup f2=some ⟨oc2,od2,.func (PySem.W.fnOf "must_be_within" "must_be_within" (zx yj) (zt yj) (ze yj) .none kV2 dc2 pm2 an2 cd2 ct2),sl2⟩) (c2:PySem.W.codeIn K cd2 "must_be_within"=true) (k2:PySem.W.keepIn K (.ref f2)=true)
    (a3:PySem.W.nsIn K mainGlobals "must_be_at_most"=some (some (.ref f3))) (l3:K.lookup f3=some ⟨oc3,od3,.func (PySem.W.fnOf "must_be_at_most" "must_be_at_most" (zx ya) (zt ya) (ze ya) .none kV3 dc3 pm3 an3 cd3 ct3),sl3⟩) (c3:PySem.W.codeIn K cd3 "must_be_at_most"=true) (k3:PySem.W.keepIn K (.ref f3)=true)
    (a4:PySem.W.nsIn K mainGlobals "is_place_count"=some (some (.ref f4))) (l4:K.lookup f4=some ⟨oc4,od4,.func (PySem.W.fnOf "is_place_count" "is_place_count" (zx yl) (zt yl) (ze yl) .none kV4 dc4 pm4 an4 cd4 ct4),sl4⟩) (c4:PySem.W.codeIn K cd4 "is_place_count"=true) (k4:PySem.W.keepIn K (.ref f4)=true)
    (a5:PySem.W.nsIn K mainGlobals "is_place"=some (some (.ref f5))) (l5:K.lookup f5=some ⟨oc5,od5,.func (PySem.W.fnOf "is_place" "is_place" (zx wz) (zt wz) (ze wz) .none kV5 dc5 pm5 an5 cd5 ct5),sl5⟩) (c5:PySem.W.codeIn K cd5 "is_place"=true) (k5:PySem.W.keepIn K (.ref f5)=true)
    (a6:PySem.W.nsIn K mainGlobals "are_counts"=some (some (.ref f6))) (l6:K.lookup f6=some ⟨oc6,od6,.func (PySem.W.fnOf "are_counts" "are_counts" (zx xF) (zt xF) (ze xF) .none kV6 dc6 pm6 an6 cd6 ct6),sl6⟩) (c6:PySem.W.codeIn K cd6 "are_counts"=true) (k6:PySem.W.keepIn K (.ref f6)=true)
    (a7:PySem.W.nsIn K mainGlobals "is_pair"=some (some (.ref f7))) (l7:K.lookup f7=some ⟨oc7,od7,.func (PySem.W.fnOf "is_pair" "is_pair" (zx vk) (zt vk) (ze vk) .none kV7 dc7 pm7 an7 cd7 ct7),sl7⟩) (c7:PySem.W.codeIn K cd7 "is_pair"=true) (k7:PySem.W.keepIn K (.ref f7)=true)
    (a8:PySem.W.nsIn K mainGlobals "are_ties"=some (some (.ref f8))) (l8:K.lookup f8=some ⟨oc8,od8,.func (PySem.W.fnOf "are_ties" "are_ties" (zx wA) (zt wA) (ze wA) .none kV8 dc8 pm8 an8 cd8 ct8),sl8⟩) (c8:PySem.W.codeIn K cd8 "are_ties"=true) (k8:PySem.W.keepIn K (.ref f8)=true)
    (a9:PySem.W.nsIn K mainGlobals "is_web"=some (some (.ref f9))) (l9:K.lookup f9=some ⟨oc9,od9,.func (PySem.W.fnOf "is_web" "is_web" (zx Yc) (zt Yc) (ze Yc) .none kV9 dc9 pm9 an9 cd9 ct9),sl9⟩) (c9:PySem.W.codeIn K cd9 "is_web"=true) (k9:PySem.W.keepIn K (.ref f9)=true)
    (a10:PySem.W.nsIn K mainGlobals "must_be_web"=some (some (.ref f10))) (l10:K.lookup f10=some ⟨oc10,od10,.func (PySem.W.fnOf "must_be_web" "must_be_web" (zx xm) (zt xm) (ze xm) .none kV10 dc10 pm10 an10 cd10 ct10),sl10⟩) (c10:PySem.W.codeIn K cd10 "must_be_web"=true) (k10:PySem.W.keepIn K (.ref f10)=true)
    (a11:PySem.W.nsIn K mainGlobals "must_be_place"=some (some (.ref f11))) (l11:K.lookup f11=some ⟨oc11,od11,.func (PySem.W.fnOf "must_be_place" "must_be_place" (zx yu) (zt yu) (ze yu) .none kV11 dc11 pm11 an11 cd11 ct11),sl11⟩) (c11:PySem.W.codeIn K cd11 "must_be_place"=true) (k11:PySem.W.keepIn K (.ref f11)=true)
    (a12:PySem.W.nsIn K mainGlobals "tie_between"=some (some (.ref f12))) (l12:K.lookup f12=some ⟨oc12,od12,.func (PySem.W.fnOf "tie_between" "tie_between" (zx xg) (zt xg) (ze xg) .none kV12 dc12 pm12 an12 cd12 ct12),sl12⟩) (c12:PySem.W.codeIn K cd12 "tie_between"=true) (k12:PySem.W.keepIn K (.ref f12)=true)
    (a13:PySem.W.nsIn K mainGlobals "neighbours"=some (some (.ref f13))) (l13:K.lookup f13=some ⟨oc13,od13,.func (PySem.W.fnOf "neighbours" "neighbours" (zx xC) (zt xC) (ze xC) .none kV13 dc13 pm13 an13 cd13 ct13),sl13⟩) (c13:PySem.W.codeIn K cd13 "neighbours"=true) (k13:PySem.W.keepIn K (.ref f13)=true)
    (a14:PySem.W.nsIn K mainGlobals "are_stones"=some (some (.ref f14))) (l14:K.lookup f14=some ⟨oc14,od14,.func (PySem.W.fnOf "are_stones" "are_stones" (zx xG) (zt xG) (ze xG) .none kV14 dc14 pm14 an14 cd14 ct14),sl14⟩) (c14:PySem.W.codeIn K cd14 "are_stones"=true) (k14:PySem.W.keepIn K (.ref f14)=true)
    (a15:PySem.W.nsIn K mainGlobals "must_be_heap"=some (some (.ref f15))) (l15:K.lookup f15=some ⟨oc15,od15,.func (PySem.W.fnOf "must_be_heap" "must_be_heap" (zx yT) (zt yT) (ze yT) .none kV15 dc15 pm15 an15 cd15 ct15),sl15⟩) (c15:PySem.W.codeIn K cd15 "must_be_heap"=true) (k15:PySem.W.keepIn K (.ref f15)=true)
    (a16:PySem.W.nsIn K mainGlobals "all_steps"=some (some (.ref f16))) (l16:K.lookup f16=some ⟨oc16,od16,.func (PySem.W.fnOf "all_steps" "all_steps" (zx xU) (zt xU) (ze xU) .none kV16 dc16 pm16 an16 cd16 ct16),sl16⟩) (c16:PySem.W.codeIn K cd16 "all_steps"=true) (k16:PySem.W.keepIn K (.ref f16)=true)
    (a17:PySem.W.nsIn K mainGlobals "stepped"=some (some (.ref f17))) (l17:K.lookup f17=some ⟨oc17,od17,.func (PySem.W.fnOf "stepped" "stepped" (zx vn) (zt vn) (ze vn) .none kV17 dc17 pm17 an17 cd17 ct17),sl17⟩) (c17:PySem.W.codeIn K cd17 "stepped"=true) (k17:PySem.W.keepIn K (.ref f17)=true)
    (a18:PySem.W.nsIn K mainGlobals "heaps_behind"=some (some (.ref f18))) (l18:K.lookup f18=some ⟨oc18,od18,.func (PySem.W.fnOf "heaps_behind" "heaps_behind" (zx yO) (zt yO) (ze yO) .none kV18 dc18 pm18 an18 cd18 ct18),sl18⟩) (c18:PySem.W.codeIn K cd18 "heaps_behind"=true) (k18:PySem.W.keepIn K (.ref f18)=true)
    (a19:PySem.W.nsIn K mainGlobals "most_at"=some (some (.ref f19))) (l19:K.lookup f19=some ⟨oc19,od19,.func (PySem.W.fnOf "most_at" "most_at" (zx vh) (zt vh) (ze vh) .none kV19 dc19 pm19 an19 cd19 ct19),sl19⟩) (c19:PySem.W.codeIn K cd19 "most_at"=true) (k19:PySem.W.keepIn K (.ref f19)=true)
    (a20:PySem.W.nsIn K mainGlobals "steps_to"=some (some (.ref f20))) (l20:K.lookup f20=some ⟨oc20,od20,.func (PySem.W.fnOf "steps_to" "steps_to" (zx vy) (zt vy) (ze vy) .none kV20 dc20 pm20 an20 cd20 ct20),sl20⟩) (c20:PySem.W.codeIn K cd20 "steps_to"=true) (k20:PySem.W.keepIn K (.ref f20)=true)
    (a21:PySem.W.nsIn K mainGlobals "must_be_asked"=some (some (.ref f21))) (l21:K.lookup f21=some ⟨oc21,od21,.func (PySem.W.fnOf "must_be_asked" "must_be_asked" (zx yx) (zt yx) (ze yx) .none kV21 dc21 pm21 an21 cd21 ct21),sl21⟩) (c21:PySem.W.codeIn K cd21 "must_be_asked"=true) (k21:PySem.W.keepIn K (.ref f21)=true)
    (a22:PySem.W.nsIn K mainGlobals "reach"=some (some (.ref f22))) (l22:K.lookup f22=some ⟨oc22,od22,.func (PySem.W.fnOf "reach" "reach" (zx Ze) (zt Ze) (ze Ze) .none kV22 dc22 pm22 an22 cd22 ct22),sl22⟩) (c22:PySem.W.codeIn K cd22 "reach"=true) (k22:PySem.W.keepIn K (.ref f22)=true)
    (a23:PySem.W.nsIn K mainGlobals "reached"=some (some (.ref f23))) (l23:K.lookup f23=some ⟨oc23,od23,.func (PySem.W.fnOf "reached" "reached" (zx vj) (zt vj) (ze vj) .none kV23 dc23 pm23 an23 cd23 ct23),sl23⟩) (c23:PySem.W.codeIn K cd23 "reached"=true) (k23:PySem.W.keepIn K (.ref f23)=true)
    (a24:PySem.W.nsIn K mainGlobals "is_closed"=some (some (.ref f24))) (l24:K.lookup f24=some ⟨oc24,od24,.func (PySem.W.fnOf "is_closed" "is_closed" (zx xX) (zt xX) (ze xX) .none kV24 dc24 pm24 an24 cd24 ct24),sl24⟩) (c24:PySem.W.codeIn K cd24 "is_closed"=true) (k24:PySem.W.keepIn K (.ref f24)=true)
    (a25:PySem.W.nsIn K mainGlobals "closed_holds"=some (some (.ref f25))) (l25:K.lookup f25=some ⟨oc25,od25,.func (PySem.W.fnOf "closed_holds" "closed_holds" (zx yU) (zt yU) (ze yU) .none kV25 dc25 pm25 an25 cd25 ct25),sl25⟩) (c25:PySem.W.codeIn K cd25 "closed_holds"=true) (k25:PySem.W.keepIn K (.ref f25)=true)
    (a26:PySem.W.nsIn K mainGlobals "closed_for"=some (some (.ref f26))) (l26:K.lookup f26=some ⟨oc26,od26,.func (PySem.W.fnOf "closed_for" "closed_for" (zx xE) (zt xE) (ze xE) .none kV26 dc26 pm26 an26 cd26 ct26),sl26⟩) (c26:PySem.W.codeIn K cd26 "closed_for"=true) (k26:PySem.W.keepIn K (.ref f26)=true)
    (a27:PySem.W.nsIn K mainGlobals "_law_kinds"=some (some (.ref f27))) (l27:K.lookup f27=some ⟨oc27,od27,.func (PySem.W.fnOf "_law_kinds" "_law_kinds" (zx xD) (zt xD) (ze xD) .none kV27 dc27 pm27 an27 cd27 ct27),sl27⟩) (c27:PySem.W.codeIn K cd27 "_law_kinds"=true) (k27:PySem.W.keepIn K (.ref f27)=true)
    (a28:PySem.W.nsIn K mainGlobals "_law_pairs"=some (some (.ref f28))) (l28:K.lookup f28=some ⟨oc28,od28,.func (PySem.W.fnOf "_law_pairs" "_law_pairs" (zx xH) (zt xH) (ze xH) .none kV28 dc28 pm28 an28 cd28 ct28),sl28⟩) (c28:PySem.W.codeIn K cd28 "_law_pairs"=true) (k28:PySem.W.keepIn K (.ref f28)=true)
    (a29:PySem.W.nsIn K mainGlobals "_law_stir"=some (some (.ref f29))) (l29:K.lookup f29=some ⟨oc29,od29,.func (PySem.W.fnOf "_law_stir" "_law_stir" (zx x6) (zt x6) (ze x6) .none kV29 dc29 pm29 an29 cd29 ct29),sl29⟩) (c29:PySem.W.codeIn K cd29 "_law_stir"=true) (k29:PySem.W.keepIn K (.ref f29)=true)
    (a30:PySem.W.nsIn K mainGlobals "_law_web_by"=some (some (.ref f30))) (l30:K.lookup f30=some ⟨oc30,od30,.func (PySem.W.fnOf "_law_web_by" "_law_web_by" (zx xi) (zt xi) (ze xi) .none kV30 dc30 pm30 an30 cd30 ct30),sl30⟩) (c30:PySem.W.codeIn K cd30 "_law_web_by"=true) (k30:PySem.W.keepIn K (.ref f30)=true)
    (a31:PySem.W.nsIn K mainGlobals "_law_heap_by"=some (some (.ref f31))) (l31:K.lookup f31=some ⟨oc31,od31,.func (PySem.W.fnOf "_law_heap_by" "_law_heap_by" (zx yQ) (zt yQ) (ze yQ) .none kV31 dc31 pm31 an31 cd31 ct31),sl31⟩) (c31:PySem.W.codeIn K cd31 "_law_heap_by"=true) (k31:PySem.W.keepIn K (.ref f31)=true)
    (a32:PySem.W.nsIn K mainGlobals "_law_same"=some (some (.ref f32))) (l32:K.lookup f32=some ⟨oc32,od32,.func (PySem.W.fnOf "_law_same" "_law_same" (zx xZ) (zt xZ) (ze xZ) .none kV32 dc32 pm32 an32 cd32 ct32),sl32⟩) (c32:PySem.W.codeIn K cd32 "_law_same"=true) (k32:PySem.W.keepIn K (.ref f32)=true)
    (a33:PySem.W.nsIn K mainGlobals "_law_came"=some (some (.ref f33))) (l33:K.lookup f33=some ⟨oc33,od33,.func (PySem.W.fnOf "_law_came" "_law_came" (zx xV) (zt xV) (ze xV) .none kV33 dc33 pm33 an33 cd33 ct33),sl33⟩) (c33:PySem.W.codeIn K cd33 "_law_came"=true) (k33:PySem.W.keepIn K (.ref f33)=true)
    (a34:PySem.W.nsIn K mainGlobals "law"=some (some (.ref f34))) (l34:K.lookup f34=some ⟨oc34,od34,.func (PySem.W.fnOf "law" "law" (zx WO) (zt WO) (ze WO) .none kV34 dc34 pm34 an34 cd34 ct34),sl34⟩) (c34:PySem.W.codeIn K cd34 "law"=true) (k34:PySem.W.keepIn K (.ref f34)=true)
    (gg0:PySem.W.nsIn K mainGlobals "MOST_PLACES"=some (some (.int 8 tk0)))
    (gg1:PySem.W.nsIn K mainGlobals "MOST_STONES"=some (some (.int 300 tk1)))
    (gg2:PySem.W.nsIn K mainGlobals "MOST_SEARCHED"=some (some (.int 12 tk2)))
    {xx0 xx1 xx2 xx3 xx4 xx5 xx6 xx7 xx8 xx9 xx10 xx11 xx12 xx13:Addr}
    (xa0:PySem.W.nsIn K mainGlobals "NoWeb"=some (some (.ref xx0)))
    (xa1:PySem.W.nsIn K mainGlobals "NoKind"=some (some (.ref xx1)))
    (xa2:PySem.W.nsIn K mainGlobals "NoHeap"=some (some (.ref xx2)))
    (xa3:PySem.W.nsIn K mainGlobals "NoPlace"=some (some (.ref xx3)))
    (xa4:PySem.W.nsIn K mainGlobals "NoNumber"=some (some (.ref xx4)))
    (xa5:PySem.W.nsIn K mainGlobals "NoTally"=some (some (.ref xx5)))
    (xa6:PySem.W.nsIn K mainGlobals "NotTree"=some (some (.ref xx6)))
    (xa7:PySem.W.nsIn K mainGlobals "NotJoined"=some (some (.ref xx7)))
    (xa8:PySem.W.nsIn K mainGlobals "NoWeights"=some (some (.ref xx8)))
    (xa9:PySem.W.nsIn K mainGlobals "NoRow"=some (some (.ref xx9)))
    (xa10:PySem.W.nsIn K mainGlobals "NoSteps"=some (some (.ref xx10)))
    (xa11:PySem.W.nsIn K mainGlobals "NoText"=some (some (.ref xx11)))
    (xa12:PySem.W.nsIn K mainGlobals "TooGreat"=some (some (.ref xx12)))
    (xa13:PySem.W.nsIn K mainGlobals "StoneError"=some (some (.ref xx13)))
    (xc4:WT K [xx0,xx1,xx2,xx3,xx4,xx5,xx6,xx7,xx8,xx9,xx10,xx11,xx12] xx13 xx4 4=true)
    (xb4:PySem.W.excIn K xx4 bmV "ValueError.__new__"=true)
    (xc12:WT K [xx0,xx1,xx2,xx3,xx4,xx5,xx6,xx7,xx8,xx9,xx10,xx11,xx12] xx13 xx12 12=true)
    {yi12:Addr} {yod12 yan12:Option Addr} {ysl12:Array (Option Value)} {yoc12 ykV12 ydc12 ypm12 ycd12 yct12:Value}
    (ya12:PySem.W.findIn K (.ref xx12) "__init__"=some (some (.ref yi12))) (yl12:K.lookup yi12=some ⟨yoc12,yod12,.func (PySem.W.fnOf "__init__" "TooGreat.__init__" (zx wy) (zt wy) (ze wy) .none ykV12 ydc12 ypm12 yan12 ycd12 yct12),ysl12⟩) (yc12:PySem.W.codeIn K ycd12 "TooGreat.__init__"=true) (yk12:PySem.W.keepIn K (.ref yi12)=true)
    (ye12:zjb K xx12 yi12=true) (yf12:VQ K xx12=true) (yg12:zkJ K xx12 ["many","most"]=true)
    (z0:PySem.W.nsIn K mainGlobals "ValueError"=some none)
    (z1:PySem.W.nsIn K mainGlobals "all"=some none)
    (z2:PySem.W.nsIn K mainGlobals "any"=some none)
    (z3:PySem.W.nsIn K mainGlobals "bool"=some none)
    (z4:PySem.W.nsIn K mainGlobals "enumerate"=some none)
    (z5:PySem.W.nsIn K mainGlobals "int"=some none)
    (z6:PySem.W.nsIn K mainGlobals "isinstance"=some none)
    (z7:PySem.W.nsIn K mainGlobals "len"=some none)
    (z8:PySem.W.nsIn K mainGlobals "list"=some none)
    (z9:PySem.W.nsIn K mainGlobals "max"=some none)
    (z10:PySem.W.nsIn K mainGlobals "min"=some none)
    (z11:PySem.W.nsIn K mainGlobals "range"=some none)
    (z12:PySem.W.nsIn K mainGlobals "str"=some none)
    (z13:PySem.W.nsIn K mainGlobals "sum"=some none)
    (z14:PySem.W.nsIn K mainGlobals "tuple"=some none)
    (z15:PySem.W.nsIn K mainGlobals "zip"=some none)
    : ∃ fd:FuncData,(∀ (s:Shared) (v:Value),BindsTo s fd ⟨[v],[]⟩ [("script",v)])∧∀ base:Heap,K.In base→base.Ns mainGlobals mg→xB l.prog w K mg base CX0 20 fa fd ["script"] (zdq K):=by
  have e:=hfa.symm.trans (PySem.W.mg_of X G a34)
  cases e
  have F0:=zW (st:=wB) l0 c0 k0
  have F1:=zW (st:=yc) l1 c1 k1
  have F2:=zW (st:=yj) l2 c2 k2
  have F3:=zW (st:=ya) l3 c3 k3
  have F4:=zW (st:=yl) l4 c4 k4
  have F5:=zW (st:=wz) l5 c5 k5
  have F6:=zW (st:=xF) l6 c6 k6
  have F7:=zW (st:=vk) l7 c7 k7
  have F8:=zW (st:=wA) l8 c8 k8
  have F9:=zW (st:=Yc) l9 c9 k9
  have F10:=zW (st:=xm) l10 c10 k10
  have F11:=zW (st:=yu) l11 c11 k11
  have F12:=zW (st:=xg) l12 c12 k12
  have F13:=zW (st:=xC) l13 c13 k13
  have F14:=zW (st:=xG) l14 c14 k14
  have F15:=zW (st:=yT) l15 c15 k15
  have F16:=zW (st:=xU) l16 c16 k16
  have F17:=zW (st:=vn) l17 c17 k17
  have F18:=zW (st:=yO) l18 c18 k18
  have F19:=zW (st:=vh) l19 c19 k19
  have F20:=zW (st:=vy) l20 c20 k20
  have F21:=zW (st:=yx) l21 c21 k21
  have F22:=zW (st:=Ze) l22 c22 k22
  have F23:=zW (st:=vj) l23 c23 k23
  have F24:=zW (st:=xX) l24 c24 k24
  have F25:=zW (st:=yU) l25 c25 k25
  have F26:=zW (st:=xE) l26 c26 k26
  have F27:=zW (st:=xD) l27 c27 k27
  have F28:=zW (st:=xH) l28 c28 k28
  have F29:=zW (st:=x6) l29 c29 k29
  have F30:=zW (st:=xi) l30 c30 k30
  have F31:=zW (st:=yQ) l31 c31 k31
  have F32:=zW (st:=xZ) l32 c32 k32
  have F33:=zW (st:=xV) l33 c33 k33
  have F34:=zW (st:=WO) l34 c34 k34
  have FY12:=zW (st:=wy) yl12 yc12 yk12
  have T:Txt K mg ⟨_,_,_,_,_,_,_,_,_,_,_,_,_,_,_,_,_,_,_,_,_,_,_,_,_,_,_,_,_,_,_,_,_,_,_,_,_,_,_,_,_,_,_,_,_,_,_,_,_,_,_,_,_,_,_,_,_,_,_,_,_,_,_,_,_,_,_,_,_,_,tk0,tk1,tk2,xx0,xx1,xx2,xx3,xx4,xx5,xx6,xx7,xx8,xx9,xx10,xx11,xx12,xx13,_,_⟩:=⟨
    ⟨F0,F0.binds (ps:=["thing"]) (fun _ _ _ _ _ _ us hl=>by obtain ⟨_,rfl⟩:=zaE hl;rfl),PySem.W.mg_of X G a0⟩,
    ⟨F1,F1.binds (ps:=["thing","least","most"]) (fun _ _ _ _ _ _ us hl=>by obtain ⟨_,_,_,rfl⟩:=zdB hl;rfl),PySem.W.mg_of X G a1⟩,
    ⟨F2,F2.binds (ps:=["thing","least","most"]) (fun _ _ _ _ _ _ us hl=>by obtain ⟨_,_,_,rfl⟩:=zdB hl;rfl),PySem.W.mg_of X G a2⟩,
    ⟨F3,F3.binds (ps:=["many","most"]) (fun _ _ _ _ _ _ us hl=>by obtain ⟨_,_,rfl⟩:=YD hl;rfl),PySem.W.mg_of X G a3⟩,
    ⟨F4,F4.binds (ps:=["thing"]) (fun _ _ _ _ _ _ us hl=>by obtain ⟨_,rfl⟩:=zaE hl;rfl),PySem.W.mg_of X G a4⟩,
    ⟨F5,F5.binds (ps:=["many","thing"]) (fun _ _ _ _ _ _ us hl=>by obtain ⟨_,_,rfl⟩:=YD hl;rfl),PySem.W.mg_of X G a5⟩,
    ⟨F6,F6.binds (ps:=["many","thing"]) (fun _ _ _ _ _ _ us hl=>by obtain ⟨_,_,rfl⟩:=YD hl;rfl),PySem.W.mg_of X G a6⟩,
    ⟨F7,F7.binds (ps:=["many","thing"]) (fun _ _ _ _ _ _ us hl=>by obtain ⟨_,_,rfl⟩:=YD hl;rfl),PySem.W.mg_of X G a7⟩,
    ⟨F8,F8.binds (ps:=["many","thing"]) (fun _ _ _ _ _ _ us hl=>by obtain ⟨_,_,rfl⟩:=YD hl;rfl),PySem.W.mg_of X G a8⟩,
    ⟨F9,F9.binds (ps:=["thing"]) (fun _ _ _ _ _ _ us hl=>by obtain ⟨_,rfl⟩:=zaE hl;rfl),PySem.W.mg_of X G a9⟩,
    ⟨F10,F10.binds (ps:=["thing"]) (fun _ _ _ _ _ _ us hl=>by obtain ⟨_,rfl⟩:=zaE hl;rfl),PySem.W.mg_of X G a10⟩,
    ⟨F11,F11.binds (ps:=["web","thing"]) (fun _ _ _ _ _ _ us hl=>by obtain ⟨_,_,rfl⟩:=YD hl;rfl),PySem.W.mg_of X G a11⟩,
    ⟨F12,F12.binds (ps:=["one","other"]) (fun _ _ _ _ _ _ us hl=>by obtain ⟨_,_,rfl⟩:=YD hl;rfl),PySem.W.mg_of X G a12⟩,
    ⟨F13,F13.binds (ps:=["web","place"]) (fun _ _ _ _ _ _ us hl=>by obtain ⟨_,_,rfl⟩:=YD hl;rfl),PySem.W.mg_of X G a13⟩,
    ⟨F14,F14.binds (ps:=["web","thing"]) (fun _ _ _ _ _ _ us hl=>by obtain ⟨_,_,rfl⟩:=YD hl;rfl),PySem.W.mg_of X G a14⟩,
    ⟨F15,F15.binds (ps:=["web","thing"]) (fun _ _ _ _ _ _ us hl=>by obtain ⟨_,_,rfl⟩:=YD hl;rfl),PySem.W.mg_of X G a15⟩,
    ⟨F16,F16.binds (ps:=["web"]) (fun _ _ _ _ _ _ us hl=>by obtain ⟨_,rfl⟩:=zaE hl;rfl),PySem.W.mg_of X G a16⟩,
    ⟨F17,F17.binds (ps:=["heap","step"]) (fun _ _ _ _ _ _ us hl=>by obtain ⟨_,_,rfl⟩:=YD hl;rfl),PySem.W.mg_of X G a17⟩,
    ⟨F18,F18.binds (ps:=["web","heap"]) (fun _ _ _ _ _ _ us hl=>by obtain ⟨_,_,rfl⟩:=YD hl;rfl),PySem.W.mg_of X G a18⟩,
    ⟨F19,F19.binds (ps:=["web","heap","place"]) (fun _ _ _ _ _ _ us hl=>by obtain ⟨_,_,_,rfl⟩:=zdB hl;rfl),PySem.W.mg_of X G a19⟩,
    ⟨F20,F20.binds (ps:=["found","heap"]) (fun _ _ _ _ _ _ us hl=>by obtain ⟨_,_,rfl⟩:=YD hl;rfl),PySem.W.mg_of X G a20⟩,
    ⟨F21,F21.binds (ps:=["web","heap","place","many"]) (fun _ _ _ _ _ _ us hl=>by obtain ⟨_,_,_,_,rfl⟩:=zfl hl;rfl),PySem.W.mg_of X G a21⟩,
    ⟨F22,F22.binds (ps:=["web","heap","place","many"]) (fun _ _ _ _ _ _ us hl=>by obtain ⟨_,_,_,_,rfl⟩:=zfl hl;rfl),PySem.W.mg_of X G a22⟩,
    ⟨F23,F23.binds (ps:=["web","heap"]) (fun _ _ _ _ _ _ us hl=>by obtain ⟨_,_,rfl⟩:=YD hl;rfl),PySem.W.mg_of X G a23⟩,
    ⟨F24,F24.binds (ps:=["web","held"]) (fun _ _ _ _ _ _ us hl=>by obtain ⟨_,_,rfl⟩:=YD hl;rfl),PySem.W.mg_of X G a24⟩,
    ⟨F25,F25.binds (ps:=["web","heap","place","many","thing"]) (fun _ _ _ _ _ _ us hl=>by obtain ⟨_,_,_,_,_,rfl⟩:=zkn hl;rfl),PySem.W.mg_of X G a25⟩,
    ⟨F26,F26.binds (ps:=["web","heap","place","many"]) (fun _ _ _ _ _ _ us hl=>by obtain ⟨_,_,_,_,rfl⟩:=zfl hl;rfl),PySem.W.mg_of X G a26⟩,
    ⟨F27,F27.binds (ps:=["e"]) (fun _ _ _ _ _ _ us hl=>by obtain ⟨_,rfl⟩:=zaE hl;rfl),PySem.W.mg_of X G a27⟩,
    ⟨F28,F28.binds (ps:=["many"]) (fun _ _ _ _ _ _ us hl=>by obtain ⟨_,rfl⟩:=zaE hl;rfl),PySem.W.mg_of X G a28⟩,
    ⟨F29,F29.binds (ps:=["cell","k"]) (fun _ _ _ _ _ _ us hl=>by obtain ⟨_,_,rfl⟩:=YD hl;rfl),PySem.W.mg_of X G a29⟩,
    ⟨F30,F30.binds (ps:=["many","cell"]) (fun _ _ _ _ _ _ us hl=>by obtain ⟨_,_,rfl⟩:=YD hl;rfl),PySem.W.mg_of X G a30⟩,
    ⟨F31,F31.binds (ps:=["many","cell","most"]) (fun _ _ _ _ _ _ us hl=>by obtain ⟨_,_,_,rfl⟩:=zdB hl;rfl),PySem.W.mg_of X G a31⟩,
    ⟨F32,F32.binds (ps:=["found","due"]) (fun _ _ _ _ _ _ us hl=>by obtain ⟨_,_,rfl⟩:=YD hl;rfl),PySem.W.mg_of X G a32⟩,
    ⟨F33,F33.binds (ps:=["way","web","heap","many"]) (fun _ _ _ _ _ _ us hl=>by obtain ⟨_,_,_,_,rfl⟩:=zfl hl;rfl),PySem.W.mg_of X G a33⟩,
    ⟨F34,F34.binds (ps:=["script"]) (fun _ _ _ _ _ _ us hl=>by obtain ⟨_,rfl⟩:=zaE hl;rfl),PySem.W.mg_of X G a34⟩,
    PySem.W.mg_of X G gg0,
    PySem.W.mg_of X G gg1,
    PySem.W.mg_of X G gg2,
    PySem.W.mg_none_of X G z0,
    PySem.W.mg_none_of X G z1,
    PySem.W.mg_none_of X G z2,
    PySem.W.mg_none_of X G z3,
    PySem.W.mg_none_of X G z4,
    PySem.W.mg_none_of X G z5,
    PySem.W.mg_none_of X G z6,
    PySem.W.mg_none_of X G z7,
    PySem.W.mg_none_of X G z8,
    PySem.W.mg_none_of X G z9,
    PySem.W.mg_none_of X G z10,
    PySem.W.mg_none_of X G z11,
    PySem.W.mg_none_of X G z12,
    PySem.W.mg_none_of X G z13,
    PySem.W.mg_none_of X G z14,
    PySem.W.mg_none_of X G z15,
    PySem.W.mg_of X G xa0,
    PySem.W.mg_of X G xa1,
    PySem.W.mg_of X G xa2,
    PySem.W.mg_of X G xa3,
    PySem.W.mg_of X G xa4,
    PySem.W.mg_of X G xa5,
    PySem.W.mg_of X G xa6,
    PySem.W.mg_of X G xa7,
    PySem.W.mg_of X G xa8,
    PySem.W.mg_of X G xa9,
    PySem.W.mg_of X G xa10,
    PySem.W.mg_of X G xa11,
    PySem.W.mg_of X G xa12,
    PySem.W.mg_of X G xa13,
    xb4,
    xc4,
    xc12,
    FY12,
    FY12.binds (ps:=["self","many","most"]) (fun _ _ _ _ _ _ us hl=>by obtain ⟨_,_,_,rfl⟩:=zdB hl;rfl),
    ye12,
    yf12,
    yg12⟩
  exact ⟨_,fun s v=>.of_eq rfl,fun base _ _=>zjL T⟩
theorem walk {l:PySem.W.OpenLaw}{q:Program}{loose:List Str}{XP:(Str→Option Value)→Heap→Prop}{YP:World→Heap→Prop}{d:DefRec}{K:Params→PySem.W.Frag}(hn:l.most=some 63)(hdf:d.params.defaults=[])
    (hY:∀ (w:World) (h:Heap),YP w h→(K w.params).In h)
    (F:∀ (w:World) (mg:Str→Option Value) (fa:Addr) (h:Heap),(K w.params).In h→h.Ns mainGlobals mg→mg d.name=some (.ref fa) →
      ∃ fd:FuncData,(∀ (s:Shared) (u:Value),BindsTo s fd ⟨[u],[]⟩ [("script",u)])∧∀ base:Heap,(K w.params).In base→base.Ns mainGlobals mg→xB l.prog w (K w.params) mg base CX0 20 fa fd ["script"] (zdq (K w.params))) :
    PySem.W.WalkO q loose XP YP l.row.toRowW d [] (fun f vs=>PySem.call f vs) :=
  L2.walk_of (n:=63) (k:=20) (x:="script") (CX:=fun _=>CX0) (sp:=fun w=>zdq (K w.params)) hn (by decide) hdf ⟨rfl,by decide,by decide⟩ hY F (fun _ _ a ns hl _ hS=>⟨a,ns,rfl,hS,hl,fun _=>rfl⟩) fun _ _ _ _ _ z=>z
end Mz
open PySem PySem.W PyProof.Rows
theorem PySem.W.Fast.tw10858021862636465686 : True := trivial
theorem PySem.W.Fast.tw336378307397627520 : True := trivial
theorem PySem.W.Fast.tw6214710050607521277 : True := trivial
theorem PySem.W.Fast.tw1751321636344300435 : True := trivial
theorem PySem.W.Fast.tw3526407565603145838 : True := trivial
theorem PySem.W.Fast.tw796254414466351547 : True := trivial
theorem PySem.W.Fast.tw15224984228297671317 : True := trivial
theorem PySem.W.Fast.tw8999765283103448132 : True := trivial
theorem PySem.W.Fast.tw8239999615541888943 : True := trivial
theorem PySem.W.Fast.tw11293704016155907227 : True := trivial
theorem PySem.W.Fast.tw1702515275247311278 : True := trivial
theorem PySem.W.Fast.tw9784364561186688016 : True := trivial
theorem PySem.W.Fast.tw395654570639006068 : True := trivial
theorem PySem.W.Fast.tw17899908995502856077 : True := trivial
theorem PySem.W.Fast.tw16175714253541506358 : True := trivial
theorem PySem.W.Fast.tw16154243671962236076 : True := trivial
theorem PySem.W.Fast.tw4518877927131341827 : True := trivial
theorem PySem.W.Fast.tw7662164326219145158 : True := trivial
theorem PySem.W.Fast.tw7652967041977605358 : True := trivial
theorem PySem.W.Fast.tw1371480367827555698 : True := trivial
theorem PySem.W.Fast.tw17463048134211725778 : True := trivial
theorem PySem.W.Fast.tw3413491786358667825 : True := trivial
theorem PySem.W.Fast.tw3509554938084903791 : True := trivial
theorem PySem.W.Fast.tw17164944597466699613 : True := trivial
theorem PySem.W.Fast.tw16633236502099615499 : True := trivial
theorem PySem.W.Fast.tw9361578430374897088 : True := trivial
theorem PySem.W.Fast.tw7100006986148962183 : True := trivial
theorem PySem.W.Fast.tw11678835343343714433 : True := trivial
theorem PySem.W.Fast.tw9236989118283130700 : True := trivial
theorem PySem.W.Fast.tw4321798850446749333 : True := trivial
theorem PySem.W.Fast.tw14602659172442572906 : True := trivial
theorem PySem.W.Fast.tw1598023489068008198 : True := trivial
theorem PySem.W.Fast.tw6498262404136721492 : True := trivial
theorem PySem.W.Fast.tw1110164020250094854 : True := trivial
set_option maxRecDepth 100000 in
set_option maxHeartbeats 0 in
theorem PySem.Challenge.cw_twoforone_k44_refused_of_gets_holds : PySem.Challenge.rw_twoforone_k44_refused_of_gets.Holds := by
  w_on;o_law;k_head;(case hw=>w_witness2)
  k_fill
  refine Mz.walk (l:=PySem.Challenge.rw_twoforone_k44_refused_of_gets) rfl rfl (fun w h Y=>PySem.W.kIn_of Y) ?F
  case F =>
    intro w mg fa h KX G hmg
    refine' Mz.all_mk KX G hmg ?a0 ?l0 ?c0 ?k0 ?a1 ?l1 ?c1 ?k1 ?a2 ?l2 ?c2 ?k2 ?a3 ?l3 ?c3 ?k3 ?a4 ?l4 ?c4 ?k4 ?a5 ?l5 ?c5 ?k5 ?a6 ?l6 ?c6 ?k6 ?a7 ?l7 ?c7 ?k7 ?a8 ?l8 ?c8 ?k8 ?a9 ?l9 ?c9 ?k9 ?a10 ?l10 ?c10 ?k10 ?a11 ?l11 ?c11 ?k11 ?a12 ?l12 ?c12 ?k12 ?a13 ?l13 ?c13 ?k13 ?a14 ?l14 ?c14 ?k14 ?a15 ?l15 ?c15 ?k15 ?a16 ?l16 ?c16 ?k16 ?a17 ?l17 ?c17 ?k17 ?a18 ?l18 ?c18 ?k18 ?a19 ?l19 ?c19 ?k19 ?a20 ?l20 ?c20 ?k20 ?a21 ?l21 ?c21 ?k21 ?a22 ?l22 ?c22 ?k22 ?a23 ?l23 ?c23 ?k23 ?a24 ?l24 ?c24 ?k24 ?a25 ?l25 ?c25 ?k25 ?a26 ?l26 ?c26 ?k26 ?a27 ?l27 ?c27 ?k27 ?a28 ?l28 ?c28 ?k28 ?a29 ?l29 ?c29 ?k29 ?a30 ?l30 ?c30 ?k30 ?a31 ?l31 ?c31 ?k31 ?a32 ?l32 ?c32 ?k32 ?a33 ?l33 ?c33 ?k33 ?a34 ?l34 ?c34 ?k34 ?gg0 ?gg1 ?gg2 ?xa0 ?xa1 ?xa2 ?xa3 ?xa4 ?xa5 ?xa6 ?xa7 ?xa8 ?xa9 ?xa10 ?xa11 ?xa12 ?xa13 ?xc4 ?xb4 ?xc12 ?ya12 ?yl12 ?yc12 ?yk12 ?ye12 ?yf12 ?yg12 ?z0 ?z1 ?z2 ?z3 ?z4 ?z5 ?z6 ?z7 ?z8 ?z9 ?z10 ?z11 ?z12 ?z13 ?z14 ?z15
    (case a0=>k_is)
    (case l0=>k_is)
    (case c0=>k_is)
    (case k0=>k_is)
    (case a1=>k_is)
    (case l1=>k_is)
    (case c1=>k_is)
    (case k1=>k_is)
    (case a2=>k_is)
    (case l2=>k_is)
    (case c2=>k_is)
    (case k2=>k_is)
    (case a3=>k_is)
    (case l3=>k_is)
    (case c3=>k_is)
    (case k3=>k_is)
    (case a4=>k_is)
    (case l4=>k_is)
    (case c4=>k_is)
    (case k4=>k_is)
    (case a5=>k_is)
    (case l5=>k_is)
    (case c5=>k_is)
    (case k5=>k_is)
    (case a6=>k_is)
    (case l6=>k_is)
    (case c6=>k_is)
    (case k6=>k_is)
    (case a7=>k_is)
    (case l7=>k_is)
    (case c7=>k_is)
    (case k7=>k_is)
    (case a8=>k_is)
    (case l8=>k_is)
    (case c8=>k_is)
    (case k8=>k_is)
    (case a9=>k_is)
    (case l9=>k_is)
    (case c9=>k_is)
    (case k9=>k_is)
    (case a10=>k_is)
    (case l10=>k_is)
    (case c10=>k_is)
    (case k10=>k_is)
    (case a11=>k_is)
    (case l11=>k_is)
    (case c11=>k_is)
    (case k11=>k_is)
    (case a12=>k_is)
    (case l12=>k_is)
    (case c12=>k_is)
    (case k12=>k_is)
    (case a13=>k_is)
    (case l13=>k_is)
    (case c13=>k_is)
    (case k13=>k_is)
    (case a14=>k_is)
    (case l14=>k_is)
    (case c14=>k_is)
    (case k14=>k_is)
    (case a15=>k_is)
    (case l15=>k_is)
    (case c15=>k_is)
    (case k15=>k_is)
    (case a16=>k_is)
    (case l16=>k_is)
    (case c16=>k_is)
    (case k16=>k_is)
    (case a17=>k_is)
    (case l17=>k_is)
    (case c17=>k_is)
    (case k17=>k_is)
    (case a18=>k_is)
    (case l18=>k_is)
    (case c18=>k_is)
    (case k18=>k_is)
    (case a19=>k_is)
    (case l19=>k_is)
    (case c19=>k_is)
    (case k19=>k_is)
    (case a20=>k_is)
    (case l20=>k_is)
    (case c20=>k_is)
    (case k20=>k_is)
    (case a21=>k_is)
    (case l21=>k_is)
    (case c21=>k_is)
    (case k21=>k_is)
    (case a22=>k_is)
    (case l22=>k_is)
    (case c22=>k_is)
    (case k22=>k_is)
    (case a23=>k_is)
    (case l23=>k_is)
    (case c23=>k_is)
    (case k23=>k_is)
    (case a24=>k_is)
    (case l24=>k_is)
    (case c24=>k_is)
    (case k24=>k_is)
    (case a25=>k_is)
    (case l25=>k_is)
    (case c25=>k_is)
    (case k25=>k_is)
    (case a26=>k_is)
    (case l26=>k_is)
    (case c26=>k_is)
    (case k26=>k_is)
    (case a27=>k_is)
    (case l27=>k_is)
    (case c27=>k_is)
    (case k27=>k_is)
    (case a28=>k_is)
    (case l28=>k_is)
    (case c28=>k_is)
    (case k28=>k_is)
    (case a29=>k_is)
    (case l29=>k_is)
    (case c29=>k_is)
    (case k29=>k_is)
    (case a30=>k_is)
    (case l30=>k_is)
    (case c30=>k_is)
    (case k30=>k_is)
    (case a31=>k_is)
    (case l31=>k_is)
    (case c31=>k_is)
    (case k31=>k_is)
    (case a32=>k_is)
    (case l32=>k_is)
    (case c32=>k_is)
    (case k32=>k_is)
    (case a33=>k_is)
    (case l33=>k_is)
    (case c33=>k_is)
    (case k33=>k_is)
    (case a34=>k_is)
    (case l34=>k_is)
    (case c34=>k_is)
    (case k34=>k_is)
    (case gg0=>k_is)
    (case gg1=>k_is)
    (case gg2=>k_is)
    (case xa0=>k_is)
    (case xa1=>k_is)
    (case xa2=>k_is)
    (case xa3=>k_is)
    (case xa4=>k_is)
    (case xa5=>k_is)
    (case xa6=>k_is)
    (case xa7=>k_is)
    (case xa8=>k_is)
    (case xa9=>k_is)
    (case xa10=>k_is)
    (case xa11=>k_is)
    (case xa12=>k_is)
    (case xa13=>k_is)
    (case xc4=>kernel_rfl)
    (case xb4=>kernel_rfl)
    (case xc12=>kernel_rfl)
    (case ya12=>k_is)
    (case yl12=>k_is)
    (case yc12=>k_is)
    (case yk12=>k_is)
    (case ye12=>kernel_rfl)
    (case yf12=>kernel_rfl)
    (case yg12=>kernel_rfl)
    (case z0=>k_is)
    (case z1=>k_is)
    (case z2=>k_is)
    (case z3=>k_is)
    (case z4=>k_is)
    (case z5=>k_is)
    (case z6=>k_is)
    (case z7=>k_is)
    (case z8=>k_is)
    (case z9=>k_is)
    (case z10=>k_is)
    (case z11=>k_is)
    (case z12=>k_is)
    (case z13=>k_is)
    (case z14=>k_is)
    (case z15=>k_is)
