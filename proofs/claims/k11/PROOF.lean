import PyProof.Rows.All
import Wide.All
import OpenK.AllK
import Wide.FinOn
import Lean
import PyProof.EqAt
import PyProof.EqKinds
import PyProof.TupleCall
import PyProof.NeKinds
import PySem.Challenge.RW_twoforone_k11_walked
set_option Elab.async false
set_option linter.all false
set_option maxRecDepth 100000
set_option maxHeartbeats 4000000
namespace L2
open PySem PySem.Spec PyProof.Rows
noncomputable abbrev Key:=Sum Int Str
noncomputable def zhz:Key→Value→Bool
  | .inl k,v=>Value.isInt k v
  | .inr x,v=>Value.isStrOf x v
noncomputable def keyH (w:World):Key→Int
  | .inl k=>hashInt k
  | .inr x=>hashStr w x
theorem yM:∀ {k:Key} {v:Value},zhz k v=true→(∃ i t,k=Sum.inl i∧v=Value.int i t)∨(∃ x t,k=Sum.inr x∧v=Value.str x t)
  | .inl i,v,h=>by
    obtain ⟨t,e⟩:=Value.isInt_shape (k:=i) (v:=v) h
    exact .inl ⟨i,t,rfl,e⟩
  | .inr x,v,h=>by
    obtain ⟨t,e⟩:=Value.isStrOf_shape (x:=x) (v:=v) h
    exact .inr ⟨x,t,rfl,e⟩
theorem zi1 (a b:Int):decide ((Sum.inl a:Key)=Sum.inl b)=(a == b):=by
  by_cases e:a=b
  · subst e;simp
  · have h:¬ (Sum.inl a:Key)=Sum.inl b:=fun q=>e (Sum.inl.inj q)
    rw [decide_eq_false h]
    exact (beq_eq_false_iff_ne.mpr e).symm
theorem zhC (a b:Str):decide ((Sum.inr a:Key)=Sum.inr b)=decide (a=b):=by
  by_cases e:a=b
  · subst e;simp
  · have h:¬ (Sum.inr a:Key)=Sum.inr b:=fun q=>e (Sum.inr.inj q)
    rw [decide_eq_false h,decide_eq_false e]
theorem zit (a:Int)(b:Str):decide ((Sum.inl a:Key)=Sum.inr b)=false:=decide_eq_false (fun q=>nomatch q)
theorem zih (a:Str)(b:Int):decide ((Sum.inr a:Key)=Sum.inl b)=false:=decide_eq_false (fun q=>nomatch q)
noncomputable def zda (prog:Program)(w:World):PySem.KeyKind prog w Key where
  is:=zhz
  hash:=keyH w
  inj:=fun v a b ha hb=>by
    rcases yM ha with ⟨i,t,rfl,rfl⟩ | ⟨x,t,rfl,rfl⟩
    · rcases yM hb with ⟨j,u,rfl,e⟩ | ⟨y,u,rfl,e⟩
      · injection e with e1 _;rw [e1]
      · exact nomatch e
    · rcases yM hb with ⟨j,u,rfl,e⟩ | ⟨y,u,rfl,e⟩
      · exact nomatch e
      · injection e with e1 _;rw [e1]
  byValue:=fun k v h=>by
    rcases yM h with ⟨i,t,rfl,rfl⟩ | ⟨x,t,rfl,rfl⟩ <;> rfl
  pyHash:=fun hv h=>by
    rcases yM hv with ⟨i,t,rfl,rfl⟩ | ⟨x,t,rfl,rfl⟩
    · exact wpAny_pyHash_int h
    · exact wpAny_pyHash_str h
  eqBool:=fun hu hv h=>by
    rcases yM hu with ⟨i,t,rfl,rfl⟩ | ⟨x,t,rfl,rfl⟩
    · rcases yM hv with ⟨j,u,rfl,rfl⟩ | ⟨y,u,rfl,rfl⟩
      · rw [zi1] at h;exact wpAny_eqBool_int h
      · rw [zit] at h;exact SeqAt.EqAt.int_str i t y u _ _ _ _ h
    · rcases yM hv with ⟨j,u,rfl,rfl⟩ | ⟨y,u,rfl,rfl⟩
      · rw [zih] at h;exact SeqAt.EqAt.str_int x t j u _ _ _ _ h
      · rw [zhC] at h;exact wpAny_eqBool_str h
  «strs»:=fun k x t v h=>by
    rcases yM h with ⟨i,u,rfl,e⟩ | ⟨y,u,rfl,e⟩
    · exact nomatch e
    · injection e with e1 _
      subst e1
      cases v <;> rfl
end L2
namespace L2
open PySem PySem.Spec PyProof.Rows
inductive V where
  | non | bl (b:Bool) | int (i:Int) | str (x:Str) | byt (b:Array UInt8) | flt (b:UInt64) | ref (a:Addr) | ty (n:String)
  deriving DecidableEq
noncomputable def xS:V→Value→Prop
  | .non,u=>u=Value.none
  | .bl b,u=>u=Value.bool b
  | .int i,u=>∃ t,u=Value.int i t
  | .str x,u=>∃ t,u=Value.str x t
  | .byt b,u=>∃ t,u=Value.bytes b t
  | .flt b,u=>∃ t,u=Value.float b t
  | .ref a,u=>u=Value.ref a
  | .ty n,u=>u=Value.type n
noncomputable abbrev yP:List V→List Value→Prop:=Paired xS
theorem yP.length {xs:List V}{us:List Value}(r:yP xs us):xs.length=us.length:=Paired.length r
theorem yP.get:∀ {xs:List V} {us:List Value} {i:Nat} {x:V},yP xs us→xs[i]?=some x→∃ u,us[i]?=some u∧xS x u
  | _,_,_,_,.nil,e=>by simp at e
  | _,_,0,_,.cons r _,e=>by simp at e;subst e;exact ⟨_,rfl,r⟩
  | _,_,i+1,x,.cons _ t,e=>by
    obtain ⟨u,h1,h2⟩:=yP.get (i:=i) (x:=x) t (by simpa using e)
    exact ⟨u,by simpa using h1,h2⟩
theorem yP.set {x:V}{u:Value}(r:xS x u):∀ {xs:List V} {us:List Value} (i:Nat),yP xs us→yP (xs.set i x) (us.set i u)
  | _,_,_,.nil=>.nil
  | _,_,0,.cons _ t=>.cons r t
  | _,_,i+1,.cons q t=>.cons q (yP.set r i t)
theorem yP.append:∀ {xs ys:List V} {us ws:List Value},yP xs us→yP ys ws→yP (xs++ys) (us++ws):=by
  intro xs ys us ws h s
  induction h with
  | nil=>exact s
  | cons r t ih=>exact .cons r ih
theorem yP.take:∀ {xs:List V} {us:List Value} (n:Nat),yP xs us→yP (xs.take n) (us.take n)
  | _,_,0,_=>.nil
  | _,_,_+1,.nil=>.nil
  | _,_,n+1,.cons r t=>.cons r (yP.take n t)
theorem yP.drop:∀ {xs:List V} {us:List Value} (n:Nat),yP xs us→yP (xs.drop n) (us.drop n)
  | _,_,0,r=>r
  | _,_,_+1,.nil=>.nil
  | _,_,n+1,.cons _ t=>yP.drop n t
noncomputable def zgN:Option V→Option Value→Prop
  | some v,some u=>xS v u
  | none,none=>True
  | _,_=>False
noncomputable def KV {κ:Type}:List (κ × V)→List (κ × Value)→Prop:=Paired fun (p:κ × V) (q:κ × Value)=>p.1=q.1∧xS p.2 q.2
noncomputable def kV:Key→V
  | .inl i=>.int i
  | .inr x=>.str x
inductive HO where
    | lst (xs:List V)
    | tup (xs:List V)
    | dK (kvs:List (Key × V)) | dT (kvs:List (List Key × V))
    | set (S:Int→Bool) (n:Nat)
    | ins (C dx:Addr) (fs:List (Str × V))
    | own (x:Addr)
    | xd (fs:List (Str × V))
    | met (f x:Addr)
    | rng (lo hi:Int)
    | frz (o:Obj) (u:HO)
    | tbl (ps:Array Value)
    | ext (φ:Heap→Prop)
noncomputable abbrev Hp:=Addr→Option HO
noncomputable def upd (H:Hp)(a:Addr)(o:HO):Hp:=fun b=>if b=a then some o else H b
theorem zp {H:Hp}{a:Addr}{o:HO}:upd H a o a=some o:=by unfold upd;rw [if_pos rfl]
theorem zo {H:Hp}{a b:Addr}{o:HO}(h:b≠a):upd H a o b=H b:=by unfold upd;rw [if_neg h]
theorem zdl {H:Hp}{a:Addr}{o u:HO}:upd (upd H a o) a u=upd H a u:=by
  funext b;unfold upd;split <;> rfl
theorem zj9 {H:Hp}{a b:Addr}{o u:HO}(h:H a=some o)(h':H b=some u)(d:o≠u):a≠b:=by
  intro e;subst e;rw [h] at h';exact d (Option.some.inj h')
theorem zk {H:Hp}{a b:Addr}{o:HO}(h:H a=some o)(h':H b=none):a≠b:=by
  intro e;subst e;rw [h] at h';cases h'
section
variable (P:Program)(w:World)
noncomputable def xH (H:Hp)(h:Heap)(a:Addr):HO→Prop
  | .lst xs=>xs.length≤sizeLine∧∃ (its:List Value) (n:Nat),yP xs its∧h.get? a=some { cls:=.type "list",data:=.seq its.toArray n }
  | .tup xs=>xs.length≤sizeLine∧∃ its:List Value,yP xs its∧IsTup h a its.toArray
  | .dK kvs=>kvs.length≤sizeLine∧(a == sysModules)=false∧∃ vs,KV kvs vs∧h.DictOf (zda P w) a vs
  | .dT kvs=>kvs.length≤sizeLine∧(a == sysModules)=false∧∃ xs:List (List Key × Addr × Value),
      Paired (fun (p:List Key × V) (q:List Key × Addr × Value)=>p.1=q.1∧H q.2.1=some (.tup (p.1.map kV))∧xS p.2 q.2.2) kvs xs ∧
      ∃ o es ep,h.get? a=some o∧o.ExactDict∧o.data=.dict es ep∧es.toList=xs.map (entryOfKey (tupleKind (zda P w)))∧(xs.map (·.1)).Nodup
  | .set S n=>h.SetOf (intKind P w) a S n
  | .ins C dx fs=>H dx=some (.own a)∧fs.length≤1000∧dx≠a∧h.get? a=some (PySem.W.instObj C dx) ∧
      ∃ mA,h.Ns1 dx mA∧(∀ f,zgN (fs.lookup f) (mA f))∧PySem.Within mA (fs.map (·.1))
  | .own _=>∃ o,h.get? a=some o
  | .xd fs=>∃ mA,h.Ns1 a mA∧∀ f,zgN (fs.lookup f) (mA f)
  | .rng lo hi=>∃ t u v,h.get? a=some { cls:=.type "range",data:=.fields #[.int lo t,.int hi u,.int 1 v] }
  | .frz o u=>h.get? a=some o∧xH H h a u
  | .tbl ps=>h.get? a=some { cls:=.none,data:=.fields ps }
  | .met f x=>h.get? a=some (PySem.W.methodObj (.ref f) (.ref x))
  | .ext φ=>φ h∧(∃ o,h.get? a=some o)∧∀ h1 h2:Heap,φ h1→(∀ o,h1.get? a=some o→h2.get? a=some o)→φ h2
noncomputable def HOk (H:Hp)(h:Heap):Prop:=∀ a o,H a=some o→xH P w H h a o
end
section
variable {P:Program}{w:World}{H H':Hp}{h h':Heap}{a:Addr}{o:HO}
theorem xH.lt (x:xH P w H h a o):a < h.objs.size:=by
  cases o with
  | lst xs=>obtain ⟨_,_,_,_,e⟩:=x;exact Heap.lt_size e
  | tup xs=>obtain ⟨_,_,_,p⟩:=x;exact p.lt
  | dK kvs=>obtain ⟨_,_,_,_,o,_,_,e,_⟩:=x;exact Heap.lt_size e
  | dT kvs=>obtain ⟨_,_,_,_,o,_,_,e,_⟩:=x;exact Heap.lt_size e
  | set S n=>obtain ⟨o,_,_,_,e,_⟩:=x;exact Heap.lt_size e
  | ins C dx fs=>obtain ⟨_,_,_,e,_⟩:=x;exact Heap.lt_size e
  | own y=>obtain ⟨_,e⟩:=x;exact Heap.lt_size e
  | xd fs=>obtain ⟨_,⟨_,_,_,e,_⟩,_⟩:=x;exact Heap.lt_size e
  | rng lo hi=>obtain ⟨_,_,_,e⟩:=x;exact Heap.lt_size e
  | frz ob u=>obtain ⟨e,_⟩:=x;exact Heap.lt_size e
  | tbl ps=>exact Heap.lt_size (show h.get? a=some _ from x)
  | met f y=>exact Heap.lt_size (show h.get? a=some _ from x)
  | ext φ=>obtain ⟨_,⟨_,e⟩,_⟩:=x;exact Heap.lt_size e
theorem Paired.mapP {α β:Type}{F G:α→β→Prop}:∀ {l₁:List α} {l₂:List β},Paired F l₁ l₂→(∀ a b,F a b→G a b)→Paired G l₁ l₂:=by
  intro l1 l2 h f
  induction h with
  | nil=>exact .nil
  | cons r t ih=>exact .cons (f _ _ r) ih
theorem xH.stay (x:xH P w H h a o)(k:∀ b u,(b=a∨H b=some (.own a))→h.get? b=some u→h'.get? b=some u)
    (ho:∀ b,H b=some (.own a)→H' b=some (.own a)) (ht:∀ b xs,H b=some (.tup xs)→H' b=some (.tup xs)):xH P w H' h' a o:=by
  induction o with
  | lst xs=>obtain ⟨z,its,n,r,e⟩:=x;exact ⟨z,its,n,r,k _ _ (.inl rfl) e⟩
  | tup xs=>obtain ⟨z,its,r,ob,e,c⟩:=x;exact ⟨z,its,r,ob,k _ _ (.inl rfl) e,c⟩
  | dK kvs=>obtain ⟨z,y,vs,r,ob,es,ep,e,c⟩:=x;exact ⟨z,y,vs,r,ob,es,ep,k _ _ (.inl rfl) e,c⟩
  | dT kvs =>
    obtain ⟨z,y,xs,r,ob,es,ep,e,c⟩:=x
    exact ⟨z,y,xs,Paired.mapP r fun p q z=>⟨z.1,ht _ _ z.2.1,z.2.2⟩,ob,es,ep,k _ _ (.inl rfl) e,c⟩
  | set S n=>obtain ⟨ob,es,ep,t,e,c⟩:=x;exact ⟨ob,es,ep,t,k _ _ (.inl rfl) e,c⟩
  | ins C dx fs =>
    obtain ⟨d,z,ne,e,mA,⟨od,es,ep,e2,c⟩,r⟩:=x
    exact ⟨ho _ d,z,ne,k _ _ (.inl rfl) e,mA,⟨od,es,ep,k _ _ (.inr d) e2,c⟩,r⟩
  | own y=>obtain ⟨ob,e⟩:=x;exact ⟨ob,k _ _ (.inl rfl) e⟩
  | xd fs=>obtain ⟨mA,⟨od,es,ep,e,c⟩,r⟩:=x;exact ⟨mA,⟨od,es,ep,k _ _ (.inl rfl) e,c⟩,r⟩
  | rng lo hi=>obtain ⟨t,u,v,e⟩:=x;exact ⟨t,u,v,k _ _ (.inl rfl) e⟩
  | frz ob u ih=>obtain ⟨e,q⟩:=x;exact ⟨k _ _ (.inl rfl) e,ih q⟩
  | tbl ps =>
    have e:h.get? a=some { cls:=.none,data:=.fields ps }:=x
    show h'.get? a=some { cls:=.none,data:=.fields ps }
    exact k a _ (.inl rfl) e
  | met f y =>
    have e:h.get? a=some (PySem.W.methodObj (.ref f) (.ref y)):=x
    show h'.get? a=some (PySem.W.methodObj (.ref f) (.ref y))
    exact k a _ (.inl rfl) e
  | ext φ=>obtain ⟨p,⟨o,e⟩,st⟩:=x;exact ⟨st _ _ p fun o q=>k _ _ (.inl rfl) q,⟨o,k _ _ (.inl rfl) e⟩,st⟩
theorem HOk.lt (x:HOk P w H h)(e:H a=some o):a < h.objs.size:=(x a o e).lt
theorem HOk.fresh (x:HOk P w H h)(e:h.objs.size≤a):H a=none:=by
  cases q:H a with
  | none=>rfl
  | some u=>exact absurd (Nat.lt_of_lt_of_le (x.lt q) e) (Nat.lt_irrefl _)
theorem HOk.kept (x:HOk P w H h)(k:∀ b u,h.get? b=some u→h'.get? b=some u):HOk P w H h':=fun a o e =>
  (x a o e).stay (fun b u _ q=>k b u q) (fun _ q=>q) fun _ _ q=>q
theorem HOk.laid (x:HOk P w H h)(k:∀ b u,h.get? b=some u→h'.get? b=some u)(hp:h.objs.size≤a)(new:xH P w (upd H a o) h' a o):HOk P w (upd H a o) h':=fun b u e=>by
  have hn:=x.fresh hp
  by_cases hb:b=a
  · subst hb;rw [zp] at e;cases e;exact new
  · rw [zo hb] at e
    exact (x b u e).stay (fun c v _ q=>k c v q) (fun c q=>by rw [zo (zk q hn)];exact q) fun c xs q=>by rw [zo (zk q hn)];exact q
end
noncomputable def Rd (H:Hp)(a:Addr)(u:HO):Prop:=H a=some u∨∃ o,H a=some (.frz o u)
theorem Rd.ok {P:Program}{w:World}{H:Hp}{h:Heap}{a:Addr}{u:HO}(r:Rd H a u)(x:HOk P w H h):xH P w H h a u:=by
  rcases r with r | ⟨o,r⟩
  · exact x a u r
  · obtain ⟨_,q⟩:=x a _ r
    exact q
noncomputable def Mut:Option HO→Prop
  | some (.lst _)=>True
  | some (.dK _)=>True
  | some (.dT _)=>True
  | some (.set _ _)=>True
  | some (.ins _ _ _)=>True
  | some (.ext _)=>True
  | _=>False
section
variable {P:Program}{w:World}{H:Hp}{h h':Heap}{x e:Addr}{o':HO}
theorem HOk.write (ok:HOk P w H h)(mu:Mut (H x))(he:e=x∨H e=some (.own x))(k:∀ b u,b≠e→h.get? b=some u→h'.get? b=some u)(heo:∃ u,h'.get? e=some u)
    (new:xH P w (upd H x o') h' x o'):HOk P w (upd H x o') h':=fun b u q=>by
  have nown:∀ c y,H c=some (.own y)→c≠x:=fun c y r z=>by subst z;rw [r] at mu;exact mu
  have ntup:∀ c xs,H c=some (.tup xs)→c≠x:=fun c xs r z=>by subst z;rw [r] at mu;exact mu
  by_cases hb:b=x
  · subst hb;rw [zp] at q;cases q;exact new
  · rw [zo hb] at q
    by_cases hbe:b=e
    · have q':H b=some (.own x):=by
        rcases he with z | z
        · exact absurd (hbe.trans z) hb
        · rw [hbe];exact z
      rw [q] at q';cases q'
      obtain ⟨v,hv⟩:=heo
      exact ⟨v,by rw [hbe];exact hv⟩
    · refine (ok b u q).stay (fun c v hc r=>k c v ?_ r) (fun c r=>by rw [zo (nown c b r)];exact r) fun c xs r=>by rw [zo (ntup c xs r)];exact r
      rcases hc with rfl | hc
      · exact hbe
      · rintro rfl
        rcases he with z | z
        · exact nown c b hc z
        · rw [hc] at z;cases z;exact hb rfl
end
set_option genInjectivity false in
set_option genSizeOf false in
set_option genCtorIdx false in
structure Un (fs ex:List Addr) (H H':Hp) (h h':Heap):Prop where
  keep:∀ b o,h.get? b=some o→H b=none→b∉fs→b∉ex→h'.get? b=some o
  slot:∀ b o,h.get? b=some o→H b=none→b∈fs→b∉ex→∃ sl,h'.get? b=some { o with slots:=sl }
  free:∀ b o,h.get? b=some o→H b=none→b∉ex→H' b=none
  there:∀ b o,h.get? b=some o→b∉ex→∃ o',h'.get? b=some o'
  tups:∀ b xs,H b=some (.tup xs)→H' b=some (.tup xs)
  frzs:∀ b o u,H b=some (.frz o u)→H' b=some (.frz o u)
  tbls:∀ b ps,H b=some (.tbl ps)→∃ more,H' b=some (.tbl (ps++more))
section
variable {fs fs' ex ex':List Addr}{H H1 H2:Hp}{h h1 h2 h':Heap}{a x e:Addr}{o:HO}
theorem Un.any (u:Un fs ex H H1 h h1){b:Addr}{ob:Obj}(q:h.get? b=some ob)(n:H b=none)(hx:b∉ex):∃ sl,h1.get? b=some { ob with slots:=sl }:=by
  by_cases hb:b∈fs
  · exact u.slot b ob q n hb hx
  · exact ⟨ob.slots,u.keep b ob q n hb hx⟩
theorem Un.kept (k:∀ b u,h.get? b=some u→h'.get? b=some u):Un fs ex H H h h' :=
  ⟨fun b ob q _ _ _=>k b ob q,fun b ob q _ _ _=>⟨ob.slots,k b ob q⟩,fun _ _ _ n _=>n,fun b ob q _=>⟨ob,k b ob q⟩,fun _ _ q=>q,fun _ _ _ q=>q,fun _ ps q=>⟨#[],by rw [q];simp⟩⟩
theorem Un.refl:Un fs ex H H h h:=Un.kept fun _ _ q=>q
theorem Un.laid (k:∀ b u,h.get? b=some u→h'.get? b=some u)(hp:h.objs.size≤a)(hn:H a=none):Un fs ex H (upd H a o) h h' where
  keep:=fun b u q _ _ _=>k b u q
  slot:=fun b u q _ _ _=>⟨u.slots,k b u q⟩
  free:=fun b u q n _=>by rw [zo (Nat.ne_of_lt (Nat.lt_of_lt_of_le (Heap.lt_size q) hp))];exact n
  there:=fun b u q _=>⟨u,k b u q⟩
  tups:=fun b xs q=>by rw [zo (zk q hn)];exact q
  frzs:=fun b u xs q=>by rw [zo (zk q hn)];exact q
  tbls:=fun b ps q=>⟨#[],by rw [zo (zk q hn),q];simp⟩
theorem Un.write (mu:Mut (H x))(he:e=x∨H e=some (.own x))(k:∀ b u,b≠e→h.get? b=some u→h'.get? b=some u)(heo:∃ u,h'.get? e=some u):Un fs ex H (upd H x o) h h':=by
  have hx:∀ b,H b=none→b≠x:=fun b n z=>by subst z;rw [n] at mu;exact mu
  have hb:∀ b,H b=none→b≠e:=fun b n z=>by
    subst z
    rcases he with r | r
    · exact hx b n r
    · rw [n] at r;cases r
  have hm:∀ b u,H b=some u→¬ Mut (some u)→b≠x:=fun b u q nm z=>by subst z;rw [q] at mu;exact nm mu
  refine ⟨fun b u q n _ _=>k b u (hb b n) q,fun b u q n _ _=>⟨u.slots,k b u (hb b n) q⟩,fun b u q n _=>by rw [zo (hx b n)];exact n,fun b u q _=>?_,
    fun b xs q=>by rw [zo (hm b _ q fun z=>z)];exact q,fun b u xs q=>by rw [zo (hm b _ q fun z=>z)];exact q,fun b ps q=>⟨#[],by rw [zo (hm b _ q fun z=>z),q];simp⟩⟩
  by_cases hbe:b=e
  · subst hbe;exact heo
  · exact ⟨u,k b u hbe q⟩
end
noncomputable def trk (h:Heap)(H:Hp):List Addr:=(List.range h.objs.size).filter fun a=>(H a).isSome
noncomputable def zeI (h:Heap)(H:Hp):Heap:=PySem.W.hideAll h (trk h H)
theorem zd7 (h:Heap)(H:Hp):(zeI h H).objs.size=h.objs.size:=PySem.W.hideAll_size _ _
theorem zeE {h:Heap}{H:Hp}{b:Addr}{o:Obj}(e:h.get? b=some o)(n:H b=none):(zeI h H).get? b=some o :=
  PySem.W.hideAll_get _ e fun hm=>by
    have q:(H b).isSome=true:=(List.mem_filter.mp hm).2
    rw [n] at q;simp at q
theorem zhp {h:Heap}{H:Hp}{b:Addr}{o:Obj}(e:(zeI h H).get? b=some o):h.get? b=some o∧H b=none:=by
  have e':h.get? b=some o:=PySem.W.of_hideAll (trk h H) e
  refine ⟨e',?_⟩
  cases q:H b with
  | none=>rfl
  | some x =>
    have hm:b∈trk h H:=List.mem_filter.mpr ⟨List.mem_range.mpr (Heap.lt_size e'),by simp [q]⟩
    have z:(zeI h H).get? b=none:=PySem.W.hideAll_none (trk h H) hm
    rw [z] at e;cases e
noncomputable def zhg (g h:Heap)(L:Addr):List (Addr × Obj):=(List.range h.objs.size).filterMap fun a=>if a=L∨(g.get? a).isSome=true then none else (h.get? a).map fun o=>(a,o)
noncomputable def rest (g h:Heap)(L d:Addr):List (Addr × Obj):=(zhg g h L).filter fun p=>decide (p.1≠d)
end L2
namespace L2
open PySem PySem.Spec PyProof.Rows
structure Mod (K:PySem.W.Frag) (mg:Str→Option Value) (base:Heap):Prop where
  kin:K.In base
  glob:base.Ns mainGlobals mg
  blt:∃ mb,base.Ns builtinsNs mb∧∀ x:Str,x≠"__name__"→mb x=bootBuiltins x
  nolimit:base.NoLimit
structure Cx where
  prog:Program
  w:World
  K:PySem.W.Frag
  mg:Str→Option Value
  base:Heap
  A:Around
  N:List Str
  s₀:Shared
  H₀:Hp
  env:Env
  outer:List Env
  stack:List Env
  ex:List Addr
  fn:Str→Bool
  calm:Bool
  pn:List (Addr × Obj)
  xe:Value→Shared→Prop
noncomputable def frs (l:List Env):List Addr:=l.filterMap (·.frame)
noncomputable abbrev Cx.fs (X:Cx):List Addr:=frs X.outer
noncomputable def Vis (sc:Scope)(x:Str):Prop:=sc.names.lookup x=some .local∨sc.names.lookup x=some .cell∨sc.names.lookup x=some .free
noncomputable def Loc (sc:Scope)(x:Str):Prop:=sc.names.lookup x=some .local∨sc.names.lookup x=some .cell
noncomputable def Look (env:Env)(h:Heap)(m:Str→Option Value)(x:Str)(u:Value):Prop :=
  (env.kindOf x=some .local∧m x=some u)∨((env.kindOf x=some .cell∨env.kindOf x=some .free)∧∃ c,env.cells.lookup x=some c∧h.IsCell c (some u))
set_option genInjectivity false in
set_option genSizeOf false in
set_option genCtorIdx false in
structure Cx.Ok (X:Cx):Prop where
  mod:Mod X.K X.mg X.base
  kind:X.env.scope.kind=.function
  glob:X.env.globals=mainGlobals
  blt:X.env.builtins=builtinsNs
  above:X.s₀.heap.objs.size≤X.env.locals
  inj:∀ x y c,X.env.cells.lookup x=some c→X.env.cells.lookup y=some c→x=y
  has:∀ x,(X.env.kindOf x=some .cell∨X.env.kindOf x=some .free)→∃ c,X.env.cells.lookup x=some c
  cab:∀ x c,X.fn x=true→X.env.cells.lookup x=some c→X.s₀.heap.objs.size≤c
  hd:X.calm=true→X.A.handled=none
  frames:X.A.frames=some X.stack
  stk:X.stack=X.outer∨(X.stack=X.env::X.outer∧X.env.frame=some X.env.locals)
  exf:∀ b∈X.ex,b≠X.env.locals∧∀ x c,X.env.cells.lookup x=some c→c≠b
  bs:∀ b o,X.base.get? b=some o→X.s₀.heap.get? b=some o∧X.H₀ b=none
  bsz:X.base.objs.size≤X.s₀.heap.objs.size
  noex:∀ b o,X.base.get? b=some o→b∉X.ex
  exfs:∀ b∈X.ex,b∉X.fs
  funs:X.s₀.heap.FunFrames X.base X.outer
  frf:∀ b∈X.fs,X.H₀ b=none
set_option genInjectivity false in
set_option genSizeOf false in
set_option genCtorIdx false in
structure Inv (X:Cx) (pins:List (Addr × Obj)) (σ:List (Option V)) (H:Hp) (s:Shared):Prop where
  ok:X.Ok
  os:s.os=X.s₀.os
  bare:AllBare s.gens
  base:Un X.fs X.ex X.H₀ H X.s₀.heap s.heap
  loc:∃ m,s.heap.Ns X.env.locals m∧∀ (i:Nat) (x:Str) (v:V),X.N[i]?=some x→σ[i]?=some (some v)→Vis X.env.scope x→∃ u,xS v u∧Look X.env s.heap m x u
  cell:∀ x c,X.env.cells.lookup x=some c→∃ v,s.heap.IsCell c v
  free:H X.env.locals=none
  freeC:∀ x c,X.env.cells.lookup x=some c→H c=none
  pin:∀ p∈X.pn++pins,s.heap.get? p.1=some p.2∧H p.1=none∧p.1≠X.env.locals∧p.1∉X.fs∧∀ v,p.2.data≠.cell v
  hok:HOk X.prog X.w H s.heap
  len:σ.length=X.N.length
section
variable {X:Cx}{pins:List (Addr × Obj)}{σ:List (Option V)}{H H':Hp}{s:Shared}{h':Heap}
theorem Cx.Ok.nofr (ok:X.Ok){b:Addr}{o:Obj}(e:X.base.get? b=some o):b∉X.fs:=fun hb=>by
  have:=(ok.funs.mem hb).1
  rw [e] at this;cases this
theorem Inv.bs (I:Inv X pins σ H s):∀ b o,X.base.get? b=some o→s.heap.get? b=some o∧H b=none:=fun b o e =>
  ⟨I.base.keep b o (I.ok.bs b o e).1 (I.ok.bs b o e).2 (I.ok.nofr e) (I.ok.noex b o e),I.base.free b o (I.ok.bs b o e).1 (I.ok.bs b o e).2 (I.ok.noex b o e)⟩
theorem Inv.bk (I:Inv X pins σ H s):∀ b o,X.base.get? b=some o→s.heap.get? b=some o:=fun b o e=>(I.bs b o e).1
theorem Inv.mod (I:Inv X pins σ H s):Mod X.K X.mg X.base:=I.ok.mod
theorem Inv.kIn (I:Inv X pins σ H s):X.K.In s.heap:=I.ok.mod.kin.keeps I.bk
theorem Inv.fr (I:Inv X pins σ H s):∃ m,Fr X.base X.env.locals s.heap m :=
  let ⟨m,hn,_⟩:=I.loc
  ⟨m,hn,I.bk,Nat.le_trans I.ok.bsz I.ok.above⟩
theorem Inv.lt (I:Inv X pins σ H s):X.env.locals < s.heap.objs.size:=let ⟨_,hn,_⟩:=I.loc;hn.lt
theorem Inv.sz (I:Inv X pins σ H s):X.s₀.heap.objs.size≤s.heap.objs.size:=Nat.le_trans I.ok.above (Nat.le_of_lt I.lt)
theorem Inv.nofs (I:Inv X pins σ H s){a:Addr}(h:s.heap.objs.size≤a):a∉X.fs:=fun hb=>by
  obtain ⟨_,o,ho,_⟩:=I.ok.funs.mem hb
  exact absurd (Nat.lt_of_lt_of_le (Heap.lt_size ho) (Nat.le_trans I.sz h)) (Nat.lt_irrefl _)
theorem Inv.cne (I:Inv X pins σ H s):∀ x c,X.env.cells.lookup x=some c→c≠X.env.locals:=fun x c e z=>by
  obtain ⟨v,o,ho,hd⟩:=I.cell x c e
  obtain ⟨m,⟨o',es,ep,ho',hd',_⟩,_⟩:=I.loc
  rw [z,ho'] at ho;cases ho;rw [hd'] at hd;cases hd
theorem Inv.funs (I:Inv X pins σ H s):s.heap.FunFrames X.base X.outer:=by
  have all:∀ (l:List Env),(∀ b∈frs l,b∈X.fs)→X.s₀.heap.FunFrames X.base l→s.heap.FunFrames X.base l:=by
    intro l
    induction l with
    | nil=>intro _ _;trivial
    | cons env r ih =>
      intro hs hl
      obtain ⟨hk,⟨L,o,hf,hn,ho,hd⟩,hr⟩:=hl
      have hL:L∈X.fs:=hs L (by unfold frs;rw [List.filterMap_cons,hf];exact List.mem_cons_self)
      obtain ⟨sl,e⟩:=I.base.slot L o ho (I.ok.frf L hL) hL fun z=>I.ok.exfs L z hL
      exact ⟨hk,⟨L,_,hf,hn,e,hd⟩,ih (fun b hb=>hs b (by unfold frs;rw [List.filterMap_cons,hf];exact List.mem_cons_of_mem _ hb)) hr⟩
  exact all X.outer (fun _ hb=>hb) I.ok.funs
theorem Inv.stack (I:Inv X pins σ H s):s.heap.FunFrames X.base X.stack:=by
  rcases I.ok.stk with e | ⟨e,hf⟩
  · rw [e];exact I.funs
  · rw [e]
    obtain ⟨m,hn,_⟩:=I.loc
    refine .cons (by rw [I.ok.kind];decide) hf hn ?_ I.funs
    exact Heap.get?_none_of_le (Nat.le_trans I.ok.bsz I.ok.above)
theorem Inv.stkSub (I:Inv X pins σ H s):∀ b∈frs X.stack,b∈X.env.locals::X.fs:=fun b hb=>by
  rcases I.ok.stk with e | ⟨e,hf⟩
  · rw [e] at hb;exact List.mem_cons_of_mem _ hb
  · rw [e] at hb
    unfold frs at hb
    rw [List.filterMap_cons,hf] at hb
    exact hb
theorem Inv.stkFree (I:Inv X pins σ H s):∀ b∈frs X.stack,H b=none:=fun b hb=>by
  rcases List.mem_cons.mp (I.stkSub b hb) with e | hb
  · rw [e];exact I.free
  · obtain ⟨_,o,ho,_⟩:=I.ok.funs.mem hb
    exact I.base.free b o ho (I.ok.frf b hb) fun z=>I.ok.exfs b z hb
theorem Inv.step {g':Array GenState}{t':Nat}{d':Drawn}{ch:List Addr}(I:Inv X pins σ H s)
    (hch:∀ b∈ch,(b∈X.ex∨X.s₀.heap.objs.size≤b)∧b≠X.env.locals∧(∀ x c,X.env.cells.lookup x=some c→c≠b)∧∀ p∈X.pn++pins,p.1≠b)
    (keep:∀ b o,b≠X.env.locals→b∉X.fs→b∉ch→s.heap.get? b=some o→H b=none→h'.get? b=some o)
    (slot:∀ b o,b≠X.env.locals→b∈X.fs→b∉ch→s.heap.get? b=some o→H b=none→∃ sl,h'.get? b=some { o with slots:=sl }) (free:∀ b o,b∉ch→s.heap.get? b=some o→H b=none→H' b=none)
    (there:∀ b o,b∉ch→s.heap.get? b=some o→∃ o',h'.get? b=some o')
    (tups:∀ b xs,H b=some (.tup xs)→H' b=some (.tup xs)) (frzs:∀ b o u,H b=some (.frz o u)→H' b=some (.frz o u)) (tbls:∀ b ps,H b=some (.tbl ps)→∃ more,H' b=some (.tbl (ps++more)))
    (ns:∀ m,s.heap.Ns X.env.locals m→h'.Ns X.env.locals m) (hok:HOk X.prog X.w H' h') (hg:AllBare g') :
    Inv X pins σ H' { s with heap:=h',gens:=g',drawn:=d',toks:=t' }:=by
  have neL:∀ b o,X.s₀.heap.get? b=some o→b≠X.env.locals:=fun b o e=>Nat.ne_of_lt (Nat.lt_of_lt_of_le (Heap.lt_size e) I.ok.above)
  have neC:∀ b o,X.s₀.heap.get? b=some o→b∉X.ex→b∉ch:=fun b o e hx hb=>by
    rcases (hch b hb).1 with z | z
    · exact hx z
    · exact absurd (Nat.lt_of_lt_of_le (Heap.lt_size e) z) (Nat.lt_irrefl _)
  have cellK:∀ x c,X.env.cells.lookup x=some c→∀ v,s.heap.IsCell c v→h'.IsCell c v:=fun x c e v ⟨o,ho,hd⟩=>by
    have nch:c∉ch:=fun z=>(hch c z).2.2.1 x c e rfl
    by_cases hc:c∈X.fs
    · obtain ⟨sl,q⟩:=slot c o (I.cne x c e) hc nch ho (I.freeC x c e)
      exact ⟨_,q,hd⟩
    · exact ⟨o,keep c o (I.cne x c e) hc nch ho (I.freeC x c e),hd⟩
  refine ⟨I.ok,I.os,hg,⟨fun b o e n hb hx=>?_,fun b o e n hb hx=>?_,fun b o e n hx=>?_,fun b o e hx=>?_,fun b xs e=>tups b xs (I.base.tups b xs e),fun b o xs e=>frzs b o xs (I.base.frzs b o xs e),fun b ps e=>?_⟩,?_,fun x c e=>?_,?_,fun x c e=>?_,fun p hp=>?_,hok,I.len⟩
  · exact keep b o (neL b o e) hb (neC b o e hx) (I.base.keep b o e n hb hx) (I.base.free b o e n hx)
  · obtain ⟨sl,e1⟩:=I.base.slot b o e n hb hx
    obtain ⟨sl',e2⟩:=slot b _ (neL b o e) hb (neC b o e hx) e1 (I.base.free b o e n hx)
    exact ⟨sl',e2⟩
  · obtain ⟨o',e1⟩:=I.base.there b o e hx
    exact free b o' (neC b o e hx) e1 (I.base.free b o e n hx)
  · obtain ⟨o',e1⟩:=I.base.there b o e hx
    exact there b o' (neC b o e hx) e1
  · obtain ⟨m1,e1⟩:=I.base.tbls b ps e
    obtain ⟨m2,e2⟩:=tbls b _ e1
    exact ⟨m1++m2,by rw [e2,Array.append_assoc]⟩
  · obtain ⟨m,hn,hl⟩:=I.loc
    refine ⟨m,ns m hn,fun i x v e1 e2 e3=>?_⟩
    obtain ⟨u,r,l⟩:=hl i x v e1 e2 e3
    refine ⟨u,r,?_⟩
    rcases l with l | ⟨k,c,e,z⟩
    · exact .inl l
    · exact .inr ⟨k,c,e,cellK x c e _ z⟩
  · obtain ⟨v,z⟩:=I.cell x c e
    exact ⟨v,cellK x c e v z⟩
  · obtain ⟨m,⟨o,_,_,ho,_⟩,_⟩:=I.loc
    exact free _ o (fun z=>(hch _ z).2.1 rfl) ho I.free
  · obtain ⟨v,o,ho,hd⟩:=I.cell x c e
    exact free c o (fun z=>(hch c z).2.2.1 x c e rfl) ho (I.freeC x c e)
  · obtain ⟨e,n,ne,nf,d⟩:=I.pin p hp
    have nch:p.1∉ch:=fun z=>(hch p.1 z).2.2.2 p hp rfl
    exact ⟨keep p.1 p.2 ne nf nch e n,free p.1 p.2 nch e n,ne,nf,d⟩
theorem Inv.un {t':Nat}(I:Inv X pins σ H s)(u:Un X.fs [] H H' s.heap h')(hok:HOk X.prog X.w H' h'):Inv X pins σ H' { s with heap:=h',toks:=t' }:=by
  obtain ⟨m,⟨o,es,ep,ho,r⟩,_⟩:=id I.loc
  obtain ⟨sl,hL⟩:=u.any ho I.free (by simp)
  exact I.step (g':=s.gens) (d':=s.drawn) (ch:=[]) (fun _ z=>nomatch z) (fun b o _ hb _ e n=>u.keep b o e n hb (by simp)) (fun b o _ hb _ e n=>u.slot b o e n hb (by simp)) (fun b o _ e n=>u.free b o e n (by simp)) (fun b o _ e=>u.there b o e (by simp)) u.tups u.frzs u.tbls (fun m' hm=>by
    obtain ⟨o',es',ep',ho',r'⟩:=hm
    rw [ho] at ho';cases ho'
    exact ⟨_,es',ep',hL,r'⟩) hok I.bare
theorem Inv.call {g':Array GenState}{t':Nat}{d':Drawn}{ch:List Addr}(I:Inv X pins σ H s)(u:Un (frs X.stack) ch H H' s.heap h')(hok:HOk X.prog X.w H' h')(hg:AllBare g')
    (hch:∀ b∈ch,(b∈X.ex∨X.s₀.heap.objs.size≤b)∧b≠X.env.locals∧(∀ x c,X.env.cells.lookup x=some c→c≠b)∧∀ p∈X.pn++pins,p.1≠b) :
    Inv X pins σ H' { s with heap:=h',gens:=g',drawn:=d',toks:=t' }:=by
  obtain ⟨m,⟨o,es,ep,ho,r⟩,_⟩:=id I.loc
  obtain ⟨sl,hL⟩:=u.any ho I.free fun z=>(hch _ z).2.1 rfl
  exact I.step (ch:=ch) hch (fun b o hL hb hc e n=>u.keep b o e n (fun z=>(List.mem_cons.mp (I.stkSub b z)).elim hL hb) hc) (fun b o _ _ hc e n=>u.any e n hc) (fun b o hc e n=>u.free b o e n hc) (fun b o hc e=>u.there b o e hc) u.tups u.frzs u.tbls (fun m' hm=>by
    obtain ⟨o',es',ep',ho',r'⟩:=hm
    rw [ho] at ho';cases ho'
    exact ⟨_,es',ep',hL,r'⟩) hok hg
theorem Inv.turned {t':Nat}{it:Addr}(I:Inv X pins σ H s)(k:∀ b o,b≠it→s.heap.get? b=some o→h'.get? b=some o)(hn:H it=none)(hL:it≠X.env.locals)
    (h1:it∈X.ex∨X.s₀.heap.objs.size≤it) (h2:∀ x c,X.env.cells.lookup x=some c→c≠it) (h3:∀ p∈X.pn++pins,p.1≠it):Inv X pins σ H { s with heap:=h',toks:=t' }:=by
  have nit:∀ b u,H b=some u→b≠it:=fun b u e z=>by rw [z,hn] at e;cases e
  refine I.step (g':=s.gens) (d':=s.drawn) (ch:=[it]) (fun b hb=>?_) (fun b o _ _ hc e _=>k b o (fun z=>hc (by simp [z])) e) (fun b o _ _ hc e _=>⟨o.slots,k b o (fun z=>hc (by simp [z])) e⟩) (fun _ _ _ _ n=>n)
    (fun b o hc e=>⟨o,k b o (fun z=>hc (by simp [z])) e⟩) (fun _ _ e=>e) (fun _ _ _ e=>e) (fun b ps e=>⟨#[],by rw [e];simp⟩) (fun m hm=>?_) (fun b u e=>?_) I.bare
  · have e:b=it:=by simpa using hb
    subst e
    exact ⟨h1,hL,h2,h3⟩
  · obtain ⟨o,es,ep,ho,r⟩:=hm
    exact ⟨o,es,ep,k _ o (Ne.symm hL) ho,r⟩
  · refine (I.hok b u e).stay (fun c v hc q=>k c v ?_ q) (fun _ q=>q) fun _ _ q=>q
    rcases hc with z | z
    · rw [z];exact nit b u e
    · exact nit c _ z
theorem Inv.tok (I:Inv X pins σ H s)(t:Nat):Inv X pins σ H { s with toks:=t }:=I.un (h':=s.heap) (t':=t) Un.refl I.hok
theorem Inv.kept {t':Nat}(I:Inv X pins σ H s)(k:∀ b u,s.heap.get? b=some u→h'.get? b=some u):Inv X pins σ H { s with heap:=h',toks:=t' }:=I.un (Un.kept k) (I.hok.kept k)
theorem Inv.laid {a:Addr}{o:HO}{t':Nat}(I:Inv X pins σ H s)(k:∀ b u,s.heap.get? b=some u→h'.get? b=some u)(hp:s.heap.objs.size≤a)(new:xH X.prog X.w (upd H a o) h' a o) :
    Inv X pins σ (upd H a o) { s with heap:=h',toks:=t' }:=I.un (Un.laid k hp (I.hok.fresh hp)) (I.hok.laid k hp new)
theorem Inv.write {x e:Addr}{o:HO}{t':Nat}(I:Inv X pins σ H s)(mu:Mut (H x))(he:e=x∨H e=some (.own x))(k:∀ b u,b≠e→s.heap.get? b=some u→h'.get? b=some u)(heo:∃ u,h'.get? e=some u)
    (new:xH X.prog X.w (upd H x o) h' x o):Inv X pins σ (upd H x o) { s with heap:=h',toks:=t' }:=I.un (Un.write mu he k heo) (I.hok.write mu he k heo new)
theorem Inv.weak {σ':List (Option V)}(I:Inv X pins σ H s)(hl:σ'.length=σ.length)(w:∀ (i:Nat) v,σ'[i]?=some (some v)→σ[i]?=some (some v)):Inv X pins σ' H s :=
  ⟨I.ok,I.os,I.bare,I.base,let ⟨m,hn,hl'⟩:=I.loc;⟨m,hn,fun i x v e1 e2 e3=>hl' i x v e1 (w i v e2) e3⟩,I.cell,I.free,I.freeC,I.pin,I.hok,hl.trans I.len⟩
theorem Inv.pins_of {pins':List (Addr × Obj)}(I:Inv X pins σ H s)(h:∀ p∈pins',s.heap.get? p.1=some p.2∧H p.1=none∧p.1≠X.env.locals∧p.1∉X.fs∧∀ v,p.2.data≠.cell v):Inv X pins' σ H s :=
  ⟨I.ok,I.os,I.bare,I.base,I.loc,I.cell,I.free,I.freeC,fun p hp=>(List.mem_append.mp hp).elim (fun z=>I.pin p (List.mem_append_left _ z)) (h p),I.hok,I.len⟩
theorem WS {N:List Str}(hN:N.Nodup){i j:Nat}{x:Str}(a:N[i]?=some x)(b:N[j]?=some x):i=j:=by
  obtain ⟨h1,e1⟩:=List.getElem?_eq_some_iff.mp a
  obtain ⟨h2,e2⟩:=List.getElem?_eq_some_iff.mp b
  exact (List.getElem_inj hN).mp (e1.trans e2.symm)
theorem zdN {M:Model}{A:Around}{E:Value→Shared→Prop}{i:Nat}{x:Str}{v:V}{u:Value}{Q:Unit→Shared→Prop}(I:Inv X pins σ H s)(hN:X.N.Nodup)(hi:X.N[i]?=some x)(hx:Loc X.env.scope x)(r:xS v u)
    (h:∀ s',Inv X pins (σ.set i (some v)) H s'→(∃ a,Heap.SameBut a s.heap s'.heap∧(a=X.env.locals∨X.env.cells.lookup x=some a))→Q () s') (hf:X.fn x=true∨X.env.scope.names.lookup x=some .local:=by first | exact .inl rfl | exact .inr rfl | assumption):wpAny M A (storeName X.env x u) Q E s:=by
  obtain ⟨m,hn,hl⟩:=id I.loc
  have hcls:(X.env.scope.kind == .class||(X.env.scope.kind == .module&&X.env.locals != X.env.globals))=false:=by rw [I.ok.kind];rfl
  have hiσ:i < σ.length:=by rw [I.len];exact (List.getElem?_eq_some_iff.mp hi).1
  have cne:=I.cne
  have tracked:∀ {a:Addr} {h':Heap},(∃ o,s.heap.get? a=some o∧H a=none)→Heap.SameBut a s.heap h'→HOk X.prog X.w H h':=fun {a h'} ha hs b ob e=>by
    obtain ⟨_,_,hfree⟩:=ha
    refine (I.hok b ob e).stay (fun c w' hc q=>(hs.2 c ?_).trans q) (fun _ q=>q) fun _ _ q=>q
    rintro rfl
    rcases hc with rfl | hc
    · rw [hfree] at e;cases e
    · rw [hfree] at hc;cases hc
  rcases hx with hk | hk
  · refine wpAny_storeName_local hk hn (fun h' hn' hs=>?_) hcls
    obtain ⟨oL,_,_,hoL,_⟩:=id hn
    refine h _ ⟨I.ok,I.os,I.bare,⟨fun b o e n hb hx=>?_,fun b o e n hb hx=>?_,I.base.free,fun b o e hx=>?_,I.base.tups,I.base.frzs,I.base.tbls⟩,⟨_,hn',fun j y v' e1 e2 e3=>?_⟩,fun y c e=>?_,I.free,I.freeC,fun p hp=>?_,tracked ⟨oL,hoL,I.free⟩ hs,by simpa using I.len⟩ ⟨_,hs,.inl rfl⟩
    · exact (hs.2 b (Nat.ne_of_lt (Nat.lt_of_lt_of_le (Heap.lt_size e) I.ok.above))).trans (I.base.keep b o e n hb hx)
    · obtain ⟨sl,e1⟩:=I.base.slot b o e n hb hx
      exact ⟨sl,(hs.2 b (Nat.ne_of_lt (Nat.lt_of_lt_of_le (Heap.lt_size e) I.ok.above))).trans e1⟩
    · obtain ⟨o',e1⟩:=I.base.there b o e hx
      exact ⟨o',(hs.2 b (Nat.ne_of_lt (Nat.lt_of_lt_of_le (Heap.lt_size e) I.ok.above))).trans e1⟩
    · by_cases hj:j=i
      · subst hj
        rw [hi] at e1;cases e1
        rw [List.getElem?_set_self hiσ] at e2
        cases e2
        exact ⟨u,r,.inl ⟨hk,by simp⟩⟩
      · rw [List.getElem?_set_ne (Ne.symm hj)] at e2
        obtain ⟨u',r',q⟩:=hl j y v' e1 e2 e3
        refine ⟨u',r',?_⟩
        rcases q with ⟨k,e⟩ | ⟨k,c,e,z⟩
        · refine .inl ⟨k,?_⟩
          have:y≠x:=fun e=>hj (WS hN e1 (e ▸ hi))
          simp [this,e]
        · exact .inr ⟨k,c,e,z.sameBut hs (cne y c e)⟩
    · obtain ⟨w',z⟩:=I.cell y c e
      exact ⟨w',z.sameBut hs (cne y c e)⟩
    · obtain ⟨e,n,ne,nf,d⟩:=I.pin p hp
      exact ⟨(hs.2 p.1 ne).trans e,n,ne,nf,d⟩
  · have hfn:X.fn x=true:=by
      rcases hf with z | z
      · exact z
      · rw [z] at hk;cases hk
    obtain ⟨c,hc⟩:=I.ok.has x (.inl hk)
    obtain ⟨w',z⟩:=I.cell x c hc
    refine wpAny_storeName_cell I.ok.kind hk hc z (fun h' hc' hs=>?_)
    obtain ⟨oc,hoc,hocd⟩:=id z
    refine h { s with heap:=h' } ⟨I.ok,I.os,I.bare,⟨fun b o e n hb hx=>?_,fun b o e n hb hx=>?_,I.base.free,fun b o e hx=>?_,I.base.tups,I.base.frzs,I.base.tbls⟩,⟨m,hn.sameBut hs (Ne.symm (cne x c hc)),fun j y v' e1 e2 e3=>?_⟩,fun y c' e=>?_,I.free,I.freeC,fun p hp=>?_,tracked ⟨oc,hoc,I.freeC x c hc⟩ hs,by simpa using I.len⟩ ⟨c,hs,.inr hc⟩
    · exact (hs.2 b (Nat.ne_of_lt (Nat.lt_of_lt_of_le (Heap.lt_size e) (I.ok.cab x c hfn hc)))).trans (I.base.keep b o e n hb hx)
    · obtain ⟨sl,e1⟩:=I.base.slot b o e n hb hx
      exact ⟨sl,(hs.2 b (Nat.ne_of_lt (Nat.lt_of_lt_of_le (Heap.lt_size e) (I.ok.cab x c hfn hc)))).trans e1⟩
    · obtain ⟨o',e1⟩:=I.base.there b o e hx
      exact ⟨o',(hs.2 b (Nat.ne_of_lt (Nat.lt_of_lt_of_le (Heap.lt_size e) (I.ok.cab x c hfn hc)))).trans e1⟩
    · by_cases hj:j=i
      · subst hj
        rw [hi] at e1;cases e1
        rw [List.getElem?_set_self hiσ] at e2
        cases e2
        exact ⟨u,r,.inr ⟨.inl hk,c,hc,hc'⟩⟩
      · rw [List.getElem?_set_ne (Ne.symm hj)] at e2
        obtain ⟨u',r',q⟩:=hl j y v' e1 e2 e3
        refine ⟨u',r',?_⟩
        rcases q with q | ⟨k,c',e,z'⟩
        · exact .inl q
        · refine .inr ⟨k,c',e,z'.sameBut hs ?_⟩
          rintro rfl
          exact hj (WS hN e1 (I.ok.inj _ _ _ e hc ▸ hi))
    · by_cases hcc:c'=c
      · subst hcc;exact ⟨_,hc'⟩
      · obtain ⟨w2,z2⟩:=I.cell y c' e
        exact ⟨w2,z2.sameBut hs hcc⟩
    · obtain ⟨e,n,ne,nf,d⟩:=I.pin p hp
      refine ⟨(hs.2 p.1 ?_).trans e,n,ne,nf,d⟩
      intro q
      rw [q,hoc] at e
      have q':oc=p.2:=Option.some.inj e
      exact d w' (by rw [←q'];exact hocd)
theorem Wz {M:Model}{A:Around}{E:Value→Shared→Prop}{i:Nat}{x:Str}{v:V}{u:Value}{Q:Unit→Shared→Prop}(I:Inv X pins σ H s)(hN:X.N.Nodup)(hi:X.N[i]?=some x)(hx:Loc X.env.scope x)(r:xS v u)
    (h:∀ s',Inv X pins (σ.set i (some v)) H s'→Q () s') (hf:X.fn x=true∨X.env.scope.names.lookup x=some .local:=by first | exact .inl rfl | exact .inr rfl | assumption):wpAny M A (storeName X.env x u) Q E s :=
  zdN I hN hi hx r (fun s' I' _=>h s' I') hf
theorem Inv.call' {s':Shared}{ch:List Addr}(I:Inv X pins σ H s)(ho:s'.os=s.os)(u:Un (frs X.stack) ch H H' s.heap s'.heap)(hok:HOk X.prog X.w H' s'.heap)(hg:AllBare s'.gens)
    (hch:∀ b∈ch,(b∈X.ex∨X.s₀.heap.objs.size≤b)∧b≠X.env.locals∧(∀ x c,X.env.cells.lookup x=some c→c≠b)∧∀ p∈X.pn++pins,p.1≠b):Inv X pins σ H' s':=by
  obtain ⟨h',g',d',t',o'⟩:=s'
  have e:o'=s.os:=ho
  subst e
  exact I.call (g':=g') (t':=t') (d':=d') u hok hg hch
end
noncomputable abbrev XK:=Value→Option Addr→Hp→Prop
noncomputable abbrev St:=List (Option V)
noncomputable abbrev VK:=V→Hp→Prop
noncomputable abbrev TE:=St→Hp→VK→Prop
noncomputable abbrev TT:=St→Hp→(Bool→Hp→Prop)→Prop
noncomputable abbrev TA:=St→Hp→(List V→Hp→Prop)→Prop
structure Wh where
  nx:St→Hp→Prop
  rt:VK
  bk:St→Hp→Prop:=fun _ _=>False
  ct:St→Hp→Prop:=fun _ _=>False
noncomputable abbrev TS:=Wh→St→Hp→Prop
noncomputable def EP (X:Cx)(pins:List (Addr × Obj))(σ:St)(Q:VK)(u:Value)(s':Shared):Prop:=∃ v H',Inv X pins σ H' s'∧xS v u∧Q v H'
noncomputable def TP (X:Cx)(pins:List (Addr × Obj))(σ:St)(Q:Bool→Hp→Prop)(b:Bool)(s':Shared):Prop:=∃ H',Inv X pins σ H' s'∧Q b H'
noncomputable def AP (X:Cx)(pins:List (Addr × Obj))(σ:St)(Q:List V→Hp→Prop)(us:List Value)(s':Shared):Prop:=∃ vs H',Inv X pins σ H' s'∧yP vs us∧Q vs H'
noncomputable def SP (X:Cx)(pins:List (Addr × Obj))(D:Wh)(f:Flow)(s':Shared):Prop :=
  match f with
  | .next=>∃ σ' H',Inv X pins σ' H' s'∧D.nx σ' H'
  | .brk=>∃ σ' H',Inv X pins σ' H' s'∧D.bk σ' H'
  | .cont=>∃ σ' H',Inv X pins σ' H' s'∧D.ct σ' H'
  | .ret u=>∃ v σ' H',Inv X pins σ' H' s'∧xS v u∧D.rt v H'
noncomputable def PE (X:Cx)(e:Expr)(t:TE):Prop :=
  ∀ (pins:List (Addr × Obj)) (s:Shared) (σ:St) (H:Hp) (Q:VK),Inv X pins σ H s→t σ H Q→wpAny (model X.prog X.w) X.A (eval e X.env) (EP X pins σ Q) X.xe s
noncomputable def PT (X:Cx)(e:Expr)(t:TT):Prop :=
  ∀ (pins:List (Addr × Obj)) (s:Shared) (σ:St) (H:Hp) (Q:Bool→Hp→Prop),Inv X pins σ H s→t σ H Q→wpAny (model X.prog X.w) X.A (isTrue e X.env (eval e X.env)) (TP X pins σ Q) X.xe s
noncomputable def PW (X:Cx)(e:Expr)(t:TT):Prop :=
  ∀ (whole:Sem Value) (pins:List (Addr × Obj)) (s:Shared) (σ:St) (H:Hp) (Q:Bool→Hp→Prop),Inv X pins σ H s→t σ H Q→wpAny (model X.prog X.w) X.A (isTrue e X.env whole) (TP X pins σ Q) X.xe s
theorem PW.pt {X:Cx}{e:Expr}{t:TT}(h:PW X e t):PT X e t:=h _
noncomputable def PA (X:Cx)(es:List Expr)(t:TA):Prop :=
  ∀ (pos:Pos) (pins:List (Addr × Obj)) (s:Shared) (σ:St) (H:Hp) (Q:List V→Hp→Prop),Inv X pins σ H s→t σ H Q→wpAny (model X.prog X.w) X.A (spliced (backTo pos (starEach es X.env))) (AP X pins σ Q) X.xe s
noncomputable def PS (X:Cx)(st:Stmt)(t:TS):Prop :=
  ∀ (pins:List (Addr × Obj)) (s:Shared) (σ:St) (H:Hp) (D:Wh),Inv X pins σ H s→t D σ H→wpAny (model X.prog X.w) X.A (exec st X.env) (SP X pins D) X.xe s
noncomputable def PSs (X:Cx)(st:List Stmt)(t:TS):Prop :=
  ∀ (pins:List (Addr × Obj)) (s:Shared) (σ:St) (H:Hp) (D:Wh),Inv X pins σ H s→t D σ H→wpAny (model X.prog X.w) X.A (execs st X.env) (SP X pins D) X.xe s
theorem thn {α:Type}{t:Sem α}{Q Q':α→Shared→Prop}{M:Model}{A:Around}{E:Value→Shared→Prop}{s:Shared}(h:wpAny M A t Q E s)(hQ:∀ a s,Q a s→Q' a s):wpAny M A t Q' E s:=wpAny_mono h hQ fun _ _ x=>x
end L2
namespace L2
open PySem PySem.Spec PyProof.Rows
section
variable {X:Cx}
theorem bin {a b:Expr}{ta tb:TE}(ha:PE X a ta)(hb:PE X b tb){pins:List (Addr × Obj)}{s:Shared}{σ:St}{H:Hp}{R:V→V→Hp→Prop}(I:Inv X pins σ H s)(h:ta σ H fun x H1=>tb σ H1 fun y H2=>R x y H2)
    {α:Type} {Q:α→Shared→Prop} {f:Value→Value→Sem α}
    (hf:∀ v u s2 x y H2,Inv X pins σ H2 s2→xS x v→xS y u→R x y H2→wpAny (model X.prog X.w) X.A (f v u) Q X.xe s2) :
    wpAny (model X.prog X.w) X.A (eval a X.env) (fun v s₁=>wpAny (model X.prog X.w) X.A (eval b X.env) (fun u s₂=>wpAny (model X.prog X.w) X.A (f v u) Q X.xe s₂) X.xe s₁) X.xe s:=by
  refine thn (ha pins s σ H _ I h) fun v s1 hh9=>?_
  obtain ⟨x,H1,I1,r1,q1⟩:=hh9
  refine thn (hb pins s1 σ H1 _ I1 q1) fun u s2 hh9=>?_
  obtain ⟨y,H2,I2,r2,q2⟩:=hh9
  exact hf v u s2 x y H2 I2 r1 r2 q2
noncomputable def WM (i:Nat):TE:=fun σ H Q=>∃ v,σ[i]?=some (some v)∧Q v H
noncomputable def tC (v:V):TE:=fun _ H Q=>Q v H
theorem zhI {i:Nat} {x:Str} {pos:Pos} (hN:X.N[i]?=some x) (hv:Vis X.env.scope x) (hd:(x == ("__debug__":Str))=false:=by decide) (hcd:(x == ("__classdict__":Str))=false:=by decide):PE X (.Name x pos) (WM i):=by
  intro pins s σ H Q I h
  obtain ⟨v,e,h⟩:=h
  obtain ⟨m,hn,hl⟩:=I.loc
  obtain ⟨u,r,l⟩:=hl i x v hN e hv
  have fin:EP X pins σ Q u s:=⟨v,H,I,r,h⟩
  rcases l with ⟨hk,hm⟩ | ⟨hk,c,hc,hcell⟩
  · exact wpAny_Name (wpAny_loadName_local I.ok.kind hk hn hm fin) hd
  · rcases hk with hk | hk
    · exact wpAny_Name (wpAny_loadName_cell I.ok.kind hk hc hcell fin) hd
    · exact wpAny_Name (wpAny_loadName_free I.ok.kind hk hc hcell fin hcd) hd
theorem zg {i j pos}:PE X (.Constant (.int i) j pos) (tC (.int i)):=fun _ _ _ H _ I h=>wpAny_Constant_int ⟨.int i,H,I.tok _,⟨_,rfl⟩,h⟩
theorem vM {b j pos}:PE X (.Constant (.bool b) j pos) (tC (.bl b)):=fun _ _ _ H _ I h=>Constant_bool ⟨.bl b,H,I,rfl,h⟩
theorem ZU {j pos}:PE X (.Constant .none j pos) (tC .non):=fun _ _ _ H _ I h=>Constant_none ⟨.non,H,I,rfl,h⟩
theorem Ww {x j pos}:PE X (.Constant (.str x) j pos) (tC (.str x)):=fun _ _ _ H _ I h=>Calls.Constant_str ⟨.str x,H,I.tok _,⟨_,rfl⟩,h⟩
noncomputable def Gl (X:Cx)(x:Str):Prop:=X.env.kindOf x=some .globalImplicit
theorem Xz {E:Value→Shared→Prop}{pins:List (Addr × Obj)}{s:Shared}{σ:St}{H:Hp}{x:Str}{u:Value}{pos:Pos}{Q:Value→Shared→Prop}(I:Inv X pins σ H s)(hg:Gl X x)(hm:X.mg x=some u)(h:Q u s)
    (hd:(x == ("__debug__":Str))=false:=by decide):wpAny (model X.prog X.w) X.A (eval (.Name x pos) X.env) Q E s :=
  Calls.Name_function_global I.ok.kind hg (Calls.loadGlobal_global (by rw [I.ok.glob];exact I.mod.glob.keeps I.bk) hm h) hd
theorem XV {E:Value→Shared→Prop}{pins:List (Addr × Obj)}{s:Shared}{σ:St}{H:Hp}{x:Str}{u:Value}{pos:Pos}{Q:Value→Shared→Prop}(I:Inv X pins σ H s)(hg:Gl X x)(hm:X.mg x=none)(hv:bootBuiltins x=some u)(h:Q u s)
    (hn:x≠"__name__":=by decide) (hd:(x == ("__debug__":Str))=false:=by decide):wpAny (model X.prog X.w) X.A (eval (.Name x pos) X.env) Q E s:=by
  obtain ⟨mb,h1,h2⟩:=I.mod.blt
  exact Calls.Name_function_global I.ok.kind hg (Calls.loadGlobal_builtin (by rw [I.ok.glob];exact I.mod.glob.keeps I.bk) hm (by rw [I.ok.blt];exact h1.keeps I.bk) ((h2 x hn).trans hv) h) hd
theorem xw {x:Str} {v:V} {u:Value} {pos:Pos} (hg:Gl X x) (hm:X.mg x=some u) (r:xS v u) (hd:(x == ("__debug__":Str))=false:=by decide):PE X (.Name x pos) (tC v) :=
  fun _ _ _ H _ I h=>Xz I hg hm ⟨v,H,I,r,h⟩ hd
theorem yN {x:Str} {v:V} {u:Value} {pos:Pos} (hg:Gl X x) (hm:X.mg x=none) (hv:bootBuiltins x=some u) (r:xS v u) (hn:x≠"__name__":=by decide) (hd:(x == ("__debug__":Str))=false:=by decide):PE X (.Name x pos) (tC v) :=
  fun _ _ _ H _ I h=>XV I hg hm hv ⟨v,H,I,r,h⟩ hn hd
variable {a b:Expr}{ta tb:TE}{pos:Pos}
noncomputable def PC (X:Cx)(op:CmpOp)(a b:Expr)(t:TE):Prop :=
  ∀ (pins:List (Addr × Obj)) (s:Shared) (σ:St) (H:Hp) (Q:VK),Inv X pins σ H s→t σ H Q →
    wpAny (model X.prog X.w) X.A (eval a X.env) (fun v s₁=>wpAny (model X.prog X.w) X.A (eval b X.env) (fun u s₂=>wpAny (model X.prog X.w) X.A (compareOp op v u) (EP X pins σ Q) X.xe s₂) X.xe s₁) X.xe s
theorem zfa (b:Expr){op:CmpOp}(h:op≠.In)(h2:op≠.NotIn):behindInMarks op b=false:=by
  have e1:(op == CmpOp.In)=false:=by cases op <;> first | rfl | exact absurd rfl h
  have e2:(op == CmpOp.NotIn)=false:=by cases op <;> first | rfl | exact absurd rfl h2
  cases b <;> simp [behindInMarks,e1,e2]
noncomputable def tB (t:TE):TT:=fun σ H Q=>t σ H fun x H1=>∃ c,x=.bl c∧Q c H1
theorem pt_cmp {op:CmpOp}{t:TE}(h:PC X op a b t)(h1:behindInMarks op b=false:=by first | exact zfa _ (by decide) (by decide) | rfl):PT X (.Compare a [op] [b] pos) (tB t):=by
  intro pins s σ H Q I hw
  refine wpAny_isTrue_Compare1 (thn (h pins s σ H _ I hw) fun v s1 h1=>thn h1 fun u s2 h2=>thn h2 fun c s3 hh9=>?_) h1
  obtain ⟨x,H1,I1,r1,q1⟩:=hh9
  obtain ⟨d,rfl,q⟩:=q1
  cases r1
  exact wpAny_truthy_bool ⟨H1,I1,q⟩
theorem zfW {e:Expr}{t:TE}(h:PE X e t)(he:∀ whole,isTrue e X.env whole=(do let v←whole;standAt e.pos;holding [v] (truthy v)):=by intro _;rfl):PT X e (tB t):=by
  intro pins s σ H Q I hw
  refine isTrue_plain (thn (h pins s σ H _ I hw) fun v s1 hh9=>?_) (he _)
  obtain ⟨x,H1,I1,r1,q1⟩:=hh9
  obtain ⟨d,rfl,q⟩:=q1
  cases r1
  exact wpAny_truthy_bool ⟨H1,I1,q⟩
variable {tA tB':TT}{rest:List Expr}
noncomputable def tAnd (t u:TT):TT:=fun σ H Q=>t σ H fun c H1=>if c=true then u σ H1 Q else Q false H1
noncomputable def tOr (t u:TT):TT:=fun σ H Q=>t σ H fun c H1=>if c=true then Q true H1 else u σ H1 Q
noncomputable def tNot (t:TT):TT:=fun σ H Q=>t σ H fun c H1=>Q (!c) H1
theorem zgM (ha:PT X a tA):PW X (.BoolOp .And [a] pos) tA:=by
  intro wh pins s σ H Q I h
  refine isTrue_and (thn (ha pins s σ H Q I h) fun c s1 e=>?_)
  cases c with
  | true=>exact isTrue_and_nil e
  | false=>exact e
theorem zgc (ha:PT X a tA):PW X (.BoolOp .Or [a] pos) tA:=by
  intro wh pins s σ H Q I h
  refine isTrue_or (thn (ha pins s σ H Q I h) fun c s1 e=>?_)
  cases c with
  | false=>exact isTrue_or_nil e
  | true=>exact e
theorem zhX (ha:PT X a tA)(hb:PW X (.BoolOp .And (b::rest) pos) tB'):PW X (.BoolOp .And (a::b::rest) pos) (tAnd tA tB'):=by
  intro wh pins s σ H Q I h
  refine isTrue_and (thn (ha pins s σ H _ I h) fun c s1 hh9=>?_)
  obtain ⟨H1,I1,q1⟩:=hh9
  cases c with
  | true=>exact hb wh pins s1 σ H1 Q I1 q1
  | false=>exact ⟨H1,I1,q1⟩
theorem zii (ha:PT X a tA)(hb:PW X (.BoolOp .Or (b::rest) pos) tB'):PW X (.BoolOp .Or (a::b::rest) pos) (tOr tA tB'):=by
  intro wh pins s σ H Q I h
  refine isTrue_or (thn (ha pins s σ H _ I h) fun c s1 hh9=>?_)
  obtain ⟨H1,I1,q1⟩:=hh9
  cases c with
  | true=>exact ⟨H1,I1,q1⟩
  | false=>exact hb wh pins s1 σ H1 Q I1 q1
theorem zfO (ha:PT X a tA):PT X (.UnaryOp .Not a pos) (tNot tA):=by
  intro pins s σ H Q I h
  exact isTrue_not (ha pins s σ H (fun c H1=>Q (!c) H1) I h)
noncomputable def zjS (ta tb:TE):TE:=fun σ H Q=>ta σ H fun x H1=>∃ c,x=.bl c∧if c=true then tb σ H1 Q else Q (.bl false) H1
noncomputable def zj3 (ta:TE):TE:=fun σ H Q=>ta σ H fun x H1=>∃ c,x=.bl c∧Q (.bl (!c)) H1
theorem zjh {op}{t:TE}(h:PE X a t):PE X (.BoolOp op [a] pos) t:=fun pins s σ H Q I hw=>BoolOp_one (h pins s σ H Q I hw)
theorem zic (ha:PE X a ta)(hb:PE X (.BoolOp .And (b::rest) pos) tb):PE X (.BoolOp .And (a::b::rest) pos) (zjS ta tb):=by
  intro pins s σ H Q I h
  refine BoolOp_and (thn (ha pins s σ H _ I h) fun v s1 hh9=>?_)
  obtain ⟨x,H1,I1,r1,q1⟩:=hh9
  obtain ⟨c,rfl,q1⟩:=q1
  cases r1
  refine wpAny_truthy_bool ?_
  cases c with
  | true=>exact hb pins s1 σ H1 Q I1 q1
  | false=>exact ⟨.bl false,H1,I1,rfl,q1⟩
theorem ziJ (ha:PE X a ta):PE X (.UnaryOp .Not a pos) (zj3 ta):=by
  intro pins s σ H Q I h
  refine UnaryOp_ (thn (ha pins s σ H _ I h) fun v s1 hh9=>?_)
  obtain ⟨x,H1,I1,r1,q1⟩:=hh9
  obtain ⟨c,rfl,q1⟩:=q1
  cases r1
  exact not_of (wpAny_truthy_bool ⟨.bl (!c),H1,I1,rfl,q1⟩)
noncomputable def tIf (t:TT)(ta tb:TE):TE:=fun σ H Q=>t σ H fun c H1=>if c=true then ta σ H1 Q else tb σ H1 Q
theorem zew {c:Expr}(hc:PT X c tA)(ha:PE X a ta)(hb:PE X b tb):PE X (.IfExp c a b pos) (tIf tA ta tb):=by
  intro pins s σ H Q I h
  refine wpAny_IfExp (thn (hc pins s σ H _ I h) fun d s1 hh9=>?_)
  obtain ⟨H1,I1,q1⟩:=hh9
  cases d with
  | true=>exact ha pins s1 σ H1 Q I1 q1
  | false=>exact hb pins s1 σ H1 Q I1 q1
end
end L2
namespace L2
open PySem PySem.Spec PyProof.Rows
noncomputable def SqL (K:PySem.W.Frag)(H:Hp)(a:Addr)(xs:List V):Prop :=
  Rd H a (.lst xs) ∨
    ∃ (o:Obj) (its:Array Value) (n:Nat),K.lookup a=some o∧o.cls=.type "list"∧o.dict=none∧o.data=.seq its n∧its.size≤sizeLine∧yP xs its.toList
noncomputable def SqT (K:PySem.W.Frag)(H:Hp)(a:Addr)(xs:List V):Prop :=
  Rd H a (.tup xs) ∨
    ∃ (o:Obj) (its:Array Value) (n:Nat),K.lookup a=some o∧o.cls=.type "tuple"∧o.data=.seq its n∧its.size≤sizeLine∧yP xs its.toList
noncomputable def absV:Value→Option V
  | .none=>some .non
  | .bool b=>some (.bl b)
  | .int i _=>some (.int i)
  | .str x _=>some (.str x)
  | .bytes b _=>some (.byt b)
  | .float b _=>some (.flt b)
  | .ref a=>some (.ref a)
  | .type n=>some (.ty n)
  | _=>none
theorem xS.abs {x:V}{u:Value}(r:xS x u):absV u=some x:=by
  cases x with
  | non=>cases r;rfl
  | bl _=>cases r;rfl
  | int _=>obtain ⟨t,rfl⟩:=r;rfl
  | str _=>obtain ⟨t,rfl⟩:=r;rfl
  | byt _=>obtain ⟨t,rfl⟩:=r;rfl
  | flt _=>obtain ⟨t,rfl⟩:=r;rfl
  | ref _=>cases r;rfl
  | ty _=>cases r;rfl
theorem xS.inj {x y:V}{u:Value}(r:xS x u)(q:xS y u):x=y:=Option.some.inj (r.abs.symm.trans q.abs)
theorem yP.inj:∀ {xs ys:List V} {us:List Value},yP xs us→yP ys us→xs=ys:=by
  intro xs ys us h
  induction h generalizing ys with
  | nil=>intro h2;cases h2;rfl
  | cons r t ih=>intro h2;cases h2 with | cons r' t'=>rw [r.inj r',ih t']
section
variable {X:Cx}{pins:List (Addr × Obj)}{σ:St}{H:Hp}{s:Shared}{a:Addr}{xs ys:List V}
theorem SqL.of {K:PySem.W.Frag}(h:H a=some (.lst xs)):SqL K H a xs:=.inl (.inl h)
theorem SqT.of {K:PySem.W.Frag}(h:H a=some (.tup xs)):SqT K H a xs:=.inl (.inl h)
theorem Inv.list (I:Inv X pins σ H s)(h:SqL X.K H a xs):∃ its:List Value,yP xs its∧PlainL s.heap a its.toArray∧xs.length≤sizeLine:=by
  rcases h with h | ⟨o,its,n,hk,hc,hd,hs,hz,r⟩
  · obtain ⟨z,its,n,r,e⟩:=h.ok I.hok
    exact ⟨its,r,⟨_,n,e,rfl,rfl,rfl⟩,z⟩
  · refine ⟨its.toList,r,⟨o,n,I.kIn a o hk,hc,hd,by simpa using hs⟩,?_⟩
    have e:=r.length
    simp only [Array.length_toList] at e
    omega
theorem Inv.tuple (I:Inv X pins σ H s)(h:SqT X.K H a xs):∃ its:List Value,yP xs its∧IsTup s.heap a its.toArray∧xs.length≤sizeLine:=by
  rcases h with h | ⟨o,its,n,hk,hc,hs,hz,r⟩
  · obtain ⟨z,its,r,p⟩:=h.ok I.hok
    exact ⟨its,r,p,z⟩
  · refine ⟨its.toList,r,⟨o,I.kIn a o hk,hc,n,by simpa using hs⟩,?_⟩
    have e:=r.length
    simp only [Array.length_toList] at e
    omega
theorem Inv.list_inj (I:Inv X pins σ H s)(h:SqL X.K H a xs)(h':SqL X.K H a ys):xs=ys:=by
  obtain ⟨its,r,⟨o,n,e,_,_,d⟩,_⟩:=I.list h
  obtain ⟨its',r',⟨o',n',e',_,_,d'⟩,_⟩:=I.list h'
  rw [e] at e';cases e'
  rw [d] at d'
  injection d' with d1 _
  have:its=its':=by simpa using congrArg Array.toList d1
  subst this
  exact r.inj r'
theorem Inv.tuple_inj (I:Inv X pins σ H s)(h:SqT X.K H a xs)(h':SqT X.K H a ys):xs=ys:=by
  obtain ⟨its,r,⟨o,e,_,n,d⟩,_⟩:=I.tuple h
  obtain ⟨its',r',⟨o',e',_,n',d'⟩,_⟩:=I.tuple h'
  rw [e] at e';cases e'
  rw [d] at d'
  injection d' with d1 _
  have:its=its':=by simpa using congrArg Array.toList d1
  subst this
  exact r.inj r'
end
noncomputable abbrev Cx.wish (X:Cx)(E:Value→Shared→Prop):Cx:={ X with xe:=E }
noncomputable abbrev Cx.nox (X:Cx):Cx:=X.wish fun _ _=>False
theorem Cx.Ok.wish {X:Cx}(ok:X.Ok)(E:Value→Shared→Prop):(X.wish E).Ok :=
  ⟨ok.mod,ok.kind,ok.glob,ok.blt,ok.above,ok.inj,ok.has,ok.cab,ok.hd,ok.frames,ok.stk,ok.exf,ok.bs,ok.bsz,ok.noex,ok.exfs,ok.funs,ok.frf⟩
theorem Cx.Ok.unwish {X:Cx}{E:Value→Shared→Prop}(ok:(X.wish E).Ok):X.Ok :=
  ⟨ok.mod,ok.kind,ok.glob,ok.blt,ok.above,ok.inj,ok.has,ok.cab,ok.hd,ok.frames,ok.stk,ok.exf,ok.bs,ok.bsz,ok.noex,ok.exfs,ok.funs,ok.frf⟩
section
variable {X:Cx}{pins:List (Addr × Obj)}{σ:St}{H:Hp}{s:Shared}{E:Value→Shared→Prop}
theorem Inv.wish (I:Inv X pins σ H s)(E:Value→Shared→Prop):Inv (X.wish E) pins σ H s:=⟨I.ok.wish E,I.os,I.bare,I.base,I.loc,I.cell,I.free,I.freeC,I.pin,I.hok,I.len⟩
theorem Inv.unwish (I:Inv (X.wish E) pins σ H s):Inv X pins σ H s:=⟨I.ok.unwish,I.os,I.bare,I.base,I.loc,I.cell,I.free,I.freeC,I.pin,I.hok,I.len⟩
theorem SP.unwish {D:Wh}{f:Flow}{s':Shared}(h:SP (X.wish E) pins D f s'):SP X pins D f s':=by
  cases f with
  | next=>obtain ⟨σ',H',I,q⟩:=h;exact ⟨σ',H',I.unwish,q⟩
  | brk=>obtain ⟨σ',H',I,q⟩:=h;exact ⟨σ',H',I.unwish,q⟩
  | cont=>obtain ⟨σ',H',I,q⟩:=h;exact ⟨σ',H',I.unwish,q⟩
  | ret u=>obtain ⟨v,σ',H',I,r,q⟩:=h;exact ⟨v,σ',H',I.unwish,r,q⟩
theorem PSs.nox {st:List Stmt}{t:TS}(h:PSs X.nox st t):PSs X st t:=fun pins s σ H D I hw =>
  wpAny_mono (h pins s σ H D (I.wish _) hw) (fun _ _ q=>q.unwish) fun _ _ z=>False.elim z
end
section
variable {X:Cx}{st:Stmt}{rest:List Stmt}{t u:TS}{e:Expr}{te:TE}{pos:Pos}
noncomputable def zeC:TS:=fun D σ H=>D.nx σ H
noncomputable def zj5 (t u:TS):TS:=fun D σ H=>t { D with nx:=u D } σ H
theorem Xs:PSs X [] zeC:=fun _ _ σ H _ I h=>wpAny_execs_nil ⟨σ,H,I,h⟩
theorem yZ (h1:PS X st t)(h2:PSs X rest u):PSs X (st::rest) (zj5 t u):=by
  intro pins s σ H D I h
  refine wpAny_execs_cons (thn (h1 pins s σ H { D with nx:=u D } I h) fun f s1 q=>?_)
  cases f with
  | next =>
    obtain ⟨σ',H',I',q⟩:=q
    exact h2 pins s1 σ' H' D I' q
  | ret v=>exact q
  | brk=>exact q
  | cont=>exact q
theorem vI (h1:PS X st t):PSs X [st] t:=by
  intro pins s σ H D I h
  refine wpAny_execs_cons (thn (h1 pins s σ H D I h) fun f s1 q=>?_)
  cases f with
  | next=>exact wpAny_execs_nil q
  | ret v=>exact q
  | brk=>exact q
  | cont=>exact q
theorem Inv.quiet {pins:List (Addr × Obj)}{σ:St}{H:Hp}{s:Shared}(I:Inv X pins σ H s):interactive X.env=false:=by simp [interactive,I.ok.kind]
noncomputable def zj6 (te:TE):TS:=fun D σ H=>te σ H fun _ H1=>D.nx σ H1
theorem zaK (he:PE X e te)(hs:swapsWith e none pos.line X.env=pure false:=by rfl):PS X (.Expr e pos) (zj6 te):=by
  intro pins s σ H D I h
  exact wpAny_Expr_any (thn (he pins s σ H _ I h) fun v s1 ⟨x,H1,I1,r1,q1⟩=>⟨σ,H1,I1,q1⟩) I.quiet hs
noncomputable def zjj (te:TE):TS:=fun D σ H=>te σ H D.rt
theorem ZX (he:PE X e te):PS X (.Return (some e) pos) (zjj te):=by
  intro pins s σ H D I h
  exact wpAny_Return_some (thn (he pins s σ H _ I h) fun v s1 ⟨x,H1,I1,r1,q1⟩=>⟨x,σ,H1,I1,r1,q1⟩)
noncomputable def zjs (c:TT)(t u:TS):TS:=fun D σ H=>c σ H fun b H1=>if b=true then t D σ H1 else u D σ H1
theorem zbS {c:Expr}{a b:List Stmt}{tc:TT}(hc:PT X c tc)(ha:PSs X a t)(hb:PSs X b u):PS X (.If c a b pos) (zjs tc t u):=by
  intro pins s σ H D I h
  refine wpAny_If (thn (hc pins s σ H _ I h) fun d s1 hh9=>?_)
  obtain ⟨H1,I1,q1⟩:=hh9
  cases d with
  | true=>exact ha pins s1 σ H1 D I1 q1
  | false=>exact hb pins s1 σ H1 D I1 q1
noncomputable def zh5:TS:=fun _ _ _=>False
theorem za2:PS X st zh5:=fun _ _ _ _ _ _ h=>h.elim
end
noncomputable abbrev TG:=V→St→Hp→(St→Hp→Prop)→Prop
noncomputable abbrev TGs:=List V→St→Hp→(St→Hp→Prop)→Prop
noncomputable def PG (X:Cx)(target:Expr)(t:TG):Prop :=
  ∀ (pins:List (Addr × Obj)) (s:Shared) (σ:St) (H:Hp) (v:V) (u:Value) (Q:St→Hp→Prop),Inv X pins σ H s→xS v u→t v σ H Q →
    wpAny (model X.prog X.w) X.A (assign target X.env u) (fun _ s'=>∃ σ' H',Inv X pins σ' H' s'∧Q σ' H') X.xe s
noncomputable def PGs (X:Cx)(ts:List Expr)(t:TGs):Prop :=
  ∀ (pins:List (Addr × Obj)) (s:Shared) (σ:St) (H:Hp) (vs:List V) (us:List Value) (Q:St→Hp→Prop),Inv X pins σ H s→yP vs us→t vs σ H Q →
    wpAny (model X.prog X.w) X.A (assignInOrder ((assignEach ts X.env).map (·.2)) us) (fun _ s'=>∃ σ' H',Inv X pins σ' H' s'∧Q σ' H') X.xe s
noncomputable abbrev zkd:=V→V→V→Hp→(Hp→Prop)→Prop
noncomputable def PSet (X:Cx)(t:zkd):Prop :=
  ∀ (pins:List (Addr × Obj)) (s:Shared) (σ:St) (H:Hp) (o i v:V) (ov iv u:Value) (Q:Hp→Prop),Inv X pins σ H s→xS o ov→xS i iv→xS v u→t o i v H Q →
    wpAny (model X.prog X.w) X.A (setItem ov iv u) (fun _ s'=>∃ H',Inv X pins σ H' s'∧Q H') X.xe s
section
variable {X:Cx}{pos:Pos}
noncomputable def vL (i:Nat):TG:=fun v σ H Q=>Q (σ.set i (some v)) H
theorem zX {i:Nat}{x:Str}(hN:X.N.Nodup)(hi:X.N[i]?=some x)(hx:Loc X.env.scope x)(hf:X.fn x=true∨X.env.scope.names.lookup x=some .local:=by first | exact .inl rfl | exact .inr rfl | assumption):PG X (.Name x pos) (vL i):=by
  intro pins s σ H v u Q I r h
  exact wpAny_assign_Name (Wz I hN hi hx r (fun s' I'=>⟨_,H,I',h⟩) hf)
noncomputable def zjm:TGs:=fun vs σ H Q=>vs=[]∧Q σ H
noncomputable def zab (t:TG)(u:TGs):TGs:=fun vs σ H Q=>∃ v r,vs=v::r∧t v σ H fun σ' H'=>u r σ' H' Q
theorem zaS:PGs X [] zjm:=by
  intro pins s σ H vs us Q I r h
  obtain ⟨e,h⟩:=h
  subst e
  cases r
  exact assignInOrder_nil ⟨σ,H,I,h⟩
theorem Zk {e:Expr}{es:List Expr}{t:TG}{u:TGs}(h1:PG X e t)(h2:PGs X es u)
    (hs:(assignEach (e::es) X.env).map (·.2)=assign e X.env::(assignEach es X.env).map (·.2):=by rfl):PGs X (e::es) (zab t u):=by
  intro pins s σ H vs us Q I r h
  obtain ⟨v,vr,e1,h⟩:=h
  subst e1
  cases r with
  | cons r rr =>
    rw [hs]
    refine assignInOrder_cons (thn (h1 pins s σ H _ _ _ I r h) fun _ s1 hh9=>?_)
    obtain ⟨σ1,H1,I1,q1⟩:=hh9
    exact h2 pins s1 σ1 H1 _ _ Q I1 rr q1
noncomputable def zjp (K:PySem.W.Frag)(n:Nat)(t:TGs):TG:=fun v σ H Q=>∃ a xs,v=.ref a∧SqT K H a xs∧xs.length=n∧t xs σ H Q
theorem zcw {es:List Expr}{k:Nat}{t:TGs}{n:Nat}(hc:X.calm=true)(h:PGs X es t)
    (hn:(assignEach es X.env).length=n:=by rfl) (hst:(assignEach es X.env).findIdx? (·.1)=none:=by rfl):PG X (.Tuple es k pos) (zjp X.K n t):=by
  intro pins s σ H v u Q I r hw
  obtain ⟨a,xs,e1,hq,hl,hw⟩:=hw
  subst e1
  cases r
  obtain ⟨its,rv,ht,hz⟩:=I.tuple hq
  refine assign_Tuple_tuple (I.ok.hd hc) ht (by simp [hn,← hl,rv.length]) hst fun h' hx=>?_
  have I1:Inv X pins σ H { s with heap:=h' }:=I.kept (t':=s.toks) fun b o e=>hx b o (Nat.ne_of_lt (Heap.lt_size e)) e
  exact h pins _ σ H xs _ Q I1 (by simpa using rv) hw
noncomputable def gSub (to ti:TE)(t:zkd):TG:=fun v σ H Q=>to σ H fun o H1=>ti σ H1 fun i H2=>t o i v H2 fun H3=>Q σ H3
theorem ziy {o i:Expr}{to ti:TE}{t:zkd}(ho:PE X o to)(hi:PE X i ti)(hs:PSet X t)
    (ha:∀ v,assign (.Subscript o i pos) X.env v=(do
      let ov←holding [v] (eval o X.env)
      let iv←holding [v,ov] (eval i X.env)
      standAt pos
      holding [v,ov,iv] (setItem ov iv v)
      release [v,ov,iv] []):=by intro _;rfl):PG X (.Subscript o i pos) (gSub to ti t):=by
  intro pins s σ H v u Q I r h
  rw [ha]
  refine wpAny_bind (wpAny_holding (thn (ho pins s σ H _ I h) fun ov s1 hh9=>?_))
  obtain ⟨x,H1,I1,r1,q1⟩:=hh9
  refine wpAny_bind (wpAny_holding (thn (hi pins s1 σ H1 _ I1 q1) fun iv s2 hh9=>?_))
  obtain ⟨y,H2,I2,r2,q2⟩:=hh9
  refine wpAny_bind (wpAny_standAt (wpAny_bind (wpAny_holding (thn (hs pins s2 σ H2 x y v ov iv u _ I2 r1 r2 r q2) fun _ s3 hh9=>?_))))
  obtain ⟨H3,I3,q3⟩:=hh9
  exact wpAny_release ⟨σ,H3,I3,q3⟩
noncomputable def ze5 (te:TE)(g:TG):TS:=fun D σ H=>te σ H fun x H1=>g x σ H1 D.nx
theorem zjb {tg e:Expr}{te:TE}{g:TG}(he:PE X e te)(hg:PG X tg g)(hs:swapsWithSole [tg] e pos.line X.env=pure false:=by rfl)(hw:swappedStores [tg] e X.env=pure none:=by rfl)
    (h1:(assignEach [tg] X.env).map (·.2)=[assign tg X.env]:=by rfl):PS X (.Assign [tg] e pos) (ze5 te g):=by
  intro pins s σ H D I h
  refine wpAny_Assign_stores (thn (he pins s σ H _ I h) fun v s1 hh9=>?_) hs hw
  obtain ⟨x,H1,I1,r1,q1⟩:=hh9
  rw [h1]
  exact thn (hg pins s1 σ H1 x v _ I1 r1 q1) fun _ s2 q=>q
theorem Zl {i:Nat}{x:Str}{e:Expr}{te:TE}{pos':Pos}(hN:X.N.Nodup)(hi:X.N[i]?=some x)(hx:Loc X.env.scope x)(he:PE X e te)(hs:swapsWith e (some (.Name x pos')) pos.line X.env=pure false:=by rfl)(hf:X.fn x=true∨X.env.scope.names.lookup x=some .local:=by first | exact .inl rfl | exact .inr rfl | assumption) :
    PS X (.Assign [.Name x pos'] e pos) (ze5 te (vL i)):=by
  intro pins s σ H D I h
  refine wpAny_Assign_Name (thn (he pins s σ H _ I h) fun v s1 hh9=>?_) hs
  obtain ⟨y,H1,I1,r1,q1⟩:=hh9
  exact Wz I1 hN hi hx r1 (fun s2 I2=>⟨_,H1,I2,q1⟩) hf
end
section
variable {X:Cx}{pos:Pos}
end
structure It where
  go:Nat→Hp→Prop
  yld:Nat→Hp→V→Hp→Prop
  stop:Nat→Hp→Prop
noncomputable def zbm (X:Cx)(pins:List (Addr × Obj))(H:Hp)(b:Addr):Prop :=
  H b=none∧b≠X.env.locals∧b∉X.fs∧(b∈X.ex∨X.s₀.heap.objs.size≤b)∧(∀ x c,X.env.cells.lookup x=some c→c≠b)∧∀ p∈X.pn++pins,p.1≠b
theorem Inv.fpOk {X:Cx}{pins:List (Addr × Obj)}{σ:St}{H H':Hp}{s:Shared}{b:Addr}(I:Inv X pins σ H s)(hb:s.heap.objs.size≤b)(hn:H' b=none):zbm X pins H' b:=by
  refine ⟨hn,Nat.ne_of_gt (Nat.lt_of_lt_of_le I.lt hb),I.nofs hb,.inr (Nat.le_trans I.sz hb),fun x c e z=>?_,fun p hp z=>?_⟩
  · obtain ⟨v,q⟩:=I.cell x c e
    exact absurd (Nat.lt_of_lt_of_le q.lt (by rw [z];exact hb)) (Nat.lt_irrefl _)
  · exact absurd (Nat.lt_of_lt_of_le (Heap.lt_size (I.pin p hp).1) (by rw [z];exact hb)) (Nat.lt_irrefl _)
set_option genInjectivity false in
set_option genSizeOf false in
set_option genCtorIdx false in
structure zhq (P:Program) (w:World) (K:PySem.W.Frag) (tg:Expr) (J:It) (fp:List Addr) (it:Addr) (tn:Nat→Heap→Prop):Prop where
  mem:it∈fp
  obj:∀ i h,tn i h→∀ b∈fp,∃ o,h.get? b=some o∧∀ v,o.data≠.cell v
  keep:∀ i h h',tn i h→(∀ b∈fp,∀ o,h.get? b=some o→h'.get? b=some o)→tn i h'
  item:∀ (X:Cx),X.prog=P→X.w=w→X.K=K→X.calm=true→∀ (i:Nat) (pins:List (Addr × Obj)) (s:Shared) (σ:St) (H:Hp) (E:Value→Shared→Prop),Inv X pins σ H s→(∀ b∈fp,zbm X pins H b)→tn i s.heap→J.go i H →
    wpAny (model P w) X.A (pyNext (.ref it)) (fun r s1=>∃ u,r=some u ∧
      wpAny (model P w) X.A (letOwnedTupleGo tg (.ref it) u) (fun _ s2=>∃ x H',Inv X pins σ H' s2∧xS x u∧J.yld i H x H'∧tn (i+1) s2.heap∧∀ b∈fp,H' b=none) E s1) E s
  done:∀ (X:Cx),X.prog=P→X.w=w→X.K=K→X.calm=true→∀ (i:Nat) (pins:List (Addr × Obj)) (s:Shared) (σ:St) (H:Hp) (E:Value→Shared→Prop),Inv X pins σ H s→(∀ b∈fp,zbm X pins H b)→tn i s.heap→J.stop i H →
    wpAny (model P w) X.A (pyNext (.ref it)) (fun r s1=>r=none∧Inv X pins σ H s1) E s
  self:∀ (A:Around) (i:Nat) (s:Shared) (Q:Value→Shared→Prop) (E:Value→Shared→Prop),tn i s.heap→Q (.ref it) s→wpAny (model P w) A (pyIter (.ref it)) Q E s
noncomputable abbrev TI:=St→Hp→(It→Hp→Prop)→Prop
noncomputable def PIE (X:Cx)(pins:List (Addr × Obj))(σ:St)(tg:Expr)(R:It→Hp→Prop)(itv:Value)(s2:Shared):Prop :=
  ∃ (it:Addr) (fp:List Addr) (tn:Nat→Heap→Prop) (J:It) (H':Hp),itv=.ref it∧Inv X pins σ H' s2∧zhq X.prog X.w X.K tg J fp it tn∧tn 0 s2.heap∧(∀ b∈fp,zbm X pins H' b)∧R J H'
noncomputable def PI (X:Cx)(tg iter:Expr)(wi:TI):Prop :=
  ∀ (pins:List (Addr × Obj)) (s:Shared) (σ:St) (H:Hp) (R:It→Hp→Prop),Inv X pins σ H s→wi σ H R →
    wpAny (model X.prog X.w) X.A (eval iter X.env) (fun v s1=>wpAny (model X.prog X.w) X.A (pyIter v) (PIE X pins σ tg R) X.xe s1) X.xe s
theorem zg6 {M:Model}{A:Around}{E:Value→Shared→Prop}{s:Shared}{tg:Expr}{it:Addr}{u:Value}{o:Obj}{n:String}{vs:Array Value}{Q:Unit→Shared→Prop}(ho:s.heap.get? it=some o)(hc:o.cls=.type n)(hd:o.data=.fields vs)
    (hn:["enumerate","zip","dict_itemiterator","dict_reverseitemiterator","odict_iterator","itertools.zip_longest","itertools.pairwise"].contains n=false) (hQ:Q () s):wpAny M A (letOwnedTupleGo tg (.ref it) u) Q E s:=by
  unfold letOwnedTupleGo
  cases tg <;> first
    | exact wpAny_pure hQ
    | (cases u <;> first
        | exact wpAny_pure hQ
        | (refine wpAny_bind (wpAny_load ho ?_)
           rw [hc,hd]
           show wpAny M A (if (["enumerate","zip","dict_itemiterator","dict_reverseitemiterator","odict_iterator","itertools.zip_longest","itertools.pairwise"].contains n&&vs[0]? == some (rawInt _))=true then _ else _) Q E s
           rw [if_neg (by intro h;rw [hn,Bool.false_and] at h;cases h)]
           exact wpAny_pure hQ))
noncomputable def Itl (K:PySem.W.Frag)(a:Addr):It :=
  ⟨fun i H=>∃ xs x,SqL K H a xs∧xs[i]?=some x,fun i H x H'=>H'=H∧∀ xs,SqL K H a xs→xs[i]?=some x,fun i H=>∃ xs,SqL K H a xs∧xs.length≤i⟩
noncomputable def Itt (K:PySem.W.Frag)(a:Addr):It :=
  ⟨fun i H=>∃ xs x,SqT K H a xs∧xs[i]?=some x,fun i H x H'=>H'=H∧∀ xs,SqT K H a xs→xs[i]?=some x,fun i H=>∃ xs,SqT K H a xs∧xs.length≤i⟩
noncomputable def Itr (lo:Int)(n:Nat):It:=⟨fun i _=>i < n,fun i H x H'=>H'=H∧x=.int (lo+i),fun i _=>n≤i⟩
theorem zd4 {P:Program}{w:World}{K:PySem.W.Frag}{tg:Expr}(a it:Addr):zhq P w K tg (Itl K a) [it] it (fun i h=>h.IsListIter it a i) where
  mem:=by simp
  obj:=fun i h st b hb=>by
    have e:b=it:=by simpa using hb
    subst e
    obtain ⟨o,e,c,d⟩:=st
    exact ⟨o,e,fun v z=>by rw [d] at z;cases z⟩
  keep:=fun i h h' st k=>st.at fun o e=>k it (by simp) o e
  item:=by
    intro X hP hw hK hc i pins s σ H E I hf st hg
    subst hP hw hK
    obtain ⟨xs,x,hq,hx⟩:=hg
    obtain ⟨its,rv,p,hz⟩:=I.list hq
    obtain ⟨u,hu,ru⟩:=rv.get hx
    obtain ⟨f0,f1,f2,f3,f4,f5⟩:=hf it (by simp)
    refine wpAny_pyNext_list_item st p.isList (x:=u) (by simpa using hu) fun h' st' sb=>?_
    have I1:Inv X pins σ H { s with heap:=h' }:=I.turned (t':=s.toks) (fun b o hb e=>(sb.2 b hb).trans e) f0 f1 f3 f4 f5
    obtain ⟨o,e,c,d⟩:=id st'
    exact ⟨u,rfl,zg6 (s:={ s with heap:=h' }) e c d (by decide) ⟨x,H,I1,ru,⟨rfl,fun ys hy=>by rw [I.list_inj hy hq];exact hx⟩,st',fun b hb=>(hf b hb).1⟩⟩
  done:=by
    intro X hP hw hK hc i pins s σ H E I hf st hg
    subst hP hw hK
    obtain ⟨xs,hq,hx⟩:=hg
    obtain ⟨its,rv,p,hz⟩:=I.list hq
    obtain ⟨f0,f1,f2,f3,f4,f5⟩:=hf it (by simp)
    have hl:=rv.length
    exact wpAny_pyNext_list_end (I.ok.hd hc) st p.isList (by simp;omega) fun h' eb=>⟨rfl,I.turned (t':=s.toks) (fun b o hb e=>eb b o hb e) f0 f1 f3 f4 f5⟩
  self:=fun _ _ _ _ _ st h=>wpAny_pyIter_listiter st h
theorem zb8 {P:Program}{w:World}{K:PySem.W.Frag}{tg:Expr}(a it:Addr):zhq P w K tg (Itt K a) [it] it (fun i h=>h.IsTupleIter it a i) where
  mem:=by simp
  obj:=fun i h st b hb=>by
    have e:b=it:=by simpa using hb
    subst e
    obtain ⟨o,e,c,d⟩:=st
    exact ⟨o,e,fun v z=>by rw [d] at z;cases z⟩
  keep:=fun i h h' st k=>st.at fun o e=>k it (by simp) o e
  item:=by
    intro X hP hw hK hc i pins s σ H E I hf st hg
    subst hP hw hK
    obtain ⟨xs,x,hq,hx⟩:=hg
    obtain ⟨its,rv,p,hz⟩:=I.tuple hq
    obtain ⟨u,hu,ru⟩:=rv.get hx
    obtain ⟨f0,f1,f2,f3,f4,f5⟩:=hf it (by simp)
    refine wpAny_pyNext_tuple_item st (show s.heap.IsTuple a its.toArray from p) (x:=u) (by simpa using hu) fun h' st' sb=>?_
    have I1:Inv X pins σ H { s with heap:=h' }:=I.turned (t':=s.toks) (fun b o hb e=>(sb.2 b hb).trans e) f0 f1 f3 f4 f5
    obtain ⟨o,e,c,d⟩:=id st'
    exact ⟨u,rfl,zg6 (s:={ s with heap:=h' }) e c d (by decide) ⟨x,H,I1,ru,⟨rfl,fun ys hy=>by rw [I.tuple_inj hy hq];exact hx⟩,st',fun b hb=>(hf b hb).1⟩⟩
  done:=by
    intro X hP hw hK hc i pins s σ H E I hf st hg
    subst hP hw hK
    obtain ⟨xs,hq,hx⟩:=hg
    obtain ⟨its,rv,p,hz⟩:=I.tuple hq
    obtain ⟨f0,f1,f2,f3,f4,f5⟩:=hf it (by simp)
    have hl:=rv.length
    exact wpAny_pyNext_tuple_end (I.ok.hd hc) st (show s.heap.IsTuple a its.toArray from p) (by simp;omega) fun h' eb=>⟨rfl,I.turned (t':=s.toks) (fun b o hb e=>eb b o hb e) f0 f1 f3 f4 f5⟩
  self:=fun _ _ _ _ _ st h=>wpAny_pyIter_tupleiter st h
theorem zco {P:Program}{w:World}{K:PySem.W.Frag}{tg:Expr}(it:Addr)(lo:Int)(n:Nat):zhq P w K tg (Itr lo n) [it] it (fun i h=>IsRangeIter h it (lo+(i:Nat)*1) ((n:Int) - (i:Nat)) 1) where
  mem:=by simp
  obj:=fun i h st b hb=>by
    have e:b=it:=by simpa using hb
    subst e
    exact ⟨_,st,fun v z=>by
      have z':Data.fields _=Data.cell v:=z
      cases z'⟩
  keep:=fun i h h' st k=>k it (by simp) _ st
  item:=by
    intro X hP hw hK hc i pins s σ H E I hf st hg
    subst hP hw hK
    obtain ⟨f0,f1,f2,f3,f4,f5⟩:=hf it (by simp)
    have W:=Walks.range (prog:=X.prog) (w:=X.w) (I.ok.hd hc) it lo 1 n
    refine W.item i s _ _ hg st fun v h' tk hv st' kk=>?_
    obtain ⟨t,rfl⟩:=hv
    have I1:Inv X pins σ H { s with heap:=h',toks:=tk }:=I.turned (fun b o hb e=>kk b o (by simpa using hb) e) f0 f1 f3 f4 f5
    refine ⟨_,rfl,zg6 (s:={ s with heap:=h',toks:=tk }) (n:="range_iterator") st' rfl rfl (by decide) ⟨.int (lo+i),H,I1,⟨t,?_⟩,⟨rfl,rfl⟩,st',fun b hb=>(hf b hb).1⟩⟩
    rw [Int.mul_one]
  done:=by
    intro X hP hw hK hc i pins s σ H E I hf st hg
    subst hP hw hK
    obtain ⟨f0,f1,f2,f3,f4,f5⟩:=hf it (by simp)
    exact wpAny_pyNext_range_end (I.ok.hd hc) st (by have:n≤i:=hg;omega) fun h' eb=>⟨rfl,I.turned (t':=s.toks) (fun b o hb e=>eb b o hb e) f0 f1 f3 f4 f5⟩
  self:=fun _ _ _ _ _ st h=>wpAny_pyIter_rangeiter st h
end L2
namespace L2
open PySem PySem.Spec PyProof.Rows
section
variable {X:Cx}{tg:Expr}
theorem zbt {pins:List (Addr × Obj)}{σ:St}{H:Hp}{s:Shared}{R:It→Hp→Prop}{E:Value→Shared→Prop}{lo hi:Int}{t u v:Tok}{tk:Nat}(I:Inv X pins σ H s)(h1:-(2 ^ 62)≤lo)(h2:lo < 2 ^ 62)(h3:-(2 ^ 62)≤hi)(h4:hi < 2 ^ 62)
    (q:R (Itr lo (hi - lo).toNat) H):wpAny (model X.prog X.w) X.A (pyIter (.ref s.heap.objs.size)) (PIE X pins σ tg R) E { s with heap:=s.heap.push { cls:=.type "range",data:=.fields #[.int lo t,.int hi u,.int 1 v] },toks:=tk }:=by
  refine wpAny_pyIter_range (IsRange.new ..) (small_one h1 h2 h3 h4) ?_
  have I1:Inv X pins σ H { s with heap:=s.heap.push { cls:=.type "range",data:=.fields #[.int lo t,.int hi u,.int 1 v] },toks:=tk }:=I.kept fun b o e=>Heap.get?_push_of_some _ e
  refine ⟨(s.heap.push { cls:=.type "range",data:=.fields #[.int lo t,.int hi u,.int 1 v] }).objs.size,[(s.heap.push { cls:=.type "range",data:=.fields #[.int lo t,.int hi u,.int 1 v] }).objs.size],_,_,H,rfl,
    I1.kept (t':=tk) fun b o e=>Heap.get?_push_of_some _ e,zco _ lo (hi - lo).toNat,?_,fun b hb=>?_,q⟩
  · have e1:lo+((0:Nat):Int)*1=lo:=by simp
    have e2:(((hi - lo).toNat:Nat):Int) - ((0:Nat):Int)=Builtin.Range.rangeSize lo hi 1:=by rw [rangeSize_one];split <;> omega
    show IsRangeIter _ _ (lo+((0:Nat):Int)*1) ((((hi - lo).toNat:Nat):Int) - ((0:Nat):Int)) 1
    rw [e1,e2]
    exact Heap.get?_push_size _ rfl
  · have e:b=(s.heap.push { cls:=.type "range",data:=.fields #[.int lo t,.int hi u,.int 1 v] }).objs.size:=by simpa using hb
    subst e
    exact I1.fpOk (Nat.le_refl _) (I1.hok.fresh (Nat.le_refl _))
noncomputable def zj0 (ta:TA):TI:=fun σ H R=>ta σ H fun vs H1=>∃ j:Int,vs=[.int j]∧-(2 ^ 62)≤j∧j < 2 ^ 62∧R (Itr 0 j.toNat) H1
noncomputable def zjM (ta:TA):TI:=fun σ H R=>ta σ H fun vs H1=>∃ i j:Int,vs=[.int i,.int j]∧(-(2 ^ 62)≤i∧i < 2 ^ 62∧-(2 ^ 62)≤j∧j < 2 ^ 62)∧R (Itr i (j - i).toNat) H1
theorem VS {a:Expr} {ta:TA} {p pos:Pos} (hg:Gl X "range") (hm:X.mg "range"=none) (ha:PA X [a] ta) (hs:starEach [a] X.env=[(false,eval a X.env)]:=by rfl):PI X tg (.Call (.Name "range" p) [a] [] pos) (zj0 ta):=by
  intro pins s σ H R I h
  refine Call_ (XV I hg hm boot_range (PyProof.Rows.callWith_type1 (thn (ha pos pins s σ H _ I h) fun us s1 hh9=>?_) hs rfl))
  obtain ⟨vs,H1,I1,r1,q1⟩:=hh9
  obtain ⟨j,e,q1,q2,q⟩:=q1
  subst e
  cases r1 with
  | cons r rr =>
    cases rr
    obtain ⟨t,rfl⟩:=r
    exact call_range_1 (zbt I1 (by omega) (by omega) q1 q2 (by simpa using q))
theorem Vw {a b:Expr} {ta:TA} {p pos:Pos} (hg:Gl X "range") (hm:X.mg "range"=none) (ha:PA X [a,b] ta) (hs:starEach [a,b] X.env=[(false,eval a X.env),(false,eval b X.env)]:=by rfl) (hs2:starEach [b] X.env=[(false,eval b X.env)]:=by rfl) :
    PI X tg (.Call (.Name "range" p) [a,b] [] pos) (zjM ta):=by
  intro pins s σ H R I h
  refine Call_ (XV I hg hm boot_range (PyProof.Rows.callWith_type1 (thn (ha pos pins s σ H _ I h) fun us s1 hh9=>?_) (by rw [hs,hs2]) (by rw [hs2];rfl)))
  obtain ⟨vs,H1,I1,r1,q1⟩:=hh9
  obtain ⟨i,j,e,⟨q1,q2,q3,q4⟩,q⟩:=q1
  subst e
  cases r1 with
  | cons r rr =>
    cases rr with
    | cons r' rr =>
      cases rr
      obtain ⟨t,rfl⟩:=r
      obtain ⟨t',rfl⟩:=r'
      exact call_range_2 (zbt I1 q1 q2 q3 q4 q)
noncomputable def tFor (wi:TI)(g:TG)(tb:TS):TS:=fun D σ H=>wi σ H fun J H1=>∃ W:Nat→Nat→St→Hp→Prop,(∃ m,W 0 m σ H1)∧∀ i m σ H,W i m σ H →
  (J.stop i H∧D.nx σ H)∨(J.go i H∧∃ N:St→Hp→Prop,(∀ σ' H',N σ' H'→∃ m',m' < m∧W (i+1) m' σ' H')∧∀ x H',J.yld i H x H'→g x σ H' fun σ2 H2=>tb { D with nx:=N,ct:=N,bk:=D.nx } σ2 H2)
noncomputable def Wt (fp:List Addr)(h:Heap):List (Addr × Obj):=fp.filterMap fun b=>(h.get? b).map fun o=>(b,o)
theorem vx {fp:List Addr}{h:Heap}{b:Addr}{o:Obj}(hb:b∈fp)(e:h.get? b=some o):(b,o)∈Wt fp h:=List.mem_filterMap.mpr ⟨b,hb,by rw [e];rfl⟩
theorem zc9 {fp:List Addr}{h:Heap}{p:Addr × Obj}(hp:p∈Wt fp h):p.1∈fp∧h.get? p.1=some p.2:=by
  obtain ⟨b,hb,e⟩:=List.mem_filterMap.mp hp
  cases q:h.get? b with
  | none=>rw [q] at e;cases e
  | some o =>
    rw [q] at e
    have e':(b,o)=p:=Option.some.inj e
    subst e'
    exact ⟨hb,q⟩
theorem Inv.pinned {pins:List (Addr × Obj)}{σ:St}{H:Hp}{s:Shared}{fp:List Addr}(I:Inv X pins σ H s)(hf:∀ b∈fp,zbm X pins H b)(ho:∀ b∈fp,∃ o,s.heap.get? b=some o∧∀ v,o.data≠.cell v):Inv X (pins++Wt fp s.heap) σ H s :=
  I.pins_of fun p hp=>(List.mem_append.mp hp).elim (fun z=>I.pin p (List.mem_append_right _ z)) fun z=>by
    obtain ⟨hb,e⟩:=zc9 z
    obtain ⟨f0,f1,f2,_⟩:=hf p.1 hb
    obtain ⟨o,e',d⟩:=ho p.1 hb
    rw [e] at e';cases e'
    exact ⟨e,f0,f1,f2,d⟩
theorem Inv.unpinned {pins pl:List (Addr × Obj)}{σ:St}{H:Hp}{s:Shared}(I:Inv X (pins++pl) σ H s):Inv X pins σ H s:=I.pins_of fun p hp=>I.pin p (List.mem_append_right _ (List.mem_append_left _ hp))
theorem zbc {iter:Expr}{body:List Stmt}{wi:TI}{g:TG}{tb:TS}{pos:Pos}(hp:PassesOwn (model X.prog X.w) X.A X.env X.xe)(hc:X.calm=true)(hi:PI X tg iter wi)(hg:PG X tg g)(hb:PSs X body tb)
    (hs:∀ x,foldedSetIterable iter X.env x=pure x:=by intro _;rfl):PS X (.For tg iter body [] pos) (tFor wi g tb):=by
  intro pins s σ H D I h
  refine wpAny_For (thn (hi pins s σ H _ I h) fun v s1 h1=>thn h1 fun itv s2 h2=>?_) hs
  obtain ⟨it,fp,tn,J,H2,e,I2,T,st2,f2,W,⟨m0,w0⟩,turn⟩:=h2
  subst e
  -- what stays true of the iterator's objects through the loop
  have stat:∀ {H':Hp},(∀ b∈fp,H' b=none)→∀ b∈fp,zbm X pins H' b:=fun hn b hb=>⟨hn b hb,(f2 b hb).2⟩
  refine codeAny_forLoop_any (fun n s'=>∃ i σ' H',Inv X pins σ' H' s'∧tn i s'.heap∧(∀ b∈fp,H' b=none)∧W i n σ' H') ?_ m0 ⟨0,σ,H2,I2,st2,fun b hb=>(f2 b hb).1,w0⟩
  rintro n s3 ⟨i,σ3,H3,I3,st3,fr3,w3⟩
  rcases turn i n σ3 H3 w3 with ⟨stop,qn⟩ | ⟨go,N,hN,step⟩
  · refine wpAny_passesOwn hp (thn (T.done X rfl rfl rfl hc i pins s3 σ3 H3 X.xe I3 (stat fr3) st3 stop) fun r s4 hh9=>?_)
    obtain ⟨hr,I4⟩:=hh9
    subst hr
    exact wpAny_execs_nil ⟨σ3,H3,I4,qn⟩
  · refine wpAny_passesOwn hp (thn (T.item X rfl rfl rfl hc i pins s3 σ3 H3 X.xe I3 (stat fr3) st3 go) fun r s4 hh9=>?_)
    obtain ⟨u,hr,h4⟩:=hh9
    subst hr
    refine wpAny_passesOwn hp (thn h4 fun _ s5 hh9=>?_)
    obtain ⟨x,H5,I5,r5,y5,st5,fr5⟩:=hh9
    have I5':=I5.pinned (stat fr5) (T.obj _ _ st5)
    refine wpAny_passesOwn hp (thn (hg _ s5 σ3 H5 x u _ I5' r5 (step x H5 y5)) fun _ s6 hh9=>?_)
    obtain ⟨σ6,H6,I6,q6⟩:=hh9
    refine wpAny_passesOwn hp (thn (hb _ s6 σ6 H6 _ I6 q6) fun f s7 q7=>?_)
    have again:∀ {σ7:St} {H7:Hp},Inv X (pins++Wt fp s5.heap) σ7 H7 s7→N σ7 H7→∃ m,m < n∧∃ i σ' H',Inv X pins σ' H' s7∧tn i s7.heap∧(∀ b∈fp,H' b=none)∧W i m σ' H':=fun {σ7 H7} I7 n7=>by
      obtain ⟨m',hm,w7⟩:=hN σ7 H7 n7
      refine ⟨m',hm,i+1,σ7,H7,I7.unpinned,T.keep _ _ _ st5 fun b hb o e=>(I7.pin (b,o) (List.mem_append_right _ (List.mem_append_right _ (vx hb e)))).1,fun b hb=>?_,w7⟩
      obtain ⟨o,e,d⟩:=T.obj _ _ st5 b hb
      exact (I7.pin (b,o) (List.mem_append_right _ (List.mem_append_right _ (vx hb e)))).2.1
    cases f with
    | next=>obtain ⟨σ7,H7,I7,n7⟩:=q7;exact again I7 n7
    | cont=>obtain ⟨σ7,H7,I7,n7⟩:=q7;exact again I7 n7
    | brk=>obtain ⟨σ7,H7,I7,q7⟩:=q7;exact ⟨σ7,H7,I7.unpinned,q7⟩
    | ret v=>obtain ⟨x7,σ7,H7,I7,r7,q7⟩:=q7;exact ⟨x7,σ7,H7,I7.unpinned,r7,q7⟩
end
end L2
namespace L2
open PySem PySem.Spec PyProof.Rows
noncomputable abbrev R2:=V→V→Hp→VK→Prop
noncomputable def OpR (X:Cx)(f:Value→Value→Sem Value)(r:R2):Prop :=
  ∀ (pins:List (Addr × Obj)) (s:Shared) (σ:St) (H:Hp) (x y:V) (v u:Value) (Q:VK),Inv X pins σ H s→xS x v→xS y u→r x y H Q →
    wpAny (model X.prog X.w) X.A (f v u) (EP X pins σ Q) X.xe s
noncomputable def UnR (X:Cx)(f:Value→Sem Value)(r:V→Hp→VK→Prop):Prop :=
  ∀ (pins:List (Addr × Obj)) (s:Shared) (σ:St) (H:Hp) (x:V) (v:Value) (Q:VK),Inv X pins σ H s→xS x v→r x H Q →
    wpAny (model X.prog X.w) X.A (f v) (EP X pins σ Q) X.xe s
noncomputable def YO (X:Cx)(f:Value)(r:List V→Hp→VK→Prop):Prop :=
  ∀ (pins:List (Addr × Obj)) (s:Shared) (σ:St) (H:Hp) (xs:List V) (us:List Value) (Q:VK),Inv X pins σ H s→yP xs us→r xs H Q →
    wpAny (model X.prog X.w) X.A (call f us) (EP X pins σ Q) X.xe s
noncomputable def tOp (r:R2)(ta tb:TE):TE:=fun σ H Q=>ta σ H fun x H1=>tb σ H1 fun y H2=>r x y H2 Q
noncomputable def tUn (r:V→Hp→VK→Prop)(ta:TE):TE:=fun σ H Q=>ta σ H fun x H1=>r x H1 Q
noncomputable def rI (C:Int→Int→Prop)(g:Int→Int→V):R2:=fun x y H Q=>∃ i j,x=.int i∧y=.int j∧C i j∧Q (g i j) H
noncomputable def rI0 (g:Int→Int→V):R2:=fun x y H Q=>∃ i j,x=.int i∧y=.int j∧Q (g i j) H
noncomputable def rU (g:Int→V):V→Hp→VK→Prop:=fun x H Q=>∃ i,x=.int i∧Q (g i) H
section
variable {X:Cx}{a b c:Expr}{ta tb tc:TE}{pos:Pos}
theorem zjQ (ha:PE X a ta)(hb:PE X b tb){pins:List (Addr × Obj)}{s:Shared}{σ:St}{H:Hp}{R:V→V→Hp→Prop}(I:Inv X pins σ H s)
    (h:ta σ H fun x H1=>tb σ H1 fun y H2=>R x y H2) {Q:Value→Shared→Prop} {f:Value→Value→Sem Value}
    (hf:∀ v u s2 x y H2,Inv X pins σ H2 s2→xS x v→xS y u→R x y H2→wpAny (model X.prog X.w) X.A (f v u) Q X.xe s2) :
    wpAny (model X.prog X.w) X.A (eval a X.env) (fun v s₁=>wpAny (model X.prog X.w) X.A (eval b X.env) (fun u s₂=>wpAny (model X.prog X.w) X.A (f v u) Q X.xe s₂) X.xe s₁) X.xe s:=by
  refine thn (ha pins s σ H _ I h) fun v s1 hh9=>?_
  obtain ⟨x,H1,I1,r1,q1⟩:=hh9
  refine thn (hb pins s1 σ H1 _ I1 q1) fun u s2 hh9=>?_
  obtain ⟨y,H2,I2,r2,q2⟩:=hh9
  exact hf v u s2 x y H2 I2 r1 r2 q2
theorem zeV {op:Operator}{r:R2}(ho:OpR X (binaryOp op) r)(ha:PE X a ta)(hb:PE X b tb):PE X (.BinOp a op b pos) (tOp r ta tb):=by
  intro pins s σ H Q I h
  exact wpAny_BinOp (zjQ ha hb I h fun v u s2 x y H2 I2 rx ry q=>ho pins s2 σ H2 x y v u Q I2 rx ry q)
theorem zhe {op:UnaryOp}{r:V→Hp→VK→Prop}(ho:UnR X (unaryOp op) r)(ha:PE X a ta):PE X (.UnaryOp op a pos) (tUn r ta):=by
  intro pins s σ H Q I h
  exact UnaryOp_ (thn (ha pins s σ H _ I h) fun v s1 ⟨x,H1,I1,r1,q1⟩=>ho pins s1 σ H1 x v Q I1 r1 q1)
theorem opI {f:Value→Value→Sem Value}{C:Int→Int→Prop}{g:Int→Int→Int}
    (rule:∀ (i j:Int) (t u:Tok) (s:Shared) (Q:Value→Shared→Prop) (E:Value→Shared→Prop),C i j→Q (.int (g i j) s.toks) { s with toks:=s.toks+1 }→wpAny (model X.prog X.w) X.A (f (.int i t) (.int j u)) Q E s) :
    OpR X f (rI C fun i j=>.int (g i j)):=by
  intro pins s σ H x y v u Q I rx ry h
  obtain ⟨i,j,rfl,rfl,hc,q⟩:=h
  obtain ⟨t,rfl⟩:=rx
  obtain ⟨t',rfl⟩:=ry
  exact rule i j t t' s _ _ hc ⟨.int (g i j),H,I.tok _,⟨_,rfl⟩,q⟩
theorem opI0 {f:Value→Value→Sem Value}{g:Int→Int→Int}
    (rule:∀ (i j:Int) (t u:Tok) (s:Shared) (Q:Value→Shared→Prop) (E:Value→Shared→Prop),Q (.int (g i j) s.toks) { s with toks:=s.toks+1 }→wpAny (model X.prog X.w) X.A (f (.int i t) (.int j u)) Q E s) :
    OpR X f (rI0 fun i j=>.int (g i j)):=by
  intro pins s σ H x y v u Q I rx ry h
  obtain ⟨i,j,rfl,rfl,q⟩:=h
  obtain ⟨t,rfl⟩:=rx
  obtain ⟨t',rfl⟩:=ry
  exact rule i j t t' s _ _ ⟨.int (g i j),H,I.tok _,⟨_,rfl⟩,q⟩
theorem zjw {f:Value→Value→Sem Value}{g:Int→Int→Bool}
    (rule:∀ (i j:Int) (t u:Tok) (s:Shared) (Q:Value→Shared→Prop) (E:Value→Shared→Prop),Q (.bool (g i j)) s→wpAny (model X.prog X.w) X.A (f (.int i t) (.int j u)) Q E s) :
    OpR X f (rI0 fun i j=>.bl (g i j)):=by
  intro pins s σ H x y v u Q I rx ry h
  obtain ⟨i,j,rfl,rfl,q⟩:=h
  obtain ⟨t,rfl⟩:=rx
  obtain ⟨t',rfl⟩:=ry
  exact rule i j t t' s _ _ ⟨.bl (g i j),H,I,rfl,q⟩
noncomputable def zjZ (i j:Int):Prop:=(-(2 ^ 64) < i∧i < 2 ^ 64)∨(-(2 ^ 64) < j∧j < 2 ^ 64)
theorem zjZ.ok {i j:Int}(h:zjZ i j):IntMulOk i j:=by
  rcases h with ⟨h1,h2⟩ | ⟨h1,h2⟩
  · exact .of_left (intBits_le_64 h1 h2)
  · exact .of_right (intBits_le_64 h1 h2)
theorem zb3 (k:Nat):(0:Int)≤2 ^ k:=by
  rw [two_pow_cast]
  exact Int.natCast_nonneg _
theorem zhF:OpR X (binaryOp .Add) (rI0 fun i j=>.int (i+j)):=opI0 fun _ _ _ _ _ _ _ q=>add_int q
theorem zhG:OpR X (binaryOp .Sub) (rI0 fun i j=>.int (i - j)):=opI0 fun _ _ _ _ _ _ _ q=>sub_int q
theorem ziS:OpR X (binaryOp .Mult) (rI zjZ fun i j=>.int (i*j)):=opI fun _ _ _ _ _ _ _ hc q=>mul_int q hc.ok
theorem zjc:OpR X (binaryOp .Mod) (rI (fun _ j=>0 < j) fun i j=>.int (i % j)):=opI fun i j _ _ _ _ _ hc q=>by
  have h1:(0:Int) < j:=hc
  exact mod_int' (by omega) (by rw [Int.fmod_eq_emod_of_nonneg i (by omega)];exact q)
theorem zhw:OpR X (binaryOp .RShift) (rI (fun _ j=>0≤j) fun i j=>.int (i / 2 ^ j.toNat)):=opI fun i j _ _ _ _ _ hc q =>
  rshift_int hc (by rw [Int.fdiv_eq_ediv_of_nonneg i (zb3 _)];exact q)
theorem unI {f:Value→Sem Value}{g:Int→Int}
    (rule:∀ (i:Int) (t:Tok) (s:Shared) (Q:Value→Shared→Prop) (E:Value→Shared→Prop),Q (.int (g i) s.toks) { s with toks:=s.toks+1 }→wpAny (model X.prog X.w) X.A (f (.int i t)) Q E s) :
    UnR X f (rU fun i=>.int (g i)):=by
  intro pins s σ H x v Q I rx h
  obtain ⟨i,rfl,q⟩:=h
  obtain ⟨t,rfl⟩:=rx
  exact rule i t s _ _ ⟨.int (g i),H,I.tok _,⟨_,rfl⟩,q⟩
theorem zee:UnR X (unaryOp .USub) (rU fun i=>.int (-i)):=unI fun _ _ _ _ _ q=>neg_int q
end
noncomputable def scal:V→V→Bool
  | .non,.non=>true | .non,.int _=>true | .int _,.non=>true | .non,.bl _=>true | .bl _,.non=>true | .non,.str _=>true | .str _,.non=>true
  | .int _,.int _=>true | .bl _,.bl _=>true | .str _,.str _=>true | .byt _,.byt _=>true
  | .int _,.str _=>true | .str _,.int _=>true | .bl _,.str _=>true | .str _,.bl _=>true
  | _,_=>false
noncomputable def rEq:R2:=fun x y H Q=>scal x y=true∧Q (.bl (decide (x=y))) H
noncomputable def rNe:R2:=fun x y H Q=>scal x y=true∧Q (.bl (!decide (x=y))) H
theorem WK {i j:Int}:decide (V.int i=V.int j)=(i == j):=by
  rw [Bool.eq_iff_iff]
  simp
theorem zfQ {i j:Bool}:decide (V.bl i=V.bl j)=(i == j):=by
  rw [Bool.eq_iff_iff]
  simp
theorem zef {i j:Str}:decide (V.str i=V.str j)=(i == j):=by
  rw [Bool.eq_iff_iff]
  simp
theorem zcK {i j:Array UInt8}:decide (V.byt i=V.byt j)=(i.toList == j.toList):=by
  rw [Bool.eq_iff_iff]
  cases i
  cases j
  simp
section
variable {X:Cx}{a b c:Expr}{ta tb tc:TE}{pos:Pos}
theorem ye {pins:List (Addr × Obj)}{σ:St}{H:Hp}{s:Shared}{Q:VK}{k k':Bool}(I:Inv X pins σ H s)(q:Q (.bl k) H)(e:k=k'):EP X pins σ Q (.bool k') s:=by
  subst e
  exact ⟨.bl k,H,I,rfl,q⟩
theorem zhP:OpR X (compareOp .Eq) rEq:=by
  intro pins s σ H x y v u Q I rx ry h
  obtain ⟨hs,q⟩:=h
  cases x with
  | non =>
    cases rx
    cases y with
    | non=>cases ry;exact PySem.EqNone.eq_none_none (ye I q (by simp))
    | bl j=>cases ry;exact PySem.EqNone.eq_none_bool (ye I q (by simp))
    | int j=>obtain ⟨t',rfl⟩:=ry;exact PySem.EqNone.eq_none_int (ye I q (by simp))
    | str j=>obtain ⟨t',rfl⟩:=ry;exact PySem.EqNone.eq_none_str (ye I q (by simp))
    | _=>exact absurd (show false=true from hs) Bool.false_ne_true
  | bl i =>
    cases rx
    cases y with
    | non=>cases ry;exact PySem.EqNone.eq_bool_none (ye I q (by simp))
    | bl j=>cases ry;exact eq_bool (ye I q zfQ)
    | str j=>obtain ⟨t',rfl⟩:=ry;exact PySem.EqMixed.eq_bool_str (ye I q (by simp))
    | _=>exact absurd (show false=true from hs) Bool.false_ne_true
  | int i =>
    obtain ⟨t,rfl⟩:=rx
    cases y with
    | non=>cases ry;exact PySem.EqNone.eq_int_none (ye I q (by simp))
    | int j=>obtain ⟨t',rfl⟩:=ry;exact eq_int (ye I q WK)
    | str j=>obtain ⟨t',rfl⟩:=ry;exact PySem.EqMixed.eq_int_str (ye I q (by simp))
    | _=>exact absurd (show false=true from hs) Bool.false_ne_true
  | str i =>
    obtain ⟨t,rfl⟩:=rx
    cases y with
    | non=>cases ry;exact PySem.EqNone.eq_str_none (ye I q (by simp))
    | bl j=>cases ry;exact PySem.EqMixed.eq_str_bool (ye I q (by simp))
    | int j=>obtain ⟨t',rfl⟩:=ry;exact PySem.EqMixed.eq_str_int (ye I q (by simp))
    | str j=>obtain ⟨t',rfl⟩:=ry;exact eq_str (ye I q zef)
    | _=>exact absurd (show false=true from hs) Bool.false_ne_true
  | byt i =>
    obtain ⟨t,rfl⟩:=rx
    cases y with
    | byt j=>obtain ⟨t',rfl⟩:=ry;exact PySem.W.eq_bytes (ye I q zcK)
    | _=>exact absurd (show false=true from hs) Bool.false_ne_true
  | _=>cases y <;> exact absurd (show false=true from hs) Bool.false_ne_true
theorem WA:OpR X (compareOp .NotEq) rNe:=by
  intro pins s σ H x y v u Q I rx ry h
  obtain ⟨hs,q⟩:=h
  cases x with
  | non =>
    cases rx
    cases y with
    | non=>cases ry;exact PySem.EqNone.ne_none_none (ye I q (by simp))
    | bl j=>cases ry;exact PySem.EqNone.ne_none_bool (ye I q (by simp))
    | int j=>obtain ⟨t',rfl⟩:=ry;exact PySem.EqNone.ne_none_int (ye I q (by simp))
    | str j=>obtain ⟨t',rfl⟩:=ry;exact PySem.EqNone.ne_none_str (ye I q (by simp))
    | _=>exact absurd (show false=true from hs) Bool.false_ne_true
  | bl i =>
    cases rx
    cases y with
    | non=>cases ry;exact PySem.EqNone.ne_bool_none (ye I q (by simp))
    | bl j=>cases ry;exact ne_bool (ye I q (congrArg not zfQ))
    | str j=>obtain ⟨t',rfl⟩:=ry;exact PySem.EqMixed.ne_bool_str (ye I q (by simp))
    | _=>exact absurd (show false=true from hs) Bool.false_ne_true
  | int i =>
    obtain ⟨t,rfl⟩:=rx
    cases y with
    | non=>cases ry;exact PySem.EqNone.ne_int_none (ye I q (by simp))
    | int j=>obtain ⟨t',rfl⟩:=ry;exact ne_int (ye I q (congrArg not WK))
    | str j=>obtain ⟨t',rfl⟩:=ry;exact PySem.EqMixed.ne_int_str (ye I q (by simp))
    | _=>exact absurd (show false=true from hs) Bool.false_ne_true
  | str i =>
    obtain ⟨t,rfl⟩:=rx
    cases y with
    | non=>cases ry;exact PySem.EqNone.ne_str_none (ye I q (by simp))
    | bl j=>cases ry;exact PySem.EqMixed.ne_str_bool (ye I q (by simp))
    | int j=>obtain ⟨t',rfl⟩:=ry;exact PySem.EqMixed.ne_str_int (ye I q (by simp))
    | str j=>obtain ⟨t',rfl⟩:=ry;exact ne_str (ye I q (congrArg not zef))
    | _=>exact absurd (show false=true from hs) Bool.false_ne_true
  | byt i =>
    obtain ⟨t,rfl⟩:=rx
    cases y with
    | byt j=>obtain ⟨t',rfl⟩:=ry;exact PySem.W.ne_bytes (ye I q (congrArg not zcK))
    | _=>exact absurd (show false=true from hs) Bool.false_ne_true
  | _=>cases y <;> exact absurd (show false=true from hs) Bool.false_ne_true
theorem zho:OpR X (compareOp .Lt) (rI0 fun i j=>.bl (decide (i < j))):=zjw fun _ _ _ _ _ _ _ q=>lt_int q
theorem zcB:OpR X (compareOp .LtE) (rI0 fun i j=>.bl (decide (i≤j))):=zjw fun _ _ _ _ _ _ _ q=>le_int q
theorem zfw:OpR X (compareOp .Gt) (rI0 fun i j=>.bl (decide (j < i))):=zjw fun _ _ _ _ _ _ _ q=>gt_int q
theorem zjO:OpR X (compareOp .GtE) (rI0 fun i j=>.bl (decide (j≤i))):=zjw fun _ _ _ _ _ _ _ q=>ge_int q
theorem zhL:OpR X (compareOp .Is) (fun x y H Q=>y=.non∧Q (.bl (decide (x=.non))) H):=by
  intro pins s σ H x y v u Q I rx ry h
  obtain ⟨rfl,q⟩:=h
  cases ry
  refine is_none_gen (ye I q ?_)
  cases x <;> first
    | (cases rx;rfl)
    | (obtain ⟨t,rfl⟩:=rx;rfl)
theorem zgx:OpR X (compareOp .IsNot) (fun x y H Q=>y=.non∧Q (.bl (!decide (x=.non))) H):=by
  intro pins s σ H x y v u Q I rx ry h
  obtain ⟨rfl,q⟩:=h
  cases ry
  refine isnot_none_gen (ye I q ?_)
  cases x <;> first
    | (cases rx;rfl)
    | (obtain ⟨t,rfl⟩:=rx;rfl)
theorem OpR.or {f:Value→Value→Sem Value}{r r':R2}(h:OpR X f r)(h':OpR X f r'):OpR X f (fun x y H Q=>r x y H Q∨r' x y H Q):=by
  intro pins s σ H x y v u Q I rx ry q
  rcases q with q | q
  · exact h pins s σ H x y v u Q I rx ry q
  · exact h' pins s σ H x y v u Q I rx ry q
theorem zS (b:Expr){op:CmpOp}(h:op≠.In:=by decide)(h2:op≠.NotIn:=by decide):behindInMarks op b=false:=by
  have e1:(op == CmpOp.In)=false:=by cases op <;> first | rfl | exact absurd rfl h
  have e2:(op == CmpOp.NotIn)=false:=by cases op <;> first | rfl | exact absurd rfl h2
  cases b <;> simp [behindInMarks,e1,e2]
theorem zgH {op:CmpOp}{r:R2}(ho:OpR X (compareOp op) r)(ha:PE X a ta)(hb:PE X b tb)(hm:behindInMarks op b=false):PE X (.Compare a [op] [b] pos) (tOp r ta tb):=by
  intro pins s σ H Q I h
  exact wpAny_Compare1 (zjQ ha hb I h fun v u s2 x y H2 I2 rx ry q=>ho pins s2 σ H2 x y v u Q I2 rx ry q) hm
noncomputable def zdw (t:TE):TT:=fun σ H Q=>t σ H fun x H'=>∃ k,x=.bl k∧Q k H'
theorem WF {op:CmpOp}{r:R2}(ho:OpR X (compareOp op) r)(ha:PE X a ta)(hb:PE X b tb)(hm:behindInMarks op b=false):PT X (.Compare a [op] [b] pos) (zdw (tOp r ta tb)):=by
  intro pins s σ H Q I h
  refine wpAny_isTrue_Compare1 (thn (ha pins s σ H _ I h) fun v s1 ⟨x,H1,I1,r1,q1⟩=>thn (hb pins s1 σ H1 _ I1 q1) fun u s2 ⟨y,H2,I2,r2,q2⟩ =>
    thn (ho pins s2 σ H2 x y v u _ I2 r1 r2 q2) fun c s3 ⟨z,H3,I3,r3,k,e,q3⟩=>?_) hm
  subst e
  cases r3
  exact wpAny_truthy_bool ⟨H3,I3,q3⟩
noncomputable def zdL (r r':R2)(ta tb tc:TE):TE:=fun σ H Q=>ta σ H fun x H1=>tb σ H1 fun y H2=>r x y H2 fun z H3=>∃ k,z=.bl k ∧
  (if k=true then tc σ H3 fun w' H4=>r' y w' H4 Q else Q (.bl false) H3)
theorem zfv {op op':CmpOp}{r r':R2}(ho:OpR X (compareOp op) r)(ho':OpR X (compareOp op') r')(ha:PE X a ta)(hb:PE X b tb)(hc:PE X c tc)
    (hm:lastMarks [op,op'] [b,c]=false:=by with_unfolding_all rfl):PE X (.Compare a [op,op'] [b,c] pos) (zdL r r' ta tb tc):=by
  intro pins s σ H Q I h
  refine Compare_chain (thn (ha pins s σ H _ I h) fun v s1 ⟨x,H1,I1,r1,q1⟩=>chain_link (thn (hb pins s1 σ H1 _ I1 q1) fun u s2 ⟨y,H2,I2,r2,q2⟩ =>
    thn (ho pins s2 σ H2 x y v u _ I2 r1 r2 q2) fun d s3 ⟨z,H3,I3,r3,k,e,q3⟩=>?_)) hm
  subst e
  cases r3
  refine wpAny_truthy_bool ?_
  cases k with
  | false=>exact ite_ff ⟨.bl false,H3,I3,rfl,q3⟩
  | true=>exact ite_tt (chain_last (thn (hc pins s3 σ H3 _ I3 q3) fun w' s4 ⟨z',H4,I4,r4,q4⟩=>ho' pins s4 σ H4 y z' u w' Q I4 r2 r4 q4))
theorem Wx:(sizeLine:Nat) < 2 ^ 63:=by rw [sizeLine_eq];decide
theorem zcd:OpR X (binaryOp .Add) (fun x y H Q=>∃ i j,x=.str i∧y=.str j∧i.length+j.length≤sizeLine∧Q (.str (i++j)) H):=by
  intro pins s σ H x y v u Q I rx ry h
  obtain ⟨i,j,rfl,rfl,hz,q⟩:=h
  obtain ⟨t,rfl⟩:=rx
  obtain ⟨t',rfl⟩:=ry
  exact add_str (fun t' tk=>⟨.str (i++j),H,I.tok _,⟨_,rfl⟩,q⟩) hz
theorem zax {x:V}{us:List Value}(r:yP [x] us):∃ u,us=[u]∧xS x u:=by
  cases r with
  | cons r1 r2=>cases r2;exact ⟨_,rfl,r1⟩
theorem zbX {x y:V}{us:List Value}(r:yP [x,y] us):∃ u w',us=[u,w']∧xS x u∧xS y w':=by
  cases r with
  | cons r1 r2 =>
    cases r2 with
    | cons r3 r4=>cases r4;exact ⟨_,_,rfl,r1,r3⟩
theorem zcS (hc:X.calm=true):YO X (.builtin "max") (fun xs H Q=>∃ i j,xs=[.int i,.int j]∧Q (.int (if j > i then j else i)) H):=by
  intro pins s σ H xs us Q I r h
  obtain ⟨i,j,rfl,q⟩:=h
  obtain ⟨u,w',rfl,⟨t,rfl⟩,⟨t',rfl⟩⟩:=zbX r
  refine max_two_ints (I.ok.hd hc) fun h' tk k=>⟨_,H,I.kept k,?_,q⟩
  by_cases hj:j > i
  · rw [if_pos hj,if_pos hj];exact ⟨_,rfl⟩
  · rw [if_neg hj,if_neg hj];exact ⟨_,rfl⟩
theorem Vm (hc:X.calm=true):YO X (.builtin "min") (fun xs H Q=>∃ i j,xs=[.int i,.int j]∧Q (.int (if j < i then j else i)) H):=by
  intro pins s σ H xs us Q I r h
  obtain ⟨i,j,rfl,q⟩:=h
  obtain ⟨u,w',rfl,⟨t,rfl⟩,⟨t',rfl⟩⟩:=zbX r
  refine min_two_ints (I.ok.hd hc) fun h' tk k=>⟨_,H,I.kept k,?_,q⟩
  by_cases hj:j < i
  · rw [if_pos hj,if_pos hj];exact ⟨_,rfl⟩
  · rw [if_neg hj,if_neg hj];exact ⟨_,rfl⟩
end
end L2
namespace L2
open PySem PySem.Spec PyProof.Rows
set_option genInjectivity false in
set_option genSizeOf false in
set_option genCtorIdx false in
structure zjz (h:Heap) (x dx C:Addr) (mA:Str→Option Value):Prop where
  obj:h.get? x=some (PySem.W.instObj C dx)
  ns:h.Ns1 dx mA
  ne:dx≠x
theorem VH {h:Heap}{dx:Addr}{mA:Str→Option Value}(n:h.Ns1 dx mA):∃ od,h.get? dx=some od∧∀ name,PySem.W.lookIn name od=some (mA name):=by
  obtain ⟨o,es,ep,ho,hd,hk,_,hm⟩:=n
  refine ⟨o,ho,fun name=>?_⟩
  have e:=hm name
  unfold nsFind findBy at e
  rw [←Array.find?_toList] at e
  unfold PySem.W.lookIn
  rw [hd]
  dsimp only
  split
  · rename_i y q
    rw [q] at e
    exact congrArg some e
  · rename_i q
    rw [q] at e
    have a:es.toList.any (·.refKey)=false:=by
      rw [List.any_eq_false]
      intro y hy
      obtain ⟨z,t,hkey⟩:=hk y (Array.mem_toList_iff.mp hy)
      simp [DictEntry.refKey,hkey]
    have a':¬ es.toList.any (·.refKey)=true:=by rw [a];exact Bool.false_ne_true
    rw [if_neg a']
    exact congrArg some e
theorem zjz.look {h:Heap}{x dx C:Addr}{mA:Str→Option Value}(I:zjz h x dx C mA):∃ od,PySem.W.InstAt h x (PySem.W.instObj C dx) C (some od)∧∀ name,PySem.W.lookIn name od=some (mA name) :=
  let ⟨od,ho,hl⟩:=VH I.ns
  ⟨od,⟨I.obj,rfl,rfl,ho⟩,hl⟩
section
variable {prog:Program}{w:World}{A:Around}{E:Value→Shared→Prop}{s:Shared}{K:PySem.W.Frag}{x dx C f:Addr}{mA:Str→Option Value}{name:Str}{v:Value}
end
theorem zgN.some_of {v:V}{o:Option Value}(r:zgN (some v) o):∃ u,o=some u∧xS v u:=by
  cases o with
  | none=>exact (show False from r).elim
  | some u=>exact ⟨u,rfl,r⟩
theorem zdV {v:V}{u:Value}(r:xS v u):PySem.W.handedIn u=true:=by
  cases v with
  | non=>cases (show u=Value.none from r);rfl
  | bl b=>cases (show u=Value.bool b from r);rfl
  | int i=>obtain ⟨t,e⟩:=(show ∃ t,u=Value.int i t from r);cases e;rfl
  | str x=>obtain ⟨t,e⟩:=(show ∃ t,u=Value.str x t from r);cases e;rfl
  | byt b=>obtain ⟨t,e⟩:=(show ∃ t,u=Value.bytes b t from r);cases e;rfl
  | flt b=>obtain ⟨t,e⟩:=(show ∃ t,u=Value.float b t from r);cases e;rfl
  | ref a=>cases (show u=Value.ref a from r);rfl
  | ty n=>cases (show u=Value.type n from r);rfl
section
variable {P:Program}{w:World}{H H':Hp}{h h':Heap}{a C dx:Addr}{fs fs':List (Str × V)}
theorem zg7 (hok:HOk P w H h)(e:H a=some (.ins C dx fs)):∃ mA,zjz h a dx C mA∧(∀ f,zgN (fs.lookup f) (mA f))∧PySem.Within mA (fs.map (·.1))∧fs.length≤1000∧H dx=some (.own a):=by
  obtain ⟨d,z,ne,ob,mA,n,r,q⟩:=(show xH P w H h a (.ins C dx fs) from hok a _ e)
  exact ⟨mA,⟨ob,n,ne⟩,r,q,z,d⟩
end
set_option genInjectivity false in
set_option genSizeOf false in
set_option genCtorIdx false in
structure Cls (K:PySem.W.Frag) (C:Addr):Prop where
  pg:PySem.W.plainGet K C Str.empty=true
  hd:PySem.W.hasDictIn K C=true
  po:PySem.W.plainOver K C=true
  sa:PySem.W.findIn K (.ref C) "__setattr__"=some (some (.builtin "object.__setattr__"))
theorem Cls.get {K:PySem.W.Frag}{C:Addr}(c:Cls K C)(f:Str):PySem.W.plainGet K C f=true:=c.pg
noncomputable def Wq (K:PySem.W.Frag)(C:Addr)(f:Str):Prop:=PySem.W.findIn K (.ref C) f=some none
section
variable {X:Cx}{pins:List (Addr × Obj)}{σ:St}{H:Hp}{s:Shared}{a C dx:Addr}{fs:List (Str × V)}{f:Str}{v:V}{A:Around}{E:Value→Shared→Prop}
theorem zgf {prog:Program}{w:World}{env:Env}{e:Expr}{f:Str}{pos:Pos}{s:Shared}{Q:Value→Shared→Prop}(hb:attributeBase e f env (eval e env)=eval e env)
    (h:wpAny (model prog w) A (eval e env) (fun o s₁=>wpAny (model prog w) A (getAttr o f true) Q E s₁) E s):wpAny (model prog w) A (eval (.Attribute e f pos) env) Q E s :=
  Attribute_any_ h (by rw [arm_eval_Attribute,hb])
end
section
variable {X:Cx}{o e value:Expr}{f:Str}{pos pos' tpos:Pos}{ta tv:TE}
end
section
variable {X:Cx}{pins:List (Addr × Obj)}{σ:St}{H:Hp}{s:Shared}{A:Around}{E:Value→Shared→Prop}{Q:Value→Shared→Prop}{c:Value}{b:Bool}
inductive zbo (K:PySem.W.Frag) (H:Hp):V→Value→Prop where
  | non:zbo K H .non (.type "NoneType")
  | bl (x:Bool):zbo K H (.bl x) (.type "bool")
  | int (i:Int):zbo K H (.int i) (.type "int")
  | str (x:Str):zbo K H (.str x) (.type "str")
  | flt (x:UInt64):zbo K H (.flt x) (.type "float")
  | lst {a:Addr} {xs:List V} (e:H a=some (.lst xs)):zbo K H (.ref a) (.type "list")
  | frz {a:Addr} {o:Obj} {xs:List V} (e:H a=some (.frz o (.lst xs))):zbo K H (.ref a) (.type "list")
  | tup {a:Addr} {xs:List V} (e:H a=some (.tup xs)):zbo K H (.ref a) (.type "tuple")
  | dK {a:Addr} {kvs:List (Key × V)} (e:H a=some (.dK kvs)):zbo K H (.ref a) (.type "dict")
  | dT {a:Addr} {kvs:List (List Key × V)} (e:H a=some (.dT kvs)):zbo K H (.ref a) (.type "dict")
  | ins {a C dx:Addr} {fs:List (Str × V)} (e:H a=some (.ins C dx fs)) (cl:Cls K C) (ha:PySem.W.findIn K (.ref C) "__class__"=some (some (.builtin "object.__class__")))
      (hn:PySem.W.specialIn K (.builtin "object.__class__") "__get__"=some (some (.builtin "getset_descriptor.__get__"))) (htk:PySem.W.takesIn K (.builtin "object.__class__")=some true)
      (hm:PySem.W.mroIn K C (.type "object")=some true):zbo K H (.ref a) (.ref C)
theorem zde {x:V}{u t:Value}(I:Inv X pins σ H s)(rx:xS x u)(ty:zbo X.K H x t)(e:PySem.W.kitOne X.K t c=some b)(h:∀ tk,Q (.bool b) { s with toks:=tk }) :
    wpAny (model X.prog X.w) A (call (.builtin "isinstance") [u,c]) Q E s:=by
  cases ty with
  | non=>cases (show u=Value.none from rx);exact PySem.W.kia_one PySem.W.kitx_none I.kIn True.intro e (fun z=>nomatch z) h
  | bl y=>cases (show u=Value.bool y from rx);exact PySem.W.kia_one PySem.W.kitx_bool I.kIn True.intro e (fun z=>nomatch z) h
  | int i=>obtain ⟨t,q⟩:=(show ∃ t,u=Value.int i t from rx);cases q;exact PySem.W.kia_one PySem.W.kitx_int I.kIn True.intro e (fun z=>nomatch z) h
  | str y=>obtain ⟨t,q⟩:=(show ∃ t,u=Value.str y t from rx);cases q;exact PySem.W.kia_one PySem.W.kitx_str I.kIn True.intro e (fun z=>nomatch z) h
  | flt y=>obtain ⟨t,q⟩:=(show ∃ t,u=Value.float y t from rx);cases q;exact PySem.W.kia_one PySem.W.kitx_float I.kIn True.intro e (fun z=>nomatch z) h
  | @lst a xs ea =>
    cases (show u=Value.ref a from rx)
    obtain ⟨_,_,n,_,h1⟩:=(show xH X.prog X.w H s.heap a (.lst xs) from I.hok a _ ea)
    exact PySem.W.kia_one PySem.W.kitx_list I.kIn ⟨_,h1,rfl⟩ e (fun z=>nomatch z) h
  | @frz a ob xs ea =>
    cases (show u=Value.ref a from rx)
    obtain ⟨_,_,_,n,_,h1⟩:=(show xH X.prog X.w H s.heap a (.frz ob (.lst xs)) from I.hok a _ ea)
    exact PySem.W.kia_one PySem.W.kitx_list I.kIn ⟨_,h1,rfl⟩ e (fun z=>nomatch z) h
  | @tup a xs ea =>
    cases (show u=Value.ref a from rx)
    obtain ⟨_,_,_,p⟩:=(show xH X.prog X.w H s.heap a (.tup xs) from I.hok a _ ea)
    obtain ⟨o,h1,h2,_⟩:=p
    exact PySem.W.kia_one PySem.W.kitx_tuple I.kIn ⟨o,h1,h2⟩ e (fun z=>nomatch z) h
  | @dK a kvs ea =>
    cases (show u=Value.ref a from rx)
    obtain ⟨_,_,vs,_,p⟩:=(show xH X.prog X.w H s.heap a (.dK kvs) from I.hok a _ ea)
    obtain ⟨o,es,ep,h1,h2,_⟩:=p
    exact PySem.W.kia_one PySem.W.kitx_dict I.kIn ⟨o,h1,h2.1⟩ e (fun z=>nomatch z) h
  | @dT a kvs ea =>
    cases (show u=Value.ref a from rx)
    obtain ⟨_,_,xs,_,o,es,ep,h1,h2,_⟩:=(show xH X.prog X.w H s.heap a (.dT kvs) from I.hok a _ ea)
    exact PySem.W.kia_one PySem.W.kitx_dict I.kIn ⟨o,h1,h2.1⟩ e (fun z=>nomatch z) h
  | @ins a C dx fs ea cl ha hn htk hm =>
    cases (show u=Value.ref a from rx)
    obtain ⟨mA,O,_⟩:=zg7 I.hok ea
    obtain ⟨od,J,_⟩:=O.look
    exact PySem.W.kia_one (PySem.W.kitx_own (cl.get _) cl.hd ha hn htk hm) I.kIn J e (fun z=>nomatch z) h
end
end L2
namespace L2
open PySem PySem.Spec PyProof.Rows
set_option genInjectivity false in
set_option genSizeOf false in
set_option genCtorIdx false in
structure vN (k:Nat) (A:Around):Prop where
  hd:A.handled=none
  dp:A.depth+3*k+5 < recursionLimit
  un:A.units+16*k+200 < cLine
theorem vN.mono {j k:Nat}{A:Around}(r:vN k A)(h:j≤k):vN j A:=⟨r.hd,by have:=r.dp;omega,by have:=r.un;omega⟩
theorem vN.deeper {k:Nat}{A:Around}(r:vN (k+1) A)(env:Env):vN k (A.deeper env) :=
  ⟨r.hd,by have:=r.dp;show A.depth+1+3*k+5 < _;omega,by have:=r.un;show A.units+3+16*k+200 < _;omega⟩
theorem zbE {A:Around} {C:Addr} {us:List Value} {kw:List (Str × Value)}:(A.under (.builtin "type.__call__" ⟨.ref C::us,kw⟩)).depth=A.depth+1:=by
  first | rfl | simp [Around.under,Code.weight,Code.isCreation,Code.isGuard,Code.isCaller,Code.frames,Code.isFrame,guardIds]
theorem zb5 {A:Around} {C:Addr} {us:List Value} {kw:List (Str × Value)}:(A.under (.builtin "type.__call__" ⟨.ref C::us,kw⟩)).units=A.units+1:=by
  first | rfl | simp [Around.under,Code.cUnits,Code.frames,Code.isFrame]
theorem vN.make {k:Nat} {A:Around} (r:vN (k+1) A) (C:Addr) (us:List Value) (kw:List (Str × Value)):vN k (A.under (.builtin "type.__call__" ⟨.ref C::us,kw⟩)) :=
  ⟨r.hd,by have:=r.dp;rw [zbE];omega,by have:=r.un;rw [zb5];omega⟩
theorem vN.depth {k:Nat}{A:Around}(r:vN k A):A.depth < recursionLimit:=by have:=r.dp;omega
theorem vN.units0 {k:Nat}{A:Around}(r:vN k A):A.units < cLine:=by have:=r.un;omega
noncomputable def zge:TA:=fun _ H Q=>Q [] H
noncomputable def Xm (ta:TE)(tr:TA):TA:=fun σ H Q=>ta σ H fun x H1=>tr σ H1 fun xs H2=>Q (x::xs) H2
section
variable {X:Cx}{e:Expr}{es:List Expr}{te:TE}{t:TA}{pos:Pos}
theorem yI:PA X [] zge:=fun _ _ _ _ H Q I h=>Calls.spliced_nil ⟨[],H,I,.nil,h⟩
theorem zr (ha:PE X e te)(hr:PA X es t)(hs:starEach (e::es) X.env=(false,eval e X.env)::starEach es X.env:=by rfl):PA X (e::es) (Xm te t):=by
  intro pos pins s σ H Q I h
  rw [hs]
  show wpAny _ _ (spliced ((false,eval e X.env)::backTo pos (starEach es X.env))) _ _ s
  refine Calls.spliced_cons (thn (ha pins s σ H _ I h) fun u s1 hh9=>?_)
  obtain ⟨x,H1,I1,r1,q1⟩:=hh9
  exact thn (hr pos pins s1 σ H1 _ I1 q1) fun us s2 ⟨xs,H2,I2,r2,q2⟩=>⟨x::xs,H2,I2,.cons r1 r2,q2⟩
noncomputable def tTup (t:TA):TE:=fun σ H Q=>t σ H fun xs H1=>xs.length≤sizeLine∧∀ p,H1 p=none→Q (.ref p) (upd H1 p (.tup xs))
noncomputable def zjH (t:TA):TE:=fun σ H Q=>t σ H fun xs H1=>xs.length≤sizeLine∧∀ p,H1 p=none→Q (.ref p) (upd H1 p (.lst xs))
theorem zdJ {x1}(h:PA X es t):PE X (.Tuple es x1 pos) (tTup t):=by
  intro pins s σ H Q I hq
  refine wpAny_Tuple_spliced (thn (h pos pins s σ H _ I hq) fun us s1 ⟨xs,H1,I1,r,z,q⟩=>⟨by rw [←r.length];exact z,?_⟩)
  have hf:H1 s1.heap.objs.size=none:=I1.hok.fresh (Nat.le_refl _)
  refine ⟨.ref s1.heap.objs.size,upd H1 s1.heap.objs.size (.tup xs),I1.laid (t':=s1.toks) (fun b u e=>Heap.get?_push_of_some _ e) (Nat.le_refl _) ?_,rfl,q _ hf⟩
  exact ⟨z,us,r,⟨_,Heap.get?_push_size _ rfl,rfl,_,rfl⟩⟩
theorem V1 (h:PA X es t):PE X (.List es pos) (zjH t):=by
  intro pins s σ H Q I hq
  refine wpAny_List_spliced (thn (h pos pins s σ H _ I hq) fun us s1 ⟨xs,H1,I1,r,z,q⟩=>⟨by rw [←r.length];exact z,?_⟩)
  have hf:H1 s1.heap.objs.size=none:=I1.hok.fresh (Nat.le_refl _)
  refine ⟨.ref s1.heap.objs.size,upd H1 s1.heap.objs.size (.lst xs),I1.laid (t':=s1.toks) (fun b u e=>Heap.get?_push_of_some _ e) (Nat.le_refl _) ?_,rfl,q _ hf⟩
  exact ⟨z,us,0,r,Heap.get?_push_size _ rfl⟩
end
noncomputable abbrev Sp:=List V→Hp→VK→XK→Prop
noncomputable abbrev CXT:=List Env→Hp→Shared→XK→Value→Shared→Prop
structure zfS (P:Program) (w:World) (K:PySem.W.Frag) (mg:Str→Option Value) (base:Heap) (A:Around) (outer:List Env) (s:Shared) (H:Hp):Prop where
  frames:A.frames=some outer
  mod:Mod K mg base
  bs:∀ b o,base.get? b=some o→s.heap.get? b=some o∧H b=none
  bsz:base.objs.size≤s.heap.objs.size
  funs:s.heap.FunFrames base outer
  frf:∀ b∈frs outer,H b=none
  hok:HOk P w H s.heap
  bare:AllBare s.gens
noncomputable def CE (outer:List Env)(P:Program)(w:World)(H:Hp)(s:Shared)(Q:VK)(u:Value)(s':Shared):Prop :=
  ∃ v H',s'.os=s.os∧AllBare s'.gens∧Un (frs outer) [] H H' s.heap s'.heap∧HOk P w H' s'.heap∧xS v u∧Q v H'
noncomputable def CR (CX:CXT)(outer:List Env)(P:Program)(w:World)(H:Hp)(s:Shared)(Q:VK)(E:XK)(r:Result)(s':Shared):Prop :=
  match r with
  | .ok (.ret u)=>CE outer P w H s Q u s'
  | .ok _=>False
  | .error e=>CX outer H s E e s'
set_option genInjectivity false in
set_option genSizeOf false in
set_option genCtorIdx false in
structure xk (P:Program) (w:World) (K:PySem.W.Frag) (mg:Str→Option Value) (base:Heap) (CX:CXT) (k:Nat) (f:Addr) (fd:FuncData) (ps:List Str) (sp:Sp):Prop where
  len:∀ vs H Q E,sp vs H Q E→vs.length=ps.length
  run:∀ (A:Around) (outer:List Env) (s:Shared) (H:Hp) (args:Args) (us:List Value) (vs:List V) (Q:VK) (E:XK),vN k A→zfS P w K mg base A outer s H→BindsTo s fd args (ps.zip us)→yP vs us→sp vs H Q E →
    codeAny (model P w) A (.call (.ref f) args) (CR CX outer P w H s Q E) s
theorem xk.mono {P:Program}{w:World}{K:PySem.W.Frag}{mg:Str→Option Value}{base:Heap}{CX:CXT}{j k:Nat}{f:Addr}{fd:FuncData}{ps:List Str}{sp:Sp}(F:xk P w K mg base CX j f fd ps sp)(h:j≤k) :
    xk P w K mg base CX k f fd ps sp:=⟨F.len,fun A outer s H args us vs Q E hr=>F.run A outer s H args us vs Q E (hr.mono h)⟩
theorem xk.imp {P:Program}{w:World}{K:PySem.W.Frag}{mg:Str→Option Value}{base:Heap}{CX:CXT}{k:Nat}{f:Addr}{fd:FuncData}{ps:List Str}{sp sp':Sp}(F:xk P w K mg base CX k f fd ps sp)
    (h:∀ vs H Q E,sp' vs H Q E→sp vs H Q E):xk P w K mg base CX k f fd ps sp' :=
  ⟨fun vs H Q E q=>F.len vs H Q E (h _ _ _ _ q),fun A outer s H args us vs Q E hr he hb hv hs=>F.run A outer s H args us vs Q E hr he hb hv (h _ _ _ _ hs)⟩
theorem zfS.make {P:Program}{w:World}{K:PySem.W.Frag}{mg:Str→Option Value}{base:Heap}{A:Around}{outer:List Env}{s:Shared}{H:Hp}(e:zfS P w K mg base A outer s H)(C:Addr)(us:List Value)(kw:List (Str × Value)) :
    zfS P w K mg base (A.under (.builtin "type.__call__" ⟨.ref C::us,kw⟩)) outer s H:=⟨by first | exact e.frames | (simpa [Around.under,Code.envs,Code.isFrame,pushEnvs] using e.frames),e.mod,e.bs,e.bsz,e.funs,e.frf,e.hok,e.bare⟩
section
variable {X:Cx}{pins:List (Addr × Obj)}{σ:St}{H:Hp}{s s':Shared}
theorem Inv.env0 (I:Inv X pins σ H s):zfS X.prog X.w X.K X.mg X.base X.A X.stack s H :=
  ⟨I.ok.frames,I.ok.mod,I.bs,Nat.le_trans I.ok.bsz I.sz,I.stack,I.stkFree,I.hok,I.bare⟩
theorem Inv.after {Q:VK}{u:Value}(I:Inv X pins σ H s)(h:CE X.stack X.prog X.w H s Q u s'):EP X pins σ Q u s':=by
  obtain ⟨v,H',os,bare,un,hok,r,q⟩:=h
  obtain ⟨hh,g,d,t,os'⟩:=s'
  obtain rfl:os'=s.os:=os
  exact ⟨v,H',I.call (h':=hh) (g':=g) (d':=d) (t':=t) (ch:=[]) un hok bare (fun b z=>absurd z (by simp)),r,q⟩
end
noncomputable def zg0 (sp:Sp)(dvs:List V)(E:XK)(t:TA):TE:=fun σ H Q=>t σ H fun vs H1=>sp (vs++dvs) H1 Q E
noncomputable def Zr (K:PySem.W.Frag)(fd:FuncData)(ps:List Str)(ds:List Value):Prop :=
  ∀ (s:Shared) (us:List Value),K.In s.heap→(us++ds).length=ps.length→BindsTo s fd ⟨us,[]⟩ (ps.zip (us++ds))
theorem Zr.all {K:PySem.W.Frag}{fd:FuncData}{ps:List Str}(h:∀ us:List Value,us.length=ps.length→bindArgs fd ⟨us,[]⟩=pure (ps.zip us)):Zr K fd ps []:=fun s us _ hl=>by
  rw [List.append_nil] at hl ⊢
  exact .of_eq (h us hl)
noncomputable def Xg (CX:CXT)(X:Cx)(E:XK):Prop:=∀ (pins:List (Addr × Obj)) (σ:St) (H:Hp) (s:Shared) (e:Value) (s':Shared),Inv X pins σ H s→CX X.stack H s E e s'→X.xe e s'
section
variable {X:Cx}{CX:CXT}{k:Nat}{f C:Addr}{fd:FuncData}{ps:List Str}{sp:Sp}{dvs:List V}{ds:List Value}{E:XK}{x m:Str}{p pos apos:Pos}{e o:Expr}{es:List Expr}{ta:TE}{t:TA}
theorem ziU {pins:List (Addr × Obj)}{σ:St}{H:Hp}{s:Shared}{Q:VK}{us:List Value}{vs:List V}(F:xk X.prog X.w X.K X.mg X.base CX k f fd ps sp)(hr:vN k X.A)(hb:Zr X.K fd ps ds)(hd:yP dvs ds)(hx:Xg CX X E)
    (I:Inv X pins σ H s) (r:yP vs us) (h:sp (vs++dvs) H Q E):wpAny (model X.prog X.w) X.A (call (.ref f) us) (EP X pins σ Q) X.xe s:=by
  have r2:yP (vs++dvs) (us++ds):=r.append hd
  have hl:(us++ds).length=ps.length:=by rw [←r2.length];exact F.len _ _ _ _ h
  refine wpAny_call (codeAny_mono (F.run X.A X.stack s H ⟨us,[]⟩ (us++ds) (vs++dvs) Q E hr I.env0 (hb s us I.kIn hl) r2 h) fun r s' hq=>?_)
  cases r with
  | error e=>exact hx pins σ H s e s' I hq
  | ok fl =>
    cases fl with
    | ret u=>exact I.after hq
    | next=>exact False.elim hq
    | brk=>exact False.elim hq
    | cont=>exact False.elim hq
theorem WO (F:xk X.prog X.w X.K X.mg X.base CX k f fd ps sp)(hr:vN k X.A)(hg:Gl X x)(hm:X.mg x=some (.ref f))(hk:PySem.W.keepIn X.K (.ref f)=true)(hb:Zr X.K fd ps ds)(hd:yP dvs ds)(hx:Xg CX X E)
    (ha:PA X (e::es) t) (hdb:(x == ("__debug__":Str))=false:=by decide) (he:starEach (e::es) X.env=(false,eval e X.env)::starEach es X.env:=by rfl) (hpl:(backTo pos (starEach es X.env)).any (·.1)=false:=by rfl) :
    PE X (.Call (.Name x p) (e::es) [] pos) (zg0 sp dvs E t):=by
  intro pins s σ H Q I h
  refine wpAny_Call_Name_kw (Xz I hg hm ?_ hdb)
  refine PySem.W.callWith_K (h₀:=X.base) I.ok.mod.kin hk (thn (ha pos pins s σ H _ I h) fun us s1 ⟨vs,H1,I1,r,q⟩=>⟨I1.kIn,?_⟩) he hpl
  exact ziU F hr hb hd hx I1 r q
end
section
variable {X:Cx}{CX:CXT}{k:Nat}{f C:Addr}{fd:FuncData}{ps ks:List Str}{sp:Sp}{E:XK}{x m:Str}{p pos apos kpos:Pos}{e o:Expr}{es:List Expr}{kws:List Keyword}{te ta:TE}{t tk:TA}{nm:Option Str}
variable {g:List Value→List Value→List Value}{gV:List V→List V→List V}
end
structure zA (N P:List Str) (sc:Scope):Prop where
  kind:sc.kind=.function
  co:sc.isCoroutine=false
  gen:sc.isGenerator=false
  nd:N.Nodup
  pre:N.take P.length=P
  par:∀ x∈P,sc.names.lookup x=some .local∨sc.names.lookup x=some .cell
  nofree:∀ y∈sc.names,y.2≠.free
theorem Vy {kindOf:Str→Option NameKind}{x:Str}:∀ {binds:List (Str × Value)} {m:Str→Option Value},(∀ v,(x,v)∉binds)→bindL kindOf binds m x=m x
  | [],_,_=>rfl
  | (n,v)::r,m,h=>by
    unfold bindL
    rw [Vy fun w hw=>h w (List.mem_cons_of_mem _ hw)]
    split
    · have:x≠n:=by rintro rfl;exact h v List.mem_cons_self
      simp [this]
    · rfl
theorem VI {kindOf:Str→Option NameKind}{x:Str}:∀ {binds:List (Str × Value)} {m:Str→Option Value},(∀ v,(x,v)∉binds)→bindC kindOf binds m x=m x
  | [],_,_=>rfl
  | (n,v)::r,m,h=>by
    unfold bindC
    rw [VI fun w hw=>h w (List.mem_cons_of_mem _ hw)]
    split
    · rfl
    · have:x≠n:=by rintro rfl;exact h v List.mem_cons_self
      simp [this]
theorem Vo {kindOf:Str→Option NameKind}{x:Str}{v:Value}:∀ {P:List Str} {vs:List Value} {i:Nat} {m:Str→Option Value},P.Nodup→P[i]?=some x→vs[i]?=some v→kindOf x=some .local →
    bindL kindOf (P.zip vs) m x=some v
  | [],_,_,_,_,h,_,_=>by simp at h
  | _::_,[],_,_,_,_,h,_=>by simp at h
  | p::P,w::vs,0,m,nd,h1,h2,hk=>by
    simp at h1 h2;subst h1;subst h2
    show bindL kindOf ((p,w)::P.zip vs) m p=_
    unfold bindL
    rw [Vy fun v hv=>(List.nodup_cons.mp nd).1 (List.of_mem_zip hv).1,if_pos hk]
    simp
  | p::P,w::vs,i+1,m,nd,h1,h2,hk=>by
    show bindL kindOf ((p,w)::P.zip vs) m x=_
    unfold bindL
    exact Vo (i:=i) (List.nodup_cons.mp nd).2 (by simpa using h1) (by simpa using h2) hk
theorem V9 {kindOf:Str→Option NameKind}{x:Str}{v:Value}:∀ {P:List Str} {vs:List Value} {i:Nat} {m:Str→Option Value},P.Nodup→P[i]?=some x→vs[i]?=some v→kindOf x≠some .local →
    bindC kindOf (P.zip vs) m x=some v
  | [],_,_,_,_,h,_,_=>by simp at h
  | _::_,[],_,_,_,_,h,_=>by simp at h
  | p::P,w::vs,0,m,nd,h1,h2,hk=>by
    simp at h1 h2;subst h1;subst h2
    show bindC kindOf ((p,w)::P.zip vs) m p=_
    unfold bindC
    rw [VI fun v hv=>(List.nodup_cons.mp nd).1 (List.of_mem_zip hv).1,if_neg hk]
    simp
  | p::P,w::vs,i+1,m,nd,h1,h2,hk=>by
    show bindC kindOf ((p,w)::P.zip vs) m x=_
    unfold bindC
    exact V9 (i:=i) (List.nodup_cons.mp nd).2 (by simpa using h1) (by simpa using h2) hk
noncomputable def start (N:List Str)(vs:List V):St:=vs.map some++List.replicate (N.length - vs.length) none
noncomputable def Y2 (CX:CXT)(P:Program)(w:World)(K:PySem.W.Frag)(mg:Str→Option Value)(base:Heap)(N:List Str)(qual:Str)(scope:Scope)(f:Addr)(cd:Value)(A:Around)(outer:List Env)(s:Shared)(H:Hp)(E:XK):Cx where
  prog:=P
  w:=w
  K:=K
  mg:=mg
  base:=base
  A:=A.deeper (envOfC qual scope s.heap.objs.size f cd)
  N:=N
  s₀:=s
  H₀:=H
  env:=envOfC qual scope s.heap.objs.size f cd
  outer:=outer
  stack:=envOfC qual scope s.heap.objs.size f cd::outer
  ex:=[]
  calm:=true
  fn:=fun _=>true
  pn:=[]
  xe:=fun e s'=>wpAny (model P w) (A.deeper (envOfC qual scope s.heap.objs.size f cd)) (leaving (envOfC qual scope s.heap.objs.size f cd) e) (fun _ s''=>CX outer H s E e s'') (fun e' s''=>CX outer H s E e' s'') s'
theorem za4 {sc:Scope}{n:Nat}{x:Str}(h:sc.names.lookup x=some .cell):∃ c,(cellsFrom n sc.names []).lookup x=some c:=by
  have q:=PySem.W.cellsFrom_some sc.names n [] (.inl h)
  exact Option.isSome_iff_exists.mp q
theorem Vr {CX:CXT}{P:Program}{w:World}{K:PySem.W.Frag}{mg:Str→Option Value}{base:Heap}{N ps:List Str}{qual:Str}{scope:Scope}{f:Addr}{cd:Value}{A:Around}{outer:List Env}{s s1:Shared}{H:Hp}{E:XK}{us:List Value}{vs:List V}
    (S:zA N ps scope) (hd:A.handled=none) (e0:zfS P w K mg base A outer s H) (hl:vs.length=ps.length) (r:yP vs us)
    (x:InCallC s s.heap.objs.size (bindL (envOfC qual scope s.heap.objs.size f cd).kindOf (ps.zip us) fun _=>none) (cellsFrom (s.heap.objs.size+1) scope.names []) (bindC (envOfC qual scope s.heap.objs.size f cd).kindOf (ps.zip us) fun _=>none) s1) :
    Inv (Y2 CX P w K mg base N qual scope f cd A outer s H E) [] (start N vs) H s1:=by
  have hpl:ps.length≤N.length:=by have:=congrArg List.length S.pre;rw [List.length_take] at this;omega
  obtain ⟨h1,tk,rfl,hk⟩:=x.done
  have noA:∀ b:Addr,b∉(Y2 CX P w K mg base N qual scope f cd A outer s H E).ex:=fun b z=>absurd (show b∈([]:List Addr) from z) (by simp)
  refine ⟨⟨e0.mod,S.kind,rfl,rfl,Nat.le_refl _,fun y z c h1 h2=>?_,fun y hy=>?_,fun y c _ h=>?_,fun _=>hd,Around.frames_deeper e0.frames,.inr ⟨rfl,rfl⟩,fun b z=>absurd z (noA b),e0.bs,e0.bsz,fun b _ _=>noA b,fun b z=>absurd z (noA b),e0.funs,e0.frf⟩,
    rfl,e0.bare,Un.kept hk,⟨_,x.toInCall.ns,fun i y v h1 h2 h3=>?_⟩,fun y c h=>⟨_,x.cell y c h⟩,e0.hok.fresh (Nat.le_refl _),fun y c h=>?_,fun p hp=>absurd (show p∈([]:List (Addr × Obj)) from hp) (by simp),e0.hok.kept hk,?_⟩
  · exact name_of_addr x.apart (PySem.mem_of_lookup h1) (PySem.mem_of_lookup h2)
  · have hy:scope.names.lookup y=some .cell∨scope.names.lookup y=some .free:=hy
    rcases hy with hy | hy
    · exact za4 hy
    · exact absurd rfl (S.nofree _ (PySem.mem_of_lookup hy))
  · exact Nat.le_of_lt (x.above y c (PySem.mem_of_lookup h))
  · have hi:i < vs.length:=by
      unfold start at h2
      by_cases hi:i < vs.length
      · exact hi
      · rw [List.getElem?_append_right (by simpa using hi)] at h2
        rw [List.getElem?_replicate] at h2
        split at h2 <;> cases h2
    have ha:vs[i]?=some v:=by
      unfold start at h2
      rw [List.getElem?_append_left (by simpa using hi),List.getElem?_map] at h2
      cases e:vs[i]? with
      | none=>rw [e] at h2;cases h2
      | some a=>rw [e] at h2;cases h2;rfl
    obtain ⟨u,hu,rv⟩:=r.get ha
    have hp:ps[i]?=some y:=by
      rw [←S.pre,List.getElem?_take_of_lt (by omega)];exact h1
    have ndP:ps.Nodup:=by rw [←S.pre];exact S.nd.sublist (List.take_sublist _ _)
    refine ⟨u,rv,?_⟩
    rcases S.par y (List.mem_of_getElem? hp) with k | k
    · exact .inl ⟨k,Vo ndP hp hu k⟩
    · obtain ⟨c,e⟩:=za4 (n:=s.heap.objs.size+1) k
      refine .inr ⟨.inl k,c,e,?_⟩
      have q:=x.cell y c e
      rw [V9 ndP hp hu (by show scope.names.lookup y≠_;rw [k];decide)] at q
      exact q
  · exact e0.hok.fresh (Nat.le_of_lt (x.above y c (PySem.mem_of_lookup h)))
  · unfold start
    show _=N.length
    rw [List.length_append,List.length_map,List.length_replicate]
    omega
theorem ziu {CX:CXT}{P:Program}{w:World}{K:PySem.W.Frag}{mg:Str→Option Value}{base:Heap}{k:Nat}{f:Addr}{name qual:Str}{params:Arguments}{body:List Stmt}{scope:Scope}{dV kV doc pm cdv ct oc:Value}{an od:Option Addr}
    {osl:Array (Option Value)} {N ps:List Str} {sp:Sp} (lk:K.lookup f=some ⟨oc,od,.func (PySem.W.fnOf name qual params body scope dV kV doc pm an cdv ct),osl⟩) (hcd:PySem.W.codeIn K cdv qual=true) (S:zA N ps scope)
    (len:∀ vs H Q E,sp vs H Q E→vs.length=ps.length)
    (hbody:∀ (A:Around) (outer:List Env) (s:Shared) (H:Hp) (vs:List V) (Q:VK) (E:XK),vN k (A.deeper (envOfC qual scope s.heap.objs.size f cdv))→sp vs H Q E →
      ∃ t,PSs (Y2 CX P w K mg base N qual scope f cdv A outer s H E) body t∧t { nx:=fun _ H'=>Q .non H',rt:=Q } (start N vs) H) :
    xk P w K mg base CX (k+1) f (PySem.W.fnOf name qual params body scope dV kV doc pm an cdv ct) ps sp:=by
  refine ⟨len,fun A outer s H args us vs Q E hr e0 hb r hsp=>?_⟩
  have hl:=len _ _ _ _ hsp
  have KX:K.In s.heap:=e0.mod.kin.keeps fun b o e=>(e0.bs b o e).1
  have lim:s.heap.NoLimit:=e0.mod.nolimit.keeps fun b o e=>(e0.bs b o e).1
  have hkind:∀ y∈ps.zip us,scope.names.lookup y.1=some .local∨(scope.names.lookup y.1=some .cell∧((cellsFrom (s.heap.objs.size+1) scope.names []).lookup y.1).isSome=true):=fun ⟨n,v⟩ hy=>by
    rcases S.par n (List.of_mem_zip hy).1 with q | q
    · exact .inl q
    · exact .inr ⟨q,PySem.W.cellsFrom_some _ _ _ (.inl q)⟩
  refine codeAny_call_function hr.depth (KX _ _ lk) rfl S.co S.gen rfl (PySem.W.codeRec_of KX hcd) (hb _ _ _ _ ?_)
  refine wpAny_newFunctionEnv_cells S.kind hkind fun env he s1 x=>?_
  subst he
  refine ⟨lim.keeps x.toInCall.keep,codeAny_func ?_⟩
  obtain ⟨t,ht,hq⟩:=hbody A outer s H vs Q E (hr.deeper _) hsp
  have I:Inv (Y2 CX P w K mg base N qual scope f cdv A outer s H E) [] (start N vs) H s1:=Vr S hr.hd e0 hl r x
  refine wpAny_mono (ht [] s1 (start N vs) H _ I hq) (fun fl s' hs=>?_) fun e s' hs=>hs
  have fin:∀ {σ':St} {H':Hp} {v:V} {u:Value},Inv (Y2 CX P w K mg base N qual scope f cdv A outer s H E) [] σ' H' s'→xS v u→Q v H'→CE outer P w H s Q u s' :=
    fun {σ' H' v u} J rv q=>⟨v,H',J.os,J.bare,J.base,J.hok,rv,q⟩
  cases fl with
  | ret u =>
    obtain ⟨v,σ',H',J,rv,q⟩:=hs
    exact fin J rv q
  | next =>
    obtain ⟨σ',H',J,q⟩:=hs
    exact fin (v:=V.non) (u:=Value.none) J rfl q
  | brk =>
    obtain ⟨_,_,_,q⟩:=hs
    exact False.elim q
  | cont =>
    obtain ⟨_,_,_,q⟩:=hs
    exact False.elim q
end L2
namespace L2
open PySem PySem.Spec PyProof.Rows
section
variable {X:Cx}{x:Str}{p pos:Pos}{e:Expr}{es:List Expr}{t:TA}{id T:String}{r:List V→Hp→VK→Prop}
noncomputable def tCB (r:List V→Hp→VK→Prop)(t:TA):TE:=fun σ H Q=>t σ H fun vs H1=>r vs H1 Q
theorem yw (hc:YO X (.builtin id) r) (hg:Gl X x) (hm:X.mg x=none) (hv:bootBuiltins x=some (.builtin id)) (ha:PA X (e::es) t) (hn:x≠"__name__":=by decide) (hdb:(x == ("__debug__":Str))=false:=by decide)
    (he:starEach (e::es) X.env=(false,eval e X.env)::starEach es X.env:=by rfl) (hpl:(backTo pos (starEach es X.env)).any (·.1)=false:=by rfl):PE X (.Call (.Name x p) (e::es) [] pos) (tCB r t):=by
  intro pins s σ H Q I h
  refine wpAny_Call_Name_kw (XV I hg hm hv ?_ hn hdb)
  exact PyProof.Rows.callWith_builtin1 (thn (ha pos pins s σ H _ I h) fun us s1 ⟨vs,H1,I1,r1,q1⟩=>hc pins s1 σ H1 vs us Q I1 r1 q1) he hpl
theorem VP (hc:YO X (.type T) r) (hg:Gl X x) (hm:X.mg x=none) (hv:bootBuiltins x=some (.type T)) (ha:PA X (e::es) t) (hn:x≠"__name__":=by decide) (hdb:(x == ("__debug__":Str))=false:=by decide)
    (he:starEach (e::es) X.env=(false,eval e X.env)::starEach es X.env:=by rfl) (hpl:(backTo pos (starEach es X.env)).any (·.1)=false:=by rfl):PE X (.Call (.Name x p) (e::es) [] pos) (tCB r t):=by
  intro pins s σ H Q I h
  refine wpAny_Call_Name_kw (XV I hg hm hv ?_ hn hdb)
  exact PyProof.Rows.callWith_type1 (thn (ha pos pins s σ H _ I h) fun us s1 ⟨vs,H1,I1,r1,q1⟩=>hc pins s1 σ H1 vs us Q I1 r1 q1) he hpl
end
end L2
namespace HT
open PySem PyProof.Rows
noncomputable def lexLt:List Int→List Int→Bool
  | [],[]=>false
  | [],_::_=>true
  | _::_,[]=>false
  | x::xs,y::ys=>if x=y then lexLt xs ys else decide (x < y)
theorem lexLt_cons (x y:Int)(xs ys:List Int):lexLt (x::xs) (y::ys)=if x=y then lexLt xs ys else decide (x < y):=rfl
theorem zey (A:Around)(s:Shared)(a:Int)(t:Tok)(c:Int)(u:Tok):∃ e,SeqAt.EqAt A s (.int a t) (.int c u) e∧(e=true↔a=c) :=
  ⟨(a == c),SeqAt.EqAt.int_int a t c u,by simp⟩
section
open PySem.SeqAt
open PySem.AutoSeq1 (wpAny_loadPart')
open PySem.MeetsSeq PySem.MeetsSeq2 PySem.MeetsSeq3
end
section
variable {prog:Program}{w:World}{A:Around}{E:Value→Shared→Prop}{s:Shared}
theorem cat_tup {t b:Addr}{vs ws:List Value}{Q:Value→Shared→Prop}(ht:IsTup s.heap t vs.toArray)(hb:IsTup s.heap b ws.toArray)(hv:vs≠[])
    (h1:ws=[]→Q (.ref t) s) (h2:ws≠[]→Q (.ref s.heap.objs.size) { s with heap:=s.heap.push { cls:=.type "tuple",data:=.seq (vs++ws).toArray } })
    (hsz:vs.length+ws.length≤sizeLine):wpAny (model prog w) A (binaryOp .Add (.ref t) (.ref b)) Q E s:=by
  obtain ⟨⟨cls,dd,data,sl⟩,ho,hc,n,hd⟩:=id ht
  obtain ⟨⟨cls2,dd2,data2,sl2⟩,ho2,hc2,n2,hd2⟩:=id hb
  simp only at hc hd hc2 hd2
  subst hc hd hc2 hd2
  have e:vs.toArray++ws.toArray=(vs++ws).toArray:=by simp
  by_cases hw:ws=[]
  · exact concat_meets ⟨_,ho,rfl⟩ ⟨_,ho2,rfl⟩ noFill_tuple_add seq_tuple_add PySem.F.slot_tuple_add PySem.F.entry_tuple_add (PySem.F.args_tuple_add_2 _ _)
      (tuple_addW1 t b vs.toArray ws.toArray n n2 dd dd2 sl sl2 (by simpa using hv) (by simp [hw])) ⟨ho,ho2,h1 hw⟩
  · refine concat_meets ⟨_,ho,rfl⟩ ⟨_,ho2,rfl⟩ noFill_tuple_add seq_tuple_add PySem.F.slot_tuple_add PySem.F.entry_tuple_add (PySem.F.args_tuple_add_2 _ _)
      (tuple_addW2 t b vs.toArray ws.toArray n n2 dd dd2 sl sl2 (by simpa using hv) (by simpa using hw) (by rw [List.size_toArray,List.size_toArray];exact hsz)) ⟨ho,ho2,?_⟩
    rw [e]
    exact h2 hw
noncomputable def sIx (n d:Nat):Option Int→Nat
  | none=>d
  | some v=>if v < 0 then (v+(n:Int)).toNat else min v.toNat n
theorem sIx_none (n d:Nat):sIx n d none=d:=rfl
theorem sIx_nat (n d k:Nat):sIx n d (some (k:Int))=min k n:=by
  show (if (k:Int) < 0 then ((k:Int)+(n:Int)).toNat else min (k:Int).toNat n)=min k n
  rw [if_neg (by omega),Int.toNat_natCast]
theorem zil (n d:Nat)(hd:d≤n)(o:Option Int):sIx n d o≤n:=by
  cases o with
  | none=>exact hd
  | some v =>
    show (if v < 0 then (v+(n:Int)).toNat else min v.toNat n)≤n
    by_cases hv:v < 0
    · rw [if_pos hv];omega
    · rw [if_neg hv];exact Nat.min_le_right _ _
theorem zcO (v:Int)(n d:Nat):(if v < 0 then max (v+(n:Int)) 0 else min v (n:Int))=((sIx n d (some v):Nat):Int):=by
  show (if v < 0 then max (v+(n:Int)) 0 else min v (n:Int))=(((if v < 0 then (v+(n:Int)).toNat else min v.toNat n):Nat):Int)
  by_cases hv:v < 0
  · simp only [if_pos hv];omega
  · simp only [if_neg hv];omega
theorem zbJ (lo hi:Option Int)(n:Nat):Builtin.Slice.sliceAdjust lo hi 1 (n:Int)=(((sIx n 0 lo:Nat):Int),((sIx n n hi:Nat):Int)):=by
  have h1:¬ ((1:Int) < 0):=by omega
  unfold Builtin.Slice.sliceAdjust
  simp only [h1,if_false]
  refine Prod.ext ?_ ?_
  · cases lo with
    | none=>rfl
    | some v=>exact zcO v n 0
  · cases hi with
    | none=>rfl
    | some v=>exact zcO v n n
theorem zcn (i j:Nat):Builtin.Slice.slicePlaces (i:Int) (j:Int) 1=j - i:=by
  unfold Builtin.Slice.slicePlaces
  have h1:(1:Int) > 0:=by omega
  simp only [h1,if_true,Int.ediv_one]
  split <;> omega
theorem Wr {v:Value}{o:Option Int}{Q:Option Int→Shared→Prop}(p:IsPart v o)(h:Q o s):wpAny (model prog w) A (Builtin.Slice.slicePartIndex v) Q E s:=by
  cases p with
  | none=>exact slicePart_none h
  | int i t=>exact slicePart_int h
theorem vX {sl:Addr}{vl vu:Value}{lo hi:Option Int}{n:Nat}{Q:Int × Int × Nat→Shared→Prop}(hs:s.heap.IsSliceOf sl vl vu .none)(pl:IsPart vl lo)(pu:IsPart vu hi)
    (h:Q (((sIx n 0 lo:Nat):Int),1,sIx n n hi - sIx n 0 lo) s):wpAny (model prog w) A (Builtin.Slice.sliceApplied (.ref sl) (pure (n:Int))) Q E s:=by
  obtain ⟨os,hos,hcs,hds⟩:=id hs
  unfold Builtin.Slice.sliceApplied Builtin.Slice.sliceFields
  refine wpAny_bind (wpAny_bind (wpAny_field hos hds (x:=vl) rfl (wpAny_bind (wpAny_field hos hds (x:=vu) rfl (wpAny_bind (wpAny_field hos hds (x:=.none) rfl (wpAny_pure ?_)))))))
  refine wpAny_bind (slicePart_none ?_)
  show wpAny _ _ (if ((1:Int) == 0)=true then _ else _) _ _ s
  rw [if_neg (by decide)]
  refine wpAny_bind (Wr pl (wpAny_bind (Wr pu (wpAny_bind (wpAny_pure ?_)))))
  show wpAny _ _ (match Builtin.Slice.sliceAdjust lo hi 1 (n:Int) with | (lo,hi)=>pure (lo,(1:Int),Builtin.Slice.slicePlaces lo hi 1)) _ _ s
  rw [zbJ lo hi n]
  show wpAny _ _ (pure (((sIx n 0 lo:Nat):Int),(1:Int),Builtin.Slice.slicePlaces ((sIx n 0 lo:Nat):Int) ((sIx n n hi:Nat):Int) 1)) _ _ s
  rw [zcn]
  exact wpAny_pure h
theorem zfl (xs:Array Value)(i k:Nat):((List.range k).filterMap fun (m:Nat)=>xs[((i:Int)+(m:Int)*1).toNat]?).toArray=((xs.toList.drop i).take k).toArray:=by
  have e:(fun (m:Nat)=>xs[((i:Int)+(m:Int)*1).toNat]?)=fun m=>xs[i+m]?:=by
    funext m
    have:((i:Int)+(m:Int)*1).toNat=i+m:=by omega
    rw [this]
  rw [e]
  have:=pick_run xs i k
  rw [List.filterMap_map] at this
  have e2:((fun x=>xs[x]?) ∘ fun x=>i+x)=fun m=>xs[i+m]?:=rfl
  rw [e2] at this
  rw [this]
theorem getItem_tuple_cut {t sl:Addr}{items:Array Value}{vl vu:Value}{lo hi:Option Int}{Q:Value→Shared→Prop}(ht:IsTup s.heap t items)(hs:s.heap.IsSliceOf sl vl vu .none)(pl:IsPart vl lo)(pu:IsPart vu hi)
    (hw:¬ (sIx items.size 0 lo=0∧sIx items.size items.size hi=items.size))
    (h:Q (.ref s.heap.objs.size) { s with heap:=s.heap.push { cls:=.type "tuple",data:=.seq ((items.toList.drop (sIx items.size 0 lo)).take (sIx items.size items.size hi - sIx items.size 0 lo)).toArray } })
    (hsz:items.size≤sizeLine):wpAny (model prog w) A (getItem (.ref t) (.ref sl)) Q E s:=by
  have htake:sizeOk (.seq ((items.toList.drop (sIx items.size 0 lo)).take (sIx items.size items.size hi - sIx items.size 0 lo)).toArray):=by
    show ((items.toList.drop (sIx items.size 0 lo)).take (sIx items.size items.size hi - sIx items.size 0 lo)).toArray.size≤sizeLine
    rw [List.size_toArray,List.length_take,List.length_drop,Array.length_toList]
    omega
  have hj:sIx items.size items.size hi≤items.size:=zil _ _ (Nat.le_refl _) hi
  obtain ⟨os,hos,hcs,hds⟩:=id hs
  have hTs:s.TypeIs (.ref sl) "slice":=⟨os,hos,hcs⟩
  unfold getItem
  try with_reducible refine wpAny_holding ?_
  first | refine wpAny_bind (wpAny_pure ?_) | skip
  refine wpAny_bind (wpAny_sequenceKey ht.typeIs (by decide) ?_)
  refine wpAny_bind (wpAny_callSpecial?_slot (name:=Str.ofString "__getitem__") ht.typeIs PyProof.Rows.slot_tuple_getitem
    (wpAny_call_entry PyProof.Rows.slot_tuple_getitem ht.typeIs entry_tuple_getitem ?_ (args_tuple_getitem _ _)))
  show wpAny _ _ (Builtin.Tuple.tupleItemsOf (.ref t)>>=_) _ _ s
  refine wpAny_bind (tupleItemsOf_ ht ?_)
  refine wpAny_bind (wpAny_typeOf hTs ?_)
  rw [if_pos (by decide)]
  refine wpAny_bind (vX hs pl pu ?_)
  have hno:¬ ((((sIx items.size 0 lo:Nat):Int) == 0&&(1:Int) == 1&&(sIx items.size items.size hi - sIx items.size 0 lo) == items.size)=true):=by
    intro q
    rw [Bool.and_eq_true,Bool.and_eq_true] at q
    have q1:((sIx items.size 0 lo:Nat):Int)=0:=eq_of_beq q.1.1
    have q2:sIx items.size items.size hi - sIx items.size 0 lo=items.size:=eq_of_beq q.2
    exact hw ⟨by omega,by omega⟩
  show wpAny _ _ (if (((sIx items.size 0 lo:Nat):Int) == 0&&(1:Int) == 1&&(sIx items.size items.size hi - sIx items.size 0 lo) == items.size)=true then _ else _) _ _ s
  rw [if_neg hno,zfl]
  first
    | exact wpAny_bind (m:=Builtin.Tuple.tupleExact _) (wpAny_newObj_type (wpAny_pure ⟨_,rfl,wpAny_pure h⟩) htake)
    | exact wpAny_bind (m:=Builtin.Tuple.tupleExact _) (wpAny_newObj_type (wpAny_bind (wpAny_pure (wpAny_pure ⟨_,rfl,wpAny_pure h⟩))) htake)
    | exact wpAny_bind (wpAny_bind (m:=Builtin.Tuple.tupleExact _) (wpAny_newObj_type (wpAny_pure (wpAny_pure ⟨_,rfl,wpAny_pure h⟩)) htake))
    | exact wpAny_bind (wpAny_bind (m:=Builtin.Tuple.tupleExact _) (wpAny_newObj_type (wpAny_pure ⟨_,rfl,wpAny_pure h⟩) htake))
end
end HT
namespace L2
open PySem PySem.Spec PyProof.Rows
noncomputable abbrev TO:=St→Hp→(Option Int→Hp→Prop)→Prop
noncomputable def PO (X:Cx)(e:Option Expr)(t:TO):Prop :=
  ∀ (pins:List (Addr × Obj)) (s:Shared) (σ:St) (H:Hp) (Q:Option Int→Hp→Prop),Inv X pins σ H s→t σ H Q →
    wpAny (model X.prog X.w) X.A (evalPart e X.env) (fun u s'=>∃ o H',Inv X pins σ H' s'∧IsPart u o∧Q o H') X.xe s
noncomputable def zgs:TO:=fun _ H Q=>Q none H
noncomputable def zj1 (t:TE):TO:=fun σ H Q=>t σ H fun x H1=>∃ i,x=.int i∧Q (some i) H1
theorem ZK {ns:List Int}:∀ {us:List Value},yP (ns.map V.int) us→IntsAre us ns:=by
  induction ns with
  | nil=>intro us r;rw [List.map_nil] at r;cases r;exact .nil
  | cons n ns ih =>
    intro us r
    rw [List.map_cons] at r
    cases r with
    | cons r1 r2 =>
      obtain ⟨t,e⟩:=r1
      subst e
      exact .cons n t (ih r2)
section
variable {X:Cx}{e:Expr}{te:TE}{lo hi:Option Expr}{tl th:TO}{pos p2:Pos}
theorem zgJ:PO X none zgs:=by
  intro pins s σ H Q I h
  rw [evalPart_none]
  exact wpAny_pure ⟨none,H,I,.none,h⟩
theorem zgt (h:PE X e te):PO X (some e) (zj1 te):=by
  intro pins s σ H Q I hw
  rw [evalPart_some]
  refine thn (h pins s σ H _ I hw) fun u s1 hh9=>?_
  obtain ⟨x,H1,I1,r1,q1⟩:=hh9
  obtain ⟨i,rfl,q⟩:=q1
  obtain ⟨t,rfl⟩:=r1
  exact ⟨some i,H1,I1,.int i t,q⟩
noncomputable def SlR (X:Cx)(r:V→Option Int→Option Int→Hp→VK→Prop):Prop :=
  ∀ (pins:List (Addr × Obj)) (s:Shared) (σ:St) (H:Hp) (x:V) (v vl vu:Value) (lo hi:Option Int) (sl:Addr) (Q:VK),Inv X pins σ H s→xS x v→s.heap.IsSliceOf sl vl vu .none→IsPart vl lo→IsPart vu hi→r x lo hi H Q →
    ∃ T id,typeLookup (.type T) "__getitem__"=pure (some (.builtin id))∧s.TypeIs v T∧wpAny (model X.prog X.w) X.A (getItem v (.ref sl)) (EP X pins σ Q) X.xe s
theorem SlR.or {r r':V→Option Int→Option Int→Hp→VK→Prop}(h:SlR X r)(h':SlR X r'):SlR X (fun x lo hi H Q=>r x lo hi H Q∨r' x lo hi H Q):=by
  intro pins s σ H x v vl vu lo hi sl Q I rx hs pl pu q
  rcases q with q | q
  · exact h pins s σ H x v vl vu lo hi sl Q I rx hs pl pu q
  · exact h' pins s σ H x v vl vu lo hi sl Q I rx hs pl pu q
noncomputable def tSl (r:V→Option Int→Option Int→Hp→VK→Prop)(te:TE)(tl th:TO):TE:=fun σ H Q=>te σ H fun x H1=>tl σ H1 fun l H2=>th σ H2 fun u H3=>r x l u H3 Q
theorem ze8 {r:V→Option Int→Option Int→Hp→VK→Prop}(hr:SlR X r)(he:PE X e te)(hl:PO X lo tl)(hu:PO X hi th):PE X (.Subscript e (.Slice lo hi none p2) pos) (tSl r te tl th):=by
  intro pins s σ H Q I h
  refine Subscript_ (thn (he pins s σ H _ I h) fun v s1 hh9=>?_)
  obtain ⟨x,H1,I1,r1,q1⟩:=hh9
  refine wpAny_Slice (thn (hl pins s1 σ H1 _ I1 q1) fun vl s2 ⟨l,H2,I2,pl,q2⟩=>thn (hu pins s2 σ H2 _ I2 q2) fun vu s3 hh9=>?_)
  obtain ⟨u,H3,I3,pu,q3⟩:=hh9
  rw [evalPart_none]
  refine wpAny_pure ?_
  have I4:Inv X pins σ H3 { s3 with heap:=s3.heap.push { cls:=.type "slice",data:=.fields #[vl,vu,.none] } }:=I3.kept (t':=s3.toks) fun b ob q=>Heap.get?_push_of_some _ q
  obtain ⟨T,id,hT,ht,hg⟩:=hr pins { s3 with heap:=s3.heap.push { cls:=.type "slice",data:=.fields #[vl,vu,.none] } } σ H3 x v vl vu l u s3.heap.objs.size Q I4 r1 (Heap.IsSliceOf.new ..) pl pu q3
  show wpAny (model X.prog X.w) X.A (subscriptTail e (.Slice lo hi none p2) v (.ref s3.heap.objs.size)) (EP X pins σ Q) X.xe { s3 with heap:=s3.heap.push { cls:=.type "slice",data:=.fields #[vl,vu,.none] } }
  exact tail_any (ops:=[.ref s3.heap.objs.size,v]) ht hT hg (by with_unfolding_all rfl)
noncomputable def zaP (xs:List V)(lo hi:Option Int):List V:=(xs.drop (HT.sIx xs.length 0 lo)).take (HT.sIx xs.length xs.length hi - HT.sIx xs.length 0 lo)
theorem Xq (xs:List V)(lo hi:Option Int):(zaP xs lo hi).length≤xs.length:=by
  unfold zaP
  rw [List.length_take,List.length_drop]
  omega
noncomputable def rSlT (K:PySem.W.Frag):V→Option Int→Option Int→Hp→VK→Prop:=fun x lo hi H Q=>∃ a xs,x=.ref a∧SqT K H a xs ∧
  ¬ (HT.sIx xs.length 0 lo=0∧HT.sIx xs.length xs.length hi=xs.length)∧∀ p,H p=none→Q (.ref p) (upd H p (.tup (zaP xs lo hi)))
theorem zhE:SlR X (rSlT X.K):=by
  intro pins s σ H x v vl vu lo hi sl Q I rx hs pl pu h
  obtain ⟨a,xs,rfl,hx,hw,q⟩:=h
  cases rx
  obtain ⟨its,r,ht,hz⟩:=I.tuple hx
  have hlen:its.toArray.size=xs.length:=by rw [List.size_toArray];exact r.length.symm
  refine ⟨"tuple",_,PyProof.Rows.slot_tuple_getitem.lookup,ht.typeIs,?_⟩
  refine HT.getItem_tuple_cut ht hs pl pu (by rw [hlen];exact hw) ?_ (by rw [hlen];exact hz)
  rw [hlen]
  refine ⟨.ref s.heap.objs.size,_,I.laid (t':=s.toks) (o:=.tup (zaP xs lo hi)) (fun b ob q=>Heap.get?_push_of_some _ q) (Nat.le_refl _) ?_,rfl,q _ (I.hok.fresh (Nat.le_refl _))⟩
  exact ⟨Nat.le_trans (Xq xs lo hi) hz,_,(r.drop (HT.sIx xs.length 0 lo)).take (HT.sIx xs.length xs.length hi - HT.sIx xs.length 0 lo),IsTup.new _ _⟩
noncomputable def zkb (K:PySem.W.Frag):R2:=fun x y H Q=>∃ a b xs ys,x=.ref a∧y=.ref b∧SqT K H a xs∧SqT K H b ys∧xs≠[]∧xs.length+ys.length≤sizeLine ∧
  (ys=[]→Q (.ref a) H)∧(ys≠[]→∀ p,H p=none→Q (.ref p) (upd H p (.tup (xs++ys))))
theorem yP.nil_iff {xs:List V}{us:List Value}(r:yP xs us):us=[]↔xs=[]:=by
  cases r with
  | nil=>simp
  | cons _ _=>simp
theorem zgZ:OpR X (binaryOp .Add) (zkb X.K):=by
  intro pins s σ H x y v u Q I rx ry h
  obtain ⟨a,b,xs,ys,rfl,rfl,ha,hb,hx,hz,q1,q2⟩:=h
  cases rx
  cases ry
  obtain ⟨its,r1,p1,_⟩:=I.tuple ha
  obtain ⟨its2,r2,p2,_⟩:=I.tuple hb
  refine HT.cat_tup p1 p2 (fun z=>hx (r1.nil_iff.mp z)) (fun z=>⟨.ref a,H,I,rfl,q1 (r2.nil_iff.mp z)⟩) (fun z=>?_) (by rw [←r1.length,← r2.length];exact hz)
  refine ⟨.ref s.heap.objs.size,_,I.laid (t':=s.toks) (o:=.tup (xs++ys)) (fun b ob q=>Heap.get?_push_of_some _ q) (Nat.le_refl _) ?_,rfl,q2 (fun w=>z (r2.nil_iff.mpr w)) _ (I.hok.fresh (Nat.le_refl _))⟩
  exact ⟨by rw [List.length_append];exact hz,_,r1.append r2,IsTup.new _ _⟩
end
end L2
namespace L2
open PySem PySem.Spec PyProof.Rows
noncomputable def ixN (n:Nat)(i:Int):Option Nat:=if 0≤i then (if i < n then some i.toNat else none) else if -(n:Int)≤i then some (i+n).toNat else none
noncomputable def atI {α:Type}(xs:List α)(i:Int):Option α:=(ixN xs.length i).bind fun j=>xs[j]?
theorem zdY {n:Nat}{i:Int}{j:Nat}(h:ixN n i=some j):seqIndex? i n=some j∧j < n∧-(n:Int)≤i∧i < n:=by
  unfold ixN at h
  by_cases h0:0≤i
  · rw [if_pos h0] at h
    by_cases h1:i < n
    · rw [if_pos h1] at h
      have e:i.toNat=j:=Option.some.inj h
      exact ⟨by rw [seqIndex_of h0 h1,e],by omega,by omega,h1⟩
    · rw [if_neg h1] at h;cases h
  · rw [if_neg h0] at h
    by_cases h1:-(n:Int)≤i
    · rw [if_pos h1] at h
      have e:(i+n).toNat=j:=Option.some.inj h
      exact ⟨by rw [seqIndex_neg (by omega) h1,e],by omega,h1,by omega⟩
    · rw [if_neg h1] at h;cases h
theorem zaI {α:Type}{xs:List α}{i:Int}{v:α}(h:atI xs i=some v):∃ j,seqIndex? i xs.length=some j∧xs[j]?=some v∧j < xs.length∧-(xs.length:Int)≤i∧i < xs.length:=by
  unfold atI at h
  cases e:ixN xs.length i with
  | none=>rw [e] at h;cases h
  | some j =>
    rw [e] at h
    obtain ⟨h1,h2,h3,h4⟩:=zdY e
    exact ⟨j,h1,h,h2,h3,h4⟩
theorem zem {α:Type}{xs:List α}{j:Nat}{v:α}(h:xs[j]?=some v):atI xs (j:Int)=some v:=by
  have hj:j < xs.length:=(List.getElem?_eq_some_iff.mp h).1
  have e:ixN xs.length (j:Int)=some j:=by
    unfold ixN
    rw [if_pos (by omega),if_pos (by omega)];simp
  unfold atI;rw [e];exact h
noncomputable def zd0 (b:Expr):Prop:=∀ o i,subscripted b false o i=operate [o,i] (getItem o i)
noncomputable def IxR (X:Cx)(r:R2):Prop :=
  ∀ (value slice:Expr) (pins:List (Addr × Obj)) (s:Shared) (σ:St) (H:Hp) (x y:V) (v u:Value) (Q:VK),Inv X pins σ H s→xS x v→xS y u→r x y H Q →
    subscripted slice false v u=operate [v,u] (getItem v u)→wpAny (model X.prog X.w) X.A (subscriptTail value slice v u) (EP X pins σ Q) X.xe s
noncomputable def MtR (X:Cx)(id:String)(r:V→List V→Hp→VK→Prop):Prop :=
  ∀ (pins:List (Addr × Obj)) (s:Shared) (σ:St) (H:Hp) (x:V) (xs:List V) (v:Value) (us:List Value) (Q:VK),Inv X pins σ H s→xS x v→yP xs us→r x xs H Q →
    wpAny (model X.prog X.w) X.A (call (.builtin id) (v::us)) (EP X pins σ Q) X.xe s
section
variable {X:Cx}{a b:Expr}{ta tb:TE}{pos:Pos}
theorem IxR.or {r r':R2}(h:IxR X r)(h':IxR X r'):IxR X (fun x y H Q=>r x y H Q∨r' x y H Q):=by
  intro value slice pins s σ H x y v u Q I rx ry q hs
  rcases q with q | q
  · exact h value slice pins s σ H x y v u Q I rx ry q hs
  · exact h' value slice pins s σ H x y v u Q I rx ry q hs
theorem zha {r:R2}(hr:IxR X r)(ha:PE X a ta)(hb:PE X b tb)(hs:zd0 b):PE X (.Subscript a b pos) (tOp r ta tb):=by
  intro pins s σ H Q I h
  exact Subscript_ (zjQ ha hb I h fun v u s2 x y H2 I2 rx ry q=>hr a b pins s2 σ H2 x y v u Q I2 rx ry q (hs _ _))
noncomputable def rIxL (K:PySem.W.Frag):R2:=fun x y H Q=>∃ p xs i v,x=.ref p∧y=.int i∧SqL K H p xs∧atI xs i=some v∧Q v H
noncomputable def zjx (K:PySem.W.Frag):R2:=fun x y H Q=>∃ p xs i v,x=.ref p∧y=.int i∧SqT K H p xs∧atI xs i=some v∧Q v H
noncomputable def rIxS:R2:=fun x y H Q=>∃ z i c,x=.str z∧y=.int i∧z.length≤sizeLine∧atI z.cps.toList i=some c∧Q (.str ⟨#[c]⟩) H
theorem zg9:IxR X (rIxL X.K):=by
  intro value slice pins s σ H x y v u Q I rx ry h hs
  obtain ⟨p,xs,i,z,rfl,rfl,hq,he,q⟩:=h
  cases rx
  obtain ⟨t,rfl⟩:=ry
  obtain ⟨its,r,pl,hz⟩:=I.list hq
  obtain ⟨j,h1,h2,h3,h4,h5⟩:=zaI he
  obtain ⟨w,ew,rw'⟩:=r.get h2
  have hl:=r.length
  have hn:=Wx
  have fin:EP X pins σ Q w s:=⟨z,H,I,rw',q⟩
  by_cases h0:0≤i
  · have hj:i.toNat=j:=by
      rw [seqIndex_of h0 h5] at h1
      exact Option.some.inj h1
    exact item_listR pl.isList h0 (by omega) (by rw [hj];simpa using ew) fin hs
  · have hj:(i+(its.toArray.size:Int)).toNat=j:=by
      rw [seqIndex_neg (by omega) h4] at h1
      rw [List.size_toArray,← hl]
      exact Option.some.inj h1
    exact subscriptTail_builtinR (x:=w) pl.isList.typeIs slot_list_getitem.lookup
      (wpAny_getItem_list_neg (Q:=fun r s'=>r=w∧EP X pins σ Q r s') pl.isList (by omega) (by rw [List.size_toArray] <;> omega) (by omega) (by rw [hj];simpa using ew) ⟨rfl,fin⟩) hs
theorem zcx:IxR X (zjx X.K):=by
  intro value slice pins s σ H x y v u Q I rx ry h hs
  obtain ⟨p,xs,i,z,rfl,rfl,hq,he,q⟩:=h
  cases rx
  obtain ⟨t,rfl⟩:=ry
  obtain ⟨its,r,pl,hz⟩:=I.tuple hq
  obtain ⟨j,h1,h2,h3,h4,h5⟩:=zaI he
  obtain ⟨w,ew,rw'⟩:=r.get h2
  have hl:=r.length
  have hn:=Wx
  have fin:EP X pins σ Q w s:=⟨z,H,I,rw',q⟩
  exact subscriptTail_builtinR (x:=w) pl.typeIs slot_tuple_getitem.lookup
    (getItem_tuple (j:=j) (Q:=fun r s'=>r=w∧EP X pins σ Q r s') pl (by omega) (by omega) (by rw [List.size_toArray,← hl];exact h1) (by simpa using ew) ⟨rfl,fin⟩) hs
theorem zia:IxR X rIxS:=by
  intro value slice pins s σ H x y v u Q I rx ry h hs
  obtain ⟨z,i,c,rfl,rfl,hz,he,q⟩:=h
  obtain ⟨t,rfl⟩:=rx
  obtain ⟨t',rfl⟩:=ry
  obtain ⟨j,h1,h2,h3,h4,h5⟩:=zaI he
  have hl:z.cps.toList.length=z.length:=by simp [Str.length]
  rw [hl] at h1 h4 h5
  have hn:=Wx
  exact tail_any (typeIs_str s z t) slot_str_getitem.lookup (getItem_str (c:=c) (by
    have e1:decide (i < -(2 ^ 63:Int))=false:=decide_eq_false (by omega)
    have e2:decide (i ≥ 2 ^ 63)=false:=decide_eq_false (by omega)
    rw [e1,e2,Bool.or_false]) (by rw [h1];simpa using h2) ⟨.str ⟨#[c]⟩,H,I.tok _,⟨_,rfl⟩,q⟩) hs
noncomputable def rIx (K:PySem.W.Frag):R2:=fun x y H Q=>rIxL K x y H Q∨zjx K x y H Q∨rIxS x y H Q
theorem ziC:IxR X (rIx X.K):=zg9.or (zcx.or zia)
theorem zcc (its:List Value) (n j:Nat) (u:Value):Obj.mapSeq (·.setIfInBounds j u) { cls:=.type "list",data:=.seq its.toArray n }={ cls:=.type "list",data:=.seq (its.set j u).toArray n }:=by
  simp [Obj.mapSeq]
theorem Inv.lst {pins:List (Addr × Obj)}{σ:St}{H:Hp}{s:Shared}{p:Addr}{xs:List V}(I:Inv X pins σ H s)(h:H p=some (.lst xs)) :
    ∃ (its:List Value) (n:Nat),yP xs its∧s.heap.get? p=some { cls:=.type "list",data:=.seq its.toArray n }∧xs.length≤sizeLine:=by
  obtain ⟨z,its,n,r,e⟩:=I.hok p _ h
  exact ⟨its,n,r,e,z⟩
theorem Inv.lstUpd {pins:List (Addr × Obj)}{σ:St}{H:Hp}{s:Shared}{p:Addr}{xs ys:List V}{its its':List Value}{n n':Nat}{f:Obj→Obj}(I:Inv X pins σ H s)(h:H p=some (.lst xs))
    (ho:s.heap.get? p=some { cls:=.type "list",data:=.seq its.toArray n }) (hf:f { cls:=.type "list",data:=.seq its.toArray n }={ cls:=.type "list",data:=.seq its'.toArray n' }) (r:yP ys its') (hz:ys.length≤sizeLine) (t:Nat) :
    Inv X pins σ (upd H p (.lst ys)) { s with heap:=s.heap.update p f,toks:=t }:=by
  have e:(s.heap.update p f).get? p=some { cls:=.type "list",data:=.seq its'.toArray n' }:=by
    rw [Heap.get?_update_self f ho (by rw [hf] <;> rfl),hf]
  refine I.write (x:=p) (e:=p) (by rw [h];trivial) (.inl rfl) (fun b u hb q=>(Heap.get?_update_other _ _ (Ne.symm hb)).trans q) ⟨_,e⟩ ?_
  exact ⟨hz,its',n',r,e⟩
noncomputable def zjC:V→V→V→Hp→(Hp→Prop)→Prop:=fun o i v H Q=>∃ p xs k j,o=.ref p∧i=.int k∧H p=some (.lst xs)∧ixN xs.length k=some j∧Q (upd H p (.lst (xs.set j v)))
theorem zfD:PSet X zjC:=by
  intro pins s σ H o i v ov iv u Q I ro ri rv h
  obtain ⟨p,xs,k,j,rfl,rfl,hp,hj,q⟩:=h
  cases ro
  obtain ⟨t,rfl⟩:=ri
  obtain ⟨its,n,r,ho,hz⟩:=I.lst hp
  obtain ⟨h1,h2,h3,h4⟩:=zdY hj
  have hl:=r.length
  have hn:=Wx
  have I':Inv X pins σ (upd H p (.lst (xs.set j v))) { s with heap:=s.heap.update p (Obj.mapSeq (·.setIfInBounds j u)) } :=
    I.lstUpd hp ho (zcc its n j u) (r.set rv j) (by rw [List.length_set];exact hz) s.toks
  by_cases h0:0≤k
  · have hk:k.toNat=j:=by
      rw [seqIndex_of h0 h4] at h1
      exact Option.some.inj h1
    exact PySem.W.ki_setAt ho h0 (by omega) (by rw [List.size_toArray,← hl];exact h4) (by rw [hk];exact ⟨_,I',q⟩)
  · have hk:(k+(its.toArray.size:Int)).toNat=j:=by
      rw [seqIndex_neg (by omega) h3] at h1
      rw [List.size_toArray,← hl]
      exact Option.some.inj h1
    exact PySem.W.ki_setBack ho (by omega) (by rw [List.size_toArray,← hl];exact h3) (by omega) (by rw [hk];exact ⟨_,I',q⟩)
theorem VC (lo hi:Option Int)(n:Nat):(sliceBounds lo hi none n).1=((HT.sIx n 0 lo:Nat):Int)∧(sliceBounds lo hi none n).2.1=((HT.sIx n n hi:Nat):Int)∧(sliceBounds lo hi none n).2.2=1:=by
  refine ⟨?_,?_,rfl⟩
  · cases lo with
    | none=>simp [sliceBounds,HT.sIx]
    | some i =>
      simp only [sliceBounds,HT.sIx,Option.getD_none,show (1:Int) > 0 by decide,if_true]
      by_cases h:i < 0
      · simp only [h,if_true] <;> omega
      · simp only [h,if_false] <;> omega
  · cases hi with
    | none=>simp [sliceBounds,HT.sIx]
    | some i =>
      simp only [sliceBounds,HT.sIx,Option.getD_none,show (1:Int) > 0 by decide,if_true]
      by_cases h:i < 0
      · simp only [h,if_true] <;> omega
      · simp only [h,if_false] <;> omega
theorem WP (its:List Value)(lo hi:Option Int):slicePick its.toArray lo hi none=((its.drop (HT.sIx its.length 0 lo)).take (HT.sIx its.length its.length hi - HT.sIx its.length 0 lo)).toArray:=by
  obtain ⟨h1,h2,h3⟩:=VC lo hi its.toArray.size
  unfold slicePick
  rw [h1,h2,h3]
  simp only [sliceRange_one,pick_run,List.size_toArray] <;> rfl
noncomputable def rSlL (K:PySem.W.Frag):V→Option Int→Option Int→Hp→VK→Prop:=fun x lo hi H Q=>∃ a xs,x=.ref a∧SqL K H a xs∧∀ p,H p=none→Q (.ref p) (upd H p (.lst (zaP xs lo hi)))
theorem zgg:SlR X (rSlL X.K):=by
  intro pins s σ H x v vl vu lo hi sl Q I rx hs pl pu h
  obtain ⟨a,xs,rfl,hx,q⟩:=h
  cases rx
  obtain ⟨its,r,ht,hz⟩:=I.list hx
  have hlen:=r.length
  refine ⟨"list",_,slot_list_getitem.lookup,ht.isList.typeIs,?_⟩
  refine wpAny_getItem_list_slice ht.isList hs pl pu .none (by simp) ?_ (by rw [List.size_toArray] <;> omega)
  rw [WP,← hlen]
  refine ⟨.ref s.heap.objs.size,_,I.laid (t':=s.toks) (o:=.lst (zaP xs lo hi)) (fun b ob q=>Heap.get?_push_of_some _ q) (Nat.le_refl _) ?_,rfl,q _ (I.hok.fresh (Nat.le_refl _))⟩
  exact ⟨Nat.le_trans (Xq xs lo hi) hz,_,0,(r.drop (HT.sIx xs.length 0 lo)).take (HT.sIx xs.length xs.length hi - HT.sIx xs.length 0 lo),Heap.get?_push_size _ rfl⟩
noncomputable def zgQ:V→Bool
  | .non=>true
  | .bl _=>true
  | .int _=>true
  | .str _=>true
  | _=>false
noncomputable def eqV:V→V→Bool
  | .non,.non=>true
  | .bl a,.bl b=>a == b
  | .bl a,.int b=>(if a then 1 else 0) == b
  | .int a,.bl b=>a == (if b then 1 else 0)
  | .int a,.int b=>a == b
  | .str a,.str b=>a == b
  | _,_=>false
theorem zfZ {A:Around}{s:Shared}{y x:V}{u v:Value}(ry:xS y u)(rx:xS x v)(fy:zgQ y=true)(fx:zgQ x=true):SeqAt.EqAt A s u v (eqV y x):=by
  cases y with
  | non =>
    cases ry
    cases x with
    | non=>cases rx;exact SeqAt.EqAt.same _
    | bl b=>cases rx;exact SeqAt.EqAt.none_bool b
    | int b=>obtain ⟨t,rfl⟩:=rx;exact SeqAt.EqAt.none_int b t
    | str b=>obtain ⟨t,rfl⟩:=rx;exact SeqAt.EqAt.none_str b t
    | _=>exact absurd (show false=true from fx) Bool.false_ne_true
  | bl a =>
    cases ry
    cases x with
    | non=>cases rx;exact SeqAt.EqAt.bool_none a
    | bl b=>cases rx;exact SeqAt.EqAt.bool_bool a b
    | int b=>obtain ⟨t,rfl⟩:=rx;exact SeqAt.EqAt.bool_int a b t
    | str b=>obtain ⟨t,rfl⟩:=rx;exact SeqAt.EqAt.bool_str a b t
    | _=>exact absurd (show false=true from fx) Bool.false_ne_true
  | int a =>
    obtain ⟨t',rfl⟩:=ry
    cases x with
    | non=>cases rx;exact SeqAt.EqAt.int_none a t'
    | bl b=>cases rx;exact SeqAt.EqAt.int_bool a t' b
    | int b=>obtain ⟨t,rfl⟩:=rx;exact SeqAt.EqAt.int_int a t' b t
    | str b=>obtain ⟨t,rfl⟩:=rx;exact SeqAt.EqAt.int_str a t' b t
    | _=>exact absurd (show false=true from fx) Bool.false_ne_true
  | str a =>
    obtain ⟨t',rfl⟩:=ry
    cases x with
    | non=>cases rx;exact SeqAt.EqAt.str_none a t'
    | bl b=>cases rx;exact SeqAt.EqAt.str_bool a t' b
    | int b=>obtain ⟨t,rfl⟩:=rx;exact SeqAt.EqAt.str_int a t' b t
    | str b=>obtain ⟨t,rfl⟩:=rx;exact SeqAt.EqAt.str_str a t' b t
    | _=>exact absurd (show false=true from fx) Bool.false_ne_true
  | _=>exact absurd (show false=true from fy) Bool.false_ne_true
theorem yd:YO X (.builtin "len") (fun xs H Q=>∃ p ys,xs=[.ref p]∧(SqL X.K H p ys∨SqT X.K H p ys)∧Q (.int ys.length) H):=by
  intro pins s σ H xs us Q I r h
  obtain ⟨p,ys,rfl,hq,q⟩:=h
  obtain ⟨u,rfl,rx⟩:=zax r
  cases rx
  have hn:=Wx
  rcases hq with hq | hq
  · obtain ⟨its,r',pl,hz⟩:=I.list hq
    have hlen:=r'.length
    exact Calls.call_len_list pl.isList (by simp only [List.size_toArray] <;> omega) ⟨.int ys.length,H,I.tok _,⟨s.toks+1,by rw [List.size_toArray,hlen]⟩,q⟩
  · obtain ⟨its,r',pl,hz⟩:=I.tuple hq
    have hlen:=r'.length
    exact len_tuple pl (by simp only [List.size_toArray] <;> omega) ⟨.int ys.length,H,I.tok _,⟨s.toks+1,by rw [List.size_toArray,hlen]⟩,q⟩
theorem Vx:YO X (.type "list") (fun xs H Q=>∃ p ys,xs=[.ref p]∧(SqL X.K H p ys∨SqT X.K H p ys)∧∀ l,H l=none→Q (.ref l) (upd H l (.lst ys))):=by
  intro pins s σ H xs us Q I r h
  obtain ⟨p,ys,rfl,hq,q⟩:=h
  obtain ⟨u,rfl,rx⟩:=zax r
  cases rx
  have fin:∀ (its:List Value),yP ys its→ys.length≤sizeLine→∀ (h':Heap) (c':Nat),(∀ b o',s.heap.get? b=some o'→h'.get? b=some o') →
      h'.get? s.heap.objs.size=some { cls:=.type "list",dict:=none,data:=.seq its.toArray c',slots:=#[] }→EP X pins σ Q (.ref s.heap.objs.size) { s with heap:=h' }:=fun its r' hz h' c' kp e =>
    ⟨.ref s.heap.objs.size,_,I.laid (t':=s.toks) kp (Nat.le_refl _) (show xH X.prog X.w _ h' _ (.lst ys) from ⟨hz,its,c',r',e⟩),rfl,q _ (I.hok.fresh (Nat.le_refl _))⟩
  rcases hq with hq | hq
  · obtain ⟨its,r',pl,hz⟩:=I.list hq
    have hlen:=r'.length
    obtain ⟨o,ho,hc,n,hd⟩:=pl.isList
    exact call_list_seq p (.inl rfl) ho hc hd (fun h' c' kp e=>fin its r' hz h' c' kp e) (by simp only [List.size_toArray] <;> omega)
  · obtain ⟨its,r',pl,hz⟩:=I.tuple hq
    have hlen:=r'.length
    obtain ⟨o,ho,hc,n,hd⟩:=pl
    exact call_list_seq p (.inr rfl) ho hc hd (fun h' c' kp e=>fin its r' hz h' c' kp e) (by simp only [List.size_toArray] <;> omega)
theorem xi:YO X (.type "tuple") (fun xs H Q=>∃ p ys,xs=[.ref p]∧((SqL X.K H p ys∧∀ l,H l=none→Q (.ref l) (upd H l (.tup ys)))∨(SqT X.K H p ys∧Q (.ref p) H))):=by
  intro pins s σ H xs us Q I r h
  obtain ⟨p,ys,rfl,h⟩:=h
  obtain ⟨u,rfl,rx⟩:=zax r
  cases rx
  rcases h with ⟨hq,q⟩ | ⟨hq,q⟩
  · obtain ⟨its,r',pl,hz⟩:=I.list hq
    have hlen:=r'.length
    refine call_tuple_list pl.isList (fun h' kp=>?_) (by simp only [List.size_toArray] <;> omega)
    have I1:Inv X pins σ H { s with heap:=h' }:=I.kept (t':=s.toks) kp
    have I2:Inv X pins σ (upd H h'.objs.size (.tup ys)) { s with heap:=h'.push { cls:=.type "tuple",data:=.seq its.toArray } } :=
      I1.laid (t':=s.toks) (fun b o e=>Heap.get?_push_of_some _ e) (Nat.le_refl _) (show xH X.prog X.w _ _ _ (.tup ys) from ⟨hz,its,r',IsTup.new _ _⟩)
    exact ⟨.ref h'.objs.size,_,I2,rfl,q _ (I1.hok.fresh (Nat.le_refl _))⟩
  · obtain ⟨its,r',pl,hz⟩:=I.tuple hq
    exact call_tuple_same pl ⟨.ref p,H,I,rfl,q⟩
noncomputable def tyV (K:PySem.W.Frag)(T:String)(x:V)(H:Hp):Prop:=match x with
  | .str _=>T="str"
  | .int _=>T="int"
  | .ref p=>(T="list"∧∃ xs,SqL K H p xs)∨(T="tuple"∧∃ o,K.lookup p=some o∧o.cls=.type "tuple"∧o.dict=none) ∨
      (T="dict"∧((∃ kvs,H p=some (.dK kvs))∨∃ kvs,H p=some (.dT kvs)))∨(T="set"∧∃ S n,H p=some (.set S n))
  | _=>False
theorem ziM {pins:List (Addr × Obj)}{σ:St}{H:Hp}{s:Shared}{T:String}{x:V}{v:Value}(I:Inv X pins σ H s)(r:xS x v)(ty:tyV X.K T x H) :
    s.TypeIs v T∧∀ a,v=.ref a→∃ ob,s.heap.get? a=some ob∧ob.dict=none:=by
  cases x with
  | str z =>
    obtain ⟨t,rfl⟩:=r
    cases (show T="str" from ty)
    exact ⟨typeIs_str s z t,fun _ e=>nomatch e⟩
  | int i =>
    obtain ⟨t,rfl⟩:=r
    cases (show T="int" from ty)
    exact ⟨typeIs_int s i t,fun _ e=>nomatch e⟩
  | ref p =>
    cases r
    rcases ty with ⟨rfl,xs,hq⟩ | ⟨rfl,o,hk,hc,hd⟩ | ⟨rfl,hk⟩ | ⟨rfl,S,n,hk⟩
    · obtain ⟨its,_,pl,_⟩:=I.list hq
      refine ⟨pl.isList.typeIs,fun a e=>?_⟩
      cases e
      obtain ⟨o,n,e,c,hd,_⟩:=pl
      exact ⟨o,e,hd⟩
    · refine ⟨⟨o,I.kIn p o hk,hc⟩,fun a e=>?_⟩
      cases e
      exact ⟨o,I.kIn _ o hk,hd⟩
    · have z:∃ o,s.heap.get? p=some o∧o.ExactDict:=by
        rcases hk with ⟨kvs,hk⟩ | ⟨kvs,hk⟩
        · obtain ⟨_,_,_,_,o,_,_,e,ex,_⟩:=I.hok p _ hk
          exact ⟨o,e,ex⟩
        · obtain ⟨_,_,_,_,o,_,_,e,ex,_⟩:=I.hok p _ hk
          exact ⟨o,e,ex⟩
      obtain ⟨o,e,ex⟩:=z
      refine ⟨⟨o,e,ex.1⟩,fun a e2=>?_⟩
      cases e2
      exact ⟨o,e,ex.2.1⟩
    · obtain ⟨o,_,_,_,e,ex,_⟩:=I.hok p _ hk
      refine ⟨⟨o,e,ex.1⟩,fun a e2=>?_⟩
      cases e2
      exact ⟨o,e,ex.2.1⟩
  | _=>exact False.elim ty
noncomputable def tBM (K:PySem.W.Frag)(T:String)(r:V→List V→Hp→VK→Prop)(to:TE)(t:TA):TE:=fun σ H Q=>to σ H fun x H1=>tyV K T x H1∧t σ H1 fun xs H2=>r x xs H2 Q
variable {o e:Expr}{es:List Expr}{to:TE}{t:TA}{name:Str}{apos cpos:Pos}{T id:String}{r:V→List V→Hp→VK→Prop}
theorem XX (pa:PlainAttrs T) (slot:Slot T name id) (hty:typeOf (.builtin id)=pure (.type "method_descriptor")) (hm:MtR X id r) (ho:PE X o to) (ha:PA X (e::es) t)
    (hbase:attributeBase o name X.env (eval o X.env)=eval o X.env:=by rfl)
    (hfew:((backTo cpos (starEach (e::es) X.env)).all (fun x=>!x.1)&&(backToKw cpos (keywordEach [] X.env)).all (fun x=>x.1.isSome)
      && decide ((e::es).length+([]:List Keyword).length+(if ([]:List Keyword).isEmpty then 0 else 1) < 30))=true:=by rfl)
    (hline:(apos.endLine == cpos.line)=true:=by rfl) (hs:starEach (e::es) X.env=(false,eval e X.env)::starEach es X.env:=by rfl) (hplain:(backTo cpos (starEach es X.env)).any (·.1)=false:=by rfl) :
    PE X (.Call (.Attribute o name apos) (e::es) [] cpos) (tBM X.K T r to t):=by
  intro pins s σ H Q I h
  refine wpAny_Call_method_late hbase hfew hline rfl (thn (ho pins s σ H _ I h) fun v s1 hh9=>?_)
  obtain ⟨x,H1,I1,r1,ty,q1⟩:=hh9
  obtain ⟨h1,h2⟩:=ziM I1 r1 ty
  refine ⟨T,id,pa,slot,hty,h1,h2,?_⟩
  have hA:=ha cpos pins s1 σ H1 _ I1 q1
  rw [hs] at hA ⊢
  refine Calls.callWith_builtin (by show (false||(backTo cpos (starEach es X.env)).any (·.1))=false;rw [hplain] <;> rfl) (Calls.evalArgs_plain ?_)
  exact thn hA fun us s2 ⟨vs,H2,I2,r2,q2⟩=>hm pins s2 σ H2 x vs v us Q I2 r1 r2 q2
/- xs.append(e),list.index on a module's tuple .. are MtR facts of 06m -/
end
end L2
namespace L2
open PySem PySem.Spec PyProof.Rows
noncomputable def MtM (X:Cx)(id:String)(r:V→List V→Hp→VK→Prop):Prop :=
  ∀ (pins:List (Addr × Obj)) (s:Shared) (σ:St) (H:Hp) (x:V) (xs:List V) (v:Value) (us:List Value) (Q:VK),Inv X pins σ H s→xS x v→yP xs us→r x xs H Q →
    wpAny (model X.prog X.w) X.A (call (.builtin id) (v::us)) (EP X pins σ Q) X.xe s
theorem yP.one:∀ {x:V} {us:List Value},yP [x] us→∃ u,us=[u]∧xS x u:=by
  intro x us h
  cases h with | cons r t=>cases t;exact ⟨_,rfl,r⟩
theorem yP.rep {xs:List V}{us:List Value}(h:yP xs us):∀ k:Nat,yP (List.replicate k xs).flatten (List.replicate k us).flatten
  | 0=>.nil
  | k+1=>by
    rw [List.replicate_succ,List.replicate_succ,List.flatten_cons,List.flatten_cons]
    exact yP.append h (yP.rep h k)
theorem Vk (its:List Value):∀ (k:Nat) (acc:List Value),
    List.foldl (fun x1 x2=>x1++x2) acc.toArray (List.replicate k its.toArray)=(acc++(List.replicate k its).flatten).toArray
  | 0,acc=>by simp
  | k+1,acc=>by
    have e:acc.toArray++its.toArray=(acc++its).toArray:=by simp
    have e2:(acc++its)++(List.replicate k its).flatten=acc++(List.replicate (k+1) its).flatten:=by
      rw [List.replicate_succ,List.flatten_cons,List.append_assoc]
    rw [←e2,← Vk its k (acc++its),← e,List.replicate_succ,List.foldl_cons]
section
variable {X:Cx}{pins:List (Addr × Obj)}{σ:St}{H:Hp}{s:Shared}{l b:Addr}{xs ys zs:List V}
theorem Inv.lset {its its':List Value}{n:Nat}{f:Array Value→Array Value}{t':Nat}(I:Inv X pins σ H s)(hH:H l=some (.lst xs))
    (e:s.heap.get? l=some { cls:=.type "list",data:=.seq its.toArray n }) (hf:f its.toArray=its'.toArray) (hv:yP ys its') (hz:ys.length≤sizeLine) :
    Inv X pins σ (upd H l (.lst ys)) { s with heap:=s.heap.update l (Obj.mapSeq f),toks:=t' }:=by
  have q:=PySem.IsL.update e f
  rw [hf] at q
  refine I.write (x:=l) (e:=l) (by rw [hH];exact trivial) (.inl rfl) (fun b' u hb hu=>(Heap.get?_update_other s.heap (Obj.mapSeq f) (Ne.symm hb)).trans hu) ⟨_,q⟩ ?_
  exact ⟨hz,its',_,hv,q⟩
theorem Inv.lnew {its:List Value}{t':Nat}(I:Inv X pins σ H s)(hv:yP ys its)(hz:ys.length≤sizeLine) :
    Inv X pins σ (upd H s.heap.objs.size (.lst ys)) { s with heap:=s.heap.push { cls:=.type "list",data:=.seq its.toArray },toks:=t' } :=
  I.laid (fun _ _ q=>Heap.get?_push_of_some _ q) (Nat.le_refl _) ⟨hz,its,0,hv,Heap.get?_push_size _ rfl⟩
theorem Inv.fresh (I:Inv X pins σ H s):H s.heap.objs.size=none:=I.hok.fresh (Nat.le_refl _)
theorem Inv.lstM (I:Inv X pins σ H s) (hH:H l=some (.lst xs)):xs.length≤sizeLine∧∃ (its:List Value) (n:Nat),yP xs its∧xs.length=its.length∧s.heap.get? l=some { cls:=.type "list",data:=.seq its.toArray n }:=by
  obtain ⟨z,its,n,r,e⟩:=I.hok l _ hH
  exact ⟨z,its,n,r,r.length,e⟩
theorem za1 {n:Nat}(h:n≤sizeLine):Builtin.List.listTooLong n=false:=by
  unfold Builtin.List.listTooLong
  exact decide_eq_false (by omega)
end
section
variable {X:Cx}
noncomputable def zcA:V→List V→Hp→VK→Prop:=fun x vs H Q=>∃ l xs y,x=.ref l∧vs=[y]∧H l=some (.lst xs)∧xs.length < sizeLine∧Q .non (upd H l (.lst (xs++[y])))
theorem xL:MtM X "list.append" zcA:=by
  intro pins s σ H x vs v us Q I rx rv h
  obtain ⟨l,xs,y,rfl,rfl,hH,hz,q⟩:=h
  cases rx
  obtain ⟨u,rfl,ru⟩:=rv.one
  obtain ⟨z,its,n,r,hl,e⟩:=I.lstM hH
  refine call_meets F.slot_list_append ⟨_,e,rfl⟩ F.entry_list_append (F.args_list_append_2 _ _) (PySem.list_append l its.toArray n u (by rw [List.size_toArray];omega)) ⟨e,?_⟩
  refine ⟨.non,_,I.lset (its':=its++[u]) hH e (by simp) (r.append (.cons ru .nil)) ?_,rfl,q⟩
  rw [List.length_append,List.length_singleton]
  omega
noncomputable def zg5:V→List V→Hp→VK→Prop:=fun x vs H Q=>∃ l b xs zs,x=.ref l∧vs=[.ref b]∧H l=some (.lst xs)∧H b=some (.lst zs)∧xs.length+zs.length≤sizeLine∧Q .non (upd H l (.lst (xs++zs)))
theorem ziV:MtM X "list.extend" zg5:=by
  intro pins s σ H x vs v us Q I rx rv h
  obtain ⟨l,b,xs,zs,rfl,rfl,hH,hB,hz,q⟩:=h
  cases rx
  obtain ⟨u,rfl,ru⟩:=rv.one
  cases ru
  obtain ⟨z,its,n,r,hl,e⟩:=I.lstM hH
  obtain ⟨z2,its2,n2,r2,hl2,e2⟩:=I.lstM hB
  have hsz:its.toArray.size+its2.toArray.size≤sizeLine:=by rw [List.size_toArray,List.size_toArray];omega
  have hlong:¬ (!its.toArray.isEmpty&&Builtin.List.listTooLong (its.toArray.size+its2.toArray.size))=true:=by
    rw [za1 hsz,Bool.and_false]
    exact Bool.false_ne_true
  refine call_meets F.slot_list_extend ⟨_,e,rfl⟩ F.entry_list_extend (F.args_list_extend_2 _ _)
    (AutoSeq1.list_extend_list_list_0 l its.toArray n b its2.toArray n2 hlong (by rw [List.size_toArray];omega) (by omega)) ⟨e,e2,?_⟩
  refine ⟨.non,_,I.lset (its':=its++its2) hH e (by simp) (r.append r2) ?_,rfl,q⟩
  rw [List.length_append]
  omega
noncomputable def zjG:R2:=fun x y H Q=>∃ l b xs zs,x=.ref l∧y=.ref b∧H l=some (.lst xs)∧H b=some (.lst zs)∧xs.length+zs.length≤sizeLine∧∀ p,H p=none→Q (.ref p) (upd H p (.lst (xs++zs)))
theorem zbu:OpR X (binaryOp .Add) zjG:=by
  intro pins s σ H x y v u Q I rx ry h
  obtain ⟨l,b,xs,zs,rfl,rfl,hH,hB,hz,q⟩:=h
  cases rx
  cases ry
  obtain ⟨z,its,n,r,hl,e⟩:=I.lstM hH
  obtain ⟨z2,its2,n2,r2,hl2,e2⟩:=I.lstM hB
  refine PySem.P.add_list e e2 ?_ (by rw [List.size_toArray,List.size_toArray];omega)
  have ea:its.toArray++its2.toArray=(its++its2).toArray:=by simp
  rw [ea]
  exact ⟨.ref _,_,I.lnew (t':=s.toks) (r.append r2) (by rw [List.length_append];omega),rfl,q _ I.fresh⟩
noncomputable def rRep:R2:=fun x y H Q=>∃ l k xs,x=.ref l∧y=.int k∧H l=some (.lst xs)∧-(2 ^ 63)≤k∧k < 2 ^ 63∧xs.length*k.toNat≤sizeLine ∧
  ∀ p,H p=none→Q (.ref p) (upd H p (.lst (List.replicate k.toNat xs).flatten))
theorem zg3 {α:Type}(xs:List α)(k:Nat):(List.replicate k xs).flatten.length=k*xs.length:=by
  induction k with
  | zero=>simp
  | succ k ih=>rw [List.replicate_succ,List.flatten_cons,List.length_append,ih,Nat.succ_mul,Nat.add_comm]
theorem ziK:OpR X (binaryOp .Mult) rRep:=by
  intro pins s σ H x y v u Q I rx ry h
  obtain ⟨l,k,xs,rfl,rfl,hH,h1,h2,hz,q⟩:=h
  cases rx
  obtain ⟨t,rfl⟩:=ry
  obtain ⟨z,its,n,r,hl,e⟩:=I.lstM hH
  have hlen:its.toArray.size*k.toNat≤sizeLine:=by rw [List.size_toArray,← hl];exact hz
  have hcap:¬ its.toArray.size*k.toNat > (2 ^ 63 - 1) / 8:=by
    have:(sizeLine:Nat)≤(2 ^ 63 - 1) / 8:=by decide
    omega
  have hfit:¬ (!Builtin.List.listFitsIndex k)=true:=by
    rw [fitsIndex_both h1 h2]
    exact Bool.false_ne_true
  have hlong:¬ Builtin.List.listTooLong (its.toArray.size*k.toNat)=true:=by
    rw [za1 hlen]
    exact Bool.false_ne_true
  have hnew:List.foldl (fun x1 x2=>x1++x2) #[] (List.replicate (if its.toArray.isEmpty=true then 0 else k.toNat) its.toArray)=(List.replicate k.toNat its).flatten.toArray:=by
    have f0:∀ m:Nat,List.foldl (fun x1 x2=>x1++x2) #[] (List.replicate m its.toArray)=(List.replicate m its).flatten.toArray:=fun m=>by
      have:=Vk its m []
      rw [List.nil_append] at this
      exact this
    rw [f0]
    cases its with
    | nil=>simp
    | cons a r'=>rw [if_neg (by simp)]
  refine wpAny_binaryOp_repeat_ref (T:="list") (U:="int") (by decide) ⟨_,e,rfl⟩ (fun s'=>typeIs_int s' k t) noFill_list_mul F.fills_int_mul F.slot_int_rmul repeat_list F.slot_int_index.lookup
    (call_meets F.slot_int_rmul (typeIs_int s k t) F.entry_int_rmul (F.args_int_rmul_2 _ _) (int___rmul___int_list k t l its.toArray n)
      ⟨e,rfl,⟨_,e,rfl⟩,call_meets F.slot_list_mul ⟨_,e,rfl⟩ F.entry_list_mul (F.args_list_mul_2 _ _) (AutoListH.list___mul___list_int_3 l its.toArray n k t hfit hcap hlong) ⟨e,?_⟩⟩)
  rw [hnew]
  exact ⟨.ref _,_,I.lnew (t':=s.toks) (r.rep k.toNat) (by rw [zg3,Nat.mul_comm];exact hz),rfl,q _ I.fresh⟩
end
section
variable {prog:Program}{w:World}{A:Around}{E:Value→Shared→Prop}{s:Shared}
end
section
variable {X:Cx}
end
end L2
namespace Att
open PySem PySem.W PySem.Calls PyProof.Rows
theorem XT {P:Params}{h:Heap}:∀ (ns:List Int) (vs:List Value),WellAll P h vs (ns.map WData.int)→IntsAre vs ns:=by
  intro ns
  induction ns with
  | nil =>
    intro vs w
    rw [List.map_nil] at w
    cases w
    exact .nil
  | cons n ns ih =>
    intro vs w
    rw [List.map_cons] at w
    cases w with
    | cons a b =>
      cases a
      exact .cons _ _ (ih _ b)
theorem zd6 {l:OpenLaw}{n:Nat}(hn:l.most=some n){P:Params}{h:Heap}{args:List WData}{vals:List Value}
    (hpre:l.row.toRowW.claim.pre args=true) (hwl:WellAll P h vals args) :
    ∃ a vs ns,vals=[Value.ref a]∧args=[WData.list (ns.map WData.int)]∧h.get? a=some { cls:=.type "list",data:=.seq vs.toArray }∧IntsAre vs ns∧ns.length≤n:=by
  have hsh:WShape.hasAll [] args [.list .int]=true:=(pre_splitW hpre).1
  have hc:l.pre.holds [] { args:=args }=true:=(pre_splitW hpre).2
  obtain ⟨d,r,rfl,h1,h2⟩:=hasAllW_cons hsh
  obtain rfl:=hasAllW_nil h2
  obtain ⟨xs,rfl,h3⟩:=hasW_list h1
  obtain ⟨ns,rfl⟩:=items_int h3
  have hlen:ns.length≤n:=by
    unfold OpenLaw.pre at hc
    have h4:(WTm.not (.lt (.lit (.int (n:Int))) (.len (.arg 0)))).holds [] { args:=[.list (ns.map .int)] }=true:=by
      have h4:=(holds_andW hc).1
      rw [hn] at h4
      exact h4
    have h5:=condW_of h4 (w_not (w_lt w_lit (w_len_list (w_arg rfl))))
    rw [List.length_map] at h5
    refine Nat.le_of_not_lt fun q=>?_
    have q':(n:Int) < ((ns.length:Nat):Int):=by omega
    first
      | (rw [decide_eq_true q'] at h5;exact absurd h5 (by decide))
      | (simp at h5;omega)
  cases hwl with
  | cons w1 w2 =>
    cases w2
    cases w1 with
    | list ho hall=>exact ⟨_,_,ns,rfl,rfl,ho,XT ns _ hall,hlen⟩
theorem zeg (l:OpenLaw)(args:List WData):l.row.toRowW.claim.post args (.bool true) args=true :=
  postW_of (r:=l.row.toRowW) (X:=(true == true))
    (show WShape.has [] (.bool true) .bool=true by first | rfl | decide | simp [WShape.has,WShape.arms,WShape.armsAll])
    (show (WTm.eq .res (.lit (.bool true))).value [] { args:=args,res:=some (.bool true),after:=args }=some (.bool (true == true)) from w_eq_bool (w_res rfl) w_lit) rfl
theorem attach_call {l:OpenLaw}{n:Nat}{q:Program}{loose:List Str}{XP:(Str→Option Value)→Heap→Prop}{YP:World→Heap→Prop}{d:DefRec}
    (hn:l.most=some n) (hdf:d.params.defaults=[])
    (call:∀ (w:World) (s₀ s₁:Shared) (mg mb:Str→Option Value) (fa:Addr) (o:Obj) (pm cd doc:Value) (a:Addr) (vs:List Value) (ns:List Int),
      Ground q loose [] XP w s₀ mg mb s₁.heap→YP w s₁.heap →
      s₁.heap.get? fa=some o→o.data=.func (docDef d.name d.params d.body d.scope pm cd doc)→s₁.heap.CodeRec cd d.name→mg d.name=some (.ref fa) →
      s₁.heap.get? a=some { cls:=.type "list",data:=.seq vs.toArray }→IntsAre vs ns→ns.length≤n→s₁.gens=#[] →
      codeAny (model l.prog w) callerA (.call (.ref fa) ⟨[.ref a],[]⟩) (fun r s'=>r=.ok (.ret (.bool true))∧OldK s₁.heap s'.heap∧s'.os=s₁.os∧AllBare s'.gens) s₁) :
    WalkO q loose XP YP l.row.toRowW d [] (fun f vs=>PySem.call f vs):=by
  intro w s₀ s₁ mg mb G Y fa o pm cd doc dV kV ho hd hcd hD hmg hg args vals as hpre hlay hrd hwl hlo
  obtain rfl:dV=.none:=Dflts.none hD hdf
  obtain rfl:kV=.none:=Dflts.noKw hD
  obtain ⟨a,vs,ns,rfl,rfl,hobj,hints,hlen⟩:=zd6 hn hpre hwl
  refine enter_call (codeAny_mono (call w s₀ s₁ mg mb fa o pm cd doc a vs ns G Y ho (fd_plain hd) hcd hmg hobj hints hlen hg) fun r s' hq=>?_)
  obtain ⟨rfl,h2,h3,h4⟩:=hq
  exact ⟨.inl ⟨.bool true,.bool true,[],rfl,fun _=>rfl,.bool true,zeg l _,fun _=>⟨List.Pairwise.nil,fun _ hm=>(nomatch hm)⟩⟩,h2,h3,h4⟩
section
variable {prog:Program}{w:World}{A:Around}{E:Value→Shared→Prop}{s:Shared}{K:Frag}
noncomputable def ledger (h:Heap)(L d:Addr):List (Addr × Obj):=(List.range h.objs.size).filterMap fun a=>if a=L∨a=d then none else (h.get? a).map fun o=>(a,o)
end
end Att
namespace L2
open PySem PySem.Spec PyProof.Rows
theorem VA:∀ {vs:List Value} {ns:List Int},IntsAre vs ns→yP (ns.map V.int) vs:=by
  intro vs ns h
  induction h with
  | nil=>exact .nil
  | cons n t h ih=>exact .cons ⟨t,rfl⟩ ih
noncomputable def zjX (H:Hp):Prop:=∀ b,H b=none∨∃ o xs,H b=some (.frz o (.lst xs))
theorem zfc {P:Program}{w:World}{K:PySem.W.Frag}{mg mb:Str→Option Value}{CX:CXT}{k:Nat}{fa a:Addr}{fd:FuncData}{x:Str}{sp:Sp}{s₁:Shared}{vs:List Value}{ns:List Int}
    (KX:K.In s₁.heap) (hns:s₁.heap.Ns mainGlobals mg) (hb:s₁.heap.Ns builtinsNs mb) (hbb:∀ x:Str,x≠"__name__"→mb x=bootBuiltins x) (hlim:s₁.heap.NoLimit) (hg:s₁.gens=#[])
    (ha:s₁.heap.get? a=some { cls:=.type "list",data:=.seq vs.toArray }) (hi:IntsAre vs ns) (hl:ns.length≤sizeLine) (hr:vN k callerA)
    (F:∀ base:Heap,K.In base→base.Ns mainGlobals mg→xk P w K mg base CX k fa fd [x] sp) (hbind:∀ (s:Shared) (u:Value),BindsTo s fd ⟨[u],[]⟩ [(x,u)])
    (hsp:∀ H:Hp,zjX H→SqL K H a (ns.map V.int)→sp [.ref a] H (fun v _=>v=.bl true) fun _ _ _=>False)
    (hCX:∀ H e s',CX [] H s₁ (fun _ _ _=>False) e s'→False) :
    codeAny (model P w) callerA (.call (.ref fa) ⟨[.ref a],[]⟩) (fun r s'=>r=.ok (.ret (.bool true))∧OldK s₁.heap s'.heap∧s'.os=s₁.os∧AllBare s'.gens) s₁:=by
  have rv:=VA hi
  have lenV:=hi.length
  -- from an abstract heap in which nothing but the script may be tracked
  have core:∀ H:Hp,zjX H→SqL K H a (ns.map V.int)→HOk P w H s₁.heap→(∀ b,H b≠none→b=a)→(H a≠none→K.lookup a=none) →
      codeAny (model P w) callerA (.call (.ref fa) ⟨[.ref a],[]⟩) (fun r s'=>r=.ok (.ret (.bool true))∧OldK s₁.heap s'.heap∧s'.os=s₁.os∧AllBare s'.gens) s₁:=by
    intro H hO hS hok hA hK
    have base_of:∀ {b:Addr} {o:Obj},s₁.heap.get? b=some o→H b=none→(zeI s₁.heap H).get? b=some o:=fun e n=>zeE e n
    have noA:∀ {b:Addr} {o:Obj} {es:Array DictEntry} {ep:Nat},s₁.heap.get? b=some o→o.data=.dict es ep→H b=none:=fun {b o es ep} e d=>by
      cases q:H b with
      | none=>rfl
      | some u =>
        have e':b=a:=hA b (by rw [q];simp)
        subst e'
        rw [ha] at e;cases e
        have d':Data.seq vs.toArray _=Data.dict es ep:=d
        cases d'
    have nsK:∀ {b:Addr} {m:Str→Option Value},s₁.heap.Ns b m→(zeI s₁.heap H).Ns b m:=fun {b m} ⟨o,es,ep,e,d,r⟩=>⟨o,es,ep,base_of e (noA e d),d,r⟩
    have hKb:K.In (zeI s₁.heap H):=fun b o e=>base_of (KX b o e) (by
      cases q:H b with
      | none=>rfl
      | some u =>
        have e':b=a:=hA b (by rw [q];simp)
        subst e'
        rw [hK (by rw [q];simp)] at e;cases e)
    have hM:Mod K mg (zeI s₁.heap H):=⟨hKb,nsK hns,⟨mb,nsK hb,hbb⟩,let ⟨mc,h1,h2⟩:=hlim;⟨mc,nsK h1,h2⟩⟩
    have e0:zfS P w K mg (zeI s₁.heap H) callerA [] s₁ H:=⟨rfl,hM,fun b o e=>zhp e,Nat.le_of_eq (zd7 _ _),trivial,fun b hb=>absurd (show b∈([]:List Addr) from hb) (by simp),hok,.of_eq hg⟩
    refine codeAny_mono ((F _ hKb (nsK hns)).run callerA [] s₁ H ⟨[.ref a],[]⟩ [.ref a] [.ref a] _ _ hr e0 (hbind s₁ (.ref a)) (.cons rfl .nil) (hsp H hO hS)) fun r s' h=>?_
    cases r with
    | error e=>exact (hCX H e s' h).elim
    | ok fl =>
      cases fl with
      | next=>exact False.elim h
      | brk=>exact False.elim h
      | cont=>exact False.elim h
      | ret u =>
        obtain ⟨v,H',os,bare,un,hok',r',q⟩:=h
        have q':v=.bl true:=q
        subst q'
        obtain rfl:u=Value.bool true:=r'
        refine ⟨rfl,OldK.of_keep fun b o e=>?_,os,bare⟩
        cases q:H b with
        | none=>exact un.keep b o e q (by intro z;exact absurd (show b∈([]:List Addr) from z) (by simp)) (by simp)
        | some u =>
          rcases hO b with z | ⟨ob,xs,z⟩
          · rw [q] at z;cases z
          · have z2:=un.frzs b ob _ z
            obtain ⟨e1,_⟩:=hok b _ z
            obtain ⟨e2,_⟩:=hok' b _ z2
            rw [e] at e1;cases e1
            exact e2
  cases hk:K.lookup a with
  | some o =>
    -- the script is one of the module's own objects
    have e:=KX a o hk
    rw [ha] at e
    cases e
    refine core (fun _=>none) (fun _=>.inl rfl) (.inr ⟨_,vs.toArray,_,hk,rfl,rfl,rfl,by rw [List.size_toArray,lenV];exact hl,by simpa using rv⟩) (fun b u z=>by have z':(none:Option HO)=some u:=z;cases z') (fun b z=>absurd rfl z) fun z=>absurd rfl z
  | none =>
    refine core (fun b=>if b=a then some (.frz { cls:=.type "list",data:=.seq vs.toArray } (.lst (ns.map V.int))) else none) (fun b=>?_) (.inl (.inr ⟨{ cls:=.type "list",data:=.seq vs.toArray },if_pos rfl⟩)) (fun b u z=>?_) (fun b z=>?_) fun _=>hk
    · by_cases hb:b=a
      · exact .inr ⟨_,_,if_pos hb⟩
      · exact .inl (if_neg hb)
    · by_cases hb:b=a
      · have z':=(if_pos hb).symm.trans z
        cases z'
        subst hb
        exact ⟨ha,by rw [List.length_map];exact hl,vs,_,rv,ha⟩
      · have z':=(if_neg hb).symm.trans z
        cases z'
    · by_cases hb:b=a
      · exact hb
      · exact absurd (if_neg hb) z
end L2
namespace L2
open PySem PySem.Spec PyProof.Rows
theorem walk_of {l:PySem.W.OpenLaw}{n k:Nat}{q:Program}{loose:List Str}{XP:(Str→Option Value)→Heap→Prop}{YP:World→Heap→Prop}{d:DefRec}{K:Params→PySem.W.Frag}{CX:World→CXT}{sp:World→Sp}{x:Str}
    (hn:l.most=some n) (hn2:n≤sizeLine) (hdf:d.params.defaults=[]) (hr:vN k callerA)
    (hY:∀ (w:World) (h:Heap),YP w h→(K w.params).In h)
    (F:∀ (w:World) (mg:Str→Option Value) (fa:Addr) (h:Heap),(K w.params).In h→h.Ns mainGlobals mg→mg d.name=some (.ref fa) →
      ∃ fd:FuncData,(∀ (s:Shared) (u:Value),BindsTo s fd ⟨[u],[]⟩ [(x,u)]) ∧
        ∀ base:Heap,(K w.params).In base→base.Ns mainGlobals mg→xk l.prog w (K w.params) mg base (CX w) k fa fd [x] (sp w))
    (hsp:∀ (w:World) (H:Hp) (a:Addr) (ns:List Int),ns.length≤n→zjX H→SqL (K w.params) H a (ns.map V.int)→sp w [.ref a] H (fun v _=>v=.bl true) fun _ _ _=>False)
    (hCX:∀ (w:World) (H:Hp) (s:Shared) (e:Value) (s':Shared),CX w [] H s (fun _ _ _=>False) e s'→False) :
    PySem.W.WalkO q loose XP YP l.row.toRowW d [] (fun f vs=>PySem.call f vs):=by
  refine Att.attach_call hn hdf fun w s₀ s₁ mg mb fa o pm cd doc a vs ns G Y ho hd hcd hmg hobj hints hlen hg=>?_
  have KX:=hY w _ Y
  obtain ⟨fd,hb,hF⟩:=F w mg fa _ KX G.T.g hmg
  exact zfc KX G.T.g G.T.b G.T.builtins G.T.nolimit hg hobj hints (Nat.le_trans hlen hn2) hr hF hb (fun H hO hS=>hsp w H a ns hlen hO hS) fun H e s'=>hCX w H s₁ e s'
end L2
namespace L2
open PySem PySem.Spec PyProof.Rows
noncomputable def zG (s:Stmt):Arguments:=match s with
  | .FunctionDef _ a _ _ _ _ _ _ _ _=>a
  | _=>{ posonlyargs:=[],args:=[],vararg:=none,kwonlyargs:=[],kw_defaults:=[],kwarg:=none,defaults:=[] }
noncomputable def zy (s:Stmt):List Stmt:=match s with
  | .FunctionDef _ _ b _ _ _ _ _ _ _=>b
  | _=>[]
noncomputable def ze (s:Stmt):Scope:=match s with
  | .FunctionDef _ _ _ _ _ _ sc _ _ _=>sc
  | _=>{ kind:=.function,names:=[],isGenerator:=false,isCoroutine:=false }
noncomputable abbrev CX0:CXT:=fun _ _ _ _ _ _=>False
noncomputable abbrev E0:XK:=fun _ _ _=>False
theorem zgO {X:Cx}:Xg CX0 X E0:=fun _ _ _ _ _ _ _ h=>h.elim
set_option genInjectivity false in
set_option genSizeOf false in
set_option genCtorIdx false in
structure Fun (K:PySem.W.Frag) (x qual:Str) (st:Stmt) (f:Addr) (fd:FuncData):Prop where
  ex:∃ (oc:Value) (od:Option Addr) (kV doc pm:Value) (an:Option Addr) (cdv ct:Value) (osl:Array (Option Value)),
    fd=PySem.W.fnOf x qual (zG st) (zy st) (ze st) .none kV doc pm an cdv ct∧K.lookup f=some ⟨oc,od,.func fd,osl⟩∧PySem.W.codeIn K cdv qual=true
  kp:PySem.W.keepIn K (.ref f)=true
section
variable {P:Program}{w:World}{K:PySem.W.Frag}{mg:Str→Option Value}{base:Heap}
theorem Fun.ok {x qual:Str}{st:Stmt}{f:Addr}{fd:FuncData}{N ps:List Str}{k:Nat}{sp:Sp}(F:Fun K x qual st f fd)(S:zA N ps (ze st))(len:∀ vs H Q E,sp vs H Q E→vs.length=ps.length)
    (hbody:∀ (cdv:Value) (A:Around) (outer:List Env) (s:Shared) (H:Hp) (vs:List V) (Q:VK) (E:XK),vN k (A.deeper (envOfC qual (ze st) s.heap.objs.size f cdv))→sp vs H Q E →
      ∃ t,PSs (Y2 CX0 P w K mg base N qual (ze st) f cdv A outer s H E).nox (zy st) t∧t { nx:=fun _ H'=>Q .non H',rt:=Q } (start N vs) H):xk P w K mg base CX0 (k+1) f fd ps sp:=by
  obtain ⟨oc,od,kV,doc,pm,an,cdv,ct,osl,rfl,lk,hcd⟩:=F.ex
  refine ziu lk hcd S len fun A outer s H vs Q E hr hsp=>?_
  obtain ⟨t,h,q⟩:=hbody cdv A outer s H vs Q E hr hsp
  exact ⟨t,h.nox,q⟩
theorem Fun.binds {x qual:Str}{st:Stmt}{f:Addr}{fd:FuncData}{ps:List Str}(F:Fun K x qual st f fd)
    (h:∀ (kV doc pm:Value) (an:Option Addr) (cdv ct:Value) (us:List Value),us.length=ps.length→bindArgs (PySem.W.fnOf x qual (zG st) (zy st) (ze st) .none kV doc pm an cdv ct) ⟨us,[]⟩=pure (ps.zip us)):Zr K fd ps []:=by
  obtain ⟨oc,od,kV,doc,pm,an,cdv,ct,osl,rfl,lk,hcd⟩:=F.ex
  exact .all (h kV doc pm an cdv ct)
theorem yk {x qual:Str}{st:Stmt}{f:Addr}{oc:Value}{od an:Option Addr}{osl:Array (Option Value)}{kV doc pm cdv ct:Value}(l:K.lookup f=some ⟨oc,od,.func (PySem.W.fnOf x qual (zG st) (zy st) (ze st) .none kV doc pm an cdv ct),osl⟩)
    (c:PySem.W.codeIn K cdv qual=true) (k:PySem.W.keepIn K (.ref f)=true):Fun K x qual st f (PySem.W.fnOf x qual (zG st) (zy st) (ze st) .none kV doc pm an cdv ct):=⟨⟨oc,od,kV,doc,pm,an,cdv,ct,osl,rfl,l,c⟩,k⟩
end
theorem vC {n:Nat}(h:n≤1000):n < sizeLine:=Nat.lt_of_le_of_lt h (by decide)
section
variable {X:Cx}
theorem pv (i:Nat) {x:Str} {pos:Pos} (hN:X.N[i]?=some x:=by rfl) (hv:Vis X.env.scope x:=by first | exact Or.inl rfl | exact Or.inr (Or.inl rfl) | exact Or.inr (Or.inr rfl)) (hd:(x == ("__debug__":Str))=false:=by decide)
    (hcd:(x == ("__classdict__":Str))=false:=by decide):PE X (.Name x pos) (WM i):=zhI hN hv hd hcd
end
noncomputable def yq (H H':Hp):Prop:=∀ b o,H b=some o→H' b=some o
theorem yq.refl (H:Hp):yq H H:=fun _ _ h=>h
theorem yq.trans {H H1 H2:Hp}(a:yq H H1)(b:yq H1 H2):yq H H2:=fun c o h=>b c o (a c o h)
theorem yq.free {H H':Hp}(e:yq H H'){l:Addr}(h:H' l=Option.none):H l=Option.none:=by
  cases q:H l with
  | none=>rfl
  | some o =>
    rw [e l o q] at h
    cases h
theorem yq.seq {K:PySem.W.Frag}{H H':Hp}{a:Addr}{xs:List V}(e:yq H H')(h:SqL K H a xs):SqL K H' a xs:=by
  rcases h with (h | ⟨o,h⟩) | h
  · exact .inl (.inl (e _ _ h))
  · exact .inl (.inr ⟨o,e _ _ h⟩)
  · exact .inr h
end L2
namespace L2
open PySem PySem.Spec PyProof.Rows
end L2
namespace L2
open PySem PySem.Spec PyProof.Rows
section
variable (P:Program)(w:World)
end
section
variable {P:Program}{w:World}{H H':Hp}{h h':Heap}{a:Addr}{o:HO}
end
section
variable {P:Program}{w:World}{H:Hp}{h h':Heap}{x e:Addr}{o':HO}
end
section
variable {fs fs' ex ex':List Addr}{H H1 H2:Hp}{h h1 h2 h':Heap}{a x e:Addr}{o:HO}
end
end L2
namespace L2
open PySem PySem.Spec PyProof.Rows
section
variable {X:Cx}{pins:List (Addr × Obj)}{σ:List (Option V)}{H H':Hp}{s:Shared}{h':Heap}
end
end L2
namespace L2
open PySem PySem.Spec PyProof.Rows
section
variable {X:Cx}
variable {a b:Expr}{ta tb:TE}{pos:Pos}
variable {tA tB':TT}{rest:List Expr}
end
end L2
namespace L2
open PySem PySem.Spec PyProof.Rows
section
variable {X:Cx}{pins:List (Addr × Obj)}{σ:St}{H:Hp}{s:Shared}{a:Addr}{xs ys:List V}
end
section
variable {X:Cx}{pins:List (Addr × Obj)}{σ:St}{H:Hp}{s:Shared}{E:Value→Shared→Prop}
end
section
variable {X:Cx}{st:Stmt}{rest:List Stmt}{t u:TS}{e:Expr}{te:TE}{pos:Pos}
end
section
variable {X:Cx}{pos:Pos}
end
section
variable {X:Cx}{pos:Pos}
end
end L2
namespace L2
open PySem PySem.Spec PyProof.Rows
section
variable {X:Cx}{tg:Expr}
end
end L2
namespace L2
open PySem PySem.Spec PyProof.Rows
section
variable {X:Cx}{a b c:Expr}{ta tb tc:TE}{pos:Pos}
end
section
variable {X:Cx}{a b c:Expr}{ta tb tc:TE}{pos:Pos}
end
end L2
namespace L2
open PySem PySem.Spec PyProof.Rows
section
variable {prog:Program}{w:World}{A:Around}{E:Value→Shared→Prop}{s:Shared}{K:PySem.W.Frag}{x dx C f:Addr}{mA:Str→Option Value}{name:Str}{v:Value}
end
section
variable {P:Program}{w:World}{H H':Hp}{h h':Heap}{a C dx:Addr}{fs fs':List (Str × V)}
end
section
variable {X:Cx}{pins:List (Addr × Obj)}{σ:St}{H:Hp}{s:Shared}{a C dx:Addr}{fs:List (Str × V)}{f:Str}{v:V}{A:Around}{E:Value→Shared→Prop}
end
section
variable {X:Cx}{o e value:Expr}{f:Str}{pos pos' tpos:Pos}{ta tv:TE}
end
section
variable {X:Cx}{pins:List (Addr × Obj)}{σ:St}{H:Hp}{s:Shared}{A:Around}{E:Value→Shared→Prop}{Q:Value→Shared→Prop}{c:Value}{b:Bool}
end
end L2
namespace L2
open PySem PySem.Spec PyProof.Rows
section
variable {X:Cx}{e:Expr}{es:List Expr}{te:TE}{t:TA}{pos:Pos}
end
section
variable {X:Cx}{pins:List (Addr × Obj)}{σ:St}{H:Hp}{s s':Shared}
end
section
variable {X:Cx}{CX:CXT}{k:Nat}{f C:Addr}{fd:FuncData}{ps:List Str}{sp:Sp}{dvs:List V}{ds:List Value}{E:XK}{x m:Str}{p pos apos:Pos}{e o:Expr}{es:List Expr}{ta:TE}{t:TA}
end
section
variable {X:Cx}{CX:CXT}{k:Nat}{f C:Addr}{fd:FuncData}{ps ks:List Str}{sp:Sp}{E:XK}{x m:Str}{p pos apos kpos:Pos}{e o:Expr}{es:List Expr}{kws:List Keyword}{te ta:TE}{t tk:TA}{nm:Option Str}
variable {g:List Value→List Value→List Value}{gV:List V→List V→List V}
end
end L2
namespace L2
open PySem PySem.Spec PyProof.Rows
section
variable {X:Cx}{x:Str}{p pos:Pos}{e:Expr}{es:List Expr}{t:TA}{id T:String}{r:List V→Hp→VK→Prop}
end
end L2
namespace L2
open PySem PySem.Spec PyProof.Rows
section
variable {κ:Type}[DecidableEq κ]
end
section
variable {P:Program}{w:World}{H:Hp}{h:Heap}{a:Addr}
end
section
variable {X:Cx}{pins:List (Addr × Obj)}{σ:St}{H:Hp}{s:Shared}{a:Addr}{y v:V}{u r:Value}{o:Option V}{A:Around}{E:Value→Shared→Prop}
theorem Inv.big (I:Inv X pins σ H s):sysModules < s.heap.objs.size:=by
  have h:mainGlobals < s.heap.objs.size:=(I.mod.glob.keeps I.bk).lt
  exact Nat.lt_trans (by decide) h
end
section
variable {X:Cx}{pins:List (Addr × Obj)}{σ:St}{H:Hp}{s:Shared}{a:Addr}{kvs:List (Key × V)}{k:Key}{u:Value}{A:Around}{E:Value→Shared→Prop}
end
section
variable {X:Cx}{o i e value:Expr}{pos pos' tpos:Pos}{td ty tv:TE}
end
theorem ze1 {P:Program} {w:World} {H:Hp} (h:Heap) (hb:sysModules < h.objs.size):xH P w H (h.push { cls:=.type "dict",data:=.dict #[] }) h.objs.size (.dK []) :=
  ⟨Nat.zero_le _,beq_eq_false_iff_ne.mpr (Ne.symm (Nat.ne_of_lt hb)),[],.nil,Heap.DictOf.new h⟩
noncomputable def zi6:TE:=fun _ H Q=>∀ p,H p=none→Q (.ref p) (upd H p (.dK []))
section
variable {X:Cx}{pos:Pos}
theorem zfd:PE X (.Dict [] [] pos) zi6:=fun pins s σ H Q I h =>
  wpAny_Dict_empty ⟨.ref s.heap.objs.size,_,I.laid (a:=s.heap.objs.size) (o:=.dK []) (t':=s.toks) (fun _ _ q=>Heap.get?_push_of_some _ q) (Nat.le_refl _) (ze1 s.heap I.big),rfl,h _ (I.hok.fresh (Nat.le_refl _))⟩
end
section
variable {X:Cx}{pins:List (Addr × Obj)}{σ:St}{H:Hp}{s:Shared}{a:Addr}{y d:V}{u r:Value}{o:Option V}{A:Around}{E:Value→Shared→Prop}
end
section
variable {X:Cx}{o e f:Expr}{apos cpos:Pos}{td ty tx:TE}
end
section
variable {X:Cx}{pins:List (Addr × Obj)}{σ:St}{H:Hp}{s:Shared}{a:Addr}{kvs:List (Key × V)}{A:Around}{E:Value→Shared→Prop}
end
section
variable {X:Cx}{pins:List (Addr × Obj)}{σ:St}{H:Hp}{s:Shared}{a:Addr}{y:V}{u:Value}{A:Around}{E:Value→Shared→Prop}
end
end L2
namespace Att
open PySem PySem.W PySem.Calls PyProof.Rows
section
variable {prog:Program}{w:World}{A:Around}{E:Value→Shared→Prop}{s:Shared}{K:Frag}
end
end Att
namespace L2
open PySem PySem.Spec PyProof.Rows
end L2
namespace L2
open PySem PySem.Spec PyProof.Rows
end L2
namespace L2
open PySem PySem.Spec PyProof.Rows
section
variable {P:Program}{w:World}{K:PySem.W.Frag}{mg:Str→Option Value}{base:Heap}
end
section
variable {X:Cx}
end
section
variable {κ:Type}[DecidableEq κ]
end
end L2
namespace L2
open PySem PySem.Spec PyProof.Rows
theorem zaX {X:Cx}:YO X (.builtin "isinstance") (fun xs H Q=>∃ x n t b,xs=[x,.ty n]∧zbo X.K H x t∧PySem.W.kitOne X.K t (.type n)=some b∧Q (.bl b) H):=by
  intro pins s σ H xs us Q I r h
  obtain ⟨x,n,t,b,rfl,ty,e,q⟩:=h
  obtain ⟨u,w',rfl,rx,rt⟩:=zbX r
  cases (show w'=Value.type n from rt)
  exact zde I rx ty e fun tk=>⟨.bl b,H,I.tok _,rfl,q⟩
theorem zfy {X:Cx}:OpR X (compareOp .Is) (fun x y H Q=>∃ i j,x=.bl i∧y=.bl j∧Q (.bl (i == j)) H):=by
  intro pins s σ H x y v u Q I rx ry h
  obtain ⟨i,j,rfl,rfl,q⟩:=h
  cases rx
  cases ry
  refine wpAny_is_plain (by rfl) ⟨.bl (i == j),H,I,?_,q⟩
  cases i <;> cases j <;> rfl
theorem zaT {X:Cx}:OpR X (compareOp .IsNot) (fun x y H Q=>∃ i j,x=.bl i∧y=.bl j∧Q (.bl (!(i == j))) H):=by
  intro pins s σ H x y v u Q I rx ry h
  obtain ⟨i,j,rfl,rfl,q⟩:=h
  cases rx
  cases ry
  refine wpAny_isNot_plain (by rfl) ⟨.bl (!(i == j)),H,I,?_,q⟩
  cases i <;> cases j <;> rfl
noncomputable def zga (K:PySem.W.Frag):R2:=fun x y H Q=>∃ a b xs ys,x=.ref a∧y=.ref b∧SqT K H a xs∧SqT K H b ys∧xs.length+ys.length≤sizeLine ∧
  (xs=[]→Q (.ref b) H)∧(xs≠[]→ys=[]→Q (.ref a) H)∧(xs≠[]→ys≠[]→∀ p,H p=none→Q (.ref p) (upd H p (.tup (xs++ys))))
theorem zfg {X:Cx}:OpR X (binaryOp .Add) (zga X.K):=by
  intro pins s σ H x y v u Q I rx ry h
  obtain ⟨a,b,xs,ys,rfl,rfl,ha,hb,hz,q0,q1,q2⟩:=h
  by_cases hx:xs=[]
  · subst hx
    cases rx
    cases ry
    obtain ⟨its,r,p,_⟩:=I.tuple ha
    obtain ⟨its',r',p',_⟩:=I.tuple hb
    cases r
    obtain ⟨⟨cls,dd,data,sl⟩,ho,hc,n,hd⟩:=id p
    obtain ⟨⟨cls2,dd2,data2,sl2⟩,ho2,hc2,n2,hd2⟩:=id p'
    simp only at hc hd hc2 hd2
    subst hc hd hc2 hd2
    exact concat_meets ⟨_,ho,rfl⟩ ⟨_,ho2,rfl⟩ noFill_tuple_add seq_tuple_add PySem.F.slot_tuple_add PySem.F.entry_tuple_add (PySem.F.args_tuple_add_2 _ _)
      (tuple_addW0 a b #[] its'.toArray n n2 dd dd2 sl sl2 rfl) ⟨ho,ho2,⟨.ref b,H,I,rfl,q0 rfl⟩⟩
  · refine zgZ pins s σ H (.ref a) (.ref b) v u Q I rx ry ⟨a,b,xs,ys,rfl,rfl,ha,hb,hx,hz,?_⟩
    exact ⟨fun e=>q1 hx e,fun e=>q2 hx e⟩
end L2
namespace L2
open PySem PySem.Spec PyProof.Rows
inductive Zt:St→St→Prop where
  | nil:Zt [] []
  | non {a:Option V} {s t:St}:Zt s t→Zt (none::s) (a::t)
  | same {a:Option V} {s t:St}:Zt s t→Zt (a::s) (a::t)
theorem Zt.refl:∀ s:St,Zt s s
  | []=>.nil
  | _::r=>.same (Zt.refl r)
theorem Zt.length {s t:St}(h:Zt s t):s.length=t.length:=by
  induction h with
  | nil=>rfl
  | non _ ih=>simp [ih]
  | same _ ih=>simp [ih]
theorem Zt.get {s t:St}(h:Zt s t):∀ (i:Nat) (v:V),s[i]?=some (some v)→t[i]?=some (some v):=by
  induction h with
  | nil=>intro i v e;exact e
  | non _ ih =>
    intro i v e
    cases i with
    | zero=>simp at e
    | succ i=>simpa using ih i v (by simpa using e)
  | same _ ih =>
    intro i v e
    cases i with
    | zero=>simpa using e
    | succ i=>simpa using ih i v (by simpa using e)
theorem Zt.set {n:Nat}{v:V}:∀ {s t:St},Zt s t→s[n]?=some none→Zt s (t.set n (some v))
  | _,_,.nil,_=>.nil
  | _,_,.non (a:=a) h,e=>by
    cases n with
    | zero=>exact .non h
    | succ n=>exact .non (Zt.set h (by simpa using e))
  | _,_,.same (a:=a) h,e=>by
    cases n with
    | zero =>
      have e':a=none:=by simpa using e
      subst e'
      exact .non h
    | succ n=>exact .same (Zt.set h (by simpa using e))
theorem Inv.sub {X:Cx}{pins:List (Addr × Obj)}{σ σ':St}{H:Hp}{s:Shared}(I:Inv X pins σ H s)(h:Zt σ' σ):Inv X pins σ' H s:=I.weak h.length h.get
noncomputable def PIf (X:Cx)(ifs:List Expr)(t:TT):Prop :=
  ∀ (pins:List (Addr × Obj)) (s:Shared) (σ:St) (H:Hp) (Q:Bool→Hp→Prop),Inv X pins σ H s→t σ H Q →
    wpAny (model X.prog X.w) X.A (forIn ifs true fun c r=>if r=true then do let ok←isTrue c X.env (eval c X.env);pure (ForInStep.yield ok) else pure (ForInStep.yield r)) (TP X pins σ Q) X.xe s
noncomputable def tYes:TT:=fun _ H Q=>Q true H
theorem zeh {X:Cx}:PIf X [] tYes:=by
  intro pins s σ H Q I h
  rw [List.forIn_nil]
  exact wpAny_pure ⟨H,I,h⟩
theorem zdB {X:Cx}{c:Expr}{t:TT}(hc:PT X c t):PIf X [c] t:=by
  intro pins s σ H Q I h
  rw [List.forIn_cons]
  refine wpAny_bind ?_
  rw [if_pos rfl]
  refine wpAny_bind (thn (hc pins s σ H Q I h) fun b s1 q=>wpAny_pure ?_)
  show wpAny _ _ (forIn [] b _) _ _ _
  rw [List.forIn_nil]
  exact wpAny_pure q
section
variable {prog:Program}{w:World}{A:Around}{R:Result→Shared→Prop}{s:Shared}
theorem YA {elt target iter:Expr}{ifs:List Expr}{scope:Scope}{pos:Pos}{it acc:Value}{env:Env}(I:Nat→Shared→Prop)
    (turn:∀ n s,I n s→wpAny (model prog w) A (pyNext it) (fun r s₁=>match r with
      | none=>R (.ok .next) s₁
      | some v=>wpAny (model prog w) A (letOwnedTupleGo target it v) (fun _ s₁'=>wpAny (model prog w) A (assign target env v) (fun _ s₂ =>
          wpAny (model prog w) A (forIn ifs true fun c r=>if r=true then do let ok←isTrue c env (eval c env);pure (ForInStep.yield ok) else pure (ForInStep.yield r)) (fun ok s₃ =>
            if ok=true then wpAny (model prog w) A (eval elt env) (fun x s₄ =>
              wpAny (model prog w) A (call (.builtin "list.append") [acc,x]) (fun _ s₅=>∃ m,m < n∧I m s₅) (fun _ _=>False) s₄) (fun _ _=>False) s₃
            else ∃ m,m < n∧I m s₃) (fun _ _=>False) s₂) (fun _ _=>False) s₁') (fun _ _=>False) s₁) (fun _ _=>False) s)
    (n:Nat) (h:I n s) :
    codeAny (model prog w) A (.compLoop (.ListComp elt [⟨target,iter,ifs,0⟩] scope pos) 0 it acc env) R s:=by
  refine codeAny_loop rfl I (fun n s hI=>?_) n h
  show wpAny _ A ((compTurn (.ListComp elt [⟨target,iter,ifs,0⟩] scope pos) 0 it acc env).onRaise (fun x=>do noteFrame x env;theTreesLotGoes x)) _ _ s
  refine wpAny_noted ?_
  rw [compTurn_list]
  refine wpAny_bind (wpAny_standAt (wpAny_bind (wpAny_mono (turn n s hI) (fun r s₁ h₁=>?_) fun _ _ h'=>h'.elim)))
  cases r with
  | none=>exact wpAny_pure h₁
  | some v =>
    refine wpAny_bind (wpAny_mono h₁ (fun _ s₁' h₁'=>?_) fun _ _ h'=>h'.elim)
    refine wpAny_bind (wpAny_mono h₁' (fun _ s₂ h₂=>wpAny_bind (wpAny_mono h₂ (fun ok s₃ h₃=>?_) fun _ _ h'=>h'.elim)) fun _ _ h'=>h'.elim)
    cases ok with
    | false=>exact wpAny_pure ⟨rfl,h₃⟩
    | true =>
      exact wpAny_bind (wpAny_bind (wpAny_mono h₃ (fun x s₄ h₄=>wpAny_bind (wpAny_mono h₄ (fun _ s₅ h₅=>wpAny_pure (wpAny_pure ⟨rfl,h₅⟩)) fun _ _ h'=>h'.elim)) fun _ _ h'=>h'.elim))
end
noncomputable def tLC (wi:TI)(n:Nat)(g:TG)(tt:TT)(te:TE):TE:=fun σ H Q=>wi σ H fun J H1=>∀ D,H1 D=none→∃ W:Nat→Nat→List V→Hp→Prop,(∃ m,W 0 m [] (upd H1 D (.lst []))) ∧
  ∀ i m ys H2,W i m ys H2→(J.stop i H2∧Q (.ref D) H2)∨(J.go i H2∧ys.length < sizeLine∧∀ x H3,J.yld i H2 x H3→g x (List.replicate n none++σ) H3 fun σ2 H4=>tt σ2 H4 fun b H5 =>
    if b=true then te σ2 H5 fun y H6=>H6 D=some (.lst ys)∧∃ m',m' < m∧W (i+1) m' (ys++[y]) (upd H6 D (.lst (ys++[y]))) else ∃ m',m' < m∧W (i+1) m' ys H5)
theorem YL {α:Type}:∀ {l:List (Str × α)} {y:Str},y∈l.map Prod.fst→∃ c,l.lookup y=some c
  | [],_,h=>by simp at h
  | (k,v)::r,y,h=>by
    by_cases e:y=k
    · exact ⟨v,by simp [List.lookup,e]⟩
    · obtain ⟨c,hc⟩:=YL (l:=r) (y:=y) (by simpa [e] using h)
      have hb:(y == k)=false:=beq_eq_false_iff_ne.mpr e
      exact ⟨c,by simp only [List.lookup,hb];exact hc⟩
theorem YV {α:Type}{P:α→Prop}:∀ p∈([]:List α),P p:=fun _ h=>nomatch h
theorem all_cons {α:Type}{P:α→Prop}{a:α}{l:List α}(h:P a)(t:∀ p∈l,P p):∀ p∈a::l,P p:=fun p hp=>by
  rcases List.mem_cons.mp hp with e | hp
  · rw [e];exact h
  · exact t p hp
theorem gs1 (σ:St)(v:V)(H:Hp)(Q:St→Hp→Prop)(h:vL 0 v (List.replicate 1 none++σ) H Q):vL 0 v (List.replicate 1 none++σ) H (fun σ2 H2=>Zt (List.replicate 1 none++σ) σ2∧Q σ2 H2):=⟨.set (.refl _) rfl,h⟩
theorem gs2 {K:PySem.W.Frag}(σ:St)(v:V)(H:Hp)(Q:St→Hp→Prop)(h:zjp K 2 (zab (vL 0) (zab (vL 1) zjm)) v (List.replicate 2 none++σ) H Q) :
    zjp K 2 (zab (vL 0) (zab (vL 1) zjm)) v (List.replicate 2 none++σ) H (fun σ2 H2=>Zt (List.replicate 2 none++σ) σ2∧Q σ2 H2):=by
  obtain ⟨a,xs,e,hq,hl,x,r,e1,y,r2,e2,e3,q⟩:=h
  exact ⟨a,xs,e,hq,hl,x,r,e1,y,r2,e2,e3,.set (.set (.refl _) rfl) rfl,q⟩
end L2
namespace L2
open PySem PySem.Spec PyProof.Rows
noncomputable def Wf (X:Cx)(L M:List Str)(scope:Scope)(cl:List (Str × Addr))(s₀:Shared)(H₀:Hp)(ex:List Addr)(pn:List (Addr × Obj)):Cx :=
  { X with N:=L++M,s₀:=s₀,H₀:=H₀,env:=compEnvC scope cl s₀.heap.objs.size X.env,outer:=X.stack,stack:=X.stack,ex:=ex,fn:=fun _=>false,pn:=pn,xe:=fun _ _=>False }
structure xE (X:Cx) (L M:List Str) (scope:Scope) (cl:List (Str × Addr)):Prop where
  clos:closureFor scope X.env=pure cl
  cell:∀ y∈scope.names,y.2≠.cell
  kind:scope.kind=.function
  names:∀ y∈scope.names,y.2=.local→scope.names.lookup y.1=some .local
  sub:∀ y c,cl.lookup y=some c→X.env.cells.lookup y=some c
  has:∀ y,((relabel scope X.env).names.lookup y=some .cell∨(relabel scope X.env).names.lookup y=some .free)→∃ c,cl.lookup y=some c
  mlen:M.length=X.N.length
  msk:∀ (i:Nat) y,M[i]?=some y→Vis (relabel scope X.env) y→X.N[i]?=some y
  vis:∀ (i:Nat) y,M[i]?=some y→Vis (relabel scope X.env) y→((relabel scope X.env).names.lookup y=some .cell∨(relabel scope X.env).names.lookup y=some .free)
  out:∀ (i:Nat) y,M[i]?=some y→Vis (relabel scope X.env) y→Vis X.env.scope y∧X.env.kindOf y≠some .local
theorem Inv.letGo {X:Cx}{pins:List (Addr × Obj)}{σ:St}{H:Hp}{s:Shared}{C:Addr}{h':Heap}(I:Inv X pins σ H s)(f:zbm X pins H C)(sb:Heap.SameBut C s.heap h'):Inv X pins σ H { s with heap:=h' }:=by
  obtain ⟨f0,f1,f2,f3,f4,f5⟩:=f
  have ne:∀ b,b∉[C]→b≠C:=fun b hb z=>hb (by rw [z];exact List.mem_singleton.mpr rfl)
  refine I.call' (s':={ s with heap:=h' }) (ch:=[C]) rfl ⟨fun b o e _ _ hx=>(sb.2 b (ne b hx)).trans e,fun b o e _ _ hx=>⟨o.slots,(sb.2 b (ne b hx)).trans e⟩,fun _ _ _ n _=>n,fun b o e hx=>⟨o,(sb.2 b (ne b hx)).trans e⟩,fun _ _ q=>q,fun _ _ _ q=>q,fun _ ps q=>⟨#[],by rw [q];simp⟩⟩ ?_ I.bare fun b hb=>?_
  · intro b ob e
    refine (I.hok b ob e).stay (fun c v hc q=>(sb.2 c ?_).trans q) (fun _ q=>q) fun _ _ q=>q
    rintro rfl
    rcases hc with z | z
    · rw [←z,f0] at e;cases e
    · rw [f0] at z;cases z
  · rw [List.mem_singleton.mp hb]
    exact ⟨f3,f1,f4,f5⟩
theorem zd3 {use:Option (Value→Sem Unit)}{Qf:Value→Shared→Prop}{X:Cx}{elt tg iter:Expr}{ifs:List Expr}{L M:List Str}{scope:Scope}{cl:List (Str × Addr)}{pos:Pos}{wi:TI}{g:TG}{tt:TT}{te:TE}
    (hc:X.calm=true) (S:xE X L M scope cl) (hi:PI X tg iter wi)
    (hgS:∀ (σ:St) (v:V) (H:Hp) (Q:St→Hp→Prop),g v (List.replicate L.length none++σ) H Q→g v (List.replicate L.length none++σ) H (fun σ2 H2=>Zt (List.replicate L.length none++σ) σ2∧Q σ2 H2))
    (hg:∀ s₀ H₀ ex pn,PG (Wf X L M scope cl s₀ H₀ ex pn) tg g) (ht:∀ s₀ H₀ ex pn,PIf (Wf X L M scope cl s₀ H₀ ex pn) ifs tt) (he:∀ s₀ H₀ ex pn,PE (Wf X L M scope cl s₀ H₀ ex pn) elt te)
    (hs:∀ x,foldedSetIterable iter X.env x=pure x:=by intro _;rfl) :
    ∀ (pos':Pos) (pins:List (Addr × Obj)) (s:Shared) (σ:St) (H:Hp) (Q:VK),Inv X pins σ H s→tLC wi L.length g tt te σ H Q →
      (∀ (D C:Addr) (H':Hp) (s':Shared),Inv X pins σ H' s'→(∃ m,s'.heap.Ns C m)→zbm X pins H' C→Q (.ref D) H'→compPost (model X.prog X.w) X.A X.xe use Qf (.ref D) C (.ok .next) s') →
      wpAny (model X.prog X.w) X.A (comprehension (.ListComp elt [⟨tg,iter,ifs,0⟩] scope pos) scope X.env pos' (newList []) false (eval iter X.env) use) Qf X.xe s:=by
  intro pos' pins s σ H Q I h fin
  refine wpAny_comprehension_free (use:=use) rfl hs S.clos S.kind S.names (thn (hi pins s σ H _ I h) fun v s1 h1=>thn h1 fun itv s2 h2=>?_)
  obtain ⟨it,fp,tn,J,H2,e,I2,T,st2,f2,q⟩:=h2
  subst e
  have hD:H2 s2.heap.objs.size=none:=I2.hok.fresh (Nat.le_refl _)
  obtain ⟨W,⟨m0,w0⟩,turn⟩:=q _ hD
  refine wpAny_newObj_type (wpAny_newFunctionEnv S.cell (by intro y hy;simp at hy) (fun h₁ hns₁ hsb₁=>?_) S.kind)
  have I3:Inv X pins σ (upd H2 s2.heap.objs.size (.lst [])) { s2 with heap:=s2.heap.push { cls:=.type "list",data:=.seq ([]:List Value).toArray } }:=by
    refine I2.laid (t':=s2.toks) (fun b u e=>Heap.get?_push_of_some _ e) (Nat.le_refl _) ?_
    exact ⟨Nat.zero_le _,[],0,.nil,Heap.get?_push_size _ rfl⟩
  generalize hs3:({ s2 with heap:=s2.heap.push { cls:=.type "list",data:=.seq ([]:List Value).toArray } }:Shared)=s3 at I3 hns₁ hsb₁ ⊢
  have hobj:∀ b∈fp,b < s2.heap.objs.size:=fun b hb=>by
    obtain ⟨o,ho,_⟩:=T.obj _ _ st2 b hb
    exact Heap.lt_size ho
  have hz3:s3.heap.objs.size=s2.heap.objs.size+1:=by rw [←hs3];exact Heap.size_push ..
  have k23:∀ b o,s2.heap.get? b=some o→s3.heap.get? b=some o:=fun b o e=>by rw [←hs3];exact Heap.get?_push_of_some _ e
  have k34:∀ b o,s3.heap.get? b=some o→h₁.get? b=some o:=fun b o e=>(hsb₁.2 b (Nat.ne_of_lt (Heap.lt_size e))).trans (Heap.get?_push_of_some _ e)
  generalize hH3:upd H2 s2.heap.objs.size (.lst [])=H3 at I3 w0
  have hfp3:∀ b∈fp,H3 b=none:=fun b hb=>by
    rw [←hH3,zo (Nat.ne_of_lt (hobj b hb))]
    exact (f2 b hb).1
  have nfs:∀ b∈fp,b∉frs X.stack:=fun b hb z=>by
    obtain ⟨_,n1,n2,_⟩:=f2 b hb
    rcases List.mem_cons.mp (I3.stkSub b z) with e | e
    · exact n1 e
    · exact n2 e
  let Y:Cx:=Wf X L M scope cl s3 H3 fp (X.pn++pins)
  have OkY:Y.Ok:=by
    refine ⟨I.ok.mod,S.kind,I.ok.glob,I.ok.blt,Nat.le_refl _,fun x y c h1 h2=>I.ok.inj x y c (S.sub x c h1) (S.sub y c h2),fun x hx=>S.has x hx,(fun x c h _=>absurd h Bool.false_ne_true),I.ok.hd,I.ok.frames,.inl rfl,fun b hb=>⟨?_,fun x c e z=>?_⟩,
      fun b o e=>I3.bs b o e,Nat.le_trans I.ok.bsz I3.sz,fun b o e hb=>?_,nfs,I3.stack,I3.stkFree⟩
    · show b≠s3.heap.objs.size
      exact Nat.ne_of_lt (Nat.lt_of_lt_of_le (hobj b hb) (by rw [hz3];exact Nat.le_succ _))
    · exact (f2 b hb).2.2.2.2.1 x c (S.sub x c e) z
    · rcases (f2 b hb).2.2.2.1 with z | z
      · exact I.ok.noex b o e z
      · have h1:=Heap.lt_size e
        have h2:=I.ok.bsz
        exact absurd (Nat.lt_of_lt_of_le h1 (Nat.le_trans h2 z)) (Nat.lt_irrefl _)
  have I4:Inv Y [] (List.replicate L.length none++σ) H3 { s3 with heap:=h₁,toks:=s3.toks+([]:List (Str × Value)).length }:=by
    refine ⟨OkY,rfl,I3.bare,Un.kept k34,⟨_,hns₁,fun i y v e1 e2 e3=>?_⟩,fun x c e=>?_,I3.hok.fresh (Nat.le_refl _),fun x c e=>I3.freeC x c (S.sub x c e),fun p hp=>?_,I3.hok.kept k34,?_⟩
    · have hi:¬ i < L.length:=fun hlt=>by
        rw [List.getElem?_append_left (by simpa using hlt),List.getElem?_replicate] at e2
        split at e2 <;> cases e2
      have e0':M[i - L.length]?=some y:=by
        have e1:(L++M)[i]?=some y:=e1
        rw [List.getElem?_append_right (by omega)] at e1
        exact e1
      have e2':σ[i - L.length]?=some (some v):=by rw [List.getElem?_append_right (by simpa using Nat.le_of_not_lt hi)] at e2;simpa using e2
      have e1':=S.msk _ y e0' e3
      obtain ⟨ov,ok⟩:=S.out _ y e0' e3
      obtain ⟨m,hn,hl⟩:=I3.loc
      obtain ⟨u,ru,lk⟩:=hl _ y v e1' e2' ov
      refine ⟨u,ru,?_⟩
      rcases lk with ⟨hk,_⟩ | ⟨_,c,hc',hcell⟩
      · exact absurd hk ok
      · have kn:=S.vis _ y e0' e3
        obtain ⟨c',hc2⟩:=S.has y kn
        have:=S.sub y c' hc2
        rw [hc'] at this
        cases this
        refine .inr ⟨kn,c,hc2,?_⟩
        obtain ⟨o,ho,hd⟩:=hcell
        exact ⟨o,k34 _ _ ho,hd⟩
    · obtain ⟨v,o,ho,hd⟩:=I3.cell x c (S.sub x c e)
      exact ⟨v,o,k34 _ _ ho,hd⟩
    · have hp':p∈X.pn++pins:=List.append_nil (X.pn++pins) ▸ hp
      obtain ⟨a1,a2,a3,a4,a5⟩:=I3.pin p hp'
      refine ⟨k34 _ _ a1,a2,Nat.ne_of_lt (Heap.lt_size a1),fun z=>?_,a5⟩
      rcases List.mem_cons.mp (I3.stkSub p.1 z) with e | e
      · exact a3 e
      · exact a4 e
    · show (List.replicate L.length none++σ).length=(L++M).length
      rw [List.length_append,List.length_append,List.length_replicate,I.len,S.mlen]
  have fpY:∀ {H':Hp},(∀ b∈fp,H' b=none)→∀ b∈fp,zbm Y [] H' b:=fun {H'} hn b hb=>by
    refine ⟨hn b hb,(OkY.exf b hb).1,nfs b hb,.inl hb,(OkY.exf b hb).2,fun p hp=>?_⟩
    have hp':p∈X.pn++pins:=List.append_nil (X.pn++pins) ▸ hp
    exact (f2 b hb).2.2.2.2.2 p hp'
  have st4:tn 0 h₁:=T.keep _ _ _ st2 fun b hb o e=>k34 b o (k23 b o e)
  -- behind the loop
  have back:∀ (H':Hp) (s':Shared),Inv Y [] (List.replicate L.length none++σ) H' s'→Q (.ref s2.heap.objs.size) H'→compPost (model X.prog X.w) X.A X.xe use Qf (.ref s2.heap.objs.size) s3.heap.objs.size (.ok .next) s':=fun H' s' J' q'=>by
    obtain ⟨m,hn,_⟩:=J'.loc
    refine fin _ _ H' s' (I3.call' (ch:=fp) J'.os J'.base J'.hok J'.bare fun b hb=>?_) ⟨m,hn⟩ (I3.fpOk (Nat.le_refl _) J'.free) q'
    obtain ⟨_,n1,_,n3,n4,n5⟩:=f2 b hb
    exact ⟨n3,n1,n4,n5⟩
  have loop:codeAny (model X.prog X.w) X.A (.compLoop (.ListComp elt [⟨tg,iter,ifs,0⟩] scope pos) 0 (.ref it) (.ref s2.heap.objs.size) (compEnvC scope cl s3.heap.objs.size X.env))
      (compPost (model X.prog X.w) X.A X.xe use Qf (.ref s2.heap.objs.size) s3.heap.objs.size) { s3 with heap:=h₁,toks:=s3.toks+([]:List (Str × Value)).length }:=by
    refine YA (fun n s'=>∃ i ys H',Inv Y [] (List.replicate L.length none++σ) H' s'∧tn i s'.heap∧(∀ b∈fp,H' b=none)∧W i n ys H') ?_ m0 ⟨0,[],H3,I4,st4,hfp3,w0⟩
    rintro n s5 ⟨i,ys,H5,I5,st5,fr5,w5⟩
    rcases turn i n ys H5 w5 with ⟨stop,qn⟩ | ⟨go,hlen,step⟩
    · refine thn (T.done Y rfl rfl rfl hc i [] s5 _ H5 _ I5 (fpY fr5) st5 stop) fun r s6 hh9=>?_
      obtain ⟨hr,I6⟩:=hh9
      subst hr
      exact back H5 s6 I6 qn
    · refine thn (T.item Y rfl rfl rfl hc i [] s5 _ H5 _ I5 (fpY fr5) st5 go) fun r s6 hh9=>?_
      obtain ⟨u,hr,h6⟩:=hh9
      subst hr
      refine thn h6 fun _ s7 hh9=>?_
      obtain ⟨x,H7,I7,r7,y7,st7,fr7⟩:=hh9
      have I7':=I7.pinned (fpY fr7) (T.obj _ _ st7)
      have g7:=hgS σ x H7 _ (step x H7 y7)
      refine thn (hg _ _ _ _ _ s7 _ H7 x u _ I7' r7 g7) fun _ s8 hh9=>?_
      obtain ⟨σ8,H8,I8,sub8,q8⟩:=hh9
      have again:∀ {σ9:St} {H9:Hp} {s9:Shared} {zs:List V},Inv Y ([]++Wt fp s7.heap) σ9 H9 s9→Zt (List.replicate L.length none++σ) σ9→(∃ m',m' < n∧W (i+1) m' zs H9) →
          ∃ m,m < n∧∃ i ys H',Inv Y [] (List.replicate L.length none++σ) H' s9∧tn i s9.heap∧(∀ b∈fp,H' b=none)∧W i m ys H':=fun {σ9 H9 s9 zs} I9 sub9 w9=>by
        obtain ⟨m',hm,w9⟩:=w9
        refine ⟨m',hm,i+1,zs,H9,(I9.sub sub9).unpinned,T.keep _ _ _ st7 fun b hb o e=>(I9.pin (b,o) (List.mem_append_right _ (List.mem_append_right _ (vx hb e)))).1,fun b hb=>?_,w9⟩
        obtain ⟨o,e,d⟩:=T.obj _ _ st7 b hb
        exact (I9.pin (b,o) (List.mem_append_right _ (List.mem_append_right _ (vx hb e)))).2.1
      refine thn (ht _ _ _ _ _ s8 σ8 H8 _ I8 q8) fun b s9 hh9=>?_
      obtain ⟨H9,I9,q9⟩:=hh9
      cases b with
      | false =>
        rw [if_neg Bool.false_ne_true] at q9
        rw [if_neg Bool.false_ne_true]
        exact again I9 sub8 q9
      | true =>
        rw [if_pos rfl] at q9
        rw [if_pos rfl]
        refine thn (he _ _ _ _ _ s9 σ8 H9 _ I9 q9) fun y s10 hh9=>?_
        obtain ⟨yv,H10,I10,r10,hD10,w10⟩:=hh9
        obtain ⟨z10,its,k,rv,e10⟩:ys.length≤sizeLine∧∃ (its:List Value) (n:Nat),yP ys its∧s10.heap.get? s2.heap.objs.size=some { cls:=.type "list",data:=.seq its.toArray n }:=I10.hok _ _ hD10
        have hl10:s10.heap.PlainList s2.heap.objs.size its.toArray:=⟨k,e10⟩
        refine wpAny_list_append_plain (hsz:=by rw [List.size_toArray,← rv.length];exact z10) hl10 fun h11 hl11 sb11=>?_
        obtain ⟨k',e11⟩:=hl11
        have I11:Inv Y ([]++Wt fp s7.heap) σ8 (upd H10 s2.heap.objs.size (.lst (ys++[yv]))) { s10 with heap:=h11 }:=by
          refine I10.write (x:=s2.heap.objs.size) (e:=s2.heap.objs.size) (t':=s10.toks) (by rw [hD10];exact True.intro) (.inl rfl) (fun b u hb e=>(sb11.2 b hb).trans e) ⟨_,e11⟩ ?_
          refine ⟨by rw [List.length_append];show ys.length+1≤sizeLine;exact hlen,its++[y],k',rv.append (.cons r10 .nil),?_⟩
          rw [e11]
          simp
        exact again I11 sub8 w10
  exact codeAny_compStart_list loop (T.self _ 0 _ _ _ st4 loop)
theorem zf8 {X:Cx}{elt tg iter:Expr}{ifs:List Expr}{L M:List Str}{scope:Scope}{cl:List (Str × Addr)}{pos:Pos}{wi:TI}{g:TG}{tt:TT}{te:TE}
    (hc:X.calm=true) (S:xE X L M scope cl) (hi:PI X tg iter wi)
    (hgS:∀ (σ:St) (v:V) (H:Hp) (Q:St→Hp→Prop),g v (List.replicate L.length none++σ) H Q→g v (List.replicate L.length none++σ) H (fun σ2 H2=>Zt (List.replicate L.length none++σ) σ2∧Q σ2 H2))
    (hg:∀ s₀ H₀ ex pn,PG (Wf X L M scope cl s₀ H₀ ex pn) tg g) (ht:∀ s₀ H₀ ex pn,PIf (Wf X L M scope cl s₀ H₀ ex pn) ifs tt) (he:∀ s₀ H₀ ex pn,PE (Wf X L M scope cl s₀ H₀ ex pn) elt te)
    (hs:∀ x,foldedSetIterable iter X.env x=pure x:=by intro _;rfl) :
    PE X (.ListComp elt [⟨tg,iter,ifs,0⟩] scope pos) (tLC wi L.length g tt te):=by
  intro pins s σ H Q I h
  rw [eval_ListComp]
  refine zd3 hc S hi hgS hg ht he hs _ pins s σ H Q I h fun D C H' s' I' ⟨m,hn⟩ f q=>⟨m,hn,fun h' sb=>⟨.ref D,_,I'.letGo f sb,rfl,q⟩⟩
theorem zf9 {i:Nat}{x:Str}{px spos:Pos}{X:Cx}{elt tg iter:Expr}{ifs:List Expr}{L M:List Str}{scope:Scope}{cl:List (Str × Addr)}{pos:Pos}{wi:TI}{g:TG}{tt:TT}{te:TE}
    (hN:X.N.Nodup) (hi':X.N[i]?=some x) (hx:Loc X.env.scope x) (hc:X.calm=true) (S:xE X L M scope cl) (hi:PI X tg iter wi)
    (hgS:∀ (σ:St) (v:V) (H:Hp) (Q:St→Hp→Prop),g v (List.replicate L.length none++σ) H Q→g v (List.replicate L.length none++σ) H (fun σ2 H2=>Zt (List.replicate L.length none++σ) σ2∧Q σ2 H2))
    (hg:∀ s₀ H₀ ex pn,PG (Wf X L M scope cl s₀ H₀ ex pn) tg g) (ht:∀ s₀ H₀ ex pn,PIf (Wf X L M scope cl s₀ H₀ ex pn) ifs tt) (he:∀ s₀ H₀ ex pn,PE (Wf X L M scope cl s₀ H₀ ex pn) elt te)
    (hs:∀ x,foldedSetIterable iter X.env x=pure x:=by intro _;rfl)
    (hsw:swapsWith (.ListComp elt [⟨tg,iter,ifs,0⟩] scope pos) (some (.Name x px)) spos.line X.env=pure true:=by rfl)
    (hf:X.fn x=true∨X.env.scope.names.lookup x=some .local:=by first | exact .inl rfl | exact .inr rfl | assumption) :
    PS X (.Assign [.Name x px] (.ListComp elt [⟨tg,iter,ifs,0⟩] scope pos) spos) (ze5 (tLC wi L.length g tt te) (vL i)):=by
  intro pins s σ H D I h
  rw [exec_Assign_Name_used _ _ _ _ hsw]
  refine wpAny_bind (wpAny_standAt (wpAny_bind ?_))
  show wpAny _ X.A (do let _←comprehension (.ListComp elt [⟨tg,iter,ifs,0⟩] scope pos) scope X.env _ (newList []) false (eval iter X.env) (some (assign (.Name x px) X.env))) _ _ s
  refine wpAny_bind (thn (zd3 (use:=some (assign (.Name x px) X.env)) (Qf:=fun _ s'=>SP X pins D .next s') hc S hi hgS hg ht he hs _ pins s σ H _ I h fun D' C H' s' I' ⟨m,hn⟩ f q=>?_) fun _ s' hq=>wpAny_pure (wpAny_pure hq))
  have hob:∀ b∈[C],∃ o,s'.heap.get? b=some o∧∀ v,o.data≠.cell v:=fun b hb=>by
    rw [List.mem_singleton.mp hb]
    obtain ⟨o,es,ep,e,d,_⟩:=hn
    exact ⟨o,e,fun v z=>by rw [z] at d;cases d⟩
  have I2:=I'.pinned (fp:=[C]) (fun b hb=>by rw [List.mem_singleton.mp hb];exact f) hob
  refine thn (zX (pos:=px) hN hi' hx hf _ s' σ H' (.ref D') (.ref D') _ I2 rfl q) fun _ s2 hh9=>?_
  obtain ⟨σ2,H2,I3,q3⟩:=hh9
  obtain ⟨o,es,ep,e,d⟩:=hn
  have pn:=I3.pin (C,o) (List.mem_append_right _ (List.mem_append_right _ (vx (List.mem_singleton.mpr rfl) e)))
  exact ⟨m,⟨o,es,ep,pn.1,d⟩,fun h' sb=>⟨σ2,H2,I3.unpinned.letGo ⟨pn.2.1,f.2⟩ sb,q3⟩⟩
noncomputable def Wv (names rn dn:List (Str × NameKind))(N M cn:List Str):Bool :=
  names.all (fun y=>decide (y.2≠.cell))&&names.all (fun y=>decide (y.2=.local→names.lookup y.1=some .local)) &&
  rn.all (fun y=>decide ((y.2=.cell∨y.2=.free)→y.1∈cn)) &&
  (M.length == N.length)&&(M.zip N).all (fun p=>decide ((rn.lookup p.1=some .local∨rn.lookup p.1=some .cell∨rn.lookup p.1=some .free)→p.1=p.2)) &&
  M.all (fun y=>decide ((rn.lookup y=some .local∨rn.lookup y=some .cell∨rn.lookup y=some .free) →
    (rn.lookup y=some .cell∨rn.lookup y=some .free)∧(dn.lookup y=some .local∨dn.lookup y=some .cell∨dn.lookup y=some .free)∧dn.lookup y≠some .local))
theorem Xo {X:Cx}{L N M cn:List Str}{scope:Scope}{cl:List (Str × Addr)}{rn dn:List (Str × NameKind)}(hr:(relabel scope X.env).names=rn)(hd:X.env.scope.names=dn)(hN:X.N=N)
    (clos:closureFor scope X.env=pure cl) (kind:scope.kind=.function) (hc:cl.map Prod.fst=cn) (good:Wv scope.names rn dn N M cn=true) (sub:∀ p∈cl,X.env.cells.lookup p.1=some p.2):xE X L M scope cl:=by
  unfold Wv at good
  simp only [Bool.and_eq_true,List.all_eq_true,decide_eq_true_eq] at good
  obtain ⟨⟨⟨⟨⟨g1,g2⟩,g3⟩,g5⟩,g6⟩,g4⟩:=good
  have g5:M.length=N.length:=by simpa using g5
  refine ⟨clos,g1,kind,g2,fun y c h=>sub (y,c) (PySem.mem_of_lookup h),fun y h=>?_,by rw [hN];exact g5,fun i y e v=>?_,fun i y e v=>?_,fun i y e v=>?_⟩
  · rw [hr] at h
    have hy:y∈cn:=by
      rcases h with h | h
      · exact g3 _ (PySem.mem_of_lookup h) (.inl rfl)
      · exact g3 _ (PySem.mem_of_lookup h) (.inr rfl)
    exact YL (by rw [hc];exact hy)
  · unfold Vis at v
    rw [hr] at v
    have hi:=(List.getElem?_eq_some_iff.mp e).1
    have hj:i < N.length:=by rw [←g5];exact hi
    have hz:(M.zip N)[i]?=some (y,N[i]):=by
      rw [List.getElem?_zip_eq_some]
      exact ⟨e,List.getElem?_eq_getElem hj⟩
    have:=g6 _ (List.mem_of_getElem? hz) v
    rw [hN,List.getElem?_eq_getElem hj]
    exact congrArg some this.symm
  · unfold Vis at v
    rw [hr] at v ⊢
    exact (g4 y (List.mem_of_getElem? e) v).1
  · unfold Vis at v
    rw [hr] at v
    obtain ⟨_,k1,k2⟩:=g4 y (List.mem_of_getElem? e) v
    refine ⟨?_,?_⟩
    · unfold Vis;rw [hd];exact k1
    · show X.env.scope.names.lookup y≠_;rw [hd];exact k2
end L2
namespace PySem
open Sem (wp)
open AutoSeq1 (wpAny_loadPart')
section
variable {prog:Program}{w:World}{A:Around}{E:Value→Shared→Prop}{s:Shared}
theorem Yj {it l:Addr}{i:Nat}{items}{x:Value}{Q:Value→Shared→Prop}(hit:s.heap.IsTupleIter it l i)
    (hl:s.heap.IsTuple l items) (hx:items[i]?=some x)
    (hQ:∀ h',h'.IsTupleIter it l (i+1)→Heap.SameBut it s.heap h'→Q x { s with heap:=h' }) :
    wpAny (model prog w) A (Builtin.SmallTypes.nextOf (.ref it)) Q E s:=by
  obtain ⟨o,ho,hc,hd⟩:=id hit
  obtain ⟨ol,hol,_,nl,hdl⟩:=hl
  unfold Builtin.SmallTypes.nextOf
  refine wpAny_bind (wpAny_callSpecial?_slot (name:=Str.ofString "__next__") hit.typeIs F.slot_tuple_iterator_next
    (wpAny_call_entry F.slot_tuple_iterator_next hit.typeIs F.entry_tuple_iterator_next ?_ (F.args_tuple_iterator_next_1 _)))
  show wpAny _ _ (field (.ref it) 0>>=_) _ _ s
  refine wpAny_bind (wpAny_field ho hd (x:=.ref l) rfl ?_)
  show wpAny _ _ (if (Value.ref l == Value.none)=true then _ else _) _ _ s
  rw [if_neg (show ¬ ((Value.ref l == Value.none)=true) from Bool.false_ne_true)]
  show wpAny _ _ (field (.ref it) 1>>=_) _ _ s
  refine wpAny_bind (wpAny_field ho hd (x:=.int i 0) rfl ?_)
  show wpAny _ _ (seqItems? (.ref l)>>=_) _ _ s
  refine wpAny_bind (wpAny_seqItems hol hdl ?_)
  simp only [Int.toNat_natCast,hx]
  refine wpAny_bind (wpAny_setField ho hd (by simp) (wpAny_pure ⟨x,rfl,wpAny_pure (hQ _ ?_ (Heap.SameBut.update ..))⟩))
  exact ⟨_,Heap.get?_update_self _ ho (Obj.isFreed_of_fields (Obj.data_mapFields hd _)),(Obj.cls_mapFields ..).trans hc,by
    rw [Obj.data_mapFields hd];simp [rawInt]⟩
theorem wz {it l:Addr}{i:Nat}{items}{Q:Value→Shared→Prop}(hh:A.handled=none)
    (hit:s.heap.IsTupleIter it l i) (hl:s.heap.IsTuple l items) (hx:items[i]?=none)
    (hE:∀ h' e,Heap.ExtBut it s.heap h'→(∃ o,h'.get? e=some o∧o.cls=.type "StopIteration")→E (.ref e) { s with heap:=h' }) :
    wpAny (model prog w) A (Builtin.SmallTypes.nextOf (.ref it)) Q E s:=by
  obtain ⟨o,ho,hc,hd⟩:=id hit
  obtain ⟨ol,hol,_,nl,hdl⟩:=hl
  unfold Builtin.SmallTypes.nextOf
  refine wpAny_bind (wpAny_callSpecial?_slot (name:=Str.ofString "__next__") hit.typeIs F.slot_tuple_iterator_next
    (wpAny_call_entry F.slot_tuple_iterator_next hit.typeIs F.entry_tuple_iterator_next ?_ (F.args_tuple_iterator_next_1 _)))
  show wpAny _ _ (field (.ref it) 0>>=_) _ _ s
  refine wpAny_bind (wpAny_field ho hd (x:=.ref l) rfl ?_)
  show wpAny _ _ (if (Value.ref l == Value.none)=true then _ else _) _ _ s
  rw [if_neg (show ¬ ((Value.ref l == Value.none)=true) from Bool.false_ne_true)]
  show wpAny _ _ (field (.ref it) 1>>=_) _ _ s
  refine wpAny_bind (wpAny_field ho hd (x:=.int i 0) rfl ?_)
  show wpAny _ _ (seqItems? (.ref l)>>=_) _ _ s
  refine wpAny_bind (wpAny_seqItems hol hdl ?_)
  simp only [Int.toNat_natCast,hx]
  refine wpAny_bind (wpAny_rule (wpAny_bind (wpAny_setField ho hd (by simp) ?_)))
  show wpAny _ _ (newExc (.type "StopIteration") []>>=_) _ _ _
  refine wpAny_bind ?_
  simp only [newExc,newTuple]
  refine wpAny_bind (wpAny_newObj_type ?_ (by size_fits))
  refine wpAny_bind (m:=firstArgMember _ _) (wpAny_of_eq (a:=Value.none) (by first | rfl | (simp only [firstArgMember];rfl)) ?_)
  refine wpAny_newObj_type ?_ (by size_fits)
  simp only [raiseNew]
  refine wpAny_bind (wpAny_handled ?_)
  first | rw [show A.in1.handled=none from hh] | rw [hh]
  refine wpAny_bind (wpAny_pure (wpAny_throw ?_))
  exact hE _ _ (((Heap.SameBut.update ..).extBut.push _).push _) ⟨_,Heap.get?_push_size _ rfl,rfl⟩
end
theorem YB {prog:Program}{w:World}{A:Around}{E:Value→Shared→Prop}{s:Shared}{e it l:Addr}{i:Nat}{items:Array Value}{old:Value}{Q:Option Value→Shared→Prop}(hh:A.handled=none)
    (he:IsEnum s.heap e it i old) (hit:s.heap.IsTupleIter it l i) (hl:s.heap.IsTuple l items) (hx:items[i]?=none)
    (hQ:∀ h',Heap.ExtBut it s.heap h'→Q none { s with heap:=h' }):wpAny (model prog w) A (pyNext (.ref e)) Q E s:=by
  have hT:s.TypeIs (.ref e) "enumerate":=⟨_,he,rfl⟩
  unfold pyNext
  refine wpAny_bind (wpAny_attempt (wpAny_callSpecial?_slot (name:=Str.ofString "__next__") hT F.slot_enumerate_next
    (wpAny_call_entry F.slot_enumerate_next hT F.entry_enumerate_next ?_ (F.args_enumerate_next_1 _))))
  show wpAny _ _ (field (.ref e) 2>>=_) _ _ _
  refine wpAny_bind (wpAny_field he rfl (x:=.ref it) rfl ?_)
  refine wpAny_bind (wz hh hit hl hx fun h' x he' hx'=>?_)
  obtain ⟨o,ho,hc⟩:=hx'
  refine wpAny_bind (wpAny_isInstance (T:="StopIteration") (b:=true) ⟨o,ho,hc⟩ isSubtype_stop ?_)
  exact wpAny_pure (hQ _ he')
theorem Yo {prog:Program}{w:World}{A:Around}(hh:A.handled=none)(it l:Addr)(hne:l≠it)(items:Array Value) :
    Draws prog w A it [it,l] items.size (fun i v=>items[i]?=some v) (fun i h=>h.IsTupleIter it l i∧h.IsTuple l items) where
  live:=fun _ _ st=>let ⟨o,ho,_⟩:=st.1;⟨o,ho⟩
  frame:=fun _ _ _ st hk=>by
    obtain ⟨⟨o,ho,r⟩,⟨o2,ho2,r2⟩⟩:=st
    exact ⟨⟨o,hk it (by simp) o ho,r⟩,⟨o2,hk l (by simp) o2 ho2,r2⟩⟩
  item:=fun i s Q E hi st hQ=>by
    refine Yj st.1 st.2 (x:=items[i]) (by simp [hi]) fun h' hit' hs'=>?_
    exact hQ _ h' s.toks (by simp [hi]) ⟨hit',st.2.extBut hs'.extBut hne⟩ hs'
  done:=fun s Q E st hE=>wz hh st.1 st.2 (by simp) hE
theorem Ze (l:Addr)(items:Array Value)(n:Nat)(dd:Option Addr)(sl:Array (Option Value)) :
    Meets (Builtin.«enumerate.__new__» ⟨[.type "enumerate",.ref l],[]⟩) (fun _ R s=>s.heap.get? l=some { cls:=.type "tuple",dict:=dd,data:=.seq items n,slots:=sl } ∧
      R (.ok (.ret (.ref (s.heap.push { cls:=.type "tuple_iterator",data:=.fields #[.ref l,.int 0 0] }).objs.size)))
        { s with heap:=(s.heap.push { cls:=.type "tuple_iterator",data:=.fields #[.ref l,.int 0 0] }).push { cls:=.type "enumerate",data:=.fields #[.none,.bool false,.ref s.heap.objs.size,rawInt 0,.none,.none] } }) :=
  .of_wp fun prog w A R s h=>by
    obtain ⟨hp,g,d,tk,os⟩:=s;obtain ⟨hl,h⟩:=h
    have hsub:=sub_enumerate
    have hL:Heap.IsTuple (Shared.heap ⟨hp,g,d,tk,os⟩) l items:=⟨_,hl,rfl,n,rfl⟩
    wp_walk using wpAny_loadPart' hl
    refine wpAny_stack_any fun st=>wpAny_pure ?_
    split
    · rename_i c _ _ _ _ _
      cases (c == Value.type "enumerate")
      · wp_walk using wpAny_loadPart' hl,wpAny_pyIter_tuple hL
        exact ⟨_,rfl,h⟩
      · wp_walk using wpAny_loadPart' hl,wpAny_pyIter_tuple hL
        exact ⟨_,rfl,h⟩
    · wp_walk using wpAny_loadPart' hl,wpAny_pyIter_tuple hL
      exact ⟨_,rfl,h⟩
section
variable {prog:Program}{w:World}{A:Around}{E:Value→Shared→Prop}{s:Shared}
theorem YC {l:Addr}{items:Array Value}{Q:Value→Shared→Prop}
    (hl:s.heap.IsTuple l items)
    (h:∀ h',IsEnum h' (s.heap.objs.size+1) s.heap.objs.size 0 .none→h'.IsTupleIter s.heap.objs.size l 0→h'.objs.size=s.heap.objs.size+2 →
      (∀ b o,s.heap.get? b=some o→h'.get? b=some o)→Q (.ref (s.heap.objs.size+1)) { s with heap:=h' }) :
    wpAny (model prog w) A (call (.type "enumerate") [.ref l]) Q E s:=by
  obtain ⟨⟨cls,dd,data,sl⟩,ho,hc,n,hd⟩:=hl
  simp only at hc hd
  subst hc hd
  refine callType_new F.called_enumerate (by decide) (F.typeCall_enumerate_1 _) (F.newCall_enumerate_1 _) (fun obj=>F.args_object_init_2 obj _) F.entry_enumerate_new
    (Ze l items n dd sl) ⟨ho,?_⟩
  have hz:(s.heap.push { cls:=.type "tuple_iterator",data:=.fields #[.ref l,.int 0 0] }).objs.size=s.heap.objs.size+1:=Heap.size_push ..
  show _∧_
  rw [hz]
  have he:IsEnum ((s.heap.push { cls:=.type "tuple_iterator",data:=.fields #[.ref l,.int 0 0] }).push
      { cls:=.type "enumerate",data:=.fields #[.none,.bool false,.ref s.heap.objs.size,rawInt 0,.none,.none] }) (s.heap.objs.size+1) s.heap.objs.size 0 .none:=by
    have:=Heap.get?_push_size (s.heap.push { cls:=.type "tuple_iterator",data:=.fields #[.ref l,.int 0 0] })
      (o:={ cls:=.type "enumerate",data:=.fields #[.none,.bool false,.ref s.heap.objs.size,rawInt 0,.none,.none] }) rfl
    rw [hz] at this;exact this
  refine ⟨⟨_,he,rfl⟩,h _ he ⟨_,Heap.get?_push_of_some _ (Heap.get?_push_size _ rfl),rfl,rfl⟩ (by rw [Heap.size_push,hz]) fun b o x=>Heap.get?_push_of_some _ (Heap.get?_push_of_some _ x)⟩
end
end PySem
namespace L2
open PySem PySem.Spec PyProof.Rows
section
variable {X:Cx}{pins:List (Addr × Obj)}{σ:St}{H:Hp}{s:Shared}{h':Heap}
theorem Inv.grown {ch:List Addr}{T:Addr}{o:HO}{t':Nat}(I:Inv X pins σ H s)(hch:∀ b∈ch,zbm X pins H b)(hT:s.heap.objs.size≤T)(k:∀ b u,b∉ch→s.heap.get? b=some u→h'.get? b=some u)
    (new:xH X.prog X.w (upd H T o) h' T o):Inv X pins σ (upd H T o) { s with heap:=h',toks:=t' }:=by
  have hn:H T=none:=I.hok.fresh hT
  have neT:∀ b u,s.heap.get? b=some u→b≠T:=fun b u e=>Nat.ne_of_lt (Nat.lt_of_lt_of_le (Heap.lt_size e) hT)
  have nch:∀ b u,H b=some u→b∉ch:=fun b u e z=>by rw [(hch b z).1] at e;cases e
  refine I.step (g':=s.gens) (d':=s.drawn) (ch:=ch) (fun b hb=>?_) (fun b u _ _ hc e _=>k b u hc e) (fun b u _ _ hc e _=>⟨u.slots,k b u hc e⟩) (fun b u _ e n=>by rw [zo (neT b u e)];exact n)
    (fun b u hc e=>⟨u,k b u hc e⟩) (fun b xs e=>by rw [zo (zk e hn)];exact e) (fun b u xs e=>by rw [zo (zk e hn)];exact e) (fun b ps e=>⟨#[],by rw [zo (zk e hn),e];simp⟩) (fun m hm=>?_) (fun b u e=>?_) I.bare
  · obtain ⟨_,n1,_,n3,n4,n5⟩:=hch b hb
    exact ⟨n3,n1,n4,n5⟩
  · obtain ⟨ob,es,ep,ho,r⟩:=hm
    exact ⟨ob,es,ep,k _ ob (fun z=>(hch _ z).2.1 rfl) ho,r⟩
  · by_cases hb:b=T
    · subst hb;rw [zp] at e;cases e;exact new
    · rw [zo hb] at e
      refine (I.hok b u e).stay (fun c v hc q=>k c v ?_ q) (fun c q=>by rw [zo (zk q hn)];exact q) fun c xs q=>by rw [zo (zk q hn)];exact q
      rcases hc with z | z
      · rw [z];exact nch b u e
      · exact nch c _ z
theorem Inv.turnedN {ch:List Addr}{t':Nat}(I:Inv X pins σ H s)(hch:∀ b∈ch,zbm X pins H b)(k:∀ b u,b∉ch→s.heap.get? b=some u→h'.get? b=some u):Inv X pins σ H { s with heap:=h',toks:=t' }:=by
  have nch:∀ b u,H b=some u→b∉ch:=fun b u e z=>by rw [(hch b z).1] at e;cases e
  refine I.step (g':=s.gens) (d':=s.drawn) (ch:=ch) (fun b hb=>?_) (fun b u _ _ hc e _=>k b u hc e) (fun b u _ _ hc e _=>⟨u.slots,k b u hc e⟩) (fun b u _ e n=>n)
    (fun b u hc e=>⟨u,k b u hc e⟩) (fun b xs e=>e) (fun b u xs e=>e) (fun b ps e=>⟨#[],by rw [e];simp⟩) (fun m hm=>?_) (fun b u e=>?_) I.bare
  · obtain ⟨_,n1,_,n3,n4,n5⟩:=hch b hb
    exact ⟨n3,n1,n4,n5⟩
  · obtain ⟨ob,es,ep,ho,r⟩:=hm
    exact ⟨ob,es,ep,k _ ob (fun z=>(hch _ z).2.1 rfl) ho,r⟩
  · refine (I.hok b u e).stay (fun c v hc q=>k c v ?_ q) (fun c q=>q) fun c xs q=>q
    rcases hc with z | z
    · rw [z];exact nch b u e
    · exact nch c _ z
end
noncomputable def Iel (K:PySem.W.Frag)(a:Addr):It :=
  ⟨fun i H=>∃ xs x,SqL K H a xs∧xs[i]?=some x,fun i H v H'=>∃ T x,v=.ref T∧H T=none∧H'=upd H T (.tup [.int i,x])∧∀ xs,SqL K H a xs→xs[i]?=some x,fun i H=>∃ xs,SqL K H a xs∧xs.length≤i⟩
noncomputable def Iet (K:PySem.W.Frag)(a:Addr):It :=
  ⟨fun i H=>∃ xs x,SqT K H a xs∧xs[i]?=some x,fun i H v H'=>∃ T x,v=.ref T∧H T=none∧H'=upd H T (.tup [.int i,x])∧∀ xs,SqT K H a xs→xs[i]?=some x,fun i H=>∃ xs,SqT K H a xs∧xs.length≤i⟩
theorem zbP {P:Program}{w:World}{K:PySem.W.Frag}{es:List Expr}{k:Nat}{tp:Pos}(a e it:Addr)(hne:e≠it) :
    zhq P w K (.Tuple es k tp) (Iel K a) [e,it] e (fun i h=>(∃ old,IsEnum h e it i old)∧h.IsListIter it a i) where
  mem:=by simp
  obj:=fun i h st b hb=>by
    obtain ⟨⟨old,he⟩,o,ho,_,hd⟩:=st
    rcases List.mem_cons.mp hb with rfl | hb
    · exact ⟨_,he,fun v z=>by cases z⟩
    · rw [List.mem_singleton.mp hb]
      exact ⟨o,ho,fun v z=>by rw [hd] at z;cases z⟩
  keep:=fun i h h' st kk=>by
    obtain ⟨⟨old,he⟩,hit⟩:=st
    exact ⟨⟨old,kk e (by simp) _ he⟩,hit.at fun o q=>kk it (by simp) o q⟩
  item:=by
    intro X hP hw hK hc i pins s σ H E I hf st hg
    subst hP hw hK
    obtain ⟨⟨old,he⟩,hit⟩:=st
    obtain ⟨xs,x,hq,hx⟩:=hg
    obtain ⟨its,rv,p,hz⟩:=I.list hq
    obtain ⟨u,hu,ru⟩:=rv.get hx
    refine wpAny_pyNext_enum_item he hit p.isList (x:=u) (by simpa using hu) hne fun h1 ho1 hit1 hT1 hz1 hk1=>?_
    refine ⟨_,rfl,wpAny_letOwnedTupleGo_enum ho1 fun h2 he2 hs2=>?_⟩
    have hfr:H s.heap.objs.size=none:=I.hok.fresh (Nat.le_refl _)
    have neE:s.heap.objs.size≠e:=Nat.ne_of_gt (Heap.lt_size he)
    have hT2:h2.get? s.heap.objs.size=some { cls:=.type "tuple",data:=.seq #[.int i s.toks,u] }:=(hs2.2 _ neE).trans hT1
    refine ⟨.ref s.heap.objs.size,upd H s.heap.objs.size (.tup [.int i,x]),?_,rfl,⟨_,x,rfl,hfr,rfl,fun ys hy=>by rw [I.list_inj hy hq];exact hx⟩,⟨⟨_,by simpa using he2⟩,hit1.at fun o q=>(hs2.2 it (Ne.symm hne)).trans q⟩,fun b hb=>?_⟩
    · refine I.grown (ch:=[e,it]) hf (Nat.le_refl _) (fun b v hb q=>?_) ?_
      · have n1:b≠e:=fun z=>hb (by simp [z])
        have n2:b≠it:=fun z=>hb (by simp [z])
        exact (hs2.2 b n1).trans (hk1 b v n1 n2 q)
      · exact ⟨by show 2≤sizeLine;decide,[.int i s.toks,u],.cons ⟨_,rfl⟩ (.cons ru .nil),⟨_,hT2,rfl,0,rfl⟩⟩
    · obtain ⟨o,hb2,_⟩:∃ o,s.heap.get? b=some o∧True:=by
        rcases List.mem_cons.mp hb with rfl | hb
        · exact ⟨_,he,trivial⟩
        · rw [List.mem_singleton.mp hb]
          obtain ⟨o,ho,_⟩:=hit
          exact ⟨o,ho,trivial⟩
      rw [zo (Nat.ne_of_lt (Heap.lt_size hb2))]
      exact (hf b hb).1
  done:=by
    intro X hP hw hK hc i pins s σ H E I hf st hg
    subst hP hw hK
    obtain ⟨⟨old,he⟩,hit⟩:=st
    obtain ⟨xs,hq,hx⟩:=hg
    obtain ⟨its,rv,p,hz⟩:=I.list hq
    have hl:=rv.length
    exact wpAny_pyNext_enum_end (I.ok.hd hc) he hit p.isList (by simp;omega) fun h1 hx1=>⟨rfl,I.turnedN (ch:=[e,it]) (t':=s.toks) hf fun b v hb q=>hx1 b v (fun z=>hb (by simp [z])) q⟩
  self:=fun _ _ _ _ _ st h=>wpAny_pyIter_enum st.1.choose_spec h
theorem zbH {P:Program}{w:World}{K:PySem.W.Frag}{es:List Expr}{k:Nat}{tp:Pos}(a e it:Addr)(hne:e≠it)(hai:a≠it)(hae:a≠e) :
    zhq P w K (.Tuple es k tp) (Iet K a) [e,it] e (fun i h=>(∃ old,IsEnum h e it i old)∧h.IsTupleIter it a i) where
  mem:=by simp
  obj:=fun i h st b hb=>by
    obtain ⟨⟨old,he⟩,o,ho,_,hd⟩:=st
    rcases List.mem_cons.mp hb with rfl | hb
    · exact ⟨_,he,fun v z=>by cases z⟩
    · rw [List.mem_singleton.mp hb]
      exact ⟨o,ho,fun v z=>by rw [hd] at z;cases z⟩
  keep:=fun i h h' st kk=>by
    obtain ⟨⟨old,he⟩,o,ho,r⟩:=st
    exact ⟨⟨old,kk e (by simp) _ he⟩,o,kk it (by simp) o ho,r⟩
  item:=by
    intro X hP hw hK hc i pins s σ H E I hf st hg
    subst hP hw hK
    obtain ⟨⟨old,he⟩,hit⟩:=st
    obtain ⟨xs,x,hq,hx⟩:=hg
    obtain ⟨its,rv,p,hz⟩:=I.tuple hq
    obtain ⟨u,hu,ru⟩:=rv.get hx
    have p':s.heap.IsTuple a its.toArray:=p
    have D:=Yo (prog:=X.prog) (w:=X.w) (A:=X.A.in1) (I.ok.hd hc) it a hai its.toArray
    have hlt:i < its.toArray.size:=by
      obtain ⟨h1,_⟩:=List.getElem?_eq_some_iff.mp hu
      simpa using h1
    refine wpAny_pyNext_enum_itemD D he ⟨hit,p'⟩ hlt hne (by simp [hne,Ne.symm hae]) fun u' h1 tk hP1 ho1 hit1 hT1 hz1 hk1=>?_
    have eu:u'=u:=by
      have:its[i]?=some u':=by simpa using hP1
      rw [hu] at this
      exact (Option.some.inj this).symm
    subst eu
    refine ⟨_,rfl,wpAny_letOwnedTupleGo_enum ho1 fun h2 he2 hs2=>?_⟩
    have hfr:H s.heap.objs.size=none:=I.hok.fresh (Nat.le_refl _)
    have neE:s.heap.objs.size≠e:=Nat.ne_of_gt (Heap.lt_size he)
    have hT2:h2.get? s.heap.objs.size=some { cls:=.type "tuple",data:=.seq #[.int i tk,u'] }:=(hs2.2 _ neE).trans hT1
    refine ⟨.ref s.heap.objs.size,upd H s.heap.objs.size (.tup [.int i,x]),?_,rfl,⟨_,x,rfl,hfr,rfl,fun ys hy=>by rw [I.tuple_inj hy hq];exact hx⟩,⟨⟨_,by simpa using he2⟩,?_⟩,fun b hb=>?_⟩
    · refine I.grown (ch:=[e,it]) hf (Nat.le_refl _) (fun b v hb q=>?_) ?_
      · have n1:b≠e:=fun z=>hb (by simp [z])
        have n2:b≠it:=fun z=>hb (by simp [z])
        exact (hs2.2 b n1).trans (hk1 b v n1 n2 q)
      · exact ⟨by show 2≤sizeLine;decide,[.int i tk,u'],.cons ⟨_,rfl⟩ (.cons ru .nil),⟨_,hT2,rfl,0,rfl⟩⟩
    · obtain ⟨o,ho,r⟩:=hit1.1
      exact ⟨o,(hs2.2 it (Ne.symm hne)).trans ho,r⟩
    · obtain ⟨o,hb2,_⟩:∃ o,s.heap.get? b=some o∧True:=by
        rcases List.mem_cons.mp hb with rfl | hb
        · exact ⟨_,he,trivial⟩
        · rw [List.mem_singleton.mp hb]
          obtain ⟨o,ho,_⟩:=hit
          exact ⟨o,ho,trivial⟩
      rw [zo (Nat.ne_of_lt (Heap.lt_size hb2))]
      exact (hf b hb).1
  done:=by
    intro X hP hw hK hc i pins s σ H E I hf st hg
    subst hP hw hK
    obtain ⟨⟨old,he⟩,hit⟩:=st
    obtain ⟨xs,hq,hx⟩:=hg
    obtain ⟨its,rv,p,hz⟩:=I.tuple hq
    have hl:=rv.length
    have p':s.heap.IsTuple a its.toArray:=p
    exact YB (I.ok.hd hc) he hit p' (by simp;omega) fun h1 hx1=>⟨rfl,I.turnedN (ch:=[e,it]) (t':=s.toks) hf fun b v hb q=>hx1 b v (fun z=>hb (by simp [z])) q⟩
  self:=fun _ _ _ _ _ st h=>wpAny_pyIter_enum st.1.choose_spec h
noncomputable def zjY (K:PySem.W.Frag)(ta:TA):TI:=fun σ H R=>ta σ H fun vs H1=>∃ a,vs=[.ref a]∧((∃ xs,H1 a=some (.lst xs)∧R (Iel K a) H1)∨(∃ xs,SqT K H1 a xs∧R (Iet K a) H1))
theorem zgS {X:Cx} {es:List Expr} {k:Nat} {tp:Pos} {a:Expr} {ta:TA} {p pos:Pos} (hg:Gl X "enumerate") (hm:X.mg "enumerate"=none) (hb:bootBuiltins "enumerate"=some (.type "enumerate")) (ha:PA X [a] ta)
    (hs:starEach [a] X.env=[(false,eval a X.env)]:=by rfl):PI X (.Tuple es k tp) (.Call (.Name "enumerate" p) [a] [] pos) (zjY X.K ta):=by
  intro pins s σ H R I h
  refine Call_ (XV I hg hm hb (PyProof.Rows.callWith_type1 (thn (ha pos pins s σ H _ I h) fun us s1 hh9=>?_) hs rfl))
  obtain ⟨vs,H1,I1,r1,q1⟩:=hh9
  obtain ⟨l,e,q⟩:=q1
  subst e
  obtain ⟨u,rfl,ru⟩:=zax r1
  cases ru
  have hn:∀ b,s1.heap.objs.size≤b→zbm X pins H1 b:=fun b hb=>I1.fpOk hb (I1.hok.fresh hb)
  have hne:s1.heap.objs.size+1≠s1.heap.objs.size:=by omega
  have hfp:∀ b∈[s1.heap.objs.size+1,s1.heap.objs.size],zbm X pins H1 b:=fun b hb=>by
    rcases List.mem_cons.mp hb with rfl | hb
    · exact hn _ (Nat.le_succ _)
    · rw [List.mem_singleton.mp hb];exact hn _ (Nat.le_refl _)
  rcases q with ⟨xs,hx,q⟩ | ⟨xs,hx,q⟩
  · obtain ⟨_,its,n,_,e⟩:xs.length≤sizeLine∧∃ (its:List Value) (n:Nat),yP xs its∧s1.heap.get? l=some { cls:=.type "list",data:=.seq its.toArray n }:=I1.hok _ _ hx
    refine call_enumerate_1 e fun h2 he hit hz hk=>wpAny_pyIter_enum he ?_
    exact ⟨_,_,_,_,H1,rfl,I1.kept (t':=s1.toks) hk,zbP l _ _ hne,⟨⟨_,he⟩,hit⟩,hfp,q⟩
  · obtain ⟨its,_,p1,_⟩:=I1.tuple hx
    have lt:l < s1.heap.objs.size:=by
      obtain ⟨o,ho,_⟩:=p1
      exact Heap.lt_size ho
    refine YC (show s1.heap.IsTuple l its.toArray from p1) fun h2 he hit hz hk=>wpAny_pyIter_enum he ?_
    exact ⟨_,_,_,_,H1,rfl,I1.kept (t':=s1.toks) hk,zbH l _ _ hne (Nat.ne_of_lt lt) (Nat.ne_of_lt (Nat.lt_succ_of_lt lt)),⟨⟨_,he⟩,hit⟩,hfp,q⟩
end L2
namespace HT
open PySem PyProof.Rows
noncomputable def lexLe:List Int→List Int→Bool
  | [],_=>true
  | _::_,[]=>false
  | x::xs,y::ys=>if x=y then lexLe xs ys else decide (x≤y)
theorem zbU (x y:Int)(xs ys:List Int):lexLe (x::xs) (y::ys)=if x=y then lexLe xs ys else decide (x≤y):=rfl
theorem ze7 (A:Around)(s:Shared)(a:Int)(t:Tok)(c:Int)(u:Tok)(prog:Program)(w:World)(E:Value→Shared→Prop)(Q:Value→Shared→Prop)(h:Q (.bool (decide (a≤c))) s) :
    wpAny (model prog w) A (richCompare .LtE (.int a t) (.int c u)) Q E s :=
  (PyProof.Rows.le_int h:wpAny (model prog w) A (compareOp .LtE (.int a t) (.int c u)) Q E s)
section
open PySem.SeqAt
open PySem.AutoSeq1 (wpAny_loadPart')
open PySem.MeetsSeq PySem.MeetsSeq2 PySem.MeetsSeq3
theorem W9 (l b:Addr)(items items2:Array Value)(n n2:Nat)(dd dd2:Option Addr)(sl sl2:Array (Option Value))(ns ms:List Int)(hi:IntsAre items.toList ns)(hj:IntsAre items2.toList ms) :
    Meets (Builtin.«tuple.__le__» ⟨[.ref l,.ref b],[]⟩)
      (fun _ R s=>s.heap.get? l=some { cls:=.type "tuple",dict:=dd,data:=.seq items n,slots:=sl }∧s.heap.get? b=some { cls:=.type "tuple",dict:=dd2,data:=.seq items2 n2,slots:=sl2 } ∧
        R (.ok (.ret (.bool (lexLe ns ms)))) s) :=
  .of_wp fun prog w A R s h=>by
    obtain ⟨hp,g,d,tk,os⟩:=s;obtain ⟨hl,hb,h⟩:=h
    have f2:=AutoSeq1.sub_tuple_tuple
    have z1:items.size=ns.length:=by rw [←hi.length];simp
    have z2:items2.size=ms.length:=by rw [←hj.length];simp
    wp_walk using wpAny_loadPart' hl,wpAny_loadPart' hb,wpAny_forIn_list _ (fun rest b s'=>b.1=none∧s'=⟨hp,g,d,tk,os⟩∧∃ (vs ws:List Value) (ns' ms':List Int),rest=vs.zip ws ∧
      IntsAre vs ns'∧IntsAre ws ms'∧ns'.length+items2.size=ms'.length+items.size∧R (.ok (.ret (.bool (lexLe ns' ms')))) ⟨hp,g,d,tk,os⟩) _
    case turn =>
      rintro ⟨y,x⟩ rest b s' ⟨hb',rfl,vs,ws,ns',ms',hz,hvi,hwi,hlen,hR⟩
      cases hvi with
      | nil=>rw [List.zip_nil_left] at hz;cases hz
      | cons a t hvi' =>
        cases hwi with
        | nil=>rw [List.zip_nil_right] at hz;cases hz
        | cons c u hwi' =>
          rw [List.zip_cons_cons] at hz
          injection hz with hyx hrest
          injection hyx with hy hx
          subst hy hx
          rw [zbU] at hR
          simp only [List.length_cons] at hlen
          obtain ⟨e,he,hiff⟩:=zey A.in1 ⟨hp,g,d,tk,os⟩ a t c u
          refine wpAny_bind (he prog w _ _ ?_)
          cases e with
          | true =>
            rw [if_pos (hiff.mp rfl)] at hR
            wp_walk
            exact ⟨rfl,rfl,_,_,_,_,hrest,hvi',hwi',by omega,hR⟩
          | false =>
            rw [if_neg (fun q=>absurd (hiff.mpr q) Bool.false_ne_true)] at hR
            have hri:=ze7 A.in1 ⟨hp,g,d,tk,os⟩ a t c u prog w
            wp_walk using hri
            exact ⟨_,rfl,by simpa using hR⟩
    case fin =>
      rintro ⟨b1,b2⟩ s' ⟨hb',rfl,vs,ws,ns',ms',hz,hvi,hwi,hlen,hR⟩
      simp only at hb'
      subst hb'
      have hv:lexLe ns' ms'=decide (items.size≤items2.size):=by
        cases hvi with
        | nil =>
          simp only [List.length_nil] at hlen
          show true=_
          exact (decide_eq_true (by omega)).symm
        | cons a t hv =>
          cases hwi with
          | nil =>
            simp only [List.length_nil,List.length_cons] at hlen
            show false=_
            exact (decide_eq_false (by omega)).symm
          | cons c u hw =>
            rw [List.zip_cons_cons] at hz
            cases hz
      rw [hv] at hR
      wp_walk
      exact ⟨_,rfl,by simpa [Builtin.Tuple.tupleCompareSizes] using hR⟩
    case h =>
      exact ⟨rfl,rfl,items.toList,items2.toList,ns,ms,rfl,hi,hj,by omega,h⟩
end
section
variable {prog:Program}{w:World}{A:Around}{E:Value→Shared→Prop}{s:Shared}
theorem le_tupInts {l b:Addr}{items items2:Array Value}{ns ms:List Int}{Q:Value→Shared→Prop}(hl:IsTup s.heap l items)(hb:IsTup s.heap b items2)(hi:IntsAre items.toList ns)(hj:IntsAre items2.toList ms)
    (hu:A.units < cLine) (h:Q (.bool (lexLe ns ms)) s):wpAny (model prog w) A (compareOp .LtE (.ref l) (.ref b)) Q E s:=by
  obtain ⟨⟨cls,dd,data,sl⟩,ho,hc,n,hd⟩:=id hl
  obtain ⟨⟨cls2,dd2,data2,sl2⟩,ho2,hc2,n2,hd2⟩:=id hb
  simp only at hc hd hc2 hd2
  subst hc hd hc2 hd2
  exact richCompare_meets_room (op:=.LtE) ⟨_,ho,rfl⟩ ⟨_,ho2,rfl⟩ PySem.F.slot_tuple_le PySem.F.entry_tuple_le (PySem.F.args_tuple_le_2 _ _) (W9 l b items items2 n n2 dd dd2 sl sl2 ns ms hi hj)
    ⟨ho,ho2,show Value.bool (lexLe ns ms)≠Value.notImplemented∧Q (.bool (lexLe ns ms)) s from ⟨(fun x=>nomatch x),h⟩⟩ hu
end
end HT
namespace L2
open PySem PySem.Spec PyProof.Rows
noncomputable def rLeT (K:PySem.W.Frag):R2:=fun x y H Q=>∃ a b ns ms,x=.ref a∧y=.ref b∧SqT K H a (ns.map V.int)∧SqT K H b (ms.map V.int)∧Q (.bl (HT.lexLe ns ms)) H
theorem zje {X:Cx}(hu:X.A.units < cLine):OpR X (compareOp .LtE) (rLeT X.K):=by
  intro pins s σ H x y v u Q I rx ry h
  obtain ⟨a,b,ns,ms,rfl,rfl,ha,hb,q⟩:=h
  cases rx
  cases ry
  obtain ⟨its,r1,p1,_⟩:=I.tuple ha
  obtain ⟨its2,r2,p2,_⟩:=I.tuple hb
  have i1:IntsAre its.toArray.toList ns:=ZK r1
  have i2:IntsAre its2.toArray.toList ms:=ZK r2
  exact HT.le_tupInts p1 p2 i1 i2 hu ⟨.bl (HT.lexLe ns ms),H,I,rfl,q⟩
end L2
namespace HT
open PySem PyProof.Rows
section
variable {prog:Program}{w:World}{A:Around}{E:Value→Shared→Prop}{s:Shared}
theorem own_getItem_whole {t sl:Addr}{items:Array Value}{vl vu:Value}{lo hi:Option Int}{Q:Value→Shared→Prop}(ht:IsTup s.heap t items)(hs:s.heap.IsSliceOf sl vl vu .none)(pl:IsPart vl lo)(pu:IsPart vu hi)
    (hw:sIx items.size 0 lo=0∧sIx items.size items.size hi=items.size) (h:Q (.ref t) s):wpAny (model prog w) A (getItem (.ref t) (.ref sl)) Q E s:=by
  obtain ⟨os,hos,hcs,hds⟩:=id hs
  have hTs:s.TypeIs (.ref sl) "slice":=⟨os,hos,hcs⟩
  unfold getItem
  try with_reducible refine wpAny_holding ?_
  first | refine wpAny_bind (wpAny_pure ?_) | skip
  refine wpAny_bind (wpAny_sequenceKey ht.typeIs (by decide) ?_)
  refine wpAny_bind (wpAny_callSpecial?_slot (name:=Str.ofString "__getitem__") ht.typeIs PyProof.Rows.slot_tuple_getitem
    (wpAny_call_entry PyProof.Rows.slot_tuple_getitem ht.typeIs entry_tuple_getitem ?_ (args_tuple_getitem _ _)))
  show wpAny _ _ (Builtin.Tuple.tupleItemsOf (.ref t)>>=_) _ _ s
  refine wpAny_bind (tupleItemsOf_ ht ?_)
  refine wpAny_bind (wpAny_typeOf hTs ?_)
  rw [if_pos (by decide)]
  refine wpAny_bind (vX hs pl pu ?_)
  have hyes:(((sIx items.size 0 lo:Nat):Int) == 0&&(1:Int) == 1&&(sIx items.size items.size hi - sIx items.size 0 lo) == items.size)=true:=by
    rw [hw.1,hw.2]
    simp
  show wpAny _ _ (if (((sIx items.size 0 lo:Nat):Int) == 0&&(1:Int) == 1&&(sIx items.size items.size hi - sIx items.size 0 lo) == items.size)=true then _ else _) _ _ s
  rw [if_pos hyes]
  refine wpAny_bind (m:=Builtin.Tuple.tupleIsExact (.ref t)) ?_
  unfold Builtin.Tuple.tupleIsExact
  refine wpAny_bind (wpAny_typeOf ht.typeIs (wpAny_pure ?_))
  rw [if_pos (by decide)]
  refine wpAny_bind (wpAny_rule ?_)
  first
    | exact wpAny_pure ⟨_,rfl,wpAny_pure h⟩
    | exact wpAny_bind (wpAny_pure (wpAny_pure ⟨_,rfl,wpAny_pure h⟩))
end
end HT
namespace L2
open PySem PySem.Spec PyProof.Rows
end L2
namespace PySem
open Sem (wp)
theorem xM {prog:Program}{w:World}{A:Around}{it a:Addr}{fp:List Addr}{n k:Nat}{P:Nat→Value→Prop}{St:Nat→Heap→Prop}(D:Draws prog w A it fp n P St){h h':Heap}(st:St k h)(sb:Heap.SameBut a h h')(na:a∉fp):St k h' :=
  D.frame _ _ _ st fun b hb o e=>(sb.2 b fun z=>na (z ▸ hb)).trans e
set_option genInjectivity false in
set_option genSizeOf false in
set_option genCtorIdx false in
structure zeA (z TI TO i1 i2:Addr) (fp1 fp2:List Addr):Prop where
  nd:[z,TI,TO,i1,i2].Nodup
  z1:z∉fp1
  z2:z∉fp2
  o1:TO∉fp1
  o2:TO∉fp2
  i12:i1∉fp2
  i21:i2∉fp1
section
variable {prog:Program}{w:World}{A:Around}{E:Value→Shared→Prop}{s:Shared}{z TI TO i1 i2:Addr}{fp1 fp2:List Addr}{n1 n2 k1 k2:Nat}{P1 P2:Nat→Value→Prop}{St1 St2:Nat→Heap→Prop}{a b:Value}
theorem VV {Q:Value→Shared→Prop}(D1:Draws prog w A i1 fp1 n1 P1 St1)(D2:Draws prog w A i2 fp2 n2 P2 St2)(ap:zeA z TI TO i1 i2 fp1 fp2)
    (hz:IsZip s.heap z TI TO .none) (hTI:IsPair s.heap TI (.ref i1) (.ref i2)) (hTO:IsPair s.heap TO a b) (h1:St1 k1 s.heap) (h2:St2 k2 s.heap) (l1:k1 < n1) (l2:k2 < n2)
    (hQ:∀ x y h' tk,P1 k1 x→P2 k2 y→IsZip h' z TI TO (rawInt s.heap.objs.size)→IsPair h' TO x y→St1 (k1+1) h'→St2 (k2+1) h'→IsPair h' s.heap.objs.size x y →
      (∀ c o,c∉[z,TO,i1,i2]→s.heap.get? c=some o→h'.get? c=some o)→Q (.ref s.heap.objs.size) { s with heap:=h',toks:=tk }) :
    wpAny (model prog w) A (Builtin.«zip.__next__» ⟨[.ref z],[]⟩) (fun fin s'=>∃ v,fin=.done (.ret v)∧Q v s') E s:=by
  obtain ⟨nd,az1,az2,ao1,ao2,a12,a21⟩:=ap
  simp only [List.nodup_cons,List.mem_cons,List.not_mem_nil,or_false,not_or,not_false_eq_true,List.nodup_nil,and_true] at nd
  obtain ⟨⟨n1',n2',n3',n4'⟩,⟨n5,n6,n7⟩,⟨n8,n9⟩,n10⟩:=nd
  show wpAny _ _ (field (.ref z) 2>>=_) _ _ _
  refine wpAny_bind (wpAny_field hz rfl (x:=.bool false) rfl ?_)
  show wpAny _ _ (field (.ref z) 3>>=_) _ _ _
  refine wpAny_bind (wpAny_field hz rfl (x:=.ref TI) rfl (wpAny_bind (wpAny_seqItems hTI rfl ?_)))
  show wpAny _ _ (Builtin.SmallTypes.ownedTupleIsFree (.ref z)>>=_) _ _ _
  refine wpAny_bind ?_
  unfold Builtin.SmallTypes.ownedTupleIsFree
  refine wpAny_bind (wpAny_field hz rfl (x:=.none) rfl (wpAny_pure ?_))
  simp only [if_true]
  refine wpAny_bind (wpAny_rule (wpAny_bind (wpAny_field hz rfl (x:=.ref TO) rfl (wpAny_bind (wpAny_setField_rec hz (by simp) fun g1 z1 b1=>?_)))))
  refine wpAny_bind ?_
  simp only [List.zipIdx_cons,List.zipIdx_nil,List.forIn_cons,List.forIn_nil]
  refine wpAny_bind (wpAny_bind (wpAny_onRaise ?_))
  show wpAny _ _ (Builtin.SmallTypes.nextOf (.ref i1)>>=_) _ _ _
  refine wpAny_bind (D1.item k1 _ _ _ l1 (xM D1 h1 b1 az1) fun x g2 tk2 px st2 b2=>wpAny_pure ?_)
  have o2:IsPair g2 TO a b:=(b2.2 TO n8).trans ((b1.2 TO (Ne.symm n2')).trans hTO)
  refine wpAny_bind (wpAny_seqItems o2 rfl (wpAny_bind (wpAny_updateSeq_pair o2 fun g3 o3 b3=>?_)))
  refine wpAny_bind (wpAny_letGo (wpAny_pure ?_))
  refine wpAny_bind (wpAny_bind (wpAny_onRaise ?_))
  show wpAny _ _ (Builtin.SmallTypes.nextOf (.ref i2)>>=_) _ _ _
  have s23:St2 k2 g3:=xM D2 (xM D2 (xM D2 h2 b1 az2) b2 a12) b3 ao2
  refine wpAny_bind (D2.item k2 _ _ _ l2 s23 fun y g4 tk4 py st4 b4=>wpAny_pure ?_)
  have o4:IsPair g4 TO x b:=(b4.2 TO n9).trans o3
  refine wpAny_bind (wpAny_seqItems o4 rfl (wpAny_bind (wpAny_updateSeq_pair o4 fun g5 o5 b5=>?_)))
  replace o5:IsPair g5 TO x y:=o5
  refine wpAny_bind (wpAny_letGo (wpAny_pure (wpAny_pure ?_)))
  refine wpAny_bind (wpAny_seqItems o5 rfl ?_)
  show wpAny _ _ (newTuple [x,y]>>=_) _ _ _
  refine wpAny_bind (wpAny_newTuple ?_)
  have hsz:g5.objs.size=s.heap.objs.size:=by rw [b5.1,b4.1,b3.1,b2.1,b1.1]
  have z5:IsZip g5 z TI TO .ellipsis:=(b5.2 z n2').trans ((b4.2 z n4').trans ((b3.2 z n2').trans ((b2.2 z n3').trans z1)))
  have zlt:z < g5.objs.size:=Heap.lt_size z5
  show wpAny _ _ (Builtin.SmallTypes.ownedTupleHandOut (.ref z) (.ref g5.objs.size)>>=_) _ _ _
  refine wpAny_bind ?_
  unfold Builtin.SmallTypes.ownedTupleHandOut
  have z6:IsZip (g5.push { cls:=.type "tuple",data:=.seq #[x,y] }) z TI TO .ellipsis:=Heap.get?_push_of_some _ z5
  refine wpAny_bind (wpAny_setField_rec z6 (by simp) fun g7 z7 b7=>?_)
  refine wpAny_setField_rec z7 (by simp) fun g8 z8 b8=>?_
  have up:∀ c o,c≠z→g5.get? c=some o→g8.get? c=some o:=fun c o n e=>(b8.2 c n).trans ((b7.2 c n).trans (Heap.get?_push_of_some _ e))
  have t8:IsPair g8 g5.objs.size x y:=(b8.2 _ (Nat.ne_of_gt zlt)).trans ((b7.2 _ (Nat.ne_of_gt zlt)).trans (Heap.get?_push_size _ rfl))
  have e8:IsZip g8 z TI TO (rawInt g5.objs.size):=z8
  rw [hsz] at e8 t8
  refine wpAny_pure ⟨_,rfl,?_⟩
  show Q (.ref g5.objs.size) _
  rw [hsz]
  have f1:St1 (k1+1) g5:=xM D1 (xM D1 (xM D1 st2 b3 ao1) b4 a21) b5 ao1
  have f2:St2 (k2+1) g5:=xM D2 st4 b5 ao2
  refine hQ x y g8 _ px py e8 (up _ _ (Ne.symm n2') o5) (D1.frame _ _ _ f1 fun c hc o e=>up c o (fun q=>az1 (q ▸ hc)) e) (D2.frame _ _ _ f2 fun c hc o e=>up c o (fun q=>az2 (q ▸ hc)) e) t8 fun c o hc e=>?_
  simp only [List.mem_cons,List.not_mem_nil,or_false,not_or] at hc
  obtain ⟨c1,c2,c3,c4⟩:=hc
  exact up c o c1 ((b5.2 c c2).trans ((b4.2 c c4).trans ((b3.2 c c2).trans ((b2.2 c c3).trans ((b1.2 c c1).trans e)))))
theorem zai {Q:Fin→Shared→Prop}(D1:Draws prog w A i1 fp1 n1 P1 St1)(az1:z∉fp1)(nz:i1≠z)
    (hz:IsZip s.heap z TI TO .none) (hTI:IsPair s.heap TI (.ref i1) (.ref i2)) (h1:St1 n1 s.heap)
    (hE:∀ h' e,(∀ c o,c≠z→c≠i1→s.heap.get? c=some o→h'.get? c=some o)→(∃ o,h'.get? e=some o∧o.cls=.type "StopIteration")→E (.ref e) { s with heap:=h' }) :
    wpAny (model prog w) A (Builtin.«zip.__next__» ⟨[.ref z],[]⟩) Q E s:=by
  show wpAny _ _ (field (.ref z) 2>>=_) _ _ _
  refine wpAny_bind (wpAny_field hz rfl (x:=.bool false) rfl ?_)
  show wpAny _ _ (field (.ref z) 3>>=_) _ _ _
  refine wpAny_bind (wpAny_field hz rfl (x:=.ref TI) rfl (wpAny_bind (wpAny_seqItems hTI rfl ?_)))
  show wpAny _ _ (Builtin.SmallTypes.ownedTupleIsFree (.ref z)>>=_) _ _ _
  refine wpAny_bind ?_
  unfold Builtin.SmallTypes.ownedTupleIsFree
  refine wpAny_bind (wpAny_field hz rfl (x:=.none) rfl (wpAny_pure ?_))
  simp only [if_true]
  refine wpAny_bind (wpAny_rule (wpAny_bind (wpAny_field hz rfl (x:=.ref TO) rfl (wpAny_bind (wpAny_setField_rec hz (by simp) fun g1 z1 b1=>?_)))))
  refine wpAny_bind ?_
  simp only [List.zipIdx_cons,List.zipIdx_nil,List.forIn_cons,List.forIn_nil]
  refine wpAny_bind (wpAny_bind (wpAny_onRaise ?_))
  show wpAny _ _ (Builtin.SmallTypes.nextOf (.ref i1)>>=_) _ _ _
  refine wpAny_bind (D1.done _ _ _ (xM D1 h1 b1 az1) fun g2 e b2 he=>?_)
  obtain ⟨oe,hoe,hce⟩:=he
  have z2:IsZip g2 z TI TO .ellipsis:=b2 _ _ (Ne.symm nz) z1
  have nez:e≠z:=fun q=>by subst q;rw [z2] at hoe;cases hoe;simp at hce
  exact wpAny_setField_rec z2 (by simp) fun g3 _ b3=>hE g3 e (fun c o c1 c2 q=>(b3.2 c c1).trans (b2 c o c2 ((b1.2 c c1).trans q))) ⟨oe,(b3.2 e nez).trans hoe,hce⟩
end
noncomputable def W7 (b:Bool)(h:Heap)(it l:Addr)(k:Nat):Prop:=if b=true then h.IsListIter it l k else h.IsTupleIter it l k
noncomputable def zbW (b:Bool)(h:Heap)(l:Addr)(items:Array Value):Prop:=if b=true then h.IsList l items else h.IsTuple l items
theorem XD {prog:Program}{w:World}{A:Around}(hh:A.handled=none)(b:Bool)(it l:Addr)(hne:l≠it)(items:Array Value) :
    Draws prog w A it [it,l] items.size (fun i v=>items[i]?=some v) (fun i h=>W7 b h it l i∧zbW b h l items):=by
  cases b with
  | true=>exact Draws.list hh it l hne items
  | false=>exact Yo hh it l hne items
noncomputable def zen (b:Bool) (l:Addr):Obj:={ cls:=.type (if b=true then "list_iterator" else "tuple_iterator"),data:=.fields #[.ref l,.int 0 0] }
noncomputable abbrev zpA (h:Heap)(b1:Bool)(l1:Addr):Heap:=h.push (zen b1 l1)
noncomputable abbrev zpB (h:Heap)(b1 b2:Bool)(l1 l2:Addr):Heap:=(zpA h b1 l1).push (zen b2 l2)
noncomputable abbrev zpC (h:Heap) (b1 b2:Bool) (l1 l2:Addr):Heap:=(zpB h b1 b2 l1 l2).push (Obj.mk (.type "tuple") none (.seq #[.ref h.objs.size,.ref (zpA h b1 l1).objs.size]) #[])
noncomputable abbrev zpD (h:Heap) (b1 b2:Bool) (l1 l2:Addr):Heap:=(zpC h b1 b2 l1 l2).push (Obj.mk (.type "tuple") none (.seq #[.none,.none]) #[])
noncomputable abbrev zpE (h:Heap) (b1 b2:Bool) (l1 l2:Addr):Heap:=(zpD h b1 b2 l1 l2).push (Obj.mk (.type "zip") none (.fields #[.none,.bool false,.bool false,.ref (zpB h b1 b2 l1 l2).objs.size,.ref (zpC h b1 b2 l1 l2).objs.size]) #[])
theorem zaE (b1 b2:Bool)(l1 l2:Addr)(xs ys:Array Value) :
    Meets (Builtin.«zip.__new__» ⟨[.type "zip",.ref l1,.ref l2],[]⟩) (fun _ R s=>zbW b1 s.heap l1 xs∧zbW b2 s.heap l2 ys ∧
      R (.ok (.ret (.ref (zpD s.heap b1 b2 l1 l2).objs.size))) { s with heap:=zpE s.heap b1 b2 l1 l2 }) :=
  .of_wp fun prog w A R s h=>by
    obtain ⟨hp,g,d,tk,os⟩:=s;obtain ⟨hl1,hl2,h⟩:=h
    have hsub:=sub_zip
    cases b1 with
    | true =>
      have hL1:Heap.IsList (Shared.heap ⟨hp,g,d,tk,os⟩) l1 xs:=hl1
      cases b2 with
      | true =>
        have hL2:Heap.IsList (Shared.heap ⟨hp.push { cls:=.type "list_iterator",data:=.fields #[.ref l1,.int 0 0] },g,d,tk,os⟩) l2 ys:=Heap.IsList.push hl2 _
        wp_walk using wpAny_pyIter_list hL1,wpAny_pyIter_list hL2
        exact ⟨_,rfl,h⟩
      | false =>
        have hL2:Heap.IsTuple (Shared.heap ⟨hp.push { cls:=.type "list_iterator",data:=.fields #[.ref l1,.int 0 0] },g,d,tk,os⟩) l2 ys:=Heap.IsTuple.push hl2 _
        wp_walk using wpAny_pyIter_list hL1,wpAny_pyIter_tuple hL2
        exact ⟨_,rfl,h⟩
    | false =>
      have hL1:Heap.IsTuple (Shared.heap ⟨hp,g,d,tk,os⟩) l1 xs:=hl1
      cases b2 with
      | true =>
        have hL2:Heap.IsList (Shared.heap ⟨hp.push { cls:=.type "tuple_iterator",data:=.fields #[.ref l1,.int 0 0] },g,d,tk,os⟩) l2 ys:=Heap.IsList.push hl2 _
        wp_walk using wpAny_pyIter_tuple hL1,wpAny_pyIter_list hL2
        exact ⟨_,rfl,h⟩
      | false =>
        have hL2:Heap.IsTuple (Shared.heap ⟨hp.push { cls:=.type "tuple_iterator",data:=.fields #[.ref l1,.int 0 0] },g,d,tk,os⟩) l2 ys:=Heap.IsTuple.push hl2 _
        wp_walk using wpAny_pyIter_tuple hL1,wpAny_pyIter_tuple hL2
        exact ⟨_,rfl,h⟩
end PySem
namespace PySem
section
variable {prog:Program}{w:World}{A:Around}{E:Value→Shared→Prop}{s:Shared}
theorem V3 {b1 b2:Bool}{l1 l2:Addr}{xs ys:Array Value}{Q:Value→Shared→Prop}(hl1:zbW b1 s.heap l1 xs)(hl2:zbW b2 s.heap l2 ys)
    (h:∀ h',IsZip h' (s.heap.objs.size+4) (s.heap.objs.size+2) (s.heap.objs.size+3) .none→IsPair h' (s.heap.objs.size+2) (.ref s.heap.objs.size) (.ref (s.heap.objs.size+1)) →
      IsPair h' (s.heap.objs.size+3) .none .none→W7 b1 h' s.heap.objs.size l1 0→W7 b2 h' (s.heap.objs.size+1) l2 0 →
      (∀ c o,s.heap.get? c=some o→h'.get? c=some o)→Q (.ref (s.heap.objs.size+4)) { s with heap:=h' }) :
    wpAny (model prog w) A (call (.type "zip") [.ref l1,.ref l2]) Q E s:=by
  refine callType_new F.called_zip (by decide) (F.typeCall_zip_2 _ _) (F.newCall_zip_2 _ _) (fun obj=>F.args_object_init_3 obj _ _) F.entry_zip_new
    (zaE b1 b2 l1 l2 xs ys) ⟨hl1,hl2,?_⟩
  have z1:(zpA s.heap b1 l1).objs.size=s.heap.objs.size+1:=Heap.size_push ..
  have z2:(zpB s.heap b1 b2 l1 l2).objs.size=s.heap.objs.size+2:=by rw [Heap.size_push,z1]
  have z3:(zpC s.heap b1 b2 l1 l2).objs.size=s.heap.objs.size+3:=by rw [Heap.size_push,z2]
  have z4:(zpD s.heap b1 b2 l1 l2).objs.size=s.heap.objs.size+4:=by rw [Heap.size_push,z3]
  have g5:(zpE s.heap b1 b2 l1 l2).get? (zpD s.heap b1 b2 l1 l2).objs.size=some _:=Heap.get?_push_size _ rfl
  have g4:(zpE s.heap b1 b2 l1 l2).get? (zpC s.heap b1 b2 l1 l2).objs.size=some _:=Heap.get?_push_of_some _ (Heap.get?_push_size _ rfl)
  have g3:(zpE s.heap b1 b2 l1 l2).get? (zpB s.heap b1 b2 l1 l2).objs.size=some _:=Heap.get?_push_of_some _ (Heap.get?_push_of_some _ (Heap.get?_push_size _ rfl))
  have g2:(zpE s.heap b1 b2 l1 l2).get? (zpA s.heap b1 l1).objs.size=some (zen b2 l2):=Heap.get?_push_of_some _ (Heap.get?_push_of_some _ (Heap.get?_push_of_some _ (Heap.get?_push_size _ rfl)))
  have g1:(zpE s.heap b1 b2 l1 l2).get? s.heap.objs.size=some (zen b1 l1):=Heap.get?_push_of_some _ (Heap.get?_push_of_some _ (Heap.get?_push_of_some _ (Heap.get?_push_of_some _ (Heap.get?_push_size _ rfl))))
  show _∧_
  rw [z2,z3,z4] at g5
  rw [z1,z2] at g3
  rw [z3] at g4
  rw [z1] at g2
  rw [z4]
  have it0:∀ {b:Bool} {l c:Addr},(zpE s.heap b1 b2 l1 l2).get? c=some (zen b l)→W7 b (zpE s.heap b1 b2 l1 l2) c l 0:=fun {b l c} e=>by
    cases b
    · exact ⟨_,e,rfl,rfl⟩
    · exact ⟨_,e,rfl,rfl⟩
  exact ⟨⟨_,g5,rfl⟩,h _ g5 g3 g4 (it0 g1) (it0 g2) fun c o x =>
    Heap.get?_push_of_some _ (Heap.get?_push_of_some _ (Heap.get?_push_of_some _ (Heap.get?_push_of_some _ (Heap.get?_push_of_some _ x))))⟩
variable {z TI TO i1 i2:Addr}{fp1 fp2:List Addr}{n1 n2 k1 k2:Nat}{P1 P2:Nat→Value→Prop}{St1 St2:Nat→Heap→Prop}{a b:Value}
theorem YR {Q:Option Value→Shared→Prop}(D1:Draws prog w A.in1 i1 fp1 n1 P1 St1)(D2:Draws prog w A.in1 i2 fp2 n2 P2 St2)(ap:zeA z TI TO i1 i2 fp1 fp2)
    (hz:IsZip s.heap z TI TO .none) (hTI:IsPair s.heap TI (.ref i1) (.ref i2)) (hTO:IsPair s.heap TO a b) (h1:St1 k1 s.heap) (h2:St2 k2 s.heap) (l1:k1 < n1) (l2:k2 < n2)
    (hQ:∀ x y h' tk,P1 k1 x→P2 k2 y→IsZip h' z TI TO (rawInt s.heap.objs.size)→IsPair h' TO x y→St1 (k1+1) h'→St2 (k2+1) h'→IsPair h' s.heap.objs.size x y →
      (∀ c o,c∉[z,TO,i1,i2]→s.heap.get? c=some o→h'.get? c=some o)→Q (some (.ref s.heap.objs.size)) { s with heap:=h',toks:=tk }) :
    wpAny (model prog w) A (pyNext (.ref z)) Q E s:=by
  have hT:s.TypeIs (.ref z) "zip":=⟨_,hz,rfl⟩
  unfold pyNext
  exact wpAny_bind (wpAny_attempt (wpAny_callSpecial?_slot (name:=Str.ofString "__next__") hT F.slot_zip_next
    (wpAny_call_entry F.slot_zip_next hT F.entry_zip_next
      (VV D1 D2 ap hz hTI hTO h1 h2 l1 l2 fun x y h' tk a1 a2 a3 a4 a5 a6 a7 a8=>wpAny_pure (hQ x y h' tk a1 a2 a3 a4 a5 a6 a7 a8)) (F.args_zip_next_1 _))))
theorem Y5 {Q:Option Value→Shared→Prop}(D1:Draws prog w A.in1 i1 fp1 n1 P1 St1)(az1:z∉fp1)(nz:i1≠z)
    (hz:IsZip s.heap z TI TO .none) (hTI:IsPair s.heap TI (.ref i1) (.ref i2)) (h1:St1 n1 s.heap)
    (hQ:∀ h',(∀ c o,c≠z→c≠i1→s.heap.get? c=some o→h'.get? c=some o)→Q none { s with heap:=h' }):wpAny (model prog w) A (pyNext (.ref z)) Q E s:=by
  have hT:s.TypeIs (.ref z) "zip":=⟨_,hz,rfl⟩
  unfold pyNext
  refine wpAny_bind (wpAny_attempt (wpAny_callSpecial?_slot (name:=Str.ofString "__next__") hT F.slot_zip_next
    (wpAny_call_entry F.slot_zip_next hT F.entry_zip_next (zai D1 az1 nz hz hTI h1 fun h' e hk he=>?_) (F.args_zip_next_1 _))))
  obtain ⟨o,ho,hc⟩:=he
  refine wpAny_bind (wpAny_isInstance (T:="StopIteration") (b:=true) ⟨o,ho,hc⟩ isSubtype_stop ?_)
  exact wpAny_pure (hQ _ hk)
end
end PySem
namespace L2
open PySem PySem.Spec PyProof.Rows
noncomputable def Sq (b:Bool)(K:PySem.W.Frag)(H:Hp)(a:Addr)(xs:List V):Prop:=if b=true then SqL K H a xs else SqT K H a xs
theorem Inv.sq {X:Cx}{pins:List (Addr × Obj)}{σ:St}{H:Hp}{s:Shared}{a:Addr}{xs:List V}{b:Bool}(I:Inv X pins σ H s)(h:Sq b X.K H a xs):∃ its:List Value,yP xs its∧zbW b s.heap a its.toArray∧a < s.heap.objs.size:=by
  cases b with
  | true =>
    obtain ⟨its,r,p,_⟩:=I.list (show SqL X.K H a xs from h)
    exact ⟨its,r,p.isList,by obtain ⟨o,n,ho,_⟩:=p;exact Heap.lt_size ho⟩
  | false =>
    obtain ⟨its,r,p,_⟩:=I.tuple (show SqT X.K H a xs from h)
    exact ⟨its,r,p,by obtain ⟨o,ho,_⟩:=p;exact Heap.lt_size ho⟩
theorem Inv.sq_inj {X:Cx}{pins:List (Addr × Obj)}{σ:St}{H:Hp}{s:Shared}{a:Addr}{xs ys:List V}{b:Bool}(I:Inv X pins σ H s)(h:Sq b X.K H a xs)(h':Sq b X.K H a ys):xs=ys:=by
  cases b with
  | true=>exact I.list_inj h h'
  | false=>exact I.tuple_inj h h'
noncomputable def Izp (K:PySem.W.Frag)(b1 b2:Bool)(l1 l2:Addr):It :=
  ⟨fun i H=>∃ xs ys x y,Sq b1 K H l1 xs∧Sq b2 K H l2 ys∧xs[i]?=some x∧ys[i]?=some y,
   fun i H v H'=>∃ T x y,v=.ref T∧H T=none∧H'=upd H T (.tup [x,y])∧(∀ xs,Sq b1 K H l1 xs→xs[i]?=some x)∧(∀ ys,Sq b2 K H l2 ys→ys[i]?=some y),
   fun i H=>∃ xs,Sq b1 K H l1 xs∧i=xs.length⟩
theorem Y9 {b:Bool}{h:Heap}{it l:Addr}{k:Nat}(x:W7 b h it l k):∃ o,h.get? it=some o∧∀ v,o.data≠.cell v:=by
  cases b
  · obtain ⟨o,ho,_,hd⟩:=x
    exact ⟨o,ho,fun v z=>by rw [hd] at z;cases z⟩
  · obtain ⟨o,ho,_,hd⟩:=x
    exact ⟨o,ho,fun v z=>by rw [hd] at z;cases z⟩
theorem Z6 {b:Bool}{h h':Heap}{it l:Addr}{k:Nat}(x:W7 b h it l k)(e:∀ o,h.get? it=some o→h'.get? it=some o):W7 b h' it l k:=by
  cases b
  · obtain ⟨o,ho,r⟩:=x
    exact ⟨o,e o ho,r⟩
  · obtain ⟨o,ho,r⟩:=x
    exact ⟨o,e o ho,r⟩
theorem ze0 {P:Program}{w:World}{K:PySem.W.Frag}{es:List Expr}{k:Nat}{tp:Pos}(b1 b2:Bool)(l1 l2 z TI TO i1 i2:Addr)(ap:zeA z TI TO i1 i2 [i1,l1] [i2,l2])(n1:l1≠i1)(n2:l2≠i2) :
    zhq P w K (.Tuple es k tp) (Izp K b1 b2 l1 l2) [z,TI,TO,i1,i2] z (fun i h=>IsZip h z TI TO .none∧IsPair h TI (.ref i1) (.ref i2)∧(∃ a b,IsPair h TO a b)∧W7 b1 h i1 l1 i∧W7 b2 h i2 l2 i) where
  mem:=by simp
  obj:=fun i h st b hb=>by
    obtain ⟨hz,hTI,⟨a,c,hTO⟩,h1,h2⟩:=st
    simp only [List.mem_cons,List.not_mem_nil,or_false] at hb
    rcases hb with rfl | rfl | rfl | rfl | rfl
    · exact ⟨_,hz,fun v z=>by cases z⟩
    · exact ⟨_,hTI,fun v z=>by cases z⟩
    · exact ⟨_,hTO,fun v z=>by cases z⟩
    · exact Y9 h1
    · exact Y9 h2
  keep:=fun i h h' st kk=>by
    obtain ⟨hz,hTI,⟨a,c,hTO⟩,h1,h2⟩:=st
    exact ⟨kk z (by simp) _ hz,kk TI (by simp) _ hTI,⟨a,c,kk TO (by simp) _ hTO⟩,Z6 h1 fun o q=>kk i1 (by simp) o q,Z6 h2 fun o q=>kk i2 (by simp) o q⟩
  item:=by
    intro X hP hw hK hc i pins s σ H E I hf st hg
    subst hP hw hK
    obtain ⟨hz,hTI,⟨a,c,hTO⟩,h1,h2⟩:=st
    obtain ⟨xs,ys,x,y,hq1,hq2,hx,hy⟩:=hg
    obtain ⟨its,rv,p,_⟩:=I.sq hq1
    obtain ⟨its2,rv2,p2,_⟩:=I.sq hq2
    obtain ⟨u,hu,ru⟩:=rv.get hx
    obtain ⟨u2,hu2,ru2⟩:=rv2.get hy
    have hl1:i < its.toArray.size:=by simpa using (List.getElem?_eq_some_iff.mp hu).1
    have hl2:i < its2.toArray.size:=by simpa using (List.getElem?_eq_some_iff.mp hu2).1
    have hh:X.A.in1.handled=none:=I.ok.hd hc
    refine YR (XD hh b1 i1 l1 n1 its.toArray) (XD hh b2 i2 l2 n2 its2.toArray) ap hz hTI hTO ⟨h1,p⟩ ⟨h2,p2⟩ hl1 hl2 fun v1 v2 h' tk e1 e2 hz' hTO' s1 s2 hT' hk=>?_
    have eu:v1=u:=by
      have:its[i]?=some v1:=by simpa using e1
      rw [hu] at this
      exact (Option.some.inj this).symm
    have eu2:v2=u2:=by
      have:its2[i]?=some v2:=by simpa using e2
      rw [hu2] at this
      exact (Option.some.inj this).symm
    subst eu eu2
    obtain ⟨nd,az1,az2,ao1,ao2,a12,a21⟩:=ap
    simp only [List.nodup_cons,List.mem_cons,List.not_mem_nil,or_false,not_or,not_false_eq_true,List.nodup_nil,and_true] at nd
    obtain ⟨⟨m1,m2,m3,m4⟩,⟨m5,m6,m7⟩,⟨m8,m9⟩,m10⟩:=nd
    refine ⟨_,rfl,wpAny_letOwnedTupleGo_zip hz' fun h2' hz2 hs2=>?_⟩
    have hfr:H s.heap.objs.size=none:=I.hok.fresh (Nat.le_refl _)
    have neZ:s.heap.objs.size≠z:=Nat.ne_of_gt (Heap.lt_size hz)
    have hT2:IsPair h2' s.heap.objs.size v1 v2:=(hs2.2 _ neZ).trans hT'
    have hTI':IsPair h' TI (.ref i1) (.ref i2):=hk TI _ (by simp [Ne.symm m1,m5,m6,m7]) hTI
    have lt:∀ b∈[z,TI,TO,i1,i2],b < s.heap.objs.size:=fun b hb=>by
      simp only [List.mem_cons,List.not_mem_nil,or_false] at hb
      rcases hb with rfl | rfl | rfl | rfl | rfl
      · exact Heap.lt_size hz
      · exact Heap.lt_size hTI
      · exact Heap.lt_size hTO
      · obtain ⟨o,ho,_⟩:=Y9 h1;exact Heap.lt_size ho
      · obtain ⟨o,ho,_⟩:=Y9 h2;exact Heap.lt_size ho
    refine ⟨.ref s.heap.objs.size,upd H s.heap.objs.size (.tup [x,y]),?_,rfl,⟨_,x,y,rfl,hfr,rfl,fun zs hz=>by rw [I.sq_inj hz hq1];exact hx,fun zs hz=>by rw [I.sq_inj hz hq2];exact hy⟩,
      ⟨hz2,(hs2.2 TI (Ne.symm m1)).trans hTI',⟨_,_,(hs2.2 TO (Ne.symm m2)).trans hTO'⟩,Z6 s1.1 fun o q=>(hs2.2 i1 (Ne.symm m3)).trans q,Z6 s2.1 fun o q=>(hs2.2 i2 (Ne.symm m4)).trans q⟩,fun b hb=>?_⟩
    · refine I.grown (ch:=[z,TI,TO,i1,i2]) hf (Nat.le_refl _) (fun b v hb q=>?_) ?_
      · have nb:b≠z:=fun w=>hb (by simp [w])
        refine (hs2.2 b nb).trans (hk b v (fun w=>hb ?_) q)
        simp only [List.mem_cons,List.not_mem_nil,or_false] at w ⊢
        rcases w with w | w | w | w
        · exact .inl w
        · exact .inr (.inr (.inl w))
        · exact .inr (.inr (.inr (.inl w)))
        · exact .inr (.inr (.inr (.inr w)))
      · exact ⟨by show 2≤sizeLine;decide,[v1,v2],.cons ru (.cons ru2 .nil),⟨_,hT2,rfl,0,rfl⟩⟩
    · rw [zo (Nat.ne_of_lt (lt b hb))]
      exact (hf b hb).1
  done:=by
    intro X hP hw hK hc i pins s σ H E I hf st hg
    subst hP hw hK
    obtain ⟨hz,hTI,⟨a,c,hTO⟩,h1,h2⟩:=st
    obtain ⟨xs,hq,rfl⟩:=hg
    obtain ⟨its,rv,p,_⟩:=I.sq hq
    have hl:=rv.length
    have hh:X.A.in1.handled=none:=I.ok.hd hc
    have D:=XD (prog:=X.prog) (w:=X.w) hh b1 i1 l1 n1 its.toArray
    refine Y5 D ap.z1 ?_ hz hTI ⟨by rw [List.size_toArray,← hl];exact h1,p⟩ fun h' hk=>⟨rfl,I.turnedN (ch:=[z,TI,TO,i1,i2]) (t':=s.toks) hf fun b v hb q=>hk b v (fun w=>hb (by simp [w])) (fun w=>hb (by simp [w])) q⟩
    have nd:=ap.nd
    simp only [List.nodup_cons,List.mem_cons,List.not_mem_nil,or_false,not_or,not_false_eq_true,List.nodup_nil,and_true] at nd
    exact Ne.symm nd.1.2.2.1
  self:=fun _ _ _ _ _ st h=>wpAny_pyIter_zip st.1 h
noncomputable def iZip (K:PySem.W.Frag)(ta:TA):TI:=fun σ H R=>ta σ H fun vs H1=>∃ b1 b2 l1 l2 xs ys,vs=[.ref l1,.ref l2]∧Sq b1 K H1 l1 xs∧Sq b2 K H1 l2 ys∧R (Izp K b1 b2 l1 l2) H1
theorem ziI {X:Cx} {es:List Expr} {k:Nat} {tp:Pos} {a b:Expr} {ta:TA} {p pos:Pos} (hg:Gl X "zip") (hm:X.mg "zip"=none) (hb:bootBuiltins "zip"=some (.type "zip")) (ha:PA X [a,b] ta)
    (hs:starEach [a,b] X.env=[(false,eval a X.env),(false,eval b X.env)]:=by rfl) (hs2:starEach [b] X.env=[(false,eval b X.env)]:=by rfl):PI X (.Tuple es k tp) (.Call (.Name "zip" p) [a,b] [] pos) (iZip X.K ta):=by
  intro pins s σ H R I h
  refine Call_ (XV I hg hm hb (PyProof.Rows.callWith_type1 (thn (ha pos pins s σ H _ I h) fun us s1 hh9=>?_) (by rw [hs,hs2]) (by rw [hs2];rfl)))
  obtain ⟨vs,H1,I1,r1,q1⟩:=hh9
  obtain ⟨b1,b2,l1,l2,xs,ys,e,hq1,hq2,q⟩:=q1
  subst e
  obtain ⟨u,u2,rfl,ru,ru2⟩:=zbX r1
  cases ru
  cases ru2
  obtain ⟨its,rv,p1,lt1⟩:=I1.sq hq1
  obtain ⟨its2,rv2,p2,lt2⟩:=I1.sq hq2
  refine V3 p1 p2 fun h2 hz hTI hTO hi1 hi2 hk=>wpAny_pyIter_zip hz ?_
  have hn:∀ b,s1.heap.objs.size≤b→zbm X pins H1 b:=fun b hb=>I1.fpOk hb (I1.hok.fresh hb)
  have ap:zeA (s1.heap.objs.size+4) (s1.heap.objs.size+2) (s1.heap.objs.size+3) s1.heap.objs.size (s1.heap.objs.size+1) [s1.heap.objs.size,l1] [s1.heap.objs.size+1,l2]:=by
    have q1:l1≠s1.heap.objs.size:=Nat.ne_of_lt lt1
    have q2:∀ j:Nat,s1.heap.objs.size+j≠l1:=fun j e=>Nat.lt_irrefl _ (Nat.lt_of_lt_of_le (by rw [←e] at lt1;exact lt1) (Nat.le_add_right _ _))
    have q3:∀ j:Nat,s1.heap.objs.size+j≠l2:=fun j e=>Nat.lt_irrefl _ (Nat.lt_of_lt_of_le (by rw [←e] at lt2;exact lt2) (Nat.le_add_right _ _))
    have ne:∀ i j:Nat,i≠j→s1.heap.objs.size+i≠s1.heap.objs.size+j:=fun i j h e=>h (Nat.add_left_cancel e)
    have n0:∀ i:Nat,i≠0→s1.heap.objs.size+i≠s1.heap.objs.size:=fun i h e=>h (Nat.add_left_cancel (n:=s1.heap.objs.size) (m:=i) (k:=0) e)
    refine ⟨?_,?_,?_,?_,?_,?_,?_⟩
    · simp only [List.nodup_cons,List.mem_cons,List.not_mem_nil,or_false,not_or,not_false_eq_true,List.nodup_nil,and_true]
      exact ⟨⟨ne 4 2 (by decide),ne 4 3 (by decide),n0 4 (by decide),ne 4 1 (by decide)⟩,⟨ne 2 3 (by decide),n0 2 (by decide),ne 2 1 (by decide)⟩,⟨n0 3 (by decide),ne 3 1 (by decide)⟩,Ne.symm (n0 1 (by decide))⟩
    · simp only [List.mem_cons,List.not_mem_nil,or_false,not_or];exact ⟨n0 4 (by decide),q2 4⟩
    · simp only [List.mem_cons,List.not_mem_nil,or_false,not_or];exact ⟨ne 4 1 (by decide),q3 4⟩
    · simp only [List.mem_cons,List.not_mem_nil,or_false,not_or];exact ⟨n0 3 (by decide),q2 3⟩
    · simp only [List.mem_cons,List.not_mem_nil,or_false,not_or];exact ⟨ne 3 1 (by decide),q3 3⟩
    · simp only [List.mem_cons,List.not_mem_nil,or_false,not_or];exact ⟨Ne.symm (n0 1 (by decide)),q3 0⟩
    · simp only [List.mem_cons,List.not_mem_nil,or_false,not_or];exact ⟨n0 1 (by decide),q2 1⟩
  refine ⟨_,_,_,_,H1,rfl,I1.kept (t':=s1.toks) hk,ze0 b1 b2 l1 l2 _ _ _ _ _ ap (Nat.ne_of_lt lt1) (Nat.ne_of_lt (Nat.lt_succ_of_lt lt2)),⟨hz,hTI,⟨_,_,hTO⟩,hi1,hi2⟩,fun b hb=>?_,q⟩
  simp only [List.mem_cons,List.not_mem_nil,or_false] at hb
  rcases hb with rfl | rfl | rfl | rfl | rfl
  · exact hn _ (Nat.le_add_right _ _)
  · exact hn _ (Nat.le_add_right _ _)
  · exact hn _ (Nat.le_add_right _ _)
  · exact hn _ (Nat.le_refl _)
  · exact hn _ (Nat.le_add_right _ _)
end L2
namespace OwnSort
open PySem PyProof.Rows
section pure
variable {κ:KeyKind}{xs:Array Keyed}
theorem up1 {x:Nat}(hs:SortedToK κ xs x)(hx:1≤x)(h:κ.kle (KK κ xs (x - 1)) (KK κ xs x)):SortedToK κ xs (x+1):=fun i j hij hj=>by
  by_cases c:j < x
  · exact hs i j hij c
  · obtain rfl:j=x:=by omega
    by_cases d:i=j
    · rw [d];exact KeyOrd.kle_refl _
    · exact KeyOrd.kle_trans (hs i (j - 1) (by omega) (by omega)) h
theorem zfm {x:Nat}(hs:NonIncK κ xs x)(hx:1≤x)(h:κ.kle (KK κ xs x) (KK κ xs (x - 1))):NonIncK κ xs (x+1):=fun i j hij hj=>by
  by_cases c:j < x
  · exact hs i j hij c
  · obtain rfl:j=x:=by omega
    by_cases d:i=j
    · rw [d];exact KeyOrd.kle_refl _
    · exact KeyOrd.kle_trans h (hs i (j - 1) (by omega) (by omega))
theorem Xt {ys:Array Keyed}{n:Nat}(e:∀ i,KK κ ys i=KK κ xs i)(h:NonIncK κ xs n):NonIncK κ ys n:=fun i j hij hj=>by rw [e,e];exact h i j hij hj
theorem turned {n:Nat}(hn:n≤xs.size)(h:NonIncK κ xs n):SortedToK κ (mirror xs 0 n ((n - 0) / 2)) n:=fun i j hij hj=>by
  rw [KK_mirror hn,KK_mirror hn,if_pos ⟨by omega,by omega⟩,if_pos ⟨by omega,by omega⟩]
  exact h _ _ (by omega) (by omega)
theorem zbY:SortedToK κ xs 1:=fun i j hij hj=>by
  obtain rfl:i=j:=by omega
  exact KeyOrd.kle_refl _
theorem zbO:NonIncK κ xs 1:=fun i j hij hj=>by
  obtain rfl:i=j:=by omega
  exact KeyOrd.kle_refl _
end pure
set_option genInjectivity false in
set_option genSizeOf false in
set_option genCtorIdx false in
structure SB (k:SortKind) (a₀:Array Keyed) (st:SortSt):Prop where
  pm:(arrOf st).Perm a₀
  kd:kindOf st=k
  fl:failedOf st=none
  pd:pendingOf st=#[]
theorem SB.sz {k:SortKind}{a₀:Array Keyed}{st:SortSt}(B:SB k a₀ st):(arrOf st).size=a₀.size:=B.pm.size_eq
theorem SB.put {k:SortKind}{a₀ xs:Array Keyed}{st:SortSt}(B:SB k a₀ st)(p:xs.Perm (arrOf st)):SB k a₀ (setArr st xs):=⟨p.trans B.pm,B.kd,B.fl,B.pd⟩
section
variable {prog:Program}{w:World}{A:Around}{E:Value→Shared→Prop}{s:Shared}{a₀:Array Keyed}{κ:KeyKind}{k:SortKind}{st:SortSt}
noncomputable def zf6 (prog:Program)(w:World)(A:Around)(E:Value→Shared→Prop)(s:Shared)(a₀:Array Keyed)(κ:KeyKind)(k:SortKind):Prop :=
  ∀ (st:SortSt) (i j:Nat) (Q:Option Bool→SortSt→Prop),SB k a₀ st→i < a₀.size→j < a₀.size→Q (some (κ.blt (KK κ (arrOf st) i) (KK κ (arrOf st) j))) st→wpS (model prog w) A E s (ltAt' i j) Q st
theorem zcC {a n:Nat}{Q:AscSt→SortSt→Prop}(L:zf6 prog w A E s a₀ κ k)(hn:n≤a₀.size)(ha:1≤a)(han:a≤n)(B:SB k a₀ st)(hs:SortedToK κ (arrOf st) a)
    (h:∀ m,a≤m→m≤n→SortedToK κ (arrOf st) m→(m=n∨κ.klt (KK κ (arrOf st) m) (KK κ (arrOf st) (m - 1)))→Q (none,m) st):wpS (model prog w) A E s (ascLoop a n) Q st:=by
  unfold ascLoop
  refine wpS_forRange (I:=fun x c t=>(t=st∧c=(none,x))∧SortedToK κ (arrOf st) x) (fun x c t h1 h2 hI=>?_) (fun c t hI=>?_) ⟨⟨rfl,rfl⟩,hs⟩
  · obtain ⟨⟨rfl,rfl⟩,hx⟩:=hI
    refine wpS_bind (L _ x (x - 1) _ B (by omega) (by omega) ?_)
    cases c:κ.blt (KK κ (arrOf t) x) (KK κ (arrOf t) (x - 1)) with
    | true=>exact wpS_pure (h x h1 (by omega) hx (.inr c))
    | false=>exact wpS_pure ⟨⟨rfl,rfl⟩,up1 hx (by omega) c⟩
  · obtain ⟨⟨rfl,rfl⟩,hx⟩:=hI
    have e:max a n=n:=by omega
    rw [e] at hx ⊢
    exact h n han (Nat.le_refl _) hx (.inl rfl)
theorem zbC {n m:Nat}{Q:Option Nat→SortSt→Prop}(L:zf6 prog w A E s a₀ κ k)(hm:m≤a₀.size)(h1:1≤n)(hnm:n≤m)(B:SB k a₀ st)(hs:NonIncK κ (arrOf st) n)
    (h:∀ r t,SB k a₀ t→1≤r→r≤m→SortedToK κ (arrOf t) r→Q (some r) t):wpS (model prog w) A E s (tail3 n m) Q st:=by
  unfold tail3
  have B':=B.put (mirror_perm (arrOf st) 0 n ((n - 0) / 2))
  exact wpS_bind (wpS_reverse (wpS_bind (zcC L hm h1 hnm B' (turned (by rw [B.sz];omega) hs) fun r g1 g2 g3 _=>wpS_pure (h r _ B' (by omega) g2 g3))))
theorem zeD {n m:Nat}{Q:DescSt→SortSt→Prop}(L:zf6 prog w A E s a₀ κ k)(hm:m≤a₀.size)(h1:1≤n)(hnm:n≤m)(B:SB k a₀ st)(hs:NonIncK κ (arrOf st) n)
    (h:∀ r q t,SB k a₀ t→n≤r→r≤m→NonIncK κ (arrOf t) r→q+1≤r→(∀ i,r - (q+1)≤i→i < r→KK κ (arrOf t) i=KK κ (arrOf t) (r - 1))→Q (none,r,q) t):wpS (model prog w) A E s (descLoop n m) Q st:=by
  unfold descLoop
  refine wpS_forRange (I:=fun x c t=>∃ q,c=(none,x,q)∧SB k a₀ t∧NonIncK κ (arrOf t) x∧q+1≤x∧∀ i,x - (q+1)≤i→i < x→KK κ (arrOf t) i=KK κ (arrOf t) (x - 1))
    (fun x c t g1 g2 hI=>?_) (fun c t hI=>?_) ⟨0,rfl,B,hs,h1,fun i c1 c2=>by rw [show i=n - 1 from Nat.le_antisymm (Nat.le_sub_one_of_lt c2) c1]⟩
  · obtain ⟨q,rfl,B1,ni,hq,he⟩:=hI
    have hxs:x < a₀.size:=Nat.lt_of_lt_of_le g2 hm
    have hxs1:x - 1 < a₀.size:=Nat.lt_of_le_of_lt (Nat.sub_le _ _) hxs
    have hx1:1≤x:=Nat.le_trans h1 g1
    have hz:x≤(arrOf t).size:=by rw [B1.sz];exact Nat.le_of_lt hxs
    refine wpS_bind (L _ x (x - 1) _ B1 hxs hxs1 ?_)
    cases c:κ.blt (KK κ (arrOf t) x) (KK κ (arrOf t) (x - 1)) with
    | true =>
      have d:=zfm ni hx1 (KeyOrd.kle_of_klt c)
      by_cases hq0:q > 0
      · show wpS _ _ _ _ (if q > 0 then _ else _) _ _
        rw [if_pos hq0]
        exact wpS_bind (wpS_reverse (wpS_pure ⟨0,rfl,B1.put (mirror_perm _ _ _ _),Xt (KK_mirror_equal hz he) d,Nat.succ_le_succ (Nat.zero_le _),fun i c1 c2=>by rw [show i=x+1 - 1 from Nat.le_antisymm (Nat.le_of_lt_succ c2) c1]⟩))
      · show wpS _ _ _ _ (if q > 0 then _ else _) _ _
        rw [if_neg hq0]
        exact wpS_pure ⟨0,rfl,B1,d,Nat.succ_le_succ (Nat.zero_le _),fun i c1 c2=>by rw [show i=x+1 - 1 from Nat.le_antisymm (Nat.le_of_lt_succ c2) c1]⟩
    | false =>
      refine wpS_bind (L _ (x - 1) x _ B1 hxs1 hxs ?_)
      cases c2:κ.blt (KK κ (arrOf t) (x - 1)) (KK κ (arrOf t) x) with
      | true=>exact wpS_pure (h x q t B1 g1 (Nat.le_of_lt g2) ni hq he)
      | false =>
        have same:KK κ (arrOf t) x=KK κ (arrOf t) (x - 1):=KeyOrd.kle_antisymm c2 c
        refine wpS_pure ⟨q+1,rfl,B1,zfm ni hx1 c2,Nat.succ_le_succ hq,fun i d1 d2=>?_⟩
        show KK κ (arrOf t) i=KK κ (arrOf t) x
        by_cases di:i=x
        · rw [di]
        · rw [same];exact he i (by omega) (by omega)
  · obtain ⟨q,rfl,B1,ni,hq,he⟩:=hI
    have e:max n m=m:=Nat.max_eq_right hnm
    rw [e] at ni hq he ⊢
    exact h m q t B1 hnm (Nat.le_refl _) ni hq he
theorem ZO {n m:Nat}{Q:Option Nat→SortSt→Prop}(L:zf6 prog w A E s a₀ κ k)(hm:m≤a₀.size)(hnm:n+1≤m)(B:SB k a₀ st)(hs:NonIncK κ (arrOf st) (n+1))
    (h:∀ r t,SB k a₀ t→1≤r→r≤m→SortedToK κ (arrOf t) r→Q (some r) t):wpS (model prog w) A E s (descPart n m) Q st:=by
  unfold descPart
  refine wpS_bind (wpS_lift (wpAny_rule ⟨rfl,wpS_bind (zeD L hm (by omega) hnm B hs fun r q t B1 r1 r2 ni hq he=>?_)⟩))
  have hz:r≤(arrOf t).size:=by rw [B1.sz];omega
  by_cases hq0:q > 0
  · show wpS _ _ _ _ (if q > 0 then _ else _) _ _
    rw [if_pos hq0]
    exact wpS_bind (wpS_reverse (zbC (n:=r) L hm (by omega) r2 (B1.put (mirror_perm _ _ _ _)) (Xt (KK_mirror_equal hz he) ni) h))
  · show wpS _ _ _ _ (if q > 0 then _ else _) _ _
    rw [if_neg hq0]
    exact zbC (n:=r) L hm (by omega) r2 B1 ni h
theorem zgC {m:Nat}{Q:Option Nat→SortSt→Prop}(L:zf6 prog w A E s a₀ κ k)(hm:m≤a₀.size)(h1:1≤m)(B:SB k a₀ st)
    (h:∀ r t,SB k a₀ t→1≤r→r≤m→SortedToK κ (arrOf t) r→Q (some r) t):wpS (model prog w) A E s (countRun' 0 m) Q st:=by
  rw [countRun0_eq]
  refine wpS_bind (zcC L hm (Nat.le_refl 1) h1 B zbY fun n n1 n2 sn or=>?_)
  show wpS _ _ _ _ (if (n == m)=true then _ else if n > 1 then _ else _) _ _
  by_cases e:n=m
  · rw [if_pos (by rw [e];exact beq_self_eq_true m)]
    exact wpS_pure (h n st B n1 n2 sn)
  · rw [if_neg (fun z=>e (eq_of_beq z))]
    have lt:=or.resolve_left e
    by_cases g:n > 1
    · rw [if_pos g]
      refine wpS_bind (L _ 0 (n - 1) _ B (by omega) (by omega) ?_)
      cases c:κ.blt (KK κ (arrOf st) 0) (KK κ (arrOf st) (n - 1)) with
      | true=>exact wpS_pure (h n st B n1 n2 sn)
      | false =>
        have hz:n≤(arrOf st).size:=by rw [B.sz];omega
        have eq:∀ i,0≤i→i < n→KK κ (arrOf st) i=KK κ (arrOf st) (n - 1):=fun i _ hi =>
          KeyOrd.kle_antisymm (sn i (n - 1) (by omega) (by omega)) (KeyOrd.kle_trans c (sn 0 i (by omega) hi))
        have ni:NonIncK κ (arrOf st) n:=fun i j _ hj=>by rw [eq i (by omega) (by omega),eq j (by omega) hj];exact KeyOrd.kle_refl _
        exact wpS_bind (wpS_reverse (ZO L hm (by omega) (B.put (mirror_perm _ _ _ _)) (Xt (KK_mirror_equal hz eq) (zfm ni (by omega) (KeyOrd.kle_of_klt lt))) h))
    · rw [if_neg g]
      obtain rfl:n=1:=by omega
      exact ZO L hm (by omega) B (zfm zbO (Nat.le_refl 1) (KeyOrd.kle_of_klt lt)) h
theorem ziQ {l u md:Nat}(h:(l+u) / 2=md)(c:¬ l ≥ u):l≤md∧md < u:=by
  have c':l < u:=Nat.lt_of_not_le c
  rw [←h]
  exact ⟨(Nat.le_div_iff_mul_le (by decide)).mpr (by rw [Nat.mul_two];exact Nat.add_le_add_left (Nat.le_of_lt c') l),(Nat.div_lt_iff_lt_mul (by decide)).mpr (by rw [Nat.mul_two];exact Nat.add_lt_add_right c' u)⟩
theorem zjK {l u md x y:Nat}(m1:l≤md)(m2:md < u)(e3:u - l≤x - y):md - l≤x - (y+1) :=
  Nat.le_trans (Nat.le_sub_one_of_lt (Nat.sub_lt_sub_right m1 m2)) (Nat.sub_le_sub_right e3 1)
theorem zke {l u md x y:Nat}(m1:l≤md)(e3:u - l≤x - y):u - (md+1)≤x - (y+1) :=
  Nat.le_trans (Nat.sub_le_sub_left (Nat.succ_le_succ m1) u) (Nat.sub_le_sub_right e3 1)
theorem zhV (r n:Nat):min (max (max r 1) n) n=n:=Nat.min_eq_right (Nat.le_max_right _ _)
theorem zi8 {r n:Nat}(r0:¬ r=0)(hr:r≤n):min (max r 1) n=r:=by
  rw [Nat.max_eq_left (Nat.pos_of_ne_zero r0),Nat.min_eq_left hr]
theorem zib {i j r n:Nat}(hr:r=0)(hij:i≤j)(hj:j < min (max r 1) n):i=j:=by
  subst hr
  have h0:j=0:=Nat.lt_one_iff.mp (Nat.lt_of_lt_of_le hj (Nat.min_le_left _ _))
  subst h0
  exact Nat.le_zero.mp hij
theorem zgL {n r:Nat}{Q:Bool→SortSt→Prop}(L:zf6 prog w A E s a₀ κ k)(hn:n≤a₀.size)(hr:r≤n)(B:SB k a₀ st)(hs:SortedToK κ (arrOf st) r)
    (h:∀ t,SB k a₀ t→SortedToK κ (arrOf t) n→Q true t):wpS (model prog w) A E s (binarySort' 0 n r) Q st:=by
  rw [binarySort'_eq]
  refine wpS_bind (wpS_mono (wpS_forRange (I:=fun x c t=>(c=(none,())∧SB k a₀ t)∧SortedToK κ (arrOf t) (min x n)) (Q:=fun c t=>(c=(none,())∧SB k a₀ t)∧SortedToK κ (arrOf t) n)
    (fun x c t g1 g2 hI=>?_) (fun c t hI=>?_) ⟨⟨rfl,B⟩,?_⟩) fun c t hI=>?_)
  · obtain ⟨⟨rfl,B1⟩,sx⟩:=hI
    rw [Nat.min_eq_left (Nat.le_of_lt g2)] at sx
    have hx:x < a₀.size:=Nat.lt_of_lt_of_le g2 hn
    refine wpS_bind (wpS_mono (wpS_forRange
      (I:=fun y c t'=>t'=t∧∃ l u,c=(none,l,u)∧(l≤u∧u≤x∧u - l≤x - y)∧(∀ i,i < l→κ.kle (KK κ (arrOf t) i) (KK κ (arrOf t) x))∧∀ i,u≤i→i < x→κ.klt (KK κ (arrOf t) x) (KK κ (arrOf t) i))
      (Q:=fun c t'=>t'=t∧∃ l u,c=(none,l,u)∧l≤x∧(∀ i,i < l→κ.kle (KK κ (arrOf t) i) (KK κ (arrOf t) x))∧∀ i,l≤i→i < x→κ.klt (KK κ (arrOf t) x) (KK κ (arrOf t) i))
      (fun y c t' y1 y2 hJ=>?_) (fun c t' hJ=>?_) ⟨rfl,0,x,rfl,⟨Nat.zero_le _,Nat.le_refl _,Nat.le_refl _⟩,fun i hi=>absurd hi (Nat.not_lt_zero _),fun i i1 i2=>absurd (Nat.lt_of_le_of_lt i1 i2) (Nat.lt_irrefl _)⟩) fun c t' hJ=>?_)
    · obtain ⟨rfl,l,u,rfl,⟨e1,e2,e3⟩,lo,up⟩:=hJ
      show wpS _ _ _ _ (if l ≥ u then _ else _) _ _
      by_cases c1:l ≥ u
      · rw [if_pos c1]
        obtain rfl:l=u:=Nat.le_antisymm e1 c1
        exact wpS_pure ⟨rfl,l,l,rfl,e2,lo,up⟩
      · rw [if_neg c1]
        generalize hmd:(l+u) / 2=md
        obtain ⟨m1,m2⟩:=ziQ hmd c1
        clear hmd c1 e1
        refine wpS_bind (L _ (0+x) (0+md) _ B1 (by rw [Nat.zero_add];exact hx) (by rw [Nat.zero_add];exact Nat.lt_of_lt_of_le m2 (Nat.le_trans e2 (Nat.le_of_lt hx))) ?_)
        rw [Nat.zero_add,Nat.zero_add]
        cases c2:κ.blt (KK κ (arrOf t') x) (KK κ (arrOf t') md) with
        | true=>exact wpS_pure ⟨rfl,l,md,rfl,⟨m1,Nat.le_trans (Nat.le_of_lt m2) e2,zjK m1 m2 e3⟩,lo,fun i i1 i2=>KeyOrd.klt_of_klt_of_kle c2 (sx _ _ i1 i2)⟩
        | false=>exact wpS_pure ⟨rfl,md+1,u,rfl,⟨m2,e2,zke m1 e3⟩,fun i i1=>KeyOrd.kle_trans (sx i md (Nat.le_of_lt_succ i1) (Nat.lt_of_lt_of_le m2 e2)) c2,up⟩
    · obtain ⟨rfl,l,u,rfl,⟨e1,e2,e3⟩,lo,up⟩:=hJ
      obtain rfl:l=u:=by omega
      exact ⟨rfl,l,l,rfl,e2,lo,up⟩
    · obtain ⟨rfl,l,u,rfl,e2,lo,up⟩:=hJ
      show wpS _ _ _ _ (do moveDown' (0+x) (0+l);pure (ForInStep.yield (none,()))) _ _
      rw [moveDown'_eq,Nat.zero_add,Nat.zero_add]
      refine wpS_bind (wpS_modify (wpS_pure ⟨⟨rfl,B1.put (bubble_perm _ _ _)⟩,?_⟩))
      have hz:x < (arrOf t').size:=by rw [B1.sz];exact hx
      rw [Nat.min_eq_left (Nat.succ_le_of_lt g2)]
      show SortedToK κ (bubble (arrOf t') x (x - l)) (x+1)
      intro i j hij hj
      rw [KK_bubble hz (Nat.sub_le _ _),KK_bubble hz (Nat.sub_le _ _),Nat.sub_sub_self e2]
      by_cases i1:i=l
      · rw [if_pos i1]
        by_cases j1:j=l
        · rw [if_pos j1];exact KeyOrd.kle_refl _
        · have lj:l < j:=Nat.lt_of_le_of_ne (by rw [←i1];exact hij) (fun e=>j1 e.symm)
          rw [if_neg j1,if_pos ⟨lj,Nat.le_of_lt_succ hj⟩];exact KeyOrd.kle_of_klt (up _ (Nat.le_sub_one_of_lt lj) (Nat.lt_of_lt_of_le (Nat.sub_lt (Nat.zero_lt_of_lt lj) Nat.one_pos) (Nat.le_of_lt_succ hj)))
      · rw [if_neg i1]
        by_cases i2:l < i∧i≤x
        · have lj:=Nat.lt_of_lt_of_le i2.1 hij
          rw [if_pos i2,if_neg (fun e=>absurd lj (by rw [e];exact Nat.lt_irrefl _)),if_pos ⟨lj,Nat.le_of_lt_succ hj⟩];exact sx _ _ (Nat.sub_le_sub_right hij 1) (Nat.lt_of_lt_of_le (Nat.sub_lt (Nat.zero_lt_of_lt lj) Nat.one_pos) (Nat.le_of_lt_succ hj))
        · rw [if_neg i2]
          have i3:i < l:=Nat.lt_of_le_of_ne (Nat.le_of_not_lt fun h=>i2 ⟨h,Nat.le_trans hij (Nat.le_of_lt_succ hj)⟩) i1
          clear i2 i1
          by_cases j1:j=l
          · rw [if_pos j1];exact lo i i3
          · rw [if_neg j1]
            by_cases j2:l < j∧j≤x
            · rw [if_pos j2];exact sx _ _ (Nat.le_sub_one_of_lt (Nat.lt_trans i3 j2.1)) (Nat.lt_of_lt_of_le (Nat.sub_lt (Nat.zero_lt_of_lt j2.1) Nat.one_pos) (Nat.le_of_lt_succ hj))
            · rw [if_neg j2];exact sx _ _ hij (Nat.lt_of_lt_of_le (Nat.lt_of_le_of_ne (Nat.le_of_not_lt fun h=>j2 ⟨h,Nat.le_of_lt_succ hj⟩) j1) e2)
  · obtain ⟨⟨e1,B1⟩,sx⟩:=hI
    rw [zhV] at sx
    exact ⟨⟨e1,B1⟩,sx⟩
  · by_cases r0:r=0
    · intro i j hij hj
      obtain rfl:i=j:=zib r0 hij hj
      exact KeyOrd.kle_refl _
    · rw [zi8 r0 hr];exact hs
  · obtain ⟨⟨rfl,B1⟩,sx⟩:=hI
    exact wpS_pure (h t B1 sx)
theorem zez {Q:Unit→SortSt→Prop}(L:zf6 prog w A E s a₀ κ k)(B:SB k a₀ st)(h2:2≤a₀.size)(h64:a₀.size < 64)
    (h:∀ t,(arrOf t).Perm a₀→failedOf t=none→SortedToK κ (arrOf t) a₀.size→Q () t):wpS (model prog w) A E s sortRuns' Q st:=by
  rw [sortRuns'_eq]
  have mr:minRun' a₀.size a₀.size 0=a₀.size:=by
    cases e:a₀.size with
    | zero=>omega
    | succ f=>rw [minRun'_succ,if_pos (by omega),Nat.add_zero]
  refine wpS_bind (wpS_get ?_)
  simp only [B.sz,mr]
  let Dn:SortSt→Prop:=fun t=>(arrOf t).Perm a₀∧failedOf t=none∧pendingOf t=#[(0,a₀.size,0)]∧SortedToK κ (arrOf t) a₀.size
  have fin:∀ t,SB k a₀ t→SortedToK κ (arrOf t) a₀.size→Dn (setPending t ((pendingOf t).push (0,a₀.size,0))):=fun t B1 sx=>⟨B1.pm,B1.fl,by show (pendingOf t).push _=_;rw [B1.pd];rfl,sx⟩
  refine wpS_bind (wpS_mono (wpS_forRange (I:=fun x c t=>(x=0∧c=(none,0)∧SB k a₀ t)∨(1≤x∧c=(none,a₀.size)∧Dn t)) (Q:=fun c t=>c=(none,a₀.size)∧Dn t)
    (fun x c t g1 g2 hI=>?_) (fun c t hI=>?_) (.inl ⟨rfl,rfl,B⟩)) fun c t hI=>?_)
  · rcases hI with ⟨rfl,rfl,B1⟩ | ⟨_,rfl,D1⟩
    · show wpS _ _ _ _ (if 0 ≥ a₀.size then _ else _) _ _
      rw [if_neg (by omega)]
      simp only [Nat.sub_zero,Nat.min_self,Nat.zero_add]
      refine wpS_bind (zgC L (Nat.le_refl _) (by omega) B1 fun r t2 B2 r1 r2 s2=>?_)
      show wpS _ _ _ _ (if r < a₀.size then _ else _) _ _
      by_cases c1:r < a₀.size
      · rw [if_pos c1]
        refine wpS_bind (wpS_lift (wpAny_rule ⟨rfl,wpS_bind (zgL L (Nat.le_refl _) r2 B2 s2 fun t3 B3 s3=>?_)⟩))
        refine wpS_bind (wpS_get ?_)
        rw [show (pendingOf t3).back?=none by rw [B3.pd];rfl]
        exact wpS_bind (wpS_modify (wpS_pure (.inr ⟨by omega,rfl,fin t3 B3 s3⟩)))
      · rw [if_neg c1]
        obtain rfl:r=a₀.size:=by omega
        refine wpS_bind (wpS_get ?_)
        rw [show (pendingOf t2).back?=none by rw [B2.pd];rfl]
        exact wpS_bind (wpS_modify (wpS_pure (.inr ⟨by omega,rfl,fin t2 B2 s2⟩)))
    · show wpS _ _ _ _ (if a₀.size ≥ a₀.size then _ else _) _ _
      rw [if_pos (Nat.le_refl _)]
      exact wpS_pure ⟨rfl,D1⟩
  · rcases hI with ⟨z,_,_⟩ | ⟨_,e,D1⟩
    · omega
    · exact ⟨e,D1⟩
  · obtain ⟨rfl,d1,d2,d3,d4⟩:=hI
    refine wpS_bind (wpS_mono (wpS_forRange (I:=fun _ c t'=>t'=t∧c=(none,())) (Q:=fun c t'=>t'=t∧c=(none,())) (fun x c t' _ _ hI=>?_) (fun _ _ z=>z) ⟨rfl,rfl⟩) fun c t' hI=>?_)
    · obtain ⟨rfl,rfl⟩:=hI
      refine wpS_bind (wpS_get ?_)
      rw [if_pos (by rw [d3];exact Nat.le_refl 1)]
      exact wpS_pure ⟨rfl,rfl⟩
    · obtain ⟨rfl,rfl⟩:=hI
      exact wpS_pure (h _ d1 d2 d4)
end
end OwnSort
namespace OwnSort
open PySem PyProof.Rows
noncomputable abbrev Pr:=Int × Int
noncomputable def bltP (s t:Pr):Bool:=decide (s.1 < t.1∨(s.1=t.1∧s.2 < t.2))
noncomputable def TP (h:Heap) (v:Value) (t:Pr):Prop:=∃ a o n tx ty,v=.ref a∧h.get? a=some o∧o.cls=.type "tuple"∧o.data=.seq #[.int t.1 tx,.int t.2 ty] n
theorem TP.uniq {h:Heap}{v:Value}{s t:Pr}(x:TP h v s)(y:TP h v t):s=t:=by
  obtain ⟨a,o,n,tx,ty,rfl,e1,_,d1⟩:=x
  obtain ⟨b,o2,n2,ux,uy,e,e2,_,d2⟩:=y
  cases e
  rw [e1] at e2
  cases e2
  rw [d1] at d2
  injection d2 with d2 _
  have:=congrArg Array.toList d2
  simp at this
  exact Prod.ext this.1.1 this.2.1
theorem TP.keep {h h':Heap}{v:Value}{t:Pr}(x:TP h v t)(k:∀ b o,h.get? b=some o→h'.get? b=some o):TP h' v t:=by
  obtain ⟨a,o,n,tx,ty,e,e1,r⟩:=x
  exact ⟨a,o,n,tx,ty,e,k _ _ e1,r⟩
open Classical in
noncomputable def keyP (h:Heap)(v:Value):Option Pr:=if x:∃ t,TP h v t then some x.choose else none
theorem keyP_of {h:Heap}{v:Value}{t:Pr}(x:TP h v t):keyP h v=some t:=by
  unfold keyP
  have y:∃ t,TP h v t:=⟨t,x⟩
  rw [dif_pos y,y.choose_spec.uniq x]
@[reducible] noncomputable def zeU (h:Heap):KeyKind where
  α:=Pr
  blt:=bltP
  irrefl a:=by unfold bltP;exact decide_eq_false (by omega)
  trans a b c h1 h2:=by unfold bltP at *;rw [decide_eq_true_eq] at *;omega
  negTrans a b c h:=by unfold bltP at *;rw [decide_eq_true_eq] at *;rw [decide_eq_true_eq];omega
  total a b h1 h2:=by
    unfold bltP at *
    rw [decide_eq_false_iff_not] at *
    exact Prod.ext (by omega) (by omega)
  keyOf:=keyP h
  dflt:=(0,0)
theorem zcW (b:Bool)(x y:Value):keyLt' (tuples' b) x y=(do
    let xs←Builtin.List.listItems x
    let ys←Builtin.List.listItems y
    for ((p,q),i) in (xs.toList.zip ys.toList).zipIdx do
      if !(← eqBool p q) then return←oneLt' (b&&i == 0) p q
    return xs.size < ys.size):=rfl
theorem zds (v:Value):firstOfTuple' v=(do
    if (← typeOf v) != .type "tuple" then return none
    return (← Builtin.List.listItems v)[0]?):=rfl
section
variable {prog:Program}{w:World}{A:Around}{E:Value→Shared→Prop}{s:Shared}
theorem lt0 {a b:Int}{t u:Tok}{Q:Bool→Shared→Prop}(h:Q (decide (a < b)) s):wpAny (model prog w) A (oneLt' false (.int a t) (.int b u)) Q E s:=by
  rw [oneLt'_eq]
  rw [if_neg Bool.false_ne_true]
  exact wpAny_bind (PyProof.Rows.lt_int (wpAny_truthy_bool h))
theorem zie {x y:Value}{a b:Pr}{Q:Bool→Shared→Prop}(hx:TP s.heap x a)(hy:TP s.heap y b)(h:Q (bltP a b) s):wpAny (model prog w) A (keyLt' (tuples' true) x y) Q E s:=by
  obtain ⟨p,o,n,t1,t2,rfl,e1,_,d1⟩:=hx
  obtain ⟨q,o2,n2,u1,u2,rfl,e2,_,d2⟩:=hy
  rw [zcW]
  refine wpAny_bind (listItems_at e1 d1 (wpAny_bind (listItems_at e2 d2 ?_)))
  simp only [List.zip_cons_cons,List.zip_nil_right,List.zipIdx_cons,List.zipIdx_nil,List.forIn_cons,List.forIn_nil]
  refine wpAny_bind (wpAny_bind (wpAny_bind (SeqAt.EqAt.int_int a.1 t1 b.1 u1 prog w E _ ?_)))
  by_cases c:a.1=b.1
  · rw [show (a.1 == b.1)=true by rw [c];exact beq_self_eq_true _]
    refine wpAny_pure (wpAny_bind (wpAny_bind (SeqAt.EqAt.int_int a.2 t2 b.2 u2 prog w E _ ?_)))
    by_cases c2:a.2=b.2
    · rw [show (a.2 == b.2)=true by rw [c2];exact beq_self_eq_true _]
      refine wpAny_pure (wpAny_pure (wpAny_pure ?_))
      have:bltP a b=false:=by unfold bltP;exact decide_eq_false (by omega)
      rw [this] at h
      exact h
    · rw [show (a.2 == b.2)=false by simpa using c2]
      refine wpAny_bind (lt0 (wpAny_pure (wpAny_pure (wpAny_pure ?_))))
      have:bltP a b=decide (a.2 < b.2):=by unfold bltP;congr 1;apply propext;omega
      rw [this] at h
      exact h
  · rw [show (a.1 == b.1)=false by simpa using c]
    refine wpAny_bind (oneLt_int (wpAny_pure (wpAny_pure (wpAny_pure ?_))))
    have:bltP a b=decide (a.1 < b.1):=by unfold bltP;congr 1;apply propext;omega
    rw [this] at h
    exact h
theorem zfE {vs:List Value}(hT:∀ v∈vs,∃ t,TP s.heap v t):zf6 prog w A E s (pairsOf vs) (zeU s.heap) (tuples' true):=by
  intro st i j Q B hi hj h
  have look:∀ {i:Nat},i < (pairsOf vs).size→∃ x p t,(arrOf st)[i]?=some (x,p)∧TP s.heap x t∧KK (zeU s.heap) (arrOf st) i=t:=fun {i} hi=>by
    have hi':i < (arrOf st).size:=by rw [B.sz];exact hi
    have hm:(arrOf st)[i]∈(pairsOf vs).toList:=(Array.perm_iff_toList_perm.mp B.pm).mem_iff.mp (by simp)
    rw [pairsOf_toList] at hm
    obtain ⟨t,ht⟩:=hT _ (mem_zip_self hm).2
    refine ⟨(arrOf st)[i].1,(arrOf st)[i].2,t,getElem?_pos _ i hi',ht,?_⟩
    unfold KK
    rw [getElem?_pos _ i hi']
    show (keyP s.heap (arrOf st)[i].1).getD _=t
    rw [keyP_of ht]
    rfl
  obtain ⟨x,p,a,e1,ta,ka⟩:=look hi
  obtain ⟨y,q,b,e2,tb,kb⟩:=look hj
  rw [ka,kb] at h
  rw [ltAt'_eq]
  refine wpS_bind (wpS_get ?_)
  show wpS _ _ _ _ (elem' (arrOf st) i>>=fun x=>elem' (arrOf st) j>>=fun y=>lt' x y) Q st
  rw [elem'_eq,elem'_eq,e1,e2]
  refine wpS_bind (wpS_pure (wpS_bind (wpS_pure ?_)))
  rw [lt'_eq]
  refine wpS_bind (wpS_get ?_)
  rw [B.kd]
  exact wpS_bind (wpS_lift (wpAny_attempt (zie ta tb ⟨rfl,wpS_pure h⟩)))
theorem Vl:∀ {vs:List Value} {Q:List (Option Value)→Shared→Prop},(∀ v∈vs,∃ t,TP s.heap v t)→(∀ fs:List Value,fs.length=vs.length→(∀ f∈fs,∃ i t,f=.int i t)→Q (fs.map some) s)→wpAny (model prog w) A (vs.mapM firstOfTuple') Q E s
  | [],Q,_,h=>by rw [List.mapM_nil];exact wpAny_pure (h [] rfl (by simp))
  | v::vs,Q,hT,h=>by
    obtain ⟨t,a,o,n,t1,t2,rfl,e1,c1,d1⟩:=hT v List.mem_cons_self
    rw [List.mapM_cons,zds]
    refine wpAny_bind (wpAny_bind (wpAny_typeOf (T:="tuple") ⟨o,e1,c1⟩ ?_))
    rw [if_neg (by simp)]
    refine wpAny_bind (listItems_at e1 d1 (wpAny_pure (wpAny_bind (Vl (fun u hu=>hT u (List.mem_cons_of_mem _ hu)) fun fs hl hf=>wpAny_pure ?_))))
    exact h (.int t.1 t1::fs) (by simp [hl]) fun f hf'=>by
      rcases List.mem_cons.mp hf' with rfl | hf'
      · exact ⟨_,_,rfl⟩
      · exact hf f hf'
theorem zbD:∀ {fs:List Value},(∀ f∈fs,∃ i t,f=.int i t)→fs.mapM typeOf=pure (fs.map fun _=>Value.type "int")
  | [],_=>by simp
  | f::fs,h=>by
    obtain ⟨i,t,rfl⟩:=h f List.mem_cons_self
    rw [List.mapM_cons,zbD fun g hg=>h g (List.mem_cons_of_mem _ hg),show typeOf (.int i t)=pure (.type "int") from rfl]
    simp
theorem zb1 {v₁:Value}{vs:List Value}{Q:SortKind→Shared→Prop}(hT:∀ v∈v₁::vs,∃ t,TP s.heap v t)(h:Q (tuples' true) s):wpAny (model prog w) A (keyKind' (v₁::vs).toArray) Q E s:=by
  rw [keyKind'_eq,List.mapM_toArray,← bind_pure_comp,bind_assoc]
  refine wpAny_bind (Vl hT fun fs hl hf=>wpAny_bind (wpAny_pure ?_))
  cases fs with
  | nil=>simp at hl
  | cons f fs =>
    rw [if_pos (by simp)]
    have ef:((f::fs).map some).toArray.filterMap id=(f::fs).toArray:=by simp
    refine wpAny_bind (wpAny_rule ?_)
    rw [ef,oneTypeOnly'_eq,List.mapM_toArray,zbD hf]
    simp only [map_pure,pure_bind]
    rw [show (List.map (fun _=>Value.type "int") (f::fs)).toArray[0]?=some (Value.type "int") by simp]
    have al:((List.map (fun _=>Value.type "int") (f::fs)).toArray.all fun x=>x == Value.type "int")=true:=by
      simp only [List.all_toArray,List.all_map,List.all_eq_true]
      intro _ _
      rfl
    simp only [al,if_true,pure_bind,Option.any_some]
    rw [show (Value.type "int" != Value.type "tuple")=true by decide +kernel]
    exact wpAny_pure h
end
end OwnSort
namespace OwnSort
open PySem PyProof.Rows
theorem TP.keepT {h h':Heap} {v:Value} {t:Pr} (x:TP h v t) (k:∀ b o,o.cls=.type "tuple"→h.get? b=some o→h'.get? b=some o):TP h' v t:=by
  obtain ⟨a,o,n,tx,ty,e,e1,c,r⟩:=x
  exact ⟨a,o,n,tx,ty,e,k _ _ c e1,c,r⟩
noncomputable def zi2 (h:Heap)(out:List Value):Prop:=∃ ts:List Pr,out.length=ts.length∧(∀ (i:Nat) (v:Value) (t:Pr),out[i]?=some v→ts[i]?=some t→TP h v t)∧ts.Pairwise fun a b=>bltP b a=false
theorem zas {h h':Heap}{vs:List Value}{xs:Array Keyed}(hT:∀ v∈vs,∃ t,TP h v t)(hk:∀ v t,TP h v t→TP h' v t)(pm:xs.Perm (pairsOf vs))(hs:SortedToK (zeU h') xs (pairsOf vs).size):(xs.map (·.2)).toList.Perm vs∧zi2 h (xs.map (·.2)).toList:=by
  have hl:xs.toList.Perm (vs.zip vs):=by rw [←pairsOf_toList];exact Array.perm_iff_toList_perm.mp pm
  have hm:∀ p∈xs.toList,p.1=p.2∧p.1∈vs:=fun p hp=>mem_zip_self (hl.mem_iff.mp hp)
  have e2:(xs.map (·.2)).toList=xs.toList.map (·.2):=by simp
  rw [e2]
  refine ⟨?_,xs.toList.map fun p=>(keyP h' p.1).getD (0,0),by simp,fun i v t hv ht=>?_,?_⟩
  · have:=hl.map (·.2)
    rwa [show (vs.zip vs).map (·.2)=vs from List.map_snd_zip (Nat.le_refl _)] at this
  · rw [List.getElem?_map] at hv ht
    cases hx:xs.toList[i]? with
    | none=>rw [hx] at hv;cases hv
    | some p =>
      rw [hx] at hv ht
      cases hv
      cases ht
      obtain ⟨q1,q2⟩:=hm p (List.mem_of_getElem? hx)
      obtain ⟨t,ht⟩:=hT _ q2
      show TP h p.2 ((keyP h' p.1).getD (0,0))
      rw [keyP_of (hk _ _ ht),← q1]
      exact ht
  · rw [List.pairwise_iff_getElem]
    intro i j hi hj hij
    have hi':i < xs.size:=by simpa using hi
    have hj':j < xs.size:=by simpa using hj
    have:=hs i j (Nat.le_of_lt hij) (by rw [←pm.size_eq];exact hj')
    unfold KK at this
    rw [getElem?_pos xs i hi',getElem?_pos xs j hj'] at this
    have this:bltP ((keyP h' xs[j].1).getD (0,0)) ((keyP h' xs[i].1).getD (0,0))=false:=this
    simpa using this
section
variable {prog:Program}{w:World}{A:Around}{E:Value→Shared→Prop}{s:Shared}
theorem Vc {a:Addr} {vs:List Value} {n:Nat} {P:Fin→Shared→Prop} (ho:s.heap.get? a=some (seqObj "list" vs.toArray n)) (hT:∀ v∈vs,∃ t,TP s.heap v t) (h64:vs.length < 64)
    (h:∀ out:Array Value,out.toList.Perm vs→zi2 s.heap out.toList→P (.done (.ret .none)) { s with heap:=sortedHeap s.heap a vs out }):wpAny (model prog w) A (Builtin.«list.sort» ⟨[.ref a],[]⟩) P E s:=by
  have la:a < s.heap.objs.size:=Heap.lt_size ho
  have zl:vs.toArray.size=vs.length:=List.size_toArray
  obtain ⟨e1,o1⟩:∃ e1,(s.heap.update a (Obj.mapSeq fun _=>#[])).get? a=some (seqObj "list" #[] e1):=⟨_,get?_update_seq ho (fun _=>#[])⟩
  have o6:(((s.heap.update a (Obj.mapSeq fun _=>#[])).push (seqObj "tuple" vs.toArray 0)).push (seqObj "list" #[] 0)).get? a=some (seqObj "list" #[] e1):=Heap.get?_push_of_some _ (Heap.get?_push_of_some _ o1)
  have up:∀ b o,o.cls=.type "tuple"→s.heap.get? b=some o→(((s.heap.update a (Obj.mapSeq fun _=>#[])).push (seqObj "tuple" vs.toArray 0)).push (seqObj "list" #[] 0)).get? b=some o:=fun b o c e=>by
    refine Heap.get?_push_of_some _ (Heap.get?_push_of_some _ ((Heap.get?_update_other _ _ fun z=>?_).trans e))
    subst z
    rw [ho] at e
    cases e
    exact absurd (show Value.type "list"=Value.type "tuple" from c) (by decide +kernel)
  have hT6:∀ v∈vs,∃ t,TP (((s.heap.update a (Obj.mapSeq fun _=>#[])).push (seqObj "tuple" vs.toArray 0)).push (seqObj "list" #[] 0)) v t:=fun v hv=>let ⟨t,ht⟩:=hT v hv;⟨t,ht.keepT up⟩
  rw [list_sort_plain]
  refine wpAny_bind (listItems_at ho rfl (wpAny_bind (listUpdate_at ho rfl (wpAny_bind (seqEpoch_at o1 rfl (wpAny_bind (wpAny_newTuple (wpAny_bind (wpAny_newList (wpAny_holding ?_))))))))))
  show wpAny (model prog w) A _ P E { s with heap:=((s.heap.update a (Obj.mapSeq fun _=>#[])).push (seqObj "tuple" vs.toArray 0)).push (seqObj "list" #[] 0) }
  by_cases c2:vs.toArray.size < 2
  · rw [if_pos c2,if_pos c2]
    refine wpAny_bind (wpAny_pure ?_)
    dsimp only
    rw [StateT.run_pure]
    refine wpAny_bind (wpAny_pure ?_)
    obtain ⟨r1,r2⟩:=zas (xs:=pairsOf vs) hT (fun v t ht=>ht) (Array.Perm.refl _) (fun i j hij hj=>by
      obtain rfl:i=j:=by rw [pairsOf_size] at hj;omega
      exact KeyOrd.kle_refl _)
    refine wpAny_bind (seqEpoch_at o6 rfl (wpAny_bind (listUpdate_at o6 rfl ?_ (hsz2:=by rw [Array.size_map];show (pairsOf vs).size≤_;rw [pairsOf_size,sizeLine_eq];omega))))
    rw [show (e1 != e1)=false by simp]
    exact wpAny_pure (h _ r1 r2)
  · rw [if_neg c2,if_neg c2]
    cases vs with
    | nil=>simp at c2
    | cons v₁ rest =>
      refine wpAny_bind (zb1 hT6 ?_)
      refine wpAny_bind (wpAny_mono (zez (st:=SortSt.mk' (tuples' true) ((v₁::rest).toArray.zip (v₁::rest).toArray) #[] 7 none) (Q:=fun _ t=>(arrOf t).Perm (pairsOf (v₁::rest))∧failedOf t=none∧SortedToK (zeU _) (arrOf t) (pairsOf (v₁::rest)).size)
        (zfE hT6) ⟨Array.Perm.refl _,rfl,rfl,rfl⟩ (by rw [pairsOf_size];omega) (by rw [pairsOf_size];exact h64) fun t p1 p2 p3=>⟨p1,p2,p3⟩) ?_ fun _ _ e=>e)
      rintro ⟨⟨⟩,t⟩ s' ⟨rfl,p1,p2,p3⟩
      obtain ⟨r1,r2⟩:=zas hT (fun v t ht=>ht.keepT up) p1 p3
      refine wpAny_bind (seqEpoch_at o6 rfl (wpAny_bind (listUpdate_at o6 rfl ?_ (hsz2:=by rw [Array.size_map];show (arrOf t).size≤_;rw [p1.size_eq,pairsOf_size,sizeLine_eq];omega))))
      rw [p2,show (e1 != e1)=false by simp]
      exact wpAny_pure (h _ r1 r2)
theorem own_sorted {l:Addr}{vs:List Value}{Q:Value→Shared→Prop}(hl:s.heap.IsList l vs.toArray)(hT:∀ v∈vs,∃ t,TP s.heap v t)(h64:vs.length < 64)
    (h:∀ out:Array Value,out.toList.Perm vs→zi2 s.heap out.toList→Q (.ref (s.heap.objs.size+1)) { s with heap:=sortedAll s.heap vs out }):wpAny (model prog w) A (call (.builtin "sorted") [.ref l]) Q E s:=by
  have z1:((s.heap.push (seqObj "list" #[] 0)).update s.heap.objs.size (Obj.mapSeq (·++vs.toArray))).objs.size=s.heap.objs.size+1:=(Heap.size_update ..).trans (size_push' _ _)
  have oL:(((s.heap.push (seqObj "list" #[] 0)).update s.heap.objs.size (Obj.mapSeq (·++vs.toArray))).push (seqObj "list" vs.toArray 0)).get? (s.heap.objs.size+1)=some (seqObj "list" vs.toArray 0):=z1 ▸ Heap.get?_push_size _ rfl
  have up:∀ b o,s.heap.get? b=some o→(((s.heap.push (seqObj "list" #[] 0)).update s.heap.objs.size (Obj.mapSeq (·++vs.toArray))).push (seqObj "list" vs.toArray 0)).get? b=some o:=fun b o e =>
    Heap.get?_push_of_some _ ((Heap.get?_update_other _ _ fun z=>by subst z;exact absurd (Heap.lt_size e) (Nat.lt_irrefl _)).trans (Heap.get?_push_of_some _ e))
  refine Calls.call_function_entry kind_sorted plain_sorted entry_sorted (args_sorted1 _) ?_
  unfold Builtin.«sorted»
  refine wpAny_bind (m:=checkCount "sorted" 1 1 _) (wpAny_pure (wpAny_bind (collect_list hl (wpAny_bind (wpAny_newList ?_)))))
  show wpAny _ _ _ _ _ (Shared.mk (((s.heap.push (seqObj "list" #[] 0)).update s.heap.objs.size (Obj.mapSeq (·++vs.toArray))).push (seqObj "list" vs.toArray 0)) s.gens s.drawn s.toks s.os)
  rw [z1]
  refine wpAny_bind (wpAny_holding (wpAny_call_entry slot_list_sort ⟨_,oL,rfl⟩ entry_list_sort (Vc oL (fun v hv=>let ⟨t,ht⟩:=hT v hv;⟨t,ht.keep up⟩) h64 fun out p1 p2=>⟨_,rfl,wpAny_pure ⟨_,rfl,h out p1 ?_⟩⟩) (args_list_sort _)))
  obtain ⟨ts,q1,q2,q3⟩:=p2
  refine ⟨ts,q1,fun i v t hv ht=>?_,q3⟩
  obtain ⟨t0,ht0⟩:=hT v (p1.mem_iff.mp (List.mem_of_getElem? hv))
  rw [(q2 i v t hv ht).uniq (ht0.keep up)]
  exact ht0
end
end OwnSort
namespace Dl
open PySem L2
class KK where
  K:PySem.W.Frag
inductive D where
  | non | bl (b:Bool) | int (i:Int) | str (x:Str) | tup (ds:List D) | lst (ds:List D) | scr (ns:List Int)
    | dct (z t:Bool) (ks:List (List Key)) (vs:List D)
  deriving Inhabited
section
variable [KK]
noncomputable def zhv (o:HO)(t:Bool)(ks:List (List Key))(xs:List V):Prop :=
  if t=true then ∃ kvs,o=.dT kvs∧kvs.map (·.1)=ks∧kvs.map (·.2)=xs else ∃ kvs:List (Key × V),o=.dK kvs∧kvs.map (fun p=>[p.1])=ks∧kvs.map (·.2)=xs
noncomputable def zac (H:Hp)(a:Addr)(z t:Bool)(ks:List (List Key))(xs:List V):Prop :=
  ∃ u,zhv u t ks xs∧if z=true then ∃ ob,H a=some (.frz ob u) else H a=some u
theorem zac.mono {H H':Hp}{a:Addr}{z t:Bool}{ks:List (List Key)}{xs:List V}(s:yq H H')(h:zac H a z t ks xs):zac H' a z t ks xs:=by
  obtain ⟨u,h1,h2⟩:=h
  refine ⟨u,h1,?_⟩
  cases z with
  | true =>
    rw [if_pos rfl] at h2 ⊢
    obtain ⟨ob,h2⟩:=h2
    exact ⟨ob,s _ _ h2⟩
  | false =>
    rw [if_neg Bool.false_ne_true] at h2 ⊢
    exact s _ _ h2
theorem zac.rd {H:Hp}{a:Addr}{z t:Bool}{ks:List (List Key)}{xs:List V}(h:zac H a z t ks xs):∃ u,zhv u t ks xs∧Rd H a u:=by
  obtain ⟨u,h1,h2⟩:=h
  refine ⟨u,h1,?_⟩
  cases z with
  | true =>
    rw [if_pos rfl] at h2
    obtain ⟨ob,h2⟩:=h2
    exact .inr ⟨ob,h2⟩
  | false =>
    rw [if_neg Bool.false_ne_true] at h2
    exact .inl h2
mutual
noncomputable def At (H:Hp):D→V→Prop
  | .non,v=>v=.non
  | .bl b,v=>v=.bl b
  | .int i,v=>v=.int i
  | .str x,v=>v=.str x
  | .tup ds,v=>∃ a xs,v=.ref a∧H a=some (.tup xs)∧AtL H ds xs
  | .lst ds,v=>∃ a xs,v=.ref a∧H a=some (.lst xs)∧AtL H ds xs
  | .scr ns,v=>∃ a,v=.ref a∧SqL KK.K H a (ns.map V.int)
  | .dct z t ks vs,v=>∃ a xs,v=.ref a∧zac H a z t ks xs∧AtL H vs xs
noncomputable def AtL (H:Hp):List D→List V→Prop
  | [],xs=>xs=[]
  | d::ds,xs=>∃ x r,xs=x::r∧At H d x∧AtL H ds r
end
mutual
theorem At.mono {H H':Hp}(s:yq H H'):∀ {d:D} {v:V},At H d v→At H' d v
  | .non,_,h=>by unfold At at h ⊢;exact h
  | .bl _,_,h=>by unfold At at h ⊢;exact h
  | .int _,_,h=>by unfold At at h ⊢;exact h
  | .str _,_,h=>by unfold At at h ⊢;exact h
  | .tup ds,_,h=>by
    unfold At at h ⊢
    obtain ⟨a,xs,e,hx,hl⟩:=h
    exact ⟨a,xs,e,s _ _ hx,AtL.mono s hl⟩
  | .lst ds,_,h=>by
    unfold At at h ⊢
    obtain ⟨a,xs,e,hx,hl⟩:=h
    exact ⟨a,xs,e,s _ _ hx,AtL.mono s hl⟩
  | .scr ns,_,h=>by
    unfold At at h ⊢
    obtain ⟨a,e,hx⟩:=h
    exact ⟨a,e,s.seq hx⟩
  | .dct z t ks vs,_,h=>by
    unfold At at h ⊢
    obtain ⟨a,xs,e,hx,hl⟩:=h
    exact ⟨a,xs,e,hx.mono s,AtL.mono s hl⟩
theorem AtL.mono {H H':Hp}(s:yq H H'):∀ {ds:List D} {xs:List V},AtL H ds xs→AtL H' ds xs
  | [],_,h=>by unfold AtL at h ⊢;exact h
  | d::ds,_,h=>by
    unfold AtL at h ⊢
    obtain ⟨x,r,e,h1,h2⟩:=h
    exact ⟨x,r,e,At.mono s h1,AtL.mono s h2⟩
end
mutual
noncomputable def noL:D→Bool
  | .tup ds=>zjy ds
  | .lst _=>false
  | .scr _=>false
  | .dct _ _ _ _=>false
  | _=>true
noncomputable def zjy:List D→Bool
  | []=>true
  | d::ds=>noL d&&zjy ds
end
mutual
theorem At.flat {G F:Hp}(h:∀ q xs,G q=some (.tup xs)→F q=some (.tup xs)):∀ {d:D} {v:V},noL d=true→At G d v→At F d v
  | .non,_,_,a=>by unfold At at a ⊢;exact a
  | .bl _,_,_,a=>by unfold At at a ⊢;exact a
  | .int _,_,_,a=>by unfold At at a ⊢;exact a
  | .str _,_,_,a=>by unfold At at a ⊢;exact a
  | .tup ds,_,n,a=>by
    unfold At at a ⊢
    unfold noL at n
    obtain ⟨p,xs,e,hx,hl⟩:=a
    exact ⟨p,xs,e,h _ _ hx,AtL.flat h n hl⟩
  | .lst ds,_,n,_=>by unfold noL at n;cases n
  | .scr ds,_,n,_=>by unfold noL at n;cases n
  | .dct _ _ _ _,_,n,_=>by unfold noL at n;cases n
theorem AtL.flat {G F:Hp}(h:∀ q xs,G q=some (.tup xs)→F q=some (.tup xs)):∀ {ds:List D} {xs:List V},zjy ds=true→AtL G ds xs→AtL F ds xs
  | [],_,_,a=>by unfold AtL at a ⊢;exact a
  | d::ds,_,n,a=>by
    unfold AtL at a ⊢
    unfold zjy at n
    rw [Bool.and_eq_true] at n
    obtain ⟨x,r,e,h1,h2⟩:=a
    exact ⟨x,r,e,At.flat h n.1 h1,AtL.flat h n.2 h2⟩
end
section
variable {H H':Hp}{d:D}{ds es:List D}{v x:V}{xs ys:List V}
theorem At.int {i:Int}:At H (.int i) (.int i):=by unfold At;rfl
theorem At.bl {b:Bool}:At H (.bl b) (.bl b):=by unfold At;rfl
theorem At.non:At H .non .non:=by unfold At;rfl
theorem At.str {y:Str}:At H (.str y) (.str y):=by unfold At;rfl
theorem At.tup {a:Addr}(h:H a=some (.tup xs))(hl:AtL H ds xs):At H (.tup ds) (.ref a):=by unfold At;exact ⟨a,xs,rfl,h,hl⟩
theorem At.lst {a:Addr}(h:H a=some (.lst xs))(hl:AtL H ds xs):At H (.lst ds) (.ref a):=by unfold At;exact ⟨a,xs,rfl,h,hl⟩
theorem AtL.nil:AtL H [] []:=by unfold AtL;rfl
theorem AtL.cons (h:At H d x)(hl:AtL H ds xs):AtL H (d::ds) (x::xs):=by unfold AtL;exact ⟨x,xs,rfl,h,hl⟩
theorem At.int_inv {i:Int}(h:At H (.int i) v):v=.int i:=by unfold At at h;exact h
theorem At.bl_inv {b:Bool}(h:At H (.bl b) v):v=.bl b:=by unfold At at h;exact h
theorem At.non_inv (h:At H .non v):v=.non:=by unfold At at h;exact h
theorem At.str_inv {y:Str}(h:At H (.str y) v):v=.str y:=by unfold At at h;exact h
theorem At.tup_inv (h:At H (.tup ds) v):∃ a xs,v=.ref a∧H a=some (.tup xs)∧AtL H ds xs:=by unfold At at h;exact h
theorem At.lst_inv (h:At H (.lst ds) v):∃ a xs,v=.ref a∧H a=some (.lst xs)∧AtL H ds xs:=by unfold At at h;exact h
theorem At.scr_inv {ns:List Int}(h:At H (.scr ns) v):∃ a,v=.ref a∧SqL KK.K H a (ns.map V.int):=by unfold At at h;exact h
theorem At.dct_inv {z t:Bool}{ks:List (List Key)}{vs:List D}(h:At H (.dct z t ks vs) v):∃ a xs,v=.ref a∧zac H a z t ks xs∧AtL H vs xs:=by unfold At at h;exact h
theorem AtL.nil_inv (h:AtL H [] xs):xs=[]:=by unfold AtL at h;exact h
theorem AtL.cons_inv (h:AtL H (d::ds) xs):∃ x r,xs=x::r∧At H d x∧AtL H ds r:=by unfold AtL at h;exact h
theorem AtL.length:∀ {ds:List D} {xs:List V},AtL H ds xs→xs.length=ds.length
  | [],_,h=>by rw [h.nil_inv];rfl
  | _::_,_,h=>by
    obtain ⟨x,r,rfl,_,h2⟩:=h.cons_inv
    rw [List.length_cons,List.length_cons,AtL.length h2]
theorem AtL.get:∀ {ds:List D} {xs:List V} {i:Nat} {d:D},AtL H ds xs→ds[i]?=some d→∃ x,xs[i]?=some x∧At H d x
  | [],_,_,_,_,e=>by simp at e
  | _::_,_,i,_,h,e=>by
    obtain ⟨x,r,rfl,h1,h2⟩:=h.cons_inv
    cases i with
    | zero =>
      simp at e
      subst e
      exact ⟨x,rfl,h1⟩
    | succ i =>
      obtain ⟨y,hy,ha⟩:=AtL.get (i:=i) h2 (by simpa using e)
      exact ⟨y,by simpa using hy,ha⟩
theorem AtL.append:∀ {ds es:List D} {xs ys:List V},AtL H ds xs→AtL H es ys→AtL H (ds++es) (xs++ys)
  | [],_,_,_,h,k=>by rw [h.nil_inv];exact k
  | _::_,_,_,_,h,k=>by
    obtain ⟨x,r,rfl,h1,h2⟩:=h.cons_inv
    exact .cons h1 (AtL.append h2 k)
theorem AtL.snoc (h:AtL H ds xs)(k:At H d v):AtL H (ds++[d]) (xs++[v]):=h.append (.cons k .nil)
theorem AtL.take:∀ (n:Nat) {ds:List D} {xs:List V},AtL H ds xs→AtL H (ds.take n) (xs.take n)
  | 0,_,_,_=>by simpa using AtL.nil
  | n+1,[],_,h=>by rw [h.nil_inv];simpa using AtL.nil
  | n+1,_::_,_,h=>by
    obtain ⟨x,r,rfl,h1,h2⟩:=h.cons_inv
    rw [List.take_succ_cons,List.take_succ_cons]
    exact .cons h1 (AtL.take n h2)
theorem AtL.drop:∀ (n:Nat) {ds:List D} {xs:List V},AtL H ds xs→AtL H (ds.drop n) (xs.drop n)
  | 0,_,_,h=>h
  | n+1,[],_,h=>by rw [h.nil_inv];simpa using AtL.nil
  | n+1,_::_,_,h=>by
    obtain ⟨x,r,rfl,h1,h2⟩:=h.cons_inv
    rw [List.drop_succ_cons,List.drop_succ_cons]
    exact AtL.drop n h2
theorem AtL.set:∀ (n:Nat) {ds:List D} {xs:List V},AtL H ds xs→At H d v→AtL H (ds.set n d) (xs.set n v)
  | _,[],_,h,_=>by rw [h.nil_inv];simpa using AtL.nil
  | 0,_::_,_,h,k=>by
    obtain ⟨x,r,rfl,h1,h2⟩:=h.cons_inv
    exact .cons k h2
  | n+1,_::_,_,h,k=>by
    obtain ⟨x,r,rfl,h1,h2⟩:=h.cons_inv
    exact .cons h1 (AtL.set n h2 k)
theorem AtL.rep (h:AtL H ds xs):∀ k:Nat,AtL H (List.replicate k ds).flatten (List.replicate k xs).flatten
  | 0=>.nil
  | k+1=>by
    rw [List.replicate_succ,List.replicate_succ,List.flatten_cons,List.flatten_cons]
    exact h.append (AtL.rep h k)
theorem AtL.ints (ns:List Int):AtL H (ns.map D.int) (ns.map V.int):=by
  induction ns with
  | nil=>exact .nil
  | cons n r ih=>exact .cons .int ih
theorem AtL.of_ints:∀ {ns:List Int} {xs:List V},AtL H (ns.map D.int) xs→xs=ns.map V.int
  | [],_,h=>h.nil_inv
  | n::r,_,h=>by
    obtain ⟨x,r',rfl,h1,h2⟩:=AtL.cons_inv (by simpa using h)
    rw [h1.int_inv,AtL.of_ints h2]
    rfl
end
noncomputable def tyN:D→String
  | .non=>"NoneType" | .bl _=>"bool" | .int _=>"int" | .str _=>"str" | .tup _=>"tuple" | .lst _=>"list" | .scr _=>"list" | .dct _ _ _ _=>"dict"
noncomputable def Hid (F':Hp)(p:Addr)(o:HO):Prop:=F' p=none∨((∃ xs,o=.tup xs)∧F' p=some o)
noncomputable def Keep (F H F' H':Hp):Prop:=∀ p o,F p=none→H p=some o→Hid F' p o∧H' p=some o
set_option genInjectivity false in
set_option genSizeOf false in
set_option genCtorIdx false in
structure Gr (F H F' H':Hp):Prop where
  ff:yq F F'
  fh:yq F' H'
  kp:Keep F H F' H'
theorem Gr.refl {F H:Hp}(s:yq F H):Gr F H F H:=⟨yq.refl _,s,fun _ _ a b=>⟨.inl a,b⟩⟩
theorem Gr.trans {F H F1 H1 F2 H2:Hp}(a:Gr F H F1 H1)(b:Gr F1 H1 F2 H2):Gr F H F2 H2 :=
  ⟨a.ff.trans b.ff,b.fh,fun p o e1 e2=>by
    obtain ⟨x,y⟩:=a.kp p o e1 e2
    rcases x with x | ⟨x1,x2⟩
    · exact b.kp p o x y
    · exact ⟨.inr ⟨x1,b.ff _ _ x2⟩,b.fh _ _ (b.ff _ _ x2)⟩⟩
theorem Gr.kl {F H F' H':Hp}{p:Addr}{o:HO}(g:Gr F H F' H')(n:∀ xs,o≠.tup xs)(e1:F p=none)(e2:H p=some o):F' p=none∧H' p=some o:=by
  obtain ⟨x,y⟩:=g.kp p o e1 e2
  rcases x with x | ⟨⟨xs,x1⟩,_⟩
  · exact ⟨x,y⟩
  · exact absurd x1 (n xs)
theorem Gr.alloc {F H:Hp}{p:Addr}(s:yq F H)(h:H p=none)(o:HO):Gr F H (upd F p o) (upd H p o):=by
  have hF:F p=none:=s.free h
  refine ⟨fun b u q=>?_,fun b u q=>?_,fun b u q r=>?_⟩
  · rw [zo (zk q hF)];exact q
  · by_cases e:b=p
    · subst e;rw [zp] at q ⊢;exact q
    · rw [zo e] at q ⊢;exact s b u q
  · have e:b≠p:=zk r h
    rw [zo e];exact ⟨.inl (by rw [zo e];exact q),r⟩
theorem Gr.hide {F H:Hp}{p:Addr}(s:yq F H)(h:H p=none)(o:HO):Gr F H F (upd H p o):=by
  refine ⟨yq.refl _,fun b u q=>?_,fun b u q r=>?_⟩
  · rw [zo (zk (s b u q) h)];exact s b u q
  · have e:b≠p:=zk r h
    rw [zo e];exact ⟨.inl q,r⟩
theorem Gr.show {F H:Hp}{p:Addr}{o:HO}{F0 H0:Hp}(g:Gr F0 H0 F H)(h0:H0 p=none)(hF:F p=none)(h:H p=some o):Gr F0 H0 (upd F p o) H:=by
  refine ⟨fun b u q=>?_,fun b u q=>?_,fun b u q r=>?_⟩
  · have:=g.ff b u q
    rw [zo (zk this hF)];exact this
  · by_cases e:b=p
    · subst e;rw [zp] at q;rw [←q];exact h
    · rw [zo e] at q;exact g.fh b u q
  · have e:b≠p:=zk r h0
    obtain ⟨x,y⟩:=g.kp b u q r
    refine ⟨?_,y⟩
    unfold Hid
    rw [zo e]
    exact x
noncomputable abbrev Ev:=List (Option D)
noncomputable def VAt (F:Hp)(ρ:Ev)(σ:St):Prop:=∀ (i:Nat) (d:D),ρ[i]?=some (some d)→∃ v,σ[i]?=some (some v)∧At F d v
theorem VAt.mono {F F':Hp}{ρ:Ev}{σ:St}(h:VAt F ρ σ)(s:yq F F'):VAt F' ρ σ:=fun i d e=>let ⟨v,e1,a⟩:=h i d e;⟨v,e1,a.mono s⟩
noncomputable def RE (t:TE)(f:Ev→Option D):Prop :=
  ∀ (σ:St) (ρ:Ev) (F H:Hp) (d:D) (Q:VK),yq F H→VAt F ρ σ→f ρ=some d→(∀ F' H' v,Gr F H F' H'→At F' d v→Q v H')→t σ H Q
noncomputable def RT (t:TT)(f:Ev→Option Bool):Prop :=
  ∀ (σ:St) (ρ:Ev) (F H:Hp) (b:Bool) (Q:Bool→Hp→Prop),yq F H→VAt F ρ σ→f ρ=some b→(∀ F' H',Gr F H F' H'→Q b H')→t σ H Q
noncomputable def RA (t:TA)(f:Ev→Option (List D)):Prop :=
  ∀ (σ:St) (ρ:Ev) (F H:Hp) (ds:List D) (Q:List V→Hp→Prop),yq F H→VAt F ρ σ→f ρ=some ds→(∀ F' H' vs,Gr F H F' H'→AtL F' ds vs→Q vs H')→t σ H Q
noncomputable def RF (t:TE)(f:Ev→Option (List D)):Prop :=
  ∀ (σ:St) (ρ:Ev) (F H:Hp) (ds:List D) (Q:VK),yq F H→VAt F ρ σ→f ρ=some ds→(∀ F' H' p xs,Gr F H F' H'→H p=none→F' p=none→H' p=some (.lst xs)→AtL F' ds xs→Q (.ref p) H')→t σ H Q
noncomputable def ED (X:Cx)(e:Expr)(f:Ev→Option D):Prop:=∃ t,PE X e t∧RE t f
noncomputable def TD (X:Cx)(e:Expr)(f:Ev→Option Bool):Prop:=∃ t,PT X e t∧RT t f
noncomputable def WD (X:Cx)(e:Expr)(f:Ev→Option Bool):Prop:=∃ t,PW X e t∧RT t f
noncomputable def AD (X:Cx)(es:List Expr)(f:Ev→Option (List D)):Prop:=∃ t,PA X es t∧RA t f
noncomputable def FL (X:Cx)(e:Expr)(f:Ev→Option (List D)):Prop:=∃ t,PE X e t∧RF t f
section
variable {X:Cx}{a b c:Expr}{pos:Pos}
noncomputable def xr (f:Ev→Option (List D)):Ev→Option D:=fun ρ=>(f ρ).map .lst
theorem YZ {f:Ev→Option (List D)}(h:FL X a f):ED X a (xr f):=by
  obtain ⟨t,ht,r⟩:=h
  refine ⟨t,ht,fun σ ρ F H d Q s va e q=>?_⟩
  obtain ⟨ds,e1,rfl⟩:=Option.map_eq_some_iff.mp e
  refine r σ ρ F H ds Q s va e1 fun F' H' p xs g h0 hF hH hx=>?_
  have g2:=g.show h0 hF hH
  exact q _ _ _ g2 (At.lst zp (hx.mono (fun b u e=>by rw [zo (zk e hF)];exact e)))
noncomputable def zf (i:Nat):Ev→Option D:=fun ρ=>(ρ[i]?).getD none
theorem zb (i:Nat)(h:PE X a (WM i)):ED X a (zf i):=by
  refine ⟨_,h,fun σ ρ F H d Q s va e q=>?_⟩
  have e':ρ[i]?=some (some d):=by
    unfold zf at e
    cases h:ρ[i]? with
    | none=>rw [h] at e;cases e
    | some x=>rw [h] at e;cases x with
      | none=>cases e
      | some y=>cases e;rfl
  obtain ⟨v,e1,a1⟩:=va i d e'
  exact ⟨v,e1,q _ _ _ (.refl s) a1⟩
noncomputable def eC (d:D):Ev→Option D:=fun _=>some d
theorem zi {i:Int}(h:PE X a (tC (.int i))):ED X a (eC (.int i)):=⟨_,h,fun _ _ _ _ _ _ s _ e q=>by cases e;exact q _ _ _ (.refl s) .int⟩
theorem Yd {i:Bool}(h:PE X a (tC (.bl i))):ED X a (eC (.bl i)):=⟨_,h,fun _ _ _ _ _ _ s _ e q=>by cases e;exact q _ _ _ (.refl s) .bl⟩
theorem Wd {i:Str}(h:PE X a (tC (.str i))):ED X a (eC (.str i)):=⟨_,h,fun _ _ _ _ _ _ s _ e q=>by cases e;exact q _ _ _ (.refl s) .str⟩
theorem XM (h:PE X a (tC .non)):ED X a (eC .non):=⟨_,h,fun _ _ _ _ _ _ s _ e q=>by cases e;exact q _ _ _ (.refl s) .non⟩
noncomputable def OpD (r:R2)(g:D→D→Option D):Prop :=
  ∀ (F H:Hp) (x y:V) (d e z:D) (Q:VK),yq F H→At F d x→At F e y→g d e=some z→(∀ F' H' v,Gr F H F' H'→At F' z v→Q v H')→r x y H Q
noncomputable def zm (g:D→D→Option D)(f h:Ev→Option D):Ev→Option D:=fun ρ=>(f ρ).bind fun x=>(h ρ).bind fun y=>g x y
theorem zeM {r:R2}{g:D→D→Option D}{ta tb:TE}{f h:Ev→Option D}(hg:OpD r g)(ra:RE ta f)(rb:RE tb h):RE (tOp r ta tb) (zm g f h):=by
  intro σ ρ F H z Q s va e q
  obtain ⟨x,e1,e⟩:=Option.bind_eq_some_iff.mp e
  obtain ⟨y,e2,e⟩:=Option.bind_eq_some_iff.mp e
  refine ra σ ρ F H x _ s va e1 fun F1 H1 v g1 a1=>?_
  refine rb σ ρ F1 H1 y _ g1.fh (va.mono g1.ff) e2 fun F2 H2 u g2 a2=>?_
  exact hg F2 H2 v u x y z Q g2.fh (a1.mono g2.ff) a2 e fun F3 H3 w g3 a3=>q F3 H3 w ((g1.trans g2).trans g3) a3
theorem Wj {op:Operator}{r:R2}{g:D→D→Option D}{f h:Ev→Option D}(ho:OpR X (binaryOp op) r)(hg:OpD r g)(ha:ED X a f)(hb:ED X b h):ED X (.BinOp a op b pos) (zm g f h) :=
  let ⟨_,pa,ra⟩:=ha
  let ⟨_,pb,rb⟩:=hb
  ⟨_,zeV ho pa pb,zeM hg ra rb⟩
theorem ZP {op:CmpOp}{r:R2}{g:D→D→Option D}{f h:Ev→Option D}(ho:OpR X (compareOp op) r)(hg:OpD r g)(hm:behindInMarks op b=false)(ha:ED X a f)(hb:ED X b h):ED X (.Compare a [op] [b] pos) (zm g f h) :=
  let ⟨_,pa,ra⟩:=ha
  let ⟨_,pb,rb⟩:=hb
  ⟨_,zgH ho pa pb hm,zeM hg ra rb⟩
noncomputable def asB:D→Option Bool
  | .bl b=>some b
  | _=>none
theorem Z4 {d:D}{b:Bool}(h:asB d=some b):d=.bl b:=by
  cases d <;> first | (cases h;rfl) | cases h
noncomputable def tOf (f:Ev→Option D):Ev→Option Bool:=fun ρ=>(f ρ).bind asB
theorem ziz {t:TE}{f:Ev→Option D}(r:RE t f):RT (zdw t) (tOf f):=by
  intro σ ρ F H b Q s va e q
  obtain ⟨x,e1,e⟩:=Option.bind_eq_some_iff.mp e
  cases Z4 e
  exact r σ ρ F H _ _ s va e1 fun F1 H1 v g1 a1=>⟨b,a1.bl_inv,q F1 H1 g1⟩
theorem yA {op:CmpOp}{r:R2}{g:D→D→Option D}{f h:Ev→Option D}(ho:OpR X (compareOp op) r)(hg:OpD r g)(hm:behindInMarks op b=false)(ha:ED X a f)(hb:ED X b h):TD X (.Compare a [op] [b] pos) (tOf (zm g f h)) :=
  let ⟨_,pa,ra⟩:=ha
  let ⟨_,pb,rb⟩:=hb
  ⟨_,WF ho pa pb hm,ziz (zeM hg ra rb)⟩
theorem wR {f:Ev→Option D}(ha:ED X a f)(he:∀ whole,isTrue a X.env whole=(do let v←whole;standAt a.pos;holding [v] (truthy v)):=by intro _;rfl):TD X a (tOf f) :=
  let ⟨_,pa,ra⟩:=ha
  ⟨_,zfW pa he,ziz ra⟩
noncomputable def yr (f g:Ev→Option Bool):Ev→Option Bool:=fun ρ=>(f ρ).bind fun c=>if c=true then g ρ else some false
noncomputable def wQ (f g:Ev→Option Bool):Ev→Option Bool:=fun ρ=>(f ρ).bind fun c=>if c=true then some true else g ρ
noncomputable def zY (f:Ev→Option Bool):Ev→Option Bool:=fun ρ=>(f ρ).map (!·)
theorem zau {f:Ev→Option Bool}(ha:TD X a f):WD X (.BoolOp .And [a] pos) f:=let ⟨_,pa,ra⟩:=ha;⟨_,zgM pa,ra⟩
theorem XJ {f:Ev→Option Bool}(ha:TD X a f):WD X (.BoolOp .Or [a] pos) f:=let ⟨_,pa,ra⟩:=ha;⟨_,zgc pa,ra⟩
theorem zcG {rest:List Expr}{f g:Ev→Option Bool}(ha:TD X a f)(hb:WD X (.BoolOp .And (b::rest) pos) g):WD X (.BoolOp .And (a::b::rest) pos) (yr f g):=by
  obtain ⟨ta,pa,ra⟩:=ha
  obtain ⟨tb,pb,rb⟩:=hb
  refine ⟨_,zhX pa pb,fun σ ρ F H z Q s va e q=>?_⟩
  obtain ⟨x,e1,e⟩:=Option.bind_eq_some_iff.mp e
  refine ra σ ρ F H x _ s va e1 fun F1 H1 g1=>?_
  cases x with
  | true =>
    rw [if_pos rfl] at e ⊢
    exact rb σ ρ F1 H1 z Q g1.fh (va.mono g1.ff) e fun F2 H2 g2=>q F2 H2 (g1.trans g2)
  | false =>
    rw [if_neg Bool.false_ne_true] at e ⊢
    cases e
    exact q F1 H1 g1
theorem zap {rest:List Expr}{f g:Ev→Option Bool}(ha:TD X a f)(hb:WD X (.BoolOp .Or (b::rest) pos) g):WD X (.BoolOp .Or (a::b::rest) pos) (wQ f g):=by
  obtain ⟨ta,pa,ra⟩:=ha
  obtain ⟨tb,pb,rb⟩:=hb
  refine ⟨_,zii pa pb,fun σ ρ F H z Q s va e q=>?_⟩
  obtain ⟨x,e1,e⟩:=Option.bind_eq_some_iff.mp e
  refine ra σ ρ F H x _ s va e1 fun F1 H1 g1=>?_
  cases x with
  | false =>
    rw [if_neg Bool.false_ne_true] at e ⊢
    exact rb σ ρ F1 H1 z Q g1.fh (va.mono g1.ff) e fun F2 H2 g2=>q F2 H2 (g1.trans g2)
  | true =>
    rw [if_pos rfl] at e ⊢
    cases e
    exact q F1 H1 g1
theorem zep {f:Ev→Option Bool}(h:WD X a f):TD X a f:=let ⟨_,p,r⟩:=h;⟨_,p.pt,r⟩
theorem vV {f:Ev→Option Bool}(ha:TD X a f):TD X (.UnaryOp .Not a pos) (zY f):=by
  obtain ⟨ta,pa,ra⟩:=ha
  refine ⟨_,zfO pa,fun σ ρ F H z Q s va e q=>?_⟩
  obtain ⟨x,e1,rfl⟩:=Option.map_eq_some_iff.mp e
  exact ra σ ρ F H x _ s va e1 fun F1 H1 g1=>q F1 H1 g1
noncomputable def wa (f g:Ev→Option D):Ev→Option D:=fun ρ=>((f ρ).bind asB).bind fun c=>if c=true then g ρ else some (.bl false)
noncomputable def eOr (f g:Ev→Option D):Ev→Option D:=fun ρ=>((f ρ).bind asB).bind fun c=>if c=true then some (.bl true) else g ρ
noncomputable def vF (f:Ev→Option D):Ev→Option D:=fun ρ=>((f ρ).bind asB).map fun c=>.bl (!c)
theorem YI {op}{f:Ev→Option D}(ha:ED X a f):ED X (.BoolOp op [a] pos) f:=let ⟨_,pa,ra⟩:=ha;⟨_,zjh pa,ra⟩
theorem vU {rest:List Expr}{f g:Ev→Option D}(ha:ED X a f)(hb:ED X (.BoolOp .And (b::rest) pos) g):ED X (.BoolOp .And (a::b::rest) pos) (wa f g):=by
  obtain ⟨ta,pa,ra⟩:=ha
  obtain ⟨tb,pb,rb⟩:=hb
  refine ⟨_,zic pa pb,fun σ ρ F H z Q s va e q=>?_⟩
  obtain ⟨x,e1,e⟩:=Option.bind_eq_some_iff.mp e
  obtain ⟨y,e1,e2⟩:=Option.bind_eq_some_iff.mp e1
  cases Z4 e2
  refine ra σ ρ F H _ _ s va e1 fun F1 H1 v g1 a1=>⟨x,a1.bl_inv,?_⟩
  cases x with
  | true =>
    rw [if_pos rfl] at e ⊢
    exact rb σ ρ F1 H1 z Q g1.fh (va.mono g1.ff) e fun F2 H2 w g2 a2=>q F2 H2 w (g1.trans g2) a2
  | false =>
    rw [if_neg Bool.false_ne_true] at e ⊢
    cases e
    exact q F1 H1 _ g1 .bl
theorem zf2 {f:Ev→Option D}(ha:ED X a f):ED X (.UnaryOp .Not a pos) (vF f):=by
  obtain ⟨ta,pa,ra⟩:=ha
  refine ⟨_,ziJ pa,fun σ ρ F H z Q s va e q=>?_⟩
  obtain ⟨x,e1,rfl⟩:=Option.map_eq_some_iff.mp e
  obtain ⟨y,e1,e2⟩:=Option.bind_eq_some_iff.mp e1
  cases Z4 e2
  exact ra σ ρ F H _ _ s va e1 fun F1 H1 v g1 a1=>⟨x,a1.bl_inv,q F1 H1 _ g1 .bl⟩
noncomputable def eIf (t:Ev→Option Bool)(f g:Ev→Option D):Ev→Option D:=fun ρ=>(t ρ).bind fun c=>if c=true then f ρ else g ρ
theorem zjT {t:Ev→Option Bool}{f g:Ev→Option D}(hc:TD X c t)(ha:ED X a f)(hb:ED X b g):ED X (.IfExp c a b pos) (eIf t f g):=by
  obtain ⟨tc,pc,rc⟩:=hc
  obtain ⟨ta,pa,ra⟩:=ha
  obtain ⟨tb,pb,rb⟩:=hb
  refine ⟨_,zew pc pa pb,fun σ ρ F H z Q s va e q=>?_⟩
  obtain ⟨x,e1,e⟩:=Option.bind_eq_some_iff.mp e
  refine rc σ ρ F H x _ s va e1 fun F1 H1 g1=>?_
  cases x with
  | true =>
    rw [if_pos rfl] at e ⊢
    exact ra σ ρ F1 H1 z Q g1.fh (va.mono g1.ff) e fun F2 H2 w g2 a2=>q F2 H2 w (g1.trans g2) a2
  | false =>
    rw [if_neg Bool.false_ne_true] at e ⊢
    exact rb σ ρ F1 H1 z Q g1.fh (va.mono g1.ff) e fun F2 H2 w g2 a2=>q F2 H2 w (g1.trans g2) a2
noncomputable def eUn (g:D→Option D)(f:Ev→Option D):Ev→Option D:=fun ρ=>(f ρ).bind g
noncomputable def vw:D→Option D
  | .int i=>some (.int (-i))
  | _=>none
theorem zfH {f:Ev→Option D}(ha:ED X a f):ED X (.UnaryOp .USub a pos) (eUn vw f):=by
  obtain ⟨ta,pa,ra⟩:=ha
  refine ⟨_,zhe zee pa,fun σ ρ F H z Q s va e q=>?_⟩
  obtain ⟨x,e1,e⟩:=Option.bind_eq_some_iff.mp e
  cases x <;> try cases e
  exact ra σ ρ F H _ _ s va e1 fun F1 H1 v g1 a1=>⟨_,a1.int_inv,q F1 H1 _ g1 .int⟩
noncomputable def zw:Ev→Option (List D):=fun _=>some []
noncomputable def zc (f:Ev→Option D)(g:Ev→Option (List D)):Ev→Option (List D):=fun ρ=>(f ρ).bind fun d=>(g ρ).map (d::·)
theorem zh:AD X [] zw:=⟨_,yI,fun _ _ _ _ _ _ s _ e q=>by cases e;exact q _ _ _ (.refl s) .nil⟩
theorem za {e:Expr}{es:List Expr}{f:Ev→Option D}{g:Ev→Option (List D)}(ha:ED X e f)(hr:AD X es g)(hs:starEach (e::es) X.env=(false,eval e X.env)::starEach es X.env:=by rfl):AD X (e::es) (zc f g):=by
  obtain ⟨ta,pa,ra⟩:=ha
  obtain ⟨tb,pb,rb⟩:=hr
  refine ⟨_,zr pa pb hs,fun σ ρ F H z Q s va e q=>?_⟩
  obtain ⟨x,e1,e⟩:=Option.bind_eq_some_iff.mp e
  obtain ⟨ds,e2,rfl⟩:=Option.map_eq_some_iff.mp e
  refine ra σ ρ F H x _ s va e1 fun F1 H1 v g1 a1=>?_
  exact rb σ ρ F1 H1 ds _ g1.fh (va.mono g1.ff) e2 fun F2 H2 w g2 a2=>q F2 H2 _ (g1.trans g2) (.cons (a1.mono g2.ff) a2)
noncomputable def lim (n:Nat):Bool:=decide (n≤sizeLine)
noncomputable def xO (g:Ev→Option (List D)):Ev→Option D:=fun ρ=>(g ρ).bind fun ds=>if lim ds.length=true then some (.tup ds) else none
noncomputable def zU (g:Ev→Option (List D)):Ev→Option (List D):=fun ρ=>(g ρ).bind fun ds=>if lim ds.length=true then some ds else none
theorem we {es:List Expr}{x1}{g:Ev→Option (List D)}(h:AD X es g):ED X (.Tuple es x1 pos) (xO g):=by
  obtain ⟨ta,pa,ra⟩:=h
  refine ⟨_,zdJ pa,fun σ ρ F H z Q s va e q=>?_⟩
  obtain ⟨ds,e1,e⟩:=Option.bind_eq_some_iff.mp e
  split at e <;> cases e
  rename_i hl
  refine ra σ ρ F H ds _ s va e1 fun F1 H1 vs g1 a1=>⟨by rw [a1.length];exact of_decide_eq_true hl,fun p hp=>?_⟩
  have g2:=Gr.alloc g1.fh hp (.tup vs)
  exact q _ _ _ (g1.trans g2) (.tup zp (a1.mono g2.ff))
theorem vE {es:List Expr}{g:Ev→Option (List D)}(h:AD X es g):FL X (.List es pos) (zU g):=by
  obtain ⟨ta,pa,ra⟩:=h
  refine ⟨_,V1 pa,fun σ ρ F H z Q s va e q=>?_⟩
  obtain ⟨ds,e1,e⟩:=Option.bind_eq_some_iff.mp e
  split at e <;> cases e
  rename_i hl
  refine ra σ ρ F H _ _ s va e1 fun F1 H1 vs g1 a1=>⟨by rw [a1.length];exact of_decide_eq_true hl,fun p hp=>?_⟩
  have g2:=Gr.hide g1.fh hp (.lst vs)
  have h0:H p=none:=by
    cases e:H p with
    | none=>rfl
    | some o =>
      cases e2:F p with
      | none=>rw [(g1.kp p o e2 e).2] at hp;cases hp
      | some u=>rw [g1.fh _ _ (g1.ff _ _ e2)] at hp;cases hp
  exact q _ _ _ _ (g1.trans g2) h0 (g1.fh.free hp) zp a1
end
end
end Dl
namespace Dl
open PySem L2
variable [KK]
inductive Sl where
  | no | v (d:D) | o (ds:List D) | m (t:Bool) (ks:List (List Key)) (vs:List D)
  deriving Inhabited
noncomputable abbrev SE:=List Sl
noncomputable def Sl.f:Sl→Option D
  | .v d=>some d
  | _=>none
noncomputable def Sl.g:Sl→Option D
  | .v d=>some d
  | .o ds=>some (.lst ds)
  | .m t ks vs=>some (.dct false t ks vs)
  | .no=>none
noncomputable def Sl.isO:Sl→Bool
  | .o _=>true
  | .m _ _ _=>true
  | _=>false
noncomputable def visF (ρ:SE):Ev:=ρ.map Sl.f
noncomputable def visG (ρ:SE):Ev:=ρ.map Sl.g
noncomputable def zcs (F:Hp)(o:HO):Sl→Prop
  | .o ds=>∃ xs,o=.lst xs∧AtL F ds xs
  | .m t ks ds=>∃ xs,zhv o t ks xs∧AtL F ds xs
  | _=>False
theorem zcs.mono {F F':Hp}{o:HO}{s:Sl}(h:zcs F o s)(k:yq F F'):zcs F' o s:=by
  cases s with
  | no=>exact h
  | v d=>exact h
  | o ds=>obtain ⟨xs,e,a⟩:=h;exact ⟨xs,e,a.mono k⟩
  | m t ks ds=>obtain ⟨xs,e,a⟩:=h;exact ⟨xs,e,a.mono k⟩
theorem zcs.isO {F:Hp}{o:HO}{s:Sl}(h:zcs F o s):s.isO=true:=by
  cases s with
  | no=>exact h.elim
  | v d=>exact h.elim
  | o ds=>rfl
  | m t ks ds=>rfl
theorem zcs.ntup {F:Hp}{o:HO}{s:Sl}(h:zcs F o s)(xs:List V):o≠.tup xs:=by
  cases s with
  | no=>exact h.elim
  | v d=>exact h.elim
  | o ds=>obtain ⟨ys,rfl,_⟩:=h;intro e;cases e
  | m t ks ds =>
    obtain ⟨ys,e,_⟩:=h
    unfold zhv at e
    split at e
    · obtain ⟨kvs,rfl,_⟩:=e;intro e;cases e
    · obtain ⟨kvs,rfl,_⟩:=e;intro e;cases e
theorem zcs.at {F G:Hp}{o:HO}{s:Sl}{d:D}{p:Addr}(h:zcs F o s)(e:s.g=some d)(hp:G p=some o)(k:yq F G):At G d (.ref p):=by
  cases s with
  | no=>exact h.elim
  | v d=>exact h.elim
  | o ds =>
    cases e
    obtain ⟨xs,rfl,a⟩:=h
    exact .lst hp (a.mono k)
  | m t ks ds =>
    cases e
    obtain ⟨xs,e,a⟩:=h
    unfold At
    exact ⟨p,xs,rfl,⟨o,e,hp⟩,a.mono k⟩
set_option genInjectivity false in
set_option genSizeOf false in
set_option genCtorIdx false in
structure Rl (Fb Hb F H:Hp) (ρ:SE) (σ:St):Prop where
  gr:Gr Fb Hb F H
  vals:∀ (i:Nat) (d:D),ρ[i]?=some (.v d)→∃ v,σ[i]?=some (some v)∧At F d v
  ows:∀ (i:Nat) (s:Sl),ρ[i]?=some s→s.isO=true→∃ p o,σ[i]?=some (some (.ref p))∧Hb p=none∧F p=none∧H p=some o∧zcs F o s
  dis:∀ (i j:Nat) (p:Addr) (s t:Sl),ρ[i]?=some s→ρ[j]?=some t→s.isO=true→t.isO=true→σ[i]?=some (some (.ref p))→σ[j]?=some (some (.ref p))→i=j
  len:ρ.length=σ.length
section
variable {Fb Hb F H F' H':Hp}{ρ ρ':SE}{σ σ':St}
theorem Rl.owns (r:Rl Fb Hb F H ρ σ)(i:Nat)(ds:List D)(e:ρ[i]?=some (.o ds)):∃ p xs,σ[i]?=some (some (.ref p))∧Hb p=none∧F p=none∧H p=some (.lst xs)∧AtL F ds xs:=by
  obtain ⟨p,o,e1,e2,e3,e4,xs,rfl,a⟩:=r.ows i _ e rfl
  exact ⟨p,xs,e1,e2,e3,e4,a⟩
theorem Rl.grow (r:Rl Fb Hb F H ρ σ)(g:Gr F H F' H'):Rl Fb Hb F' H' ρ σ:=by
  refine ⟨r.gr.trans g,fun i d e=>?_,fun i s e h=>?_,r.dis,r.len⟩
  · obtain ⟨v,e1,a⟩:=r.vals i d e
    exact ⟨v,e1,a.mono g.ff⟩
  · obtain ⟨p,o,e1,e2,e3,e4,a⟩:=r.ows i s e h
    obtain ⟨k1,k2⟩:=g.kl a.ntup e3 e4
    exact ⟨p,o,e1,e2,k1,k2,a.mono g.ff⟩
theorem Rl.visF (r:Rl Fb Hb F H ρ σ):VAt F (visF ρ) σ:=fun i d e=>by
  unfold Dl.visF at e
  rw [List.getElem?_map] at e
  cases h:ρ[i]? with
  | none=>rw [h] at e;cases e
  | some x =>
    rw [h] at e
    cases x with
    | no=>cases e
    | v d' =>
      cases e
      exact r.vals i d h
    | o ds=>cases e
    | m t ks ds=>cases e
noncomputable def Own (ρ:SE)(σ:St)(p:Addr):Prop:=∃ (i:Nat) (s:Sl),ρ[i]?=some s∧s.isO=true∧σ[i]?=some (some (.ref p))
open Classical in
noncomputable def gOf (ρ:SE)(σ:St)(F H:Hp):Hp:=fun p=>if Own ρ σ p then H p else F p
open Classical in
noncomputable def fOf (ρ:SE)(σ:St)(G:Hp):Hp:=fun p=>if Own ρ σ p then none else G p
theorem Rl.own (r:Rl Fb Hb F H ρ σ){p:Addr}(h:Own ρ σ p):Hb p=none∧F p=none∧∃ o,H p=some o∧∀ xs,o≠.tup xs:=by
  obtain ⟨i,s,e1,e2,e3⟩:=h
  obtain ⟨q,o,e4,e5,e6,e7,a⟩:=r.ows i s e1 e2
  rw [e3] at e4
  cases e4
  exact ⟨e5,e6,o,e7,a.ntup⟩
theorem Rl.notown (r:Rl Fb Hb F H ρ σ){q:Addr}(h:H q=none)(j:Nat)(s:Sl)(e1:ρ[j]?=some s)(e2:s.isO=true):σ[j]?≠some (some (.ref q)):=fun e=>by
  obtain ⟨p,o,f1,_,_,f4,_⟩:=r.ows j s e1 e2
  rw [e] at f1
  cases f1
  rw [h] at f4
  cases f4
theorem Rl.notbase (r:Rl Fb Hb F H ρ σ){q:Addr}(h:H q=none):Hb q=none:=by
  cases z:Hb q with
  | none=>rfl
  | some o =>
    cases z2:Fb q with
    | none=>rw [(r.gr.kp q o z2 z).2] at h;cases h
    | some u=>rw [r.gr.fh _ _ (r.gr.ff _ _ z2)] at h;cases h
theorem Rl.fg (r:Rl Fb Hb F H ρ σ):yq F (gOf ρ σ F H):=fun p o e=>by
  unfold gOf
  split
  · exact r.gr.fh p o e
  · exact e
theorem Rl.gh (r:Rl Fb Hb F H ρ σ):yq (gOf ρ σ F H) H:=fun p o e=>by
  unfold gOf at e
  split at e
  · exact e
  · exact r.gr.fh p o e
theorem Rl.visG (r:Rl Fb Hb F H ρ σ):VAt (gOf ρ σ F H) (visG ρ) σ:=fun i d e=>by
  unfold Dl.visG at e
  rw [List.getElem?_map] at e
  cases h:ρ[i]? with
  | none=>rw [h] at e;cases e
  | some x =>
    rw [h] at e
    have e:x.g=some d:=Option.some.inj e
    have own:x.isO=true→∃ v,σ[i]?=some (some v)∧At (gOf ρ σ F H) d v:=fun hx=>by
      obtain ⟨p,o,e1,e2,e3,e4,a⟩:=r.ows i x h hx
      refine ⟨_,e1,a.at e ?_ r.fg⟩
      unfold gOf
      rw [if_pos ⟨i,x,h,hx,e1⟩]
      exact e4
    cases x with
    | no=>cases e
    | v d' =>
      cases e
      obtain ⟨v,e1,a⟩:=r.vals i d h
      exact ⟨v,e1,a.mono r.fg⟩
    | o ds=>exact own rfl
    | m t ks ds=>exact own rfl
theorem Rl.back {G':Hp}(r:Rl Fb Hb F H ρ σ)(g:Gr (gOf ρ σ F H) H G' H'):Gr F H (fOf ρ σ G') H'∧∀ q xs,G' q=some (.tup xs)→fOf ρ σ G' q=some (.tup xs):=by
  refine ⟨⟨fun p o e=>?_,fun p o e=>?_,fun p o e1 e2=>?_⟩,fun q xs e=>?_⟩
  · unfold fOf
    rw [if_neg (fun h=>by rw [(r.own h).2.1] at e;cases e)]
    exact g.ff p o (r.fg p o e)
  · unfold fOf at e
    split at e
    · cases e
    · exact g.fh p o e
  · by_cases h:Own ρ σ p
    · refine ⟨.inl (by unfold fOf;rw [if_pos h]),g.fh p o (g.ff p o ?_)⟩
      unfold gOf
      rw [if_pos h]
      exact e2
    · obtain ⟨x,y⟩:=g.kp p o (by unfold gOf;rw [if_neg h];exact e1) e2
      refine ⟨?_,y⟩
      unfold Hid fOf
      rw [if_neg h]
      exact x
  · unfold fOf
    rw [if_neg (fun h=>?_)]
    · exact e
    · obtain ⟨_,_,o,e2,n⟩:=r.own h
      have:G' q=some o:=g.ff q _ (by unfold gOf;rw [if_pos h];exact e2)
      rw [this] at e
      cases e
      exact n xs rfl
theorem Rl.out {G':Hp}(r:Rl Fb Hb F H ρ σ)(g:Gr (gOf ρ σ F H) H G' H'):Gr Fb Hb G' H':=by
  refine ⟨fun p o e=>g.ff p o (r.fg p o (r.gr.ff p o e)),g.fh,fun p o e1 e2=>?_⟩
  obtain ⟨k1,k2⟩:=r.gr.kp p o e1 e2
  have e3:gOf ρ σ F H p=F p:=by
    unfold gOf
    rw [if_neg (fun h=>by rw [(r.own h).1] at e2;cases e2)]
  rcases k1 with k1 | ⟨k1,k3⟩
  · exact g.kp p o (by rw [e3];exact k1) k2
  · have:=g.ff p o (by rw [e3];exact k3)
    exact ⟨.inr ⟨k1,this⟩,g.fh _ _ this⟩
theorem Rl.set (r:Rl Fb Hb F H ρ σ){i:Nat}{d:D}{v:V}(a:At F d v):Rl Fb Hb F H (ρ.set i (.v d)) (σ.set i (some v)):=by
  have nj:∀ {j:Nat} {s:Sl},(ρ.set i (.v d))[j]?=some s→s.isO=true→i≠j:=fun {j s} h ho e=>by
    subst e
    rw [List.getElem?_set] at h
    simp only [if_true] at h
    split at h <;> cases h
    cases ho
  refine ⟨r.gr,fun j e h=>?_,fun j s h ho=>?_,fun j k p s t h1 h2 o1 o2 h3 h4=>?_,by simp [r.len]⟩
  · by_cases hj:i=j
    · subst hj
      rw [List.getElem?_set] at h
      simp only [if_true] at h
      split at h
      · rename_i hl
        cases h
        refine ⟨v,?_,a⟩
        rw [List.getElem?_set]
        simp [←r.len,hl]
      · cases h
    · rw [List.getElem?_set_ne hj] at h ⊢
      exact r.vals j e h
  · have hj:=nj h ho
    rw [List.getElem?_set_ne hj] at h ⊢
    exact r.ows j s h ho
  · have a1:=nj h1 o1
    have a2:=nj h2 o2
    rw [List.getElem?_set_ne a1] at h1 h3
    rw [List.getElem?_set_ne a2] at h2 h4
    exact r.dis j k p s t h1 h2 o1 o2 h3 h4
theorem Rl.setW (r:Rl Fb Hb F H ρ σ){i:Nat}{w:Sl}{p:Addr}{o:HO}(h0:Hb p=none)(hF:F p=none)(hH:H p=some o)(a:zcs F o w)
    (nw:∀ (j:Nat) (s:Sl),ρ[j]?=some s→s.isO=true→σ[j]?≠some (some (.ref p))):Rl Fb Hb F H (ρ.set i w) (σ.set i (some (.ref p))):=by
  have at_i:∀ {s:Sl},(ρ.set i w)[i]?=some s→i < ρ.length∧s=w:=fun {s} h=>by
    rw [List.getElem?_set] at h
    simp only [if_true] at h
    split at h
    · rename_i hl
      cases h
      exact ⟨hl,rfl⟩
    · cases h
  have st_i:i < ρ.length→(σ.set i (some (V.ref p)))[i]?=some (some (.ref p)):=fun hl=>by
    rw [List.getElem?_set]
    simp [←r.len,hl]
  refine ⟨r.gr,fun j e h=>?_,fun j s h ho=>?_,fun j k q s t h1 h2 o1 o2 h3 h4=>?_,by simp [r.len]⟩
  · by_cases hj:i=j
    · subst hj
      have e:=(at_i h).2
      have:=a.isO
      rw [←e] at this
      cases this
    · rw [List.getElem?_set_ne hj] at h ⊢
      exact r.vals j e h
  · by_cases hj:i=j
    · subst hj
      obtain ⟨hl,e⟩:=at_i h
      subst e
      exact ⟨p,o,st_i hl,h0,hF,hH,a⟩
    · rw [List.getElem?_set_ne hj] at h ⊢
      exact r.ows j s h ho
  · by_cases hj:i=j
    · subst hj
      by_cases hk:i=k
      · exact hk
      · obtain ⟨hl,_⟩:=at_i h1
        rw [st_i hl] at h3
        cases h3
        rw [List.getElem?_set_ne hk] at h2 h4
        exact absurd h4 (nw k t h2 o2)
    · by_cases hk:i=k
      · subst hk
        obtain ⟨hl,_⟩:=at_i h2
        rw [st_i hl] at h4
        cases h4
        rw [List.getElem?_set_ne hj] at h1 h3
        exact absurd h3 (nw j s h1 o1)
      · rw [List.getElem?_set_ne hj] at h1 h3
        rw [List.getElem?_set_ne hk] at h2 h4
        exact r.dis j k q s t h1 h2 o1 o2 h3 h4
theorem Rl.setO (r:Rl Fb Hb F H ρ σ){i:Nat}{ds:List D}{p:Addr}{xs:List V}(h0:Hb p=none)(hF:F p=none)(hH:H p=some (.lst xs))(a:AtL F ds xs)
    (nw:∀ (j:Nat) (s:Sl),ρ[j]?=some s→s.isO=true→σ[j]?≠some (some (.ref p))):Rl Fb Hb F H (ρ.set i (.o ds)) (σ.set i (some (.ref p))):=r.setW h0 hF hH ⟨xs,rfl,a⟩ nw
theorem Rl.mutW (r:Rl Fb Hb F H ρ σ){i:Nat}{w w':Sl}{p:Addr}{o':HO}(e:ρ[i]?=some w)(hw:w.isO=true)(e1:σ[i]?=some (some (.ref p)))(a:zcs F o' w'):Rl Fb Hb F (upd H p o') (ρ.set i w') σ:=by
  obtain ⟨q,o,e2,h0,hF,hH,_⟩:=r.ows i w e hw
  rw [e1] at e2
  cases e2
  have hi:i < ρ.length:=(List.getElem?_eq_some_iff.mp e).1
  have neP:∀ {j:Nat} {s:Sl} {q:Addr},i≠j→ρ[j]?=some s→s.isO=true→σ[j]?=some (some (.ref q))→q≠p:=fun {j s q} hne h1 ho h2 z=>by
    subst z
    exact hne (r.dis i j q w s e h1 hw ho e1 h2)
  refine ⟨⟨r.gr.ff,fun b o z=>?_,fun b o z1 z2=>?_⟩,fun j d h=>?_,fun j s h ho=>?_,fun j k q s t h1 h2 o1 o2 h3 h4=>?_,by simp [r.len]⟩
  · rw [zo (zk z hF)]
    exact r.gr.fh b o z
  · rw [zo (zk z2 h0)]
    exact r.gr.kp b o z1 z2
  · by_cases hj:i=j
    · subst hj
      rw [List.getElem?_set_self hi] at h
      cases h
      exact (Bool.noConfusion a.isO)
    · rw [List.getElem?_set_ne hj] at h
      exact r.vals j d h
  · by_cases hj:i=j
    · subst hj
      rw [List.getElem?_set_self hi] at h
      cases h
      exact ⟨p,o',e1,h0,hF,zp,a⟩
    · rw [List.getElem?_set_ne hj] at h
      obtain ⟨q,z,f1,f2,f3,f4,f5⟩:=r.ows j s h ho
      refine ⟨q,z,f1,f2,f3,?_,f5⟩
      rw [zo (neP hj h ho f1)]
      exact f4
  · have back:∀ {j:Nat} {s:Sl},(ρ.set i w')[j]?=some s→s.isO=true→∃ s',ρ[j]?=some s'∧s'.isO=true:=fun {j s} h ho=>by
      by_cases hj:i=j
      · subst hj;exact ⟨w,e,hw⟩
      · rw [List.getElem?_set_ne hj] at h;exact ⟨s,h,ho⟩
    obtain ⟨f1,g1,g1'⟩:=back h1 o1
    obtain ⟨f2,g2,g2'⟩:=back h2 o2
    exact r.dis j k q f1 f2 g1 g2 g1' g2' h3 h4
theorem Rl.mutate (r:Rl Fb Hb F H ρ σ){i:Nat}{ds es:List D}{p:Addr}{ys:List V}(e:ρ[i]?=some (.o ds))(e1:σ[i]?=some (some (.ref p)))(a:AtL F es ys):Rl Fb Hb F (upd H p (.lst ys)) (ρ.set i (.o es)) σ :=
  r.mutW e rfl e1 ⟨ys,rfl,a⟩
noncomputable def Sl.fz:Sl→Sl
  | .o ds=>.v (.lst ds)
  | .m t ks vs=>.v (.dct false t ks vs)
  | s=>s
noncomputable def ziA (ρ:SE)(i:Nat):SE:=ρ.set i ((ρ[i]?).getD .no).fz
theorem Rl.freeze (r:Rl Fb Hb F H ρ σ)(i:Nat):∃ F',Rl Fb Hb F' H (ziA ρ i) σ:=by
  unfold ziA
  cases h:ρ[i]? with
  | none =>
    refine ⟨F,?_⟩
    rw [List.set_eq_of_length_le (List.getElem?_eq_none_iff.mp h)]
    exact r
  | some s =>
    have hi:i < ρ.length:=(List.getElem?_eq_some_iff.mp h).1
    have same:s.fz=s→∃ F',Rl Fb Hb F' H (ρ.set i ((some s).getD .no).fz) σ:=fun e=>by
      refine ⟨F,?_⟩
      show Rl Fb Hb F H (ρ.set i s.fz) σ
      rw [e]
      have:ρ.set i s=ρ:=by
        apply List.ext_getElem?
        intro j
        by_cases hj:i=j
        · subst hj;rw [List.getElem?_set_self hi,h]
        · rw [List.getElem?_set_ne hj]
      rw [this]
      exact r
    have give:∀ d,s.isO=true→s.g=some d→s.fz=.v d→∃ F',Rl Fb Hb F' H (ρ.set i ((some s).getD .no).fz) σ:=fun d ho hg hz=>by
      obtain ⟨p,o,e1,e2,e3,e4,a⟩:=r.ows i s h ho
      have sF:yq F (upd F p o):=fun b u e=>by rw [zo (zk e e3)];exact e
      show ∃ F',Rl Fb Hb F' H (ρ.set i s.fz) σ
      rw [hz]
      have nj:∀ {j:Nat} {t:Sl},(ρ.set i (.v d))[j]?=some t→t.isO=true→i≠j:=fun {j t} h ht e=>by
        subst e
        rw [List.getElem?_set_self hi] at h
        cases h
        cases ht
      refine ⟨upd F p o,r.gr.show e2 e3 e4,fun j e z=>?_,fun j t z ht=>?_,fun j k q t u h1 h2 o1 o2 h3 h4=>?_,by simp [r.len]⟩
      · by_cases hj:i=j
        · subst hj
          rw [List.getElem?_set_self hi] at z
          cases z
          exact ⟨_,e1,a.at hg zp sF⟩
        · rw [List.getElem?_set_ne hj] at z
          obtain ⟨v,f1,f2⟩:=r.vals j e z
          exact ⟨v,f1,f2.mono sF⟩
      · have hj:=nj z ht
        rw [List.getElem?_set_ne hj] at z
        obtain ⟨q,y,f1,f2,f3,f4,f5⟩:=r.ows j t z ht
        refine ⟨q,y,f1,f2,?_,f4,f5.mono sF⟩
        rw [zo (fun w=>hj (r.dis i j p s t h z ho ht e1 (by rw [←w];exact f1)))]
        exact f3
      · have a1:=nj h1 o1
        have a2:=nj h2 o2
        rw [List.getElem?_set_ne a1] at h1
        rw [List.getElem?_set_ne a2] at h2
        exact r.dis j k q t u h1 h2 o1 o2 h3 h4
    cases s with
    | no=>exact same rfl
    | v d=>exact same rfl
    | o ds=>exact give _ rfl rfl rfl
    | m t ks ds=>exact give _ rfl rfl rfl
end
inductive Ctl where
  | nx (ρ:SE) | rt (d:D) | bk (ρ:SE) | ct (ρ:SE) | no
  deriving Inhabited
noncomputable def SOk (Fb Hb:Hp)(E:Wh):Ctl→Prop
  | .nx ρ=>∀ F H σ,Rl Fb Hb F H ρ σ→E.nx σ H
  | .bk ρ=>∀ F H σ,Rl Fb Hb F H ρ σ→E.bk σ H
  | .ct ρ=>∀ F H σ,Rl Fb Hb F H ρ σ→E.ct σ H
  | .rt d=>∀ F H v,Gr Fb Hb F H→At F d v→E.rt v H
  | .no=>False
noncomputable def RS (t:TS)(g:SE→Ctl):Prop:=∀ (Fb Hb F H:Hp) (ρ:SE) (σ:St) (E:Wh),Rl Fb Hb F H ρ σ→SOk Fb Hb E (g ρ)→t E σ H
noncomputable def SD (X:Cx)(st:Stmt)(g:SE→Ctl):Prop:=∃ t,PS X st t∧RS t g
noncomputable def SDs (X:Cx)(sts:List Stmt)(g:SE→Ctl):Prop:=∃ t,PSs X sts t∧RS t g
section
variable {X:Cx}{st:Stmt}{sts:List Stmt}{a b c e:Expr}{pos pos':Pos}
noncomputable def zH:SE→Ctl:=.nx
noncomputable def zK (g h:SE→Ctl):SE→Ctl:=fun ρ=>match g ρ with
  | .nx ρ'=>h ρ'
  | .rt d=>.rt d
  | .bk ρ'=>.bk ρ'
  | .ct ρ'=>.ct ρ'
  | .no=>.no
theorem ya:SDs X [] zH:=⟨_,Xs,fun _ _ F H ρ σ E r h=>h F H σ r⟩
theorem zj {g h:SE→Ctl}(h1:SD X st g)(h2:SDs X sts h):SDs X (st::sts) (zK g h):=by
  obtain ⟨t,p,r⟩:=h1
  obtain ⟨u,p2,r2⟩:=h2
  refine ⟨_,yZ p p2,fun Fb Hb F H ρ σ E rl k=>?_⟩
  refine r Fb Hb F H ρ σ { E with nx:=u E } rl ?_
  unfold zK at k
  cases e:g ρ with
  | nx ρ' =>
    rw [e] at k
    exact fun F' H' σ' rl'=>r2 Fb Hb F' H' ρ' σ' E rl' k
  | rt d=>rw [e] at k;exact k
  | bk d=>rw [e] at k;exact k
  | ct d=>rw [e] at k;exact k
  | no=>rw [e] at k;exact k
theorem zn {g:SE→Ctl}(h1:SD X st g):SDs X [st] g:=let ⟨_,p,r⟩:=h1;⟨_,vI p,r⟩
noncomputable def sFz (i:Nat)(g:SE→Ctl):SE→Ctl:=fun ρ=>g (ziA ρ i)
theorem ZV {g:SE→Ctl}(i:Nat)(h:SDs X sts g):SDs X sts (sFz i g):=by
  obtain ⟨t,p,r⟩:=h
  refine ⟨_,p,fun Fb Hb F H ρ σ E rl k=>?_⟩
  obtain ⟨F',rl'⟩:=rl.freeze i
  exact r Fb Hb F' H _ σ E rl' k
noncomputable def sNo:SE→Ctl:=fun _=>.no
theorem zbA:SD X st sNo:=⟨_,za2,fun _ _ _ _ _ _ _ _ h=>h.elim⟩
noncomputable def yC (f:Ev→Option D):SE→Ctl:=fun ρ=>match f (visG ρ) with
  | some d=>.rt d
  | none=>.no
theorem zO {f:Ev→Option D}(h:ED X e f):SD X (.Return (some e) pos) (yC f):=by
  obtain ⟨t,p,r⟩:=h
  refine ⟨_,ZX p,fun Fb Hb F H ρ σ E rl k=>?_⟩
  unfold yC at k
  cases h:f (visG ρ) with
  | none=>rw [h] at k;exact k.elim
  | some d =>
    rw [h] at k
    exact r σ _ _ H d _ rl.gh rl.visG h fun F' H' v g av=>k F' H' v (rl.out g) av
noncomputable def yX:SE→Ctl:=fun _=>.rt .non
noncomputable def vEv (m:Bool)(f:Ev→Option D)(ρ:SE):Option D:=if m=true then (f (visG ρ)).bind fun d=>if noL d=true then some d else none else f (visF ρ)
theorem RE.at {Fb Hb F H:Hp}{ρ:SE}{σ:St}{m:Bool}{f:Ev→Option D}{t:TE}{d:D}{Q:VK}(r:RE t f)(rl:Rl Fb Hb F H ρ σ)(h:vEv m f ρ=some d)(q:∀ F' H' v,Gr F H F' H'→At F' d v→Q v H'):t σ H Q:=by
  unfold vEv at h
  cases m with
  | false =>
    rw [if_neg Bool.false_ne_true] at h
    exact r σ _ _ H d _ rl.gr.fh rl.visF h q
  | true =>
    rw [if_pos rfl] at h
    obtain ⟨d',h1,h2⟩:=Option.bind_eq_some_iff.mp h
    split at h2 <;> cases h2
    rename_i hn
    refine r σ _ _ H d _ rl.gh rl.visG h1 fun F' H' v g av=>?_
    obtain ⟨g2,fl⟩:=rl.back g
    exact q _ H' v g2 (av.flat fl hn)
noncomputable def yG (m:Bool)(i:Nat)(f:Ev→Option D):SE→Ctl:=fun ρ=>match vEv m f ρ with
  | some d=>.nx (ρ.set i (.v d))
  | none=>.no
theorem yp {m:Bool}{i:Nat}{x:Str}{f:Ev→Option D}(hN:X.N.Nodup)(hi:X.N[i]?=some x)(hx:Loc X.env.scope x)(he:ED X e f)(hs:swapsWith e (some (.Name x pos')) pos.line X.env=pure false:=by rfl)
    (hf:X.fn x=true∨X.env.scope.names.lookup x=some .local:=by first | exact .inl rfl | exact .inr rfl | assumption):SD X (.Assign [.Name x pos'] e pos) (yG m i f):=by
  obtain ⟨t,p,r⟩:=he
  refine ⟨_,Zl hN hi hx p hs hf,fun Fb Hb F H ρ σ E rl k=>?_⟩
  unfold yG at k
  cases h:vEv m f ρ with
  | none=>rw [h] at k;exact k.elim
  | some d =>
    rw [h] at k
    exact r.at rl h fun F' H' v g av=>k F' H' _ ((rl.grow g).set av)
noncomputable def wI (f:Ev→Option D):SE→Ctl:=fun ρ=>match f (visG ρ) with
  | some _=>.nx ρ
  | none=>.no
theorem XU {f:Ev→Option D}(he:ED X e f)(hs:swapsWith e none pos.line X.env=pure false:=by rfl):SD X (.Expr e pos) (wI f):=by
  obtain ⟨t,p,r⟩:=he
  refine ⟨_,zaK p hs,fun Fb Hb F H ρ σ E rl k=>?_⟩
  unfold wI at k
  cases h:f (visG ρ) with
  | none=>rw [h] at k;exact k.elim
  | some d =>
    rw [h] at k
    exact r σ _ _ H d _ rl.gh rl.visG h fun F' H' v g av=>k _ H' σ (rl.grow (rl.back g).1)
noncomputable def wn (i:Nat)(f:Ev→Option (List D)):SE→Ctl:=fun ρ=>match f (visF ρ) with
  | some ds=>.nx (ρ.set i (.o ds))
  | none=>.no
theorem ZM {i:Nat}{x:Str}{f:Ev→Option (List D)}(hN:X.N.Nodup)(hi:X.N[i]?=some x)(hx:Loc X.env.scope x)(he:FL X e f)(hs:swapsWith e (some (.Name x pos')) pos.line X.env=pure false:=by rfl)
    (hf:X.fn x=true∨X.env.scope.names.lookup x=some .local:=by first | exact .inl rfl | exact .inr rfl | assumption):SD X (.Assign [.Name x pos'] e pos) (wn i f):=by
  obtain ⟨t,p,r⟩:=he
  refine ⟨_,Zl hN hi hx p hs hf,fun Fb Hb F H ρ σ E rl k=>?_⟩
  unfold wn at k
  cases h:f (visF ρ) with
  | none=>rw [h] at k;exact k.elim
  | some ds =>
    rw [h] at k
    refine r σ _ _ H ds _ rl.gr.fh rl.visF h fun F' H' q xs g h0 hF hH hx=>?_
    have rl2:=rl.grow g
    exact k F' H' _ (rl2.setO (rl.notbase h0) hF hH hx (rl.notown h0))
noncomputable def sIf (t:Ev→Option Bool)(g h:SE→Ctl):SE→Ctl:=fun ρ=>match t (visG ρ) with
  | some true=>g ρ
  | some false=>h ρ
  | none=>.no
theorem wx {as bs:List Stmt}{t:Ev→Option Bool}{g h:SE→Ctl}(hc:TD X c t)(ha:SDs X as g)(hb:SDs X bs h):SD X (.If c as bs pos) (sIf t g h):=by
  obtain ⟨tc,pc,rc⟩:=hc
  obtain ⟨ta,pa,ra⟩:=ha
  obtain ⟨tb,pb,rb⟩:=hb
  refine ⟨_,zbS pc pa pb,fun Fb Hb F H ρ σ E rl k=>?_⟩
  unfold sIf at k
  cases h:t (visG ρ) with
  | none=>rw [h] at k;exact k.elim
  | some d =>
    rw [h] at k
    refine rc σ _ _ H d _ rl.gh rl.visG h fun F' H' g=>?_
    have rl2:=rl.grow (rl.back g).1
    cases d with
    | true=>rw [if_pos rfl];exact ra Fb Hb _ H' ρ σ E rl2 k
    | false=>rw [if_neg Bool.false_ne_true];exact rb Fb Hb _ H' ρ σ E rl2 k
noncomputable def RG (t:TG)(b:D→SE→Option SE):Prop:=∀ (Fb Hb F H:Hp) (ρ ρ':SE) (σ:St) (d:D) (v:V) (Q:St→Hp→Prop),Rl Fb Hb F H ρ σ→At F d v→b d ρ=some ρ'→(∀ σ',Rl Fb Hb F H ρ' σ'→Q σ' H)→t v σ H Q
noncomputable def RGs (t:TGs)(b:List D→SE→Option SE):Prop:=∀ (Fb Hb F H:Hp) (ρ ρ':SE) (σ:St) (ds:List D) (vs:List V) (Q:St→Hp→Prop),Rl Fb Hb F H ρ σ→AtL F ds vs→b ds ρ=some ρ'→(∀ σ',Rl Fb Hb F H ρ' σ'→Q σ' H)→t vs σ H Q
noncomputable def BD (X:Cx)(tg:Expr)(b:D→SE→Option SE):Prop:=∃ t,PG X tg t∧RG t b
noncomputable def BDs (X:Cx)(tgs:List Expr)(b:List D→SE→Option SE):Prop:=∃ t,PGs X tgs t∧RGs t b
noncomputable def zW (i:Nat):D→SE→Option SE:=fun d ρ=>some (ρ.set i (.v d))
theorem xn {i:Nat}(h:PG X a (vL i)):BD X a (zW i):=by
  refine ⟨_,h,fun Fb Hb F H ρ ρ' σ d v Q rl av e q=>?_⟩
  cases e
  exact q _ (rl.set av)
noncomputable def vk:List D→SE→Option SE
  | [],ρ=>some ρ
  | _,_=>none
noncomputable def yf (b:D→SE→Option SE)(c:List D→SE→Option SE):List D→SE→Option SE
  | d::ds,ρ=>(b d ρ).bind (c ds)
  | [],_=>none
theorem XF:BDs X [] vk:=by
  refine ⟨_,zaS,fun Fb Hb F H ρ ρ' σ ds vs Q rl av e q=>?_⟩
  cases ds with
  | nil=>cases e;exact ⟨av.nil_inv,q _ rl⟩
  | cons _ _=>cases e
theorem x8 {es:List Expr}{b:D→SE→Option SE}{c:List D→SE→Option SE}(h1:BD X e b)(h2:BDs X es c)
    (hs:(assignEach (e::es) X.env).map (·.2)=assign e X.env::(assignEach es X.env).map (·.2):=by rfl):BDs X (e::es) (yf b c):=by
  obtain ⟨t,p,r⟩:=h1
  obtain ⟨u,p2,r2⟩:=h2
  refine ⟨_,Zk p p2 hs,fun Fb Hb F H ρ ρ' σ ds vs Q rl av e q=>?_⟩
  cases ds with
  | nil=>cases e
  | cons d ds =>
    obtain ⟨x,xs,rfl,a1,a2⟩:=av.cons_inv
    obtain ⟨ρ1,e1,e2⟩:=Option.bind_eq_some_iff.mp e
    exact ⟨x,xs,rfl,r Fb Hb F H ρ ρ1 σ d x _ rl a1 e1 fun σ1 rl1=>r2 Fb Hb F H ρ1 ρ' σ1 ds xs Q rl1 a2 e2 q⟩
noncomputable def vb (n:Nat)(c:List D→SE→Option SE):D→SE→Option SE
  | .tup ds,ρ=>if ds.length=n then c ds ρ else none
  | _,_=>none
theorem VX {es:List Expr}{k:Nat}{n:Nat}{c:List D→SE→Option SE}(hc:X.calm=true)(h:BDs X es c)
    (hn:(assignEach es X.env).length=n:=by rfl) (hst:(assignEach es X.env).findIdx? (·.1)=none:=by rfl):BD X (.Tuple es k pos) (vb n c):=by
  obtain ⟨t,p,r⟩:=h
  refine ⟨_,zcw hc p hn hst,fun Fb Hb F H ρ ρ' σ d v Q rl av e q=>?_⟩
  cases d with
  | tup ds =>
    unfold vb at e
    dsimp only at e
    split at e
    · rename_i hl
      obtain ⟨a,xs,rfl,hx,al⟩:=av.tup_inv
      exact ⟨a,xs,rfl,SqT.of (rl.gr.fh _ _ hx),by rw [al.length];exact hl,r Fb Hb F H ρ ρ' σ ds xs Q rl al e q⟩
    · cases e
  | _=>cases e
noncomputable def vY (m:Bool)(f:Ev→Option D)(b:D→SE→Option SE):SE→Ctl:=fun ρ=>match (vEv m f ρ).bind fun d=>b d ρ with
  | some ρ'=>.nx ρ'
  | none=>.no
noncomputable def wJ (m:Bool)(i:Nat)(fk fe:Ev→Option D):SE→Ctl:=fun ρ=>match (vEv m fe ρ).bind fun d=>(fk (visG ρ)).bind fun k=>match ρ[i]?,k with
    | some (.o ds),.int k=>(ixN ds.length k).map fun j=>ρ.set i (.o (ds.set j d))
    | _,_=>none with
  | some ρ'=>.nx ρ'
  | none=>.no
theorem za9 {m:Bool}{i:Nat}{ko:Expr}{fk fe:Ev→Option D}(he:ED X e fe)(ho:PE X a (WM i))(hk:ED X ko fk)(hs:swapsWithSole [.Subscript a ko pos'] e pos.line X.env=pure false:=by rfl)(hw:swappedStores [.Subscript a ko pos'] e X.env=pure none:=by rfl)
    (h1:(assignEach [.Subscript a ko pos'] X.env).map (·.2)=[assign (.Subscript a ko pos') X.env]:=by rfl)
    (ha:∀ v,assign (.Subscript a ko pos') X.env v=(do
      let ov←holding [v] (eval a X.env)
      let iv←holding [v,ov] (eval ko X.env)
      standAt pos'
      holding [v,ov,iv] (setItem ov iv v)
      release [v,ov,iv] []):=by intro _;rfl):SD X (.Assign [.Subscript a ko pos'] e pos) (wJ m i fk fe):=by
  obtain ⟨t,p,r⟩:=he
  obtain ⟨tk,pk,rk⟩:=hk
  refine ⟨_,zjb p (ziy ho pk zfD ha) hs hw h1,fun Fb Hb F H ρ σ E rl k=>?_⟩
  unfold wJ at k
  cases h:(vEv m fe ρ).bind fun d=>(fk (visG ρ)).bind fun k=>match ρ[i]?,k with
    | some (.o ds),.int k=>(ixN ds.length k).map fun j=>ρ.set i (.o (ds.set j d))
    | _,_=>none with
  | none=>rw [h] at k;exact k.elim
  | some ρ' =>
    rw [h] at k
    obtain ⟨d,e1,e2⟩:=Option.bind_eq_some_iff.mp h
    obtain ⟨kd,e3,e2⟩:=Option.bind_eq_some_iff.mp e2
    cases hs:ρ[i]? with
    | none=>rw [hs] at e2;cases e2
    | some sl =>
      rw [hs] at e2
      cases sl with
      | no=>cases e2
      | v _=>cases e2
      | m _ _ _=>cases e2
      | o ds =>
        cases kd with
        | int kk =>
          obtain ⟨j,e4,rfl⟩:=Option.map_eq_some_iff.mp e2
          refine r.at rl e1 fun F' H' v g av=>?_
          have rl2:=rl.grow g
          obtain ⟨q,xs,f1,_⟩:=rl2.owns i ds hs
          refine ⟨_,f1,?_⟩
          refine rk σ _ _ H' _ _ rl2.gh rl2.visG e3 fun F3 H3 v3 g3 av3=>?_
          obtain ⟨gb,_⟩:=rl2.back g3
          have rl3:=rl2.grow gb
          obtain ⟨q3,xs3,f1',_,_,f4,f5⟩:=rl3.owns i ds hs
          rw [f1] at f1'
          cases f1'
          refine ⟨q,xs3,kk,j,rfl,av3.int_inv,f4,by rw [f5.length];exact e4,?_⟩
          exact k _ _ σ (rl3.mutate hs f1 (f5.set j (av.mono gb.ff)))
        | _=>cases e2
end
end Dl
namespace L2
open PySem PySem.Spec PyProof.Rows
section
variable {X:Cx}{tg:Expr}
noncomputable def iSeq (K:PySem.W.Frag)(tl:TE):TI:=fun σ H R=>tl σ H fun x H1=>(∃ a,x=.ref a∧(∃ xs,SqL K H1 a xs)∧R (Itl K a) H1)∨(∃ a,x=.ref a∧(∃ xs,SqT K H1 a xs)∧R (Itt K a) H1)
theorem zhT {l:Expr}{tl:TE}(hl:PE X l tl):PI X tg l (iSeq X.K tl):=by
  intro pins s σ H R I h
  refine thn (hl pins s σ H _ I h) fun v s1 hh9=>?_
  obtain ⟨x,H1,I1,r1,q1⟩:=hh9
  rcases q1 with ⟨a,e,⟨xs,hq⟩,q⟩ | ⟨a,e,⟨xs,hq⟩,q⟩
  · subst e
    cases r1
    obtain ⟨its,rv,p,hz⟩:=I1.list hq
    refine wpAny_pyIter_list p.isList ?_
    refine ⟨s1.heap.objs.size,[s1.heap.objs.size],_,_,H1,rfl,I1.kept (t':=s1.toks) fun b o e=>Heap.get?_push_of_some _ e,zd4 a _,⟨_,Heap.get?_push_size _ rfl,rfl,rfl⟩,fun b hb=>?_,q⟩
    have e:b=s1.heap.objs.size:=by simpa using hb
    subst e
    exact I1.fpOk (Nat.le_refl _) (I1.hok.fresh (Nat.le_refl _))
  · subst e
    cases r1
    obtain ⟨its,rv,p,hz⟩:=I1.tuple hq
    refine wpAny_pyIter_tuple (show s1.heap.IsTuple a its.toArray from p) ?_
    refine ⟨s1.heap.objs.size,[s1.heap.objs.size],_,_,H1,rfl,I1.kept (t':=s1.toks) fun b o e=>Heap.get?_push_of_some _ e,zb8 a _,⟨_,Heap.get?_push_size _ rfl,rfl,rfl⟩,fun b hb=>?_,q⟩
    have e:b=s1.heap.objs.size:=by simpa using hb
    subst e
    exact I1.fpOk (Nat.le_refl _) (I1.hok.fresh (Nat.le_refl _))
end
end L2
namespace Dl
open PySem L2
variable [KK]
noncomputable def zin (J:It)(F:Hp)(ds:List D):Prop:=∀ (i:Nat) (F2 H2:Hp),yq F F2→yq F2 H2→(i=ds.length→J.stop i H2) ∧
  ∀ d,ds[i]?=some d→J.go i H2∧∀ x H3,J.yld i H2 x H3→∃ F3,Gr F2 H2 F3 H3∧At F3 d x
noncomputable def RI (wi:TI)(f:Ev→Option (List D)):Prop :=
  ∀ (σ:St) (ρ:Ev) (F H:Hp) (ds:List D) (R:It→Hp→Prop),yq F H→VAt F ρ σ→f ρ=some ds→(∀ F' H' J,Gr F H F' H'→zin J F' ds→R J H')→wi σ H R
noncomputable def ID (X:Cx)(tg iter:Expr)(f:Ev→Option (List D)):Prop:=∃ wi,PI X tg iter wi∧RI wi f
noncomputable def yj:D→Option (List D)
  | .lst ds=>some ds
  | .tup ds=>some ds
  | _=>none
section
variable {X:Cx}{tg a b c e:Expr}{pos:Pos}
theorem zh0 {K:PySem.W.Frag}{F:Hp}{p:Addr}{xs:List V}{ds:List D}(h:F p=some (.lst xs))(al:AtL F ds xs):zin (Itl K p) F ds:=by
  intro i F2 H2 s1 s2
  have q:SqL K H2 p xs:=SqL.of (s2 _ _ (s1 _ _ h))
  refine ⟨fun hl=>⟨xs,q,by rw [al.length,hl];exact Nat.le_refl _⟩,fun d hd=>?_⟩
  obtain ⟨x,hx,ax⟩:=al.get hd
  refine ⟨⟨xs,x,q,hx⟩,fun y H3 hy=>?_⟩
  obtain ⟨rfl,hy⟩:=hy
  have:=hy xs q
  rw [hx] at this
  cases this
  exact ⟨F2,.refl s2,ax.mono s1⟩
theorem zix {K:PySem.W.Frag}{F:Hp}{p:Addr}{xs:List V}{ds:List D}(h:F p=some (.tup xs))(al:AtL F ds xs):zin (Itt K p) F ds:=by
  intro i F2 H2 s1 s2
  have q:SqT K H2 p xs:=SqT.of (s2 _ _ (s1 _ _ h))
  refine ⟨fun hl=>⟨xs,q,by rw [al.length,hl];exact Nat.le_refl _⟩,fun d hd=>?_⟩
  obtain ⟨x,hx,ax⟩:=al.get hd
  refine ⟨⟨xs,x,q,hx⟩,fun y H3 hy=>?_⟩
  obtain ⟨rfl,hy⟩:=hy
  have:=hy xs q
  rw [hx] at this
  cases this
  exact ⟨F2,.refl s2,ax.mono s1⟩
noncomputable def iOf (f:Ev→Option D):Ev→Option (List D):=fun ρ=>(f ρ).bind yj
theorem Z2 {f:Ev→Option D}(ha:ED X a f):ID X tg a (iOf f):=by
  obtain ⟨t,p,r⟩:=ha
  refine ⟨_,zhT p,fun σ ρ F H ds R s va e q=>?_⟩
  obtain ⟨d,e1,e2⟩:=Option.bind_eq_some_iff.mp e
  refine r σ ρ F H d _ s va e1 fun F1 H1 v g1 a1=>?_
  cases d <;> try cases e2
  · obtain ⟨p,xs,rfl,hx,al⟩:=a1.tup_inv
    exact .inr ⟨p,rfl,⟨xs,SqT.of (g1.fh _ _ hx)⟩,q F1 H1 _ g1 (zix hx al)⟩
  · obtain ⟨p,xs,rfl,hx,al⟩:=a1.lst_inv
    exact .inl ⟨p,rfl,⟨xs,SqL.of (g1.fh _ _ hx)⟩,q F1 H1 _ g1 (zh0 hx al)⟩
noncomputable def Z3 (lo:Int)(n:Nat):List D:=(List.range n).map fun k:Nat=>.int (lo+k)
theorem zbr {F:Hp}(lo:Int)(n:Nat):zin (Itr lo n) F (Z3 lo n):=by
  intro i F2 H2 s1 s2
  have hlen:(Z3 lo n).length=n:=by unfold Z3;simp
  refine ⟨fun hl=>by rw [hlen] at hl;rw [hl];exact Nat.le_refl _,fun d hd=>?_⟩
  have hi:i < n:=by
    have:=(List.getElem?_eq_some_iff.mp hd).1
    omega
  refine ⟨hi,fun y H3 hy=>?_⟩
  obtain ⟨rfl,rfl⟩:=hy
  refine ⟨F2,.refl s2,?_⟩
  unfold Z3 at hd
  rw [List.getElem?_map,List.getElem?_range hi] at hd
  cases hd
  exact .int
@[irreducible] noncomputable def zeq (j:Int):Bool:=decide (-(2 ^ 62)≤j∧j < 2 ^ 62)
omit [KK] in
theorem yx {j:Int}:zeq j=true↔-(2 ^ 62)≤j∧j < 2 ^ 62:=by unfold zeq;exact decide_eq_true_iff
noncomputable def wc:List D→Option (List D)
  | [.int j]=>if zeq j=true then some (Z3 0 j.toNat) else none
  | _=>none
noncomputable def wv:List D→Option (List D)
  | [.int i,.int j]=>if zeq i=true∧zeq j=true then some (Z3 i (j - i).toNat) else none
  | _=>none
noncomputable def wX (g:List D→Option (List D))(f:Ev→Option (List D)):Ev→Option (List D):=fun ρ=>(f ρ).bind g
theorem zdc {p:Pos} {f:Ev→Option (List D)} (hg:Gl X "range") (hm:X.mg "range"=none) (ha:AD X [a] f) (hs:starEach [a] X.env=[(false,eval a X.env)]:=by rfl):ID X tg (.Call (.Name "range" p) [a] [] pos) (wX wc f):=by
  obtain ⟨t,pa,r⟩:=ha
  refine ⟨_,VS hg hm pa hs,fun σ ρ F H ds R s va e q=>?_⟩
  obtain ⟨d,e1,e2⟩:=Option.bind_eq_some_iff.mp e
  refine r σ ρ F H d _ s va e1 fun F1 H1 v g1 a1=>?_
  unfold wc at e2
  split at e2
  · split at e2
    · cases e2
      rename_i hc
      obtain ⟨x,r',rfl,ax,ar⟩:=a1.cons_inv
      cases ar.nil_inv
      exact ⟨_,by rw [ax.int_inv],(yx.mp hc).1,(yx.mp hc).2,q F1 H1 _ g1 (zbr 0 _)⟩
    · cases e2
  · cases e2
theorem zdE {p:Pos} {f:Ev→Option (List D)} (hg:Gl X "range") (hm:X.mg "range"=none) (ha:AD X [a,b] f) (hs:starEach [a,b] X.env=[(false,eval a X.env),(false,eval b X.env)]:=by rfl) (hs2:starEach [b] X.env=[(false,eval b X.env)]:=by rfl) :
    ID X tg (.Call (.Name "range" p) [a,b] [] pos) (wX wv f):=by
  obtain ⟨t,pa,r⟩:=ha
  refine ⟨_,Vw hg hm pa hs hs2,fun σ ρ F H ds R s va e q=>?_⟩
  obtain ⟨d,e1,e2⟩:=Option.bind_eq_some_iff.mp e
  refine r σ ρ F H d _ s va e1 fun F1 H1 v g1 a1=>?_
  unfold wv at e2
  split at e2
  · split at e2
    · cases e2
      rename_i hc
      obtain ⟨x,r',rfl,ax,ar⟩:=a1.cons_inv
      obtain ⟨y,r',rfl,ay,ar⟩:=ar.cons_inv
      cases ar.nil_inv
      exact ⟨_,_,by rw [ax.int_inv,ay.int_inv],⟨(yx.mp hc.1).1,(yx.mp hc.1).2,(yx.mp hc.2).1,(yx.mp hc.2).2⟩,q F1 H1 _ g1 (zbr _ _)⟩
    · cases e2
  · cases e2
noncomputable def Xj (n:Nat):List D→List D
  | []=>[]
  | d::ds=>.tup [.int n,d]::Xj (n+1) ds
omit [KK] in
theorem v8 (ds:List D):∀ (n i:Nat),(Xj n ds)[i]?=(ds[i]?).map fun d=>.tup [.int ((n+i:Nat):Int),d]:=by
  induction ds with
  | nil=>intro n i;simp [Xj]
  | cons d ds ih =>
    intro n i
    cases i with
    | zero=>simp [Xj]
    | succ i =>
      show (Xj (n+1) ds)[i]?=(ds[i]?).map _
      rw [ih]
      have:n+1+i=n+(i+1):=by omega
      rw [this]
omit [KK] in
theorem ve (ds:List D):∀ n,(Xj n ds).length=ds.length:=by
  induction ds with
  | nil=>intro n;rfl
  | cons d ds ih=>intro n;simp [Xj,ih]
noncomputable def zL (f:Ev→Option (List D)):Ev→Option (List D):=fun ρ=>(f ρ).bind fun as=>match as with
  | [d]=>(yj d).map (Xj 0)
  | _=>none
theorem zal {es:List Expr} {k:Nat} {tp p:Pos} {f:Ev→Option (List D)} (hg:Gl X "enumerate") (hm:X.mg "enumerate"=none) (hb:bootBuiltins "enumerate"=some (.type "enumerate")) (ha:AD X [a] f)
    (hs:starEach [a] X.env=[(false,eval a X.env)]:=by rfl):ID X (.Tuple es k tp) (.Call (.Name "enumerate" p) [a] [] pos) (zL f):=by
  obtain ⟨t,pa,r⟩:=ha
  refine ⟨_,zgS hg hm hb pa hs,fun σ ρ F H ds R s va e q=>?_⟩
  obtain ⟨as,e1,e2⟩:=Option.bind_eq_some_iff.mp e
  refine r σ ρ F H as _ s va e1 fun F1 H1 v g1 a1=>?_
  split at e2
  · obtain ⟨x,r',rfl,ax,ar⟩:=a1.cons_inv
    cases ar.nil_inv
    obtain ⟨es,e3,rfl⟩:=Option.map_eq_some_iff.mp e2
    rename_i d
    cases d <;> try cases e3
    · obtain ⟨p,xs,rfl,hx,al⟩:=ax.tup_inv
      refine ⟨p,rfl,.inr ⟨xs,SqT.of (g1.fh _ _ hx),q F1 H1 _ g1 fun i F2 H2 s1 s2=>?_⟩⟩
      have qq:SqT X.K H2 p xs:=SqT.of (s2 _ _ (s1 _ _ hx))
      refine ⟨fun hl=>⟨xs,qq,by rw [al.length,hl,ve];exact Nat.le_refl _⟩,fun d hd=>?_⟩
      rw [v8] at hd
      obtain ⟨d',hd',rfl⟩:=Option.map_eq_some_iff.mp hd
      obtain ⟨x,hxi,ax⟩:=al.get hd'
      refine ⟨⟨xs,x,qq,hxi⟩,fun y H3 hy=>?_⟩
      obtain ⟨T,y,rfl,hT,rfl,hy⟩:=hy
      have:=hy xs qq
      rw [hxi] at this
      cases this
      have g3:=Gr.alloc s2 hT (.tup [.int i,x])
      exact ⟨_,g3,.tup zp (.cons (by rw [Nat.zero_add];exact .int) (.cons (ax.mono (s1.trans g3.ff)) .nil))⟩
    · obtain ⟨p,xs,rfl,hx,al⟩:=ax.lst_inv
      refine ⟨p,rfl,.inl ⟨xs,g1.fh _ _ hx,q F1 H1 _ g1 fun i F2 H2 s1 s2=>?_⟩⟩
      have qq:SqL X.K H2 p xs:=SqL.of (s2 _ _ (s1 _ _ hx))
      refine ⟨fun hl=>⟨xs,qq,by rw [al.length,hl,ve];exact Nat.le_refl _⟩,fun d hd=>?_⟩
      rw [v8] at hd
      obtain ⟨d',hd',rfl⟩:=Option.map_eq_some_iff.mp hd
      obtain ⟨x,hxi,ax⟩:=al.get hd'
      refine ⟨⟨xs,x,qq,hxi⟩,fun y H3 hy=>?_⟩
      obtain ⟨T,y,rfl,hT,rfl,hy⟩:=hy
      have:=hy xs qq
      rw [hxi] at this
      cases this
      have g3:=Gr.alloc s2 hT (.tup [.int i,x])
      exact ⟨_,g3,.tup zp (.cons (by rw [Nat.zero_add];exact .int) (.cons (ax.mono (s1.trans g3.ff)) .nil))⟩
  · cases e2
noncomputable def hb2 (F1 Hb:Hp):Hp:=fun p=>match F1 p with
  | some o=>some o
  | none=>Hb p
theorem Za {F1 Hb:Hp}{p:Addr}(h:F1 p=none):hb2 F1 Hb p=Hb p:=by unfold hb2;rw [h]
theorem zbv {F1 Hb:Hp}{p:Addr}{o:HO}(h:F1 p=some o):hb2 F1 Hb p=some o:=by unfold hb2;rw [h]
theorem Gr.up {Fb Hb F1 H1 F H:Hp}(g1:Gr Fb Hb F1 H1)(g:Gr F1 (hb2 F1 Hb) F H):Gr Fb Hb F H:=by
  refine ⟨g1.ff.trans g.ff,g.fh,fun p o e1 e2=>?_⟩
  rcases (g1.kp p o e1 e2).1 with n | ⟨n1,n2⟩
  · exact g.kp p o n (by rw [Za n];exact e2)
  · exact ⟨.inr ⟨n1,g.ff _ _ n2⟩,g.fh _ _ (g.ff _ _ n2)⟩
theorem Gr.dn {Fb Hb F1 F H:Hp}(g:Gr Fb Hb F H)(s1:yq Fb F1)(s:yq F1 F):Gr F1 (hb2 F1 Hb) F H:=by
  refine ⟨s,g.fh,fun p o e1 e2=>?_⟩
  rw [Za e1] at e2
  exact g.kp p o (s1.free e1) e2
theorem Rl.up {Fb Hb F1 H1 F H:Hp}{ρ:SE}{σ:St}(g1:Gr Fb Hb F1 H1)(r:Rl F1 (hb2 F1 Hb) F H ρ σ):Rl Fb Hb F H ρ σ:=by
  refine ⟨g1.up r.gr,r.vals,fun i s e ho=>?_,r.dis,r.len⟩
  obtain ⟨p,o,e1,e2,e3⟩:=r.ows i s e ho
  refine ⟨p,o,e1,?_,e3⟩
  cases h:F1 p with
  | none=>rw [Za h] at e2;exact e2
  | some o=>rw [zbv h] at e2;cases e2
theorem Rl.dn {Fb Hb F1 F H:Hp}{ρ:SE}{σ:St}(r:Rl Fb Hb F H ρ σ)(s1:yq Fb F1)(s:yq F1 F):Rl F1 (hb2 F1 Hb) F H ρ σ:=by
  refine ⟨r.gr.dn s1 s,r.vals,fun i t e ho=>?_,r.dis,r.len⟩
  obtain ⟨p,o,e1,e2,e3,e4⟩:=r.ows i t e ho
  refine ⟨p,o,e1,?_,e3,e4⟩
  rw [Za (s.free e3)]
  exact e2
noncomputable def zbh (b:D→SE→Option SE)(g:SE→Ctl):List D→SE→Ctl
  | [],ρ=>.nx ρ
  | d::ds,ρ=>match b d ρ with
    | none=>.no
    | some ρ1=>match g ρ1 with
      | .nx ρ'=>zbh b g ds ρ'
      | .ct ρ'=>zbh b g ds ρ'
      | .bk ρ'=>.nx ρ'
      | .rt d=>.rt d
      | .no=>.no
noncomputable def wA (f:Ev→Option (List D))(b:D→SE→Option SE)(g:SE→Ctl):SE→Ctl:=fun ρ=>match f (visF ρ) with
  | some ds=>zbh b g ds ρ
  | none=>.no
theorem zdr {Fb Hb F1 H1:Hp}{ρ:SE}{σ:St}{E:Wh}{J:It}{g:TG}{tb:TS}{ds:List D}{b:D→SE→Option SE}{gb:SE→Ctl}(hit:zin J F1 ds)(rg:RG g b)(rb:RS tb gb)(rl0:Rl Fb Hb F1 H1 ρ σ)(k:SOk Fb Hb E (zbh b gb ds ρ)) :
    ∃ W:Nat→Nat→St→Hp→Prop,(∃ m,W 0 m σ H1)∧∀ i m σ H,W i m σ H →
      (J.stop i H∧E.nx σ H)∨(J.go i H∧∃ N:St→Hp→Prop,(∀ σ' H',N σ' H'→∃ m',m' < m∧W (i+1) m' σ' H')∧∀ x H',J.yld i H x H'→g x σ H' fun σ2 H2=>tb { E with nx:=N,ct:=N,bk:=E.nx } σ2 H2):=by
  refine ⟨fun i m σ H=>m=ds.length - i∧i≤ds.length∧∃ F ρ,yq F1 F∧Rl Fb Hb F H ρ σ∧SOk Fb Hb E (zbh b gb (ds.drop i) ρ),⟨ds.length,by simp,Nat.zero_le _,F1,ρ,yq.refl _,rl0,k⟩,?_⟩
  rintro i m σ H ⟨rfl,hi,F,ρ,s1,rl,k⟩
  obtain ⟨stop,go⟩:=hit i F H s1 rl.gr.fh
  by_cases hlt:i < ds.length
  · have hd:ds.drop i=ds[i]::ds.drop (i+1):=List.drop_eq_getElem_cons hlt
    rw [hd] at k
    unfold zbh at k
    obtain ⟨g1,g2⟩:=go ds[i] (by simp [hlt])
    refine .inr ⟨g1,fun σ H=>∃ F ρ,yq F1 F∧Rl Fb Hb F H ρ σ∧SOk Fb Hb E (zbh b gb (ds.drop (i+1)) ρ),fun σ' H' w=>⟨ds.length - (i+1),by omega,rfl,hlt,w⟩,fun x H' hy=>?_⟩
    obtain ⟨F3,g3,a3⟩:=g2 x H' hy
    cases hb:b ds[i] ρ with
    | none=>rw [hb] at k;exact k.elim
    | some ρ1 =>
      rw [hb] at k
      dsimp only at k
      refine rg Fb Hb F3 H' ρ ρ1 σ _ x _ (rl.grow g3) a3 hb fun σ2 rl2=>?_
      have s3:=s1.trans g3.ff
      refine rb F1 (hb2 F1 Hb) F3 H' ρ1 σ2 _ (rl2.dn rl0.gr.ff s3) ?_
      cases hg:gb ρ1 with
      | nx ρ'=>rw [hg] at k;exact fun F4 H4 σ4 r4=>⟨F4,ρ',r4.gr.ff,r4.up rl0.gr,k⟩
      | ct ρ'=>rw [hg] at k;exact fun F4 H4 σ4 r4=>⟨F4,ρ',r4.gr.ff,r4.up rl0.gr,k⟩
      | bk ρ'=>rw [hg] at k;exact fun F4 H4 σ4 r4=>k F4 H4 σ4 (r4.up rl0.gr)
      | rt d=>rw [hg] at k;exact fun F4 H4 v g4 a4=>k F4 H4 v (rl0.gr.up g4) a4
      | no=>rw [hg] at k;exact k.elim
  · have e:i=ds.length:=by omega
    subst e
    rw [List.drop_length] at k
    exact .inl ⟨stop rfl,k F H σ rl⟩
theorem Wn {iter:Expr}{body:List Stmt}{f:Ev→Option (List D)}{b:D→SE→Option SE}{g:SE→Ctl}(hp:PassesOwn (model X.prog X.w) X.A X.env X.xe)(hc:X.calm=true)(hi:ID X tg iter f)(hg:BD X tg b)(hb:SDs X body g)
    (hs:∀ x,foldedSetIterable iter X.env x=pure x:=by intro _;rfl):SD X (.For tg iter body [] pos) (wA f b g):=by
  obtain ⟨wi,pi,ri⟩:=hi
  obtain ⟨tg',pg,rg⟩:=hg
  obtain ⟨tb,pb,rb⟩:=hb
  refine ⟨_,zbc hp hc pi pg pb hs,fun Fb Hb F H ρ σ E rl k=>?_⟩
  unfold wA at k
  cases h:f (visF ρ) with
  | none=>rw [h] at k;exact k.elim
  | some ds =>
    rw [h] at k
    exact ri σ _ _ H ds _ rl.gr.fh rl.visF h fun F1 H1 J g1 ok=>zdr ok rg rb (rl.grow g1) k
end
noncomputable def lcD (b:D→Option (List (Option D)))(t:Ev→Option Bool)(f:Ev→Option D)(ρ:Ev):List D→Option (List D)
  | []=>some []
  | d::ds=>(b d).bind fun own=>(t (own++ρ)).bind fun c=>if c=true then (f (own++ρ)).bind fun y=>(lcD b t f ρ ds).map (y::·) else lcD b t f ρ ds
noncomputable def fLC (i:Ev→Option (List D))(b:D→Option (List (Option D)))(t:Ev→Option Bool)(f:Ev→Option D):Ev→Option (List D):=fun ρ=>(i ρ).bind fun ds=>if lim ds.length=true then lcD b t f ρ ds else none
noncomputable def b1:D→Option (List (Option D)):=fun d=>some [some d]
noncomputable def b2:D→Option (List (Option D))
  | .tup [x,y]=>some [some x,some y]
  | _=>none
noncomputable def RB (n:Nat)(t:TG)(b:D→Option (List (Option D))):Prop:=∀ (σ:St) (ρ:Ev) (F H:Hp) (d:D) (v:V) (own:List (Option D)) (Q:St→Hp→Prop),yq F H→VAt F ρ σ→At F d v→b d=some own→(∀ σ',VAt F (own++ρ) σ'→Q σ' H)→t v (List.replicate n none++σ) H Q
noncomputable def yb:Ev→Option Bool:=fun _=>some true
theorem zfG:RT tYes yb:=fun _ _ _ _ _ _ s _ e q=>by cases e;exact q _ _ (.refl s)
theorem zeF {wi:TI}{n:Nat}{g:TG}{tt:TT}{te:TE}{fi:Ev→Option (List D)}{b:D→Option (List (Option D))}{ft:Ev→Option Bool}{fe:Ev→Option D}(ri:RI wi fi)(rg:RB n g b)(rt:RT tt ft)(re:RE te fe) :
    RF (tLC wi n g tt te) (fLC fi b ft fe):=by
  intro σ ρ F H out Q s va e q
  obtain ⟨ds,e1,e2⟩:=Option.bind_eq_some_iff.mp e
  split at e2 <;> try cases e2
  rename_i hlim
  have hlim:ds.length≤sizeLine:=of_decide_eq_true hlim
  refine ri σ ρ F H ds _ s va e1 fun F1 H1 J g1 ok=>?_
  intro P hP
  have hF1:F1 P=none:=g1.fh.free hP
  have hH0:H P=none:=by
    cases e:H P with
    | none=>rfl
    | some o =>
      cases e2:F P with
      | none=>rw [(g1.kp P o e2 e).2] at hP;cases hP
      | some u=>rw [g1.fh _ _ (g1.ff _ _ e2)] at hP;cases hP
  refine ⟨fun i m ys H2=>m=ds.length - i∧i≤ds.length∧∃ F2 done,Gr F1 H1 F2 H2∧Gr F1 (upd H1 P (.lst [])) F2 (upd H2 P (.lst []))∧F2 P=none∧H2 P=some (.lst ys)∧AtL F2 done ys∧done.length≤i∧∃ more,lcD b ft fe ρ (ds.drop i)=some more∧done++more=out,⟨ds.length,by simp,Nat.zero_le _,F1,[],Gr.hide g1.fh hP _,?_,hF1,zp,.nil,Nat.zero_le _,out,e2,rfl⟩,?_⟩
  · rw [zdl]
    exact .refl fun b u z=>by rw [zo (zk z hF1)];exact g1.fh b u z
  rintro i m ys H2 ⟨rfl,hi,F2,done,g2,g2',hF2,hH2,al,hdl,more,hm,hout⟩
  obtain ⟨stop,go⟩:=ok i F2 H2 g2.ff g2.fh
  by_cases hlt:i < ds.length
  · have hd:ds.drop i=ds[i]::ds.drop (i+1):=List.drop_eq_getElem_cons hlt
    rw [hd] at hm
    unfold lcD at hm
    obtain ⟨own,hb,hm⟩:=Option.bind_eq_some_iff.mp hm
    obtain ⟨cb,hc,hm⟩:=Option.bind_eq_some_iff.mp hm
    obtain ⟨k1,k2⟩:=go ds[i] (by simp [hlt])
    refine .inr ⟨k1,by rw [al.length];omega,fun x H3 hy=>?_⟩
    obtain ⟨F3,g3,a3⟩:=k2 x H3 hy
    refine rg σ ρ F3 H3 ds[i] x own _ g3.fh (va.mono (g1.ff.trans (g2.ff.trans g3.ff))) a3 hb fun σ4 va4=>?_
    refine rt σ4 _ F3 H3 cb _ g3.fh va4 hc fun F5 H5 g5=>?_
    have g35:=g3.trans g5
    obtain ⟨n5,h5⟩:=g35.kl (fun _ e=>by cases e) hF2 hH2
    have keep2:∀ {F6 H6:Hp} {o:HO},Gr F2 H2 F6 H6→F6 P=none→Gr F1 (upd H1 P (.lst [])) F6 (upd (upd H6 P o) P (.lst [])):=fun {F6 H6 o} g6 n6=>by
      rw [zdl]
      refine ⟨g2.ff.trans g6.ff,fun b u z=>?_,fun b u z1 z2=>?_⟩
      · rw [zo (zk z n6)];exact g6.fh b u z
      · by_cases hbP:b=P
        · subst hbP
          rw [zp] at z2 ⊢
          exact ⟨.inl n6,z2⟩
        · rw [zo hbP] at z2 ⊢
          exact (g2.trans g6).kp b u z1 z2
    have keep1:∀ {F6 H6:Hp} {o:HO},Gr F2 H2 F6 H6→F6 P=none→Gr F1 H1 F6 (upd H6 P o):=fun {F6 H6 o} g6 n6=>by
      refine ⟨g2.ff.trans g6.ff,fun b u z=>?_,fun b u z1 z2=>?_⟩
      · rw [zo (zk z n6)];exact g6.fh b u z
      · rw [zo (zk z2 hP)]
        exact (g2.trans g6).kp b u z1 z2
    cases cb with
    | false =>
      rw [if_neg Bool.false_ne_true] at hm ⊢
      have ups:H5=upd H5 P (.lst ys):=by
        funext b
        by_cases hbP:b=P
        · subst hbP;rw [zp];exact h5
        · rw [zo hbP]
      refine ⟨ds.length - (i+1),by omega,rfl,hlt,F5,done,?_,?_,n5,h5,al.mono g35.ff,by omega,more,hm,hout⟩
      · rw [ups];exact keep1 g35 n5
      · have:=keep2 (o:=.lst ys) g35 n5
        rw [←ups] at this
        exact this
    | true =>
      rw [if_pos rfl] at hm ⊢
      obtain ⟨y,hy,hm⟩:=Option.bind_eq_some_iff.mp hm
      obtain ⟨rest,hm',rfl⟩:=Option.map_eq_some_iff.mp hm
      refine re σ4 _ F5 H5 y _ g5.fh (va4.mono g5.ff) hy fun F6 H6 v g6 a6=>?_
      have g36:=g35.trans g6
      obtain ⟨n6,h6⟩:=g36.kl (fun _ e=>by cases e) hF2 hH2
      refine ⟨h6,ds.length - (i+1),by omega,rfl,hlt,F6,done++[y],keep1 g36 n6,keep2 g36 n6,n6,zp,(al.mono g36.ff).snoc a6,by rw [List.length_append];simp;omega,rest,hm',by rw [←hout,List.append_assoc];rfl⟩
  · have e:i=ds.length:=by omega
    subst e
    rw [List.drop_length] at hm
    cases hm
    rw [List.append_nil] at hout
    subst hout
    exact .inl ⟨stop rfl,q F2 H2 P ys (g1.trans g2) hH0 hF2 hH2 al⟩
theorem rb1:RB 1 (vL 0) b1:=by
  intro σ ρ F H d v own Q s va av e q
  cases e
  refine q _ fun i d' h=>?_
  cases i with
  | zero=>cases h;exact ⟨v,rfl,av⟩
  | succ i=>exact va i d' h
theorem rb2 {K:PySem.W.Frag}:RB 2 (zjp K 2 (zab (vL 0) (zab (vL 1) zjm))) b2:=by
  intro σ ρ F H d v own Q s va av e q
  unfold b2 at e
  split at e <;> cases e
  obtain ⟨p,xs,rfl,hx,al⟩:=av.tup_inv
  obtain ⟨x,r,rfl,ax,al⟩:=al.cons_inv
  obtain ⟨y,r,rfl,ay,al⟩:=al.cons_inv
  cases al.nil_inv
  refine ⟨p,_,rfl,SqT.of (s _ _ hx),rfl,x,_,rfl,y,_,rfl,rfl,?_⟩
  refine q _ fun i d' h=>?_
  match i,h with
  | 0,h=>cases h;exact ⟨x,rfl,ax⟩
  | 1,h=>cases h;exact ⟨y,rfl,ay⟩
  | i+2,h=>exact va i d' h
noncomputable def tCan (f:Ev→Option D):TE:=fun σ H Q=>∃ ρ F d,yq F H∧VAt F ρ σ∧f ρ=some d∧∀ F' H' v,Gr F H F' H'→At F' d v→Q v H'
noncomputable def ziG (f:Ev→Option Bool):TT:=fun σ H Q=>∃ ρ F d,yq F H∧VAt F ρ σ∧f ρ=some d∧∀ F' H',Gr F H F' H'→Q d H'
theorem ED.can {X:Cx}{e:Expr}{f:Ev→Option D}(h:ED X e f):PE X e (tCan f):=by
  obtain ⟨t,p,r⟩:=h
  rintro pins s σ H Q I ⟨ρ,F,d,h1,h2,h3,h4⟩
  exact p pins s σ H Q I (r σ ρ F H d Q h1 h2 h3 h4)
theorem TD.can {X:Cx}{e:Expr}{f:Ev→Option Bool}(h:TD X e f):PT X e (ziG f):=by
  obtain ⟨t,p,r⟩:=h
  rintro pins s σ H Q I ⟨ρ,F,d,h1,h2,h3,h4⟩
  exact p pins s σ H Q I (r σ ρ F H d Q h1 h2 h3 h4)
theorem za8 {f:Ev→Option D}:RE (tCan f) f:=fun _ ρ F _ d _ h1 h2 h3 h4=>⟨ρ,F,d,h1,h2,h3,h4⟩
theorem zfN {f:Ev→Option Bool}:RT (ziG f) f:=fun _ ρ F _ d _ h1 h2 h3 h4=>⟨ρ,F,d,h1,h2,h3,h4⟩
theorem zcu {X:Cx}{elt tg iter:Expr}{L M:List Str}{scope:Scope}{cl:List (Str × Addr)}{pos:Pos}{fi:Ev→Option (List D)}{b:D→Option (List (Option D))}{fe:Ev→Option D}{g:TG}
    (hc:X.calm=true) (S:xE X L M scope cl) (hi:ID X tg iter fi)
    (hgS:∀ (σ:St) (v:V) (H:Hp) (Q:St→Hp→Prop),g v (List.replicate L.length none++σ) H Q→g v (List.replicate L.length none++σ) H (fun σ2 H2=>Zt (List.replicate L.length none++σ) σ2∧Q σ2 H2))
    (hrb:RB L.length g b)
    (hg:∀ s₀ H₀ ex pn,PG (Wf X L M scope cl s₀ H₀ ex pn) tg g) (he:∀ s₀ H₀ ex pn,ED (Wf X L M scope cl s₀ H₀ ex pn) elt fe)
    (hs:∀ x,foldedSetIterable iter X.env x=pure x:=by intro _;rfl):FL X (.ListComp elt [⟨tg,iter,[],0⟩] scope pos) (fLC fi b yb fe):=by
  obtain ⟨wi,pi,ri⟩:=hi
  exact ⟨_,zf8 hc S pi hgS hg (fun _ _ _ _=>zeh) (fun _ _ _ _=>(he _ _ _ _).can) hs,zeF ri hrb zfG za8⟩
theorem zir {X:Cx}{elt tg iter c:Expr}{L M:List Str}{scope:Scope}{cl:List (Str × Addr)}{pos:Pos}{fi:Ev→Option (List D)}{b:D→Option (List (Option D))}{ft:Ev→Option Bool}{fe:Ev→Option D}{g:TG}
    (hc:X.calm=true) (S:xE X L M scope cl) (hi:ID X tg iter fi)
    (hgS:∀ (σ:St) (v:V) (H:Hp) (Q:St→Hp→Prop),g v (List.replicate L.length none++σ) H Q→g v (List.replicate L.length none++σ) H (fun σ2 H2=>Zt (List.replicate L.length none++σ) σ2∧Q σ2 H2))
    (hrb:RB L.length g b)
    (hg:∀ s₀ H₀ ex pn,PG (Wf X L M scope cl s₀ H₀ ex pn) tg g) (ht:∀ s₀ H₀ ex pn,TD (Wf X L M scope cl s₀ H₀ ex pn) c ft) (he:∀ s₀ H₀ ex pn,ED (Wf X L M scope cl s₀ H₀ ex pn) elt fe)
    (hs:∀ x,foldedSetIterable iter X.env x=pure x:=by intro _;rfl):FL X (.ListComp elt [⟨tg,iter,[c],0⟩] scope pos) (fLC fi b ft fe):=by
  obtain ⟨wi,pi,ri⟩:=hi
  exact ⟨_,zf8 hc S pi hgS hg (fun _ _ _ _=>zdB (ht _ _ _ _).can) (fun _ _ _ _=>(he _ _ _ _).can) hs,zeF ri hrb zfN za8⟩
theorem zi4 {t:TE}{f:Ev→Option (List D)}(r:RF t f):RE t (xr f):=by
  intro σ ρ F H d Q s va e q
  obtain ⟨ds,e1,rfl⟩:=Option.map_eq_some_iff.mp e
  refine r σ ρ F H ds Q s va e1 fun F' H' p xs g h0 hF hH hx=>?_
  have g2:=g.show h0 hF hH
  exact q _ _ _ g2 (At.lst zp (hx.mono (fun b u e=>by rw [zo (zk e hF)];exact e)))
noncomputable def FLS (X:Cx)(i:Nat)(st:Stmt)(f:Ev→Option (List D)):Prop:=∃ t,PS X st (ze5 t (vL i))∧RF t f
theorem zaj {m:Bool}{i:Nat}{st:Stmt}{f:Ev→Option (List D)}(he:FLS X i st f):SD X st (yG m i (xr f)):=by
  obtain ⟨t,p,r⟩:=he
  refine ⟨_,p,fun Fb Hb F H ρ σ E rl k=>?_⟩
  unfold yG at k
  cases h:vEv m (xr f) ρ with
  | none=>rw [h] at k;exact k.elim
  | some d =>
    rw [h] at k
    exact (zi4 r).at rl h fun F' H' v g av=>k F' H' _ ((rl.grow g).set av)
theorem zgU {i:Nat}{x:Str}{px spos:Pos}{X:Cx}{elt tg iter:Expr}{L M:List Str}{scope:Scope}{cl:List (Str × Addr)}{pos:Pos}{fi:Ev→Option (List D)}{b:D→Option (List (Option D))}{fe:Ev→Option D}{g:TG}
    (hN:X.N.Nodup) (hi':X.N[i]?=some x) (hx:Loc X.env.scope x) (hc:X.calm=true) (S:xE X L M scope cl) (hi:ID X tg iter fi)
    (hgS:∀ (σ:St) (v:V) (H:Hp) (Q:St→Hp→Prop),g v (List.replicate L.length none++σ) H Q→g v (List.replicate L.length none++σ) H (fun σ2 H2=>Zt (List.replicate L.length none++σ) σ2∧Q σ2 H2))
    (hrb:RB L.length g b)
    (hg:∀ s₀ H₀ ex pn,PG (Wf X L M scope cl s₀ H₀ ex pn) tg g) (he:∀ s₀ H₀ ex pn,ED (Wf X L M scope cl s₀ H₀ ex pn) elt fe)
    (hs:∀ x,foldedSetIterable iter X.env x=pure x:=by intro _;rfl)
    (hsw:swapsWith (.ListComp elt [⟨tg,iter,[],0⟩] scope pos) (some (.Name x px)) spos.line X.env=pure true:=by rfl)
    (hf:X.fn x=true∨X.env.scope.names.lookup x=some .local:=by first | exact .inl rfl | exact .inr rfl | assumption):FLS X i (.Assign [.Name x px] (.ListComp elt [⟨tg,iter,[],0⟩] scope pos) spos) (fLC fi b yb fe):=by
  obtain ⟨wi,pi,ri⟩:=hi
  exact ⟨_,zf9 hN hi' hx hc S pi hgS hg (fun _ _ _ _=>zeh) (fun _ _ _ _=>(he _ _ _ _).can) hs hsw hf,zeF ri hrb zfG za8⟩
theorem zcR {i:Nat}{x:Str}{px spos:Pos}{X:Cx}{elt tg iter c:Expr}{L M:List Str}{scope:Scope}{cl:List (Str × Addr)}{pos:Pos}{fi:Ev→Option (List D)}{b:D→Option (List (Option D))}{ft:Ev→Option Bool}{fe:Ev→Option D}{g:TG}
    (hN:X.N.Nodup) (hi':X.N[i]?=some x) (hx:Loc X.env.scope x) (hc:X.calm=true) (S:xE X L M scope cl) (hi:ID X tg iter fi)
    (hgS:∀ (σ:St) (v:V) (H:Hp) (Q:St→Hp→Prop),g v (List.replicate L.length none++σ) H Q→g v (List.replicate L.length none++σ) H (fun σ2 H2=>Zt (List.replicate L.length none++σ) σ2∧Q σ2 H2))
    (hrb:RB L.length g b)
    (hg:∀ s₀ H₀ ex pn,PG (Wf X L M scope cl s₀ H₀ ex pn) tg g) (ht:∀ s₀ H₀ ex pn,TD (Wf X L M scope cl s₀ H₀ ex pn) c ft) (he:∀ s₀ H₀ ex pn,ED (Wf X L M scope cl s₀ H₀ ex pn) elt fe)
    (hs:∀ x,foldedSetIterable iter X.env x=pure x:=by intro _;rfl)
    (hsw:swapsWith (.ListComp elt [⟨tg,iter,[c],0⟩] scope pos) (some (.Name x px)) spos.line X.env=pure true:=by rfl)
    (hf:X.fn x=true∨X.env.scope.names.lookup x=some .local:=by first | exact .inl rfl | exact .inr rfl | assumption):FLS X i (.Assign [.Name x px] (.ListComp elt [⟨tg,iter,[c],0⟩] scope pos) spos) (fLC fi b ft fe):=by
  obtain ⟨wi,pi,ri⟩:=hi
  exact ⟨_,zf9 hN hi' hx hc S pi hgS hg (fun _ _ _ _=>zdB (ht _ _ _ _).can) (fun _ _ _ _=>(he _ _ _ _).can) hs hsw hf,zeF ri hrb zfN za8⟩
noncomputable def fnD (n:Nat)(g:SE→Ctl)(ds:List D):Option D:=match g (ds.map .v++List.replicate (n - ds.length) .no) with
  | .rt d=>some d
  | .nx _=>some .non
  | _=>none
noncomputable def spD (m:Nat)(p:List D→Option D):Sp:=fun vs H Q _=>∃ ds d F,ds.length=m∧yq F H∧AtL F ds vs∧p ds=some d∧∀ F' H' v,Gr F H F' H'→At F' d v→Q v H'
theorem Xa {F H:Hp}{N:List Str}{ds:List D}{vs:List V}(s:yq F H)(a:AtL F ds vs):Rl F H F H (ds.map .v++List.replicate (N.length - ds.length) .no) (L2.start N vs):=by
  have hl:=a.length
  have noO:∀ (i:Nat) (t:Sl),(ds.map Sl.v++List.replicate (N.length - ds.length) Sl.no)[i]?=some t→t.isO=true→False:=fun i t h ho=>by
    by_cases hi:i < ds.length
    · rw [List.getElem?_append_left (by simpa using hi),List.getElem?_map] at h
      cases e:ds[i]? with
      | none=>rw [e] at h;cases h
      | some d=>rw [e] at h;cases h;cases ho
    · rw [List.getElem?_append_right (by simpa using hi),List.getElem?_replicate] at h
      split at h <;> cases h
      cases ho
  refine ⟨.refl s,fun i d h=>?_,fun i t h ho=>(noO i t h ho).elim,fun i j p t u h _ ho=>(noO i t h ho).elim,?_⟩
  · by_cases hi:i < ds.length
    · rw [List.getElem?_append_left (by simpa using hi),List.getElem?_map] at h
      cases e:ds[i]? with
      | none=>rw [e] at h;cases h
      | some d' =>
        rw [e] at h
        cases h
        obtain ⟨x,hx,ax⟩:=a.get e
        refine ⟨x,?_,ax⟩
        unfold L2.start
        rw [List.getElem?_append_left (by simpa [hl] using hi),List.getElem?_map,hx]
        rfl
    · rw [List.getElem?_append_right (by simpa using hi),List.getElem?_replicate] at h
      split at h <;> cases h
  · unfold L2.start
    simp [hl]
theorem xU {P:Program}{w:World}{K:PySem.W.Frag}{mg:Str→Option Value}{base:Heap}{x qual:Str}{st:Stmt}{f:Addr}{fd:FuncData}{N ps:List Str}{k:Nat}{g:SE→Ctl}(Fu:Fun K x qual st f fd)(S:zA N ps (ze st))
    (hb:∀ (cdv:Value) (A:Around) (outer:List Env) (s:Shared) (H:Hp) (E:XK),vN k (A.deeper (PyProof.Rows.envOfC qual (ze st) s.heap.objs.size f cdv))→SDs (Y2 CX0 P w K mg base N qual (ze st) f cdv A outer s H E).nox (zy st) g) :
    xk P w K mg base CX0 (k+1) f fd ps (spD ps.length (fnD N.length g)):=by
  refine Fu.ok S (fun vs H Q E h=>?_) fun cdv A outer s H vs Q E hr h=>?_
  · obtain ⟨ds,d,F,hl,_,a,_⟩:=h
    rw [a.length];exact hl
  · obtain ⟨ds,d,F,hl,sm,a,e,q⟩:=h
    obtain ⟨t,p,r⟩:=hb cdv A outer s H E hr
    refine ⟨t,p,r F H F H _ _ _ (Xa sm a) ?_⟩
    unfold fnD at e
    cases hg:g (ds.map .v++List.replicate (N.length - ds.length) .no) with
    | rt d'=>rw [hg] at e;cases e;exact fun F' H' v g av=>q F' H' v g av
    | nx ρ=>rw [hg] at e;cases e;exact fun F' H' σ rl=>q F' H' _ rl.gr .non
    | bk ρ=>rw [hg] at e;cases e
    | ct ρ=>rw [hg] at e;cases e
    | no=>rw [hg] at e;cases e
theorem w8 {P:Program}{w:World}{K:PySem.W.Frag}{mg:Str→Option Value}{base:Heap}{f:Addr}{fd:FuncData}{ps:List Str}{k m:Nat}{p q:List D→Option D}(F:xk P w K mg base CX0 k f fd ps (spD m p))(h:∀ ds d,ds.length=m→q ds=some d→p ds=some d):xk P w K mg base CX0 k f fd ps (spD m q) :=
  F.imp fun vs H Q E ⟨ds,d,F',h1,h2,h3,h4,h5⟩=>⟨ds,d,F',h1,h2,h3,h ds d h1 h4,h5⟩
noncomputable def zq (m:Nat)(p:List D→Option D)(f:Ev→Option (List D)):Ev→Option D:=fun ρ=>(f ρ).bind fun ds=>if ds.length=m then p ds else none
theorem zu {X:Cx}{x:Str}{k m:Nat}{f:Addr}{fd:FuncData}{ps:List Str}{p:List D→Option D}{e:Expr}{es:List Expr}{pp pos:Pos}{fa:Ev→Option (List D)}(F:xk X.prog X.w X.K X.mg X.base CX0 k f fd ps (spD m p))(hr:vN k X.A)(hg:Gl X x)(hm:X.mg x=some (.ref f))(hk:PySem.W.keepIn X.K (.ref f)=true)(hb:Zr X.K fd ps [])
    (ha:AD X (e::es) fa) (hdb:(x == ("__debug__":Str))=false:=by decide) (he:starEach (e::es) X.env=(false,eval e X.env)::starEach es X.env:=by rfl) (hpl:(backTo pos (starEach es X.env)).any (·.1)=false:=by rfl) :
    ED X (.Call (.Name x pp) (e::es) [] pos) (zq m p fa):=by
  obtain ⟨t,pa,r⟩:=ha
  refine ⟨_,WO F hr hg hm hk hb .nil zgO pa hdb he hpl,fun σ ρ F0 H d Q s va e q=>?_⟩
  obtain ⟨ds,e1,e2⟩:=Option.bind_eq_some_iff.mp e
  split at e2 <;> try cases e2
  rename_i hl
  refine r σ ρ F0 H ds _ s va e1 fun F1 H1 vs g1 a1=>?_
  refine ⟨ds,d,F1,hl,g1.fh,by rw [List.append_nil];exact a1,e2,fun F' H' v g av=>q F' H' v (g1.trans g) av⟩
end Dl
namespace Dl
open PySem L2
variable [KK]
section
variable {X:Cx}{a b c e:Expr}{pos:Pos}
theorem zC:bootBuiltins "isinstance"=some (.builtin "isinstance"):=by decide +kernel
theorem YJ:bootBuiltins "len"=some (.builtin "len"):=by decide +kernel
theorem zf4:bootBuiltins "min"=some (.builtin "min"):=by decide +kernel
theorem ziB:bootBuiltins "max"=some (.builtin "max"):=by decide +kernel
theorem zdK:bootBuiltins "sorted"=some (.builtin "sorted"):=by decide +kernel
theorem ziv:bootBuiltins "sum"=some (.builtin "sum"):=by decide +kernel
theorem zh6:bootBuiltins "all"=some (.builtin "all"):=by decide +kernel
theorem zdb:bootBuiltins "int"=some (.type "int"):=by decide +kernel
theorem W4:bootBuiltins "bool"=some (.type "bool"):=by decide +kernel
theorem xv:bootBuiltins "tuple"=some (.type "tuple"):=by decide +kernel
theorem WB:bootBuiltins "list"=some (.type "list"):=by decide +kernel
theorem zfL:bootBuiltins "str"=some (.type "str"):=by decide +kernel
theorem Yl:bootBuiltins "enumerate"=some (.type "enumerate"):=by decide +kernel
theorem zhZ:bootBuiltins "zip"=some (.type "zip"):=by decide +kernel
noncomputable def vi (C:Int→Int→Bool)(g:Int→Int→Int):D→D→Option D
  | .int i,.int j=>if C i j=true then some (.int (g i j)) else none
  | _,_=>none
noncomputable def yB (g:Int→Int→Int):D→D→Option D
  | .int i,.int j=>some (.int (g i j))
  | _,_=>none
noncomputable def vn (g:Int→Int→Bool):D→D→Option D
  | .int i,.int j=>some (.bl (g i j))
  | _,_=>none
theorem Z9 {C:Int→Int→Prop}{Cb:Int→Int→Bool}{g:Int→Int→Int}(h:∀ i j,Cb i j=true→C i j):OpD (rI C fun i j=>.int (g i j)) (vi Cb g):=by
  intro F H x y d e z Q s ax ay ez q
  cases d <;> try cases ez
  cases e <;> try cases ez
  unfold vi at ez
  dsimp only at ez
  split at ez <;> cases ez
  rename_i hc
  exact ⟨_,_,ax.int_inv,ay.int_inv,h _ _ hc,q F H _ (.refl s) .int⟩
theorem V2 {g:Int→Int→Int}:OpD (rI0 fun i j=>.int (g i j)) (yB g):=by
  intro F H x y d e z Q s ax ay ez q
  cases d <;> try cases ez
  cases e <;> try cases ez
  exact ⟨_,_,ax.int_inv,ay.int_inv,q F H _ (.refl s) .int⟩
theorem xP {g:Int→Int→Bool}:OpD (rI0 fun i j=>.bl (g i j)) (vn g):=by
  intro F H x y d e z Q s ax ay ez q
  cases d <;> try cases ez
  cases e <;> try cases ez
  exact ⟨_,_,ax.int_inv,ay.int_inv,q F H _ (.refl s) .bl⟩
theorem VQ {r r':R2}{g g':D→D→Option D}(h:OpD r g)(h':OpD r' g'):OpD (fun x y H Q=>r x y H Q∨r' x y H Q) (fun d e=>(g d e).or (g' d e)):=by
  intro F H x y d e z Q s ax ay ez q
  dsimp only at ez
  cases hg:g d e with
  | some z'=>rw [hg] at ez;cases ez;exact .inl (h F H x y d e z Q s ax ay hg q)
  | none=>rw [hg] at ez;exact .inr (h' F H x y d e z Q s ax ay ez q)
noncomputable def zi9:D→D→Option D
  | .tup a,.tup b=>if lim (a.length+b.length)=true then some (.tup (a++b)) else none
  | _,_=>none
noncomputable def zct:D→D→Option (List D)
  | .lst a,.lst b=>if lim (a.length+b.length)=true then some (a++b) else none
  | _,_=>none
noncomputable def zdt (d e:D):Option D:=(zct d e).map .lst
noncomputable def zjf:D→D→Option D
  | .str a,.str b=>if lim (a.length+b.length)=true then some (.str (a++b)) else none
  | _,_=>none
theorem ze3 {K:PySem.W.Frag}:OpD (zga K) zi9:=by
  intro F H x y d e z Q s ax ay ez q
  cases d <;> try cases ez
  cases e <;> try cases ez
  unfold zi9 at ez
  dsimp only at ez
  split at ez <;> cases ez
  rename_i hl
  obtain ⟨p,xs,rfl,hx,al⟩:=ax.tup_inv
  obtain ⟨p2,ys,rfl,hy,bl⟩:=ay.tup_inv
  refine ⟨p,p2,xs,ys,rfl,rfl,SqT.of (s _ _ hx),SqT.of (s _ _ hy),by rw [al.length,bl.length];exact of_decide_eq_true hl,fun e1=>?_,fun _ e2=>?_,fun _ _ r hr=>?_⟩
  · subst e1
    have:(_:List D)=[]:=List.length_eq_zero_iff.mp al.length.symm
    subst this
    exact q F H _ (.refl s) (.tup hy bl)
  · subst e2
    have:(_:List D)=[]:=List.length_eq_zero_iff.mp bl.length.symm
    subst this
    rw [List.append_nil] at q
    exact q F H _ (.refl s) (.tup hx al)
  · have g:=Gr.alloc s hr (.tup (xs++ys))
    exact q _ _ _ g (.tup zp ((al.append bl).mono g.ff))
theorem zfC:OpD zjG zdt:=by
  intro F H x y d e z Q s ax ay ez q
  cases d <;> try cases ez
  cases e <;> try cases ez
  unfold zdt zct at ez
  dsimp only at ez
  split at ez <;> cases ez
  rename_i hl
  obtain ⟨p,xs,rfl,hx,al⟩:=ax.lst_inv
  obtain ⟨p2,ys,rfl,hy,bl⟩:=ay.lst_inv
  refine ⟨p,p2,xs,ys,rfl,rfl,s _ _ hx,s _ _ hy,by rw [al.length,bl.length];exact of_decide_eq_true hl,fun r hr=>?_⟩
  have g:=Gr.alloc s hr (.lst (xs++ys))
  exact q _ _ _ g (.lst zp ((al.append bl).mono g.ff))
theorem ze2:OpD (fun x y H Q=>∃ i j,x=.str i∧y=.str j∧i.length+j.length≤sizeLine∧Q (.str (i++j)) H) zjf:=by
  intro F H x y d e z Q s ax ay ez q
  cases d <;> try cases ez
  cases e <;> try cases ez
  unfold zjf at ez
  dsimp only at ez
  split at ez <;> cases ez
  rename_i hl
  exact ⟨_,_,ax.str_inv,ay.str_inv,of_decide_eq_true hl,q F H _ (.refl s) .str⟩
noncomputable def wC:D→D→Option D
  | .int i,.int j=>some (.int (i+j))
  | .tup a,.tup b=>if lim (a.length+b.length)=true then some (.tup (a++b)) else none
  | .lst a,.lst b=>if lim (a.length+b.length)=true then some (.lst (a++b)) else none
  | .str a,.str b=>if lim (a.length+b.length)=true then some (.str (a++b)) else none
  | _,_=>none
theorem zaU {r:R2}{g g':D→D→Option D}(h:OpD r g)(k:∀ d e z,g' d e=some z→g d e=some z):OpD r g':=fun F H x y d e z Q s ax ay ez q=>h F H x y d e z Q s ax ay (k d e z ez) q
theorem yS {f h:Ev→Option D}(ha:ED X a f)(hb:ED X b h):ED X (.BinOp a .Add b pos) (zm wC f h) :=
  Wj (((zhF.or zfg).or zbu).or zcd) (zaU (VQ (VQ (VQ (V2 (g:=fun i j=>i+j)) ze3) zfC) ze2) fun d e z h=>by
    cases d <;> try cases h
    all_goals cases e <;> try cases h
    · rfl
    · unfold wC at h;dsimp only at h;split at h <;> cases h;rename_i hl;simp [yB,zi9,hl,zdt,zct,zjf]
    · unfold wC at h;dsimp only at h;split at h <;> cases h;rename_i hl;simp [yB,zi9,hl,zdt,zct,zjf]
    · unfold wC at h;dsimp only at h;split at h <;> cases h;rename_i hl;simp [yB,zi9,hl,zdt,zct,zjf]) ha hb
theorem zaA {F H F1 H1:Hp}{p:Addr}(g1:Gr F H F1 H1)(hp:H1 p=none):H p=none:=by
  cases e:H p with
  | none=>rfl
  | some o =>
    cases e2:F p with
    | none=>rw [(g1.kp p o e2 e).2] at hp;cases hp
    | some u=>rw [g1.fh _ _ (g1.ff _ _ e2)] at hp;cases hp
noncomputable def XC (i j:Int):Bool:=decide ((-(2 ^ 64) < i∧i < 2 ^ 64)∨(-(2 ^ 64) < j∧j < 2 ^ 64))
noncomputable def zka:D→D→Option (List D)
  | .lst a,.int k=>if -(2 ^ 63)≤k∧k < 2 ^ 63∧lim (a.length*k.toNat)=true then some (List.replicate k.toNat a).flatten else none
  | _,_=>none
noncomputable def zfq (d e:D):Option D:=(zka d e).map .lst
noncomputable def x9:D→D→Option D
  | .int i,.int j=>if XC i j=true then some (.int (i*j)) else none
  | .lst a,.int k=>if -(2 ^ 63)≤k∧k < 2 ^ 63∧lim (a.length*k.toNat)=true then some (.lst (List.replicate k.toNat a).flatten) else none
  | _,_=>none
theorem zeu:OpD rRep zfq:=by
  intro F H x y d e z Q s ax ay ez q
  cases d <;> try cases ez
  cases e <;> try cases ez
  unfold zfq zka at ez
  dsimp only at ez
  split at ez <;> cases ez
  rename_i hl
  obtain ⟨p,xs,rfl,hx,al⟩:=ax.lst_inv
  refine ⟨p,_,xs,rfl,ay.int_inv,s _ _ hx,hl.1,hl.2.1,by rw [al.length];exact of_decide_eq_true hl.2.2,fun r hr=>?_⟩
  rename_i ds k
  have g:=Gr.alloc s hr (.lst (List.replicate k.toNat xs).flatten)
  exact q _ _ _ g (.lst zp ((al.rep _).mono g.ff))
theorem Wk {f h:Ev→Option D}(ha:ED X a f)(hb:ED X b h):ED X (.BinOp a .Mult b pos) (zm x9 f h) :=
  Wj (ziS.or ziK) (zaU (VQ (Z9 (Cb:=XC) (g:=fun i j=>i*j) fun i j h=>by have h':=of_decide_eq_true (show decide ((-(2 ^ 64) < i∧i < 2 ^ 64)∨(-(2 ^ 64) < j∧j < 2 ^ 64))=true from h);exact h') zeu) fun d e z h=>by
    cases d <;> try cases h
    all_goals cases e <;> try cases h
    · unfold x9 at h;dsimp only at h;split at h <;> cases h;rename_i hl;simp [vi,hl]
    · unfold x9 at h;dsimp only at h;split at h <;> cases h;rename_i hl;show (zfq _ _)=_;unfold zfq zka;dsimp only;rw [if_pos hl];rfl) ha hb
noncomputable def wW:=yB fun i j=>i - j
noncomputable def zV:=vi (fun _ j=>decide (0 < j∧j < 1606938044258990275541962092341162602522202993782792835301376)) fun i j=>i / j
noncomputable def yH:=vi (fun _ j=>decide (0 < j)) fun i j=>i % j
noncomputable def zhu:=vi (fun _ j=>decide (0≤j)) fun i j=>i / 2 ^ j.toNat
theorem VG {f h:Ev→Option D}(ha:ED X a f)(hb:ED X b h):ED X (.BinOp a .Sub b pos) (zm wW f h):=Wj zhG V2 ha hb
theorem zfi:OpR X (binaryOp .FloorDiv) (rI (fun _ j=>0 < j∧j < 1606938044258990275541962092341162602522202993782792835301376) fun i j=>.int (i / j)):=opI fun i j _ _ _ _ _ hc q=>by
  have h1:(0:Int) < j:=hc.1
  have h2:j < 1606938044258990275541962092341162602522202993782792835301376:=hc.2
  refine PyProof.Rows.floordiv_int (by omega) (by rw [Int.fdiv_eq_ediv_of_nonneg i (by omega)];exact q) (.inl (PyProof.noPylong_of_log2 ?_))
  have h0:j.natAbs≠0:=by omega
  have h3:j.natAbs < 1606938044258990275541962092341162602522202993782792835301376:=by omega
  have h4:j.natAbs.log2 < 200:=(Nat.log2_lt h0).mpr h3
  omega
theorem YY {f h:Ev→Option D}(ha:ED X a f)(hb:ED X b h):ED X (.BinOp a .FloorDiv b pos) (zm zV f h):=Wj zfi (Z9 fun _ _ h=>by have h':=of_decide_eq_true h;exact h') ha hb
theorem xB {f h:Ev→Option D}(ha:ED X a f)(hb:ED X b h):ED X (.BinOp a .Mod b pos) (zm yH f h):=Wj zjc (Z9 fun _ _ h=>by have h':=of_decide_eq_true h;exact h') ha hb
theorem zim {f h:Ev→Option D}(ha:ED X a f)(hb:ED X b h):ED X (.BinOp a .RShift b pos) (zm zhu f h):=Wj zhw (Z9 fun _ _ h=>by have h':=of_decide_eq_true h;exact h') ha hb
noncomputable def ltD:=vn fun i j=>decide (i < j)
noncomputable def leD:=vn fun i j=>decide (i≤j)
noncomputable def gtD:=vn fun i j=>decide (j < i)
noncomputable def geD:=vn fun i j=>decide (j≤i)
noncomputable def eqS:D→D→Option Bool
  | .non,.non=>some true
  | .int i,.int j=>some (decide (i=j))
  | .bl i,.bl j=>some (decide (i=j))
  | .str i,.str j=>some (decide (i=j))
  | .non,.int _=>some false | .int _,.non=>some false | .non,.bl _=>some false | .bl _,.non=>some false | .non,.str _=>some false | .str _,.non=>some false
  | .int _,.str _=>some false | .str _,.int _=>some false | .bl _,.str _=>some false | .str _,.bl _=>some false
  | _,_=>none
noncomputable def eqD (d e:D):Option D:=(eqS d e).map .bl
noncomputable def neD (d e:D):Option D:=(eqS d e).map fun c=>.bl (!c)
theorem zfI:OpD rEq eqD:=by
  intro F H x y d e z Q s ax ay ez q
  obtain ⟨c,e1,rfl⟩:=Option.map_eq_some_iff.mp ez
  cases d <;> cases e <;> try cases e1
  · cases ax.non_inv;cases ay.non_inv;exact ⟨rfl,q F H _ (.refl s) .bl⟩
  · cases ax.non_inv;cases ay.bl_inv;exact ⟨rfl,q F H _ (.refl s) .bl⟩
  · cases ax.non_inv;cases ay.int_inv;exact ⟨rfl,q F H _ (.refl s) .bl⟩
  · cases ax.non_inv;cases ay.str_inv;exact ⟨rfl,q F H _ (.refl s) .bl⟩
  · cases ax.bl_inv;cases ay.non_inv;exact ⟨rfl,q F H _ (.refl s) .bl⟩
  · cases ax.bl_inv;cases ay.bl_inv;refine ⟨rfl,?_⟩;rw [show ∀ i j:Bool,decide (V.bl i=V.bl j)=decide (i=j) from fun i j=>by simp];exact q F H _ (.refl s) .bl
  · cases ax.bl_inv;cases ay.str_inv;exact ⟨rfl,q F H _ (.refl s) .bl⟩
  · cases ax.int_inv;cases ay.non_inv;exact ⟨rfl,q F H _ (.refl s) .bl⟩
  · cases ax.int_inv;cases ay.int_inv;refine ⟨rfl,?_⟩;rw [show ∀ i j:Int,decide (V.int i=V.int j)=decide (i=j) from fun i j=>by simp];exact q F H _ (.refl s) .bl
  · cases ax.int_inv;cases ay.str_inv;exact ⟨rfl,q F H _ (.refl s) .bl⟩
  · cases ax.str_inv;cases ay.non_inv;exact ⟨rfl,q F H _ (.refl s) .bl⟩
  · cases ax.str_inv;cases ay.bl_inv;exact ⟨rfl,q F H _ (.refl s) .bl⟩
  · cases ax.str_inv;cases ay.int_inv;exact ⟨rfl,q F H _ (.refl s) .bl⟩
  · cases ax.str_inv;cases ay.str_inv;refine ⟨rfl,?_⟩;rw [show ∀ i j:Str,decide (V.str i=V.str j)=decide (i=j) from fun i j=>by simp];exact q F H _ (.refl s) .bl
theorem ZN:OpD rNe neD:=by
  intro F H x y d e z Q s ax ay ez q
  obtain ⟨c,e1,rfl⟩:=Option.map_eq_some_iff.mp ez
  have:=zfI F H x y d e (.bl c) (fun v H'=>∃ b,v=.bl b∧Q (.bl (!b)) H') s ax ay (by unfold eqD;rw [e1];rfl) fun F' H' v g av=>⟨c,av.bl_inv,q F' H' _ g .bl⟩
  obtain ⟨h1,b,h2,h3⟩:=this
  cases h2
  exact ⟨h1,h3⟩
noncomputable def vo:D→D→Option D
  | d,.non=>some (.bl (match d with | .non=>true | _=>false))
  | .bl a,.bl b=>some (.bl (a == b))
  | _,_=>none
noncomputable def zz:D→D→Option D
  | d,.non=>some (.bl (match d with | .non=>false | _=>true))
  | .bl a,.bl b=>some (.bl (!(a == b)))
  | _,_=>none
theorem zc0 {F:Hp}{d:D}{x:V}(h:At F d x):decide (x=V.non)=(match d with | .non=>true | _=>false):=by
  cases d with
  | non=>cases h.non_inv;rfl
  | bl b=>cases h.bl_inv;rfl
  | int b=>cases h.int_inv;rfl
  | str b=>cases h.str_inv;rfl
  | tup ds=>obtain ⟨a,xs,rfl,_⟩:=h.tup_inv;rfl
  | lst ds=>obtain ⟨a,xs,rfl,_⟩:=h.lst_inv;rfl
  | scr ds=>obtain ⟨a,rfl,_⟩:=h.scr_inv;rfl
  | dct z t ks vs=>obtain ⟨a,xs,rfl,_⟩:=h.dct_inv;rfl
theorem zea:OpD (fun x y H Q=>(y=.non∧Q (.bl (decide (x=.non))) H)∨∃ i j,x=.bl i∧y=.bl j∧Q (.bl (i == j)) H) vo:=by
  intro F H x y d e z Q s ax ay ez q
  unfold vo at ez
  split at ez
  · cases ez
    refine .inl ⟨ay.non_inv,?_⟩
    rw [zc0 ax]
    have:=q F H _ (.refl s) .bl
    cases d <;> exact this
  · cases ez
    exact .inr ⟨_,_,ax.bl_inv,ay.bl_inv,q F H _ (.refl s) .bl⟩
  · cases ez
theorem zb6:OpD (fun x y H Q=>(y=.non∧Q (.bl (!decide (x=.non))) H)∨∃ i j,x=.bl i∧y=.bl j∧Q (.bl (!(i == j))) H) zz:=by
  intro F H x y d e z Q s ax ay ez q
  unfold zz at ez
  split at ez
  · cases ez
    refine .inl ⟨ay.non_inv,?_⟩
    rw [zc0 ax]
    have:=q F H _ (.refl s) .bl
    cases d <;> exact this
  · cases ez
    exact .inr ⟨_,_,ax.bl_inv,ay.bl_inv,q F H _ (.refl s) .bl⟩
  · cases ez
theorem zf0:OpR X (compareOp .Is) (fun x y H Q=>(y=.non∧Q (.bl (decide (x=.non))) H)∨∃ i j,x=.bl i∧y=.bl j∧Q (.bl (i == j)) H):=zhL.or zfy
theorem Vs:OpR X (compareOp .IsNot) (fun x y H Q=>(y=.non∧Q (.bl (!decide (x=.non))) H)∨∃ i j,x=.bl i∧y=.bl j∧Q (.bl (!(i == j))) H):=zgx.or zaT
noncomputable def zP (g g':D→D→Option D)(f h k:Ev→Option D):Ev→Option D:=fun ρ=>(f ρ).bind fun x=>(h ρ).bind fun y=>((g x y).bind asB).bind fun c=>if c=true then (k ρ).bind fun z=>g' y z else some (.bl false)
theorem zeY {r r':R2}{g g':D→D→Option D}{ta tb tc:TE}{f h k:Ev→Option D}(hg:OpD r g)(hg':OpD r' g')(ra:RE ta f)(rb:RE tb h)(rc:RE tc k):RE (zdL r r' ta tb tc) (zP g g' f h k):=by
  intro σ ρ F H z Q s va e q
  obtain ⟨x,e1,e⟩:=Option.bind_eq_some_iff.mp e
  obtain ⟨y,e2,e⟩:=Option.bind_eq_some_iff.mp e
  obtain ⟨c,e3,e⟩:=Option.bind_eq_some_iff.mp e
  obtain ⟨cd,e3,e4⟩:=Option.bind_eq_some_iff.mp e3
  cases Z4 e4
  refine ra σ ρ F H x _ s va e1 fun F1 H1 v g1 a1=>?_
  refine rb σ ρ F1 H1 y _ g1.fh (va.mono g1.ff) e2 fun F2 H2 u g2 a2=>?_
  refine hg F2 H2 v u x y _ _ g2.fh (a1.mono g2.ff) a2 e3 fun F3 H3 w g3 a3=>⟨c,a3.bl_inv,?_⟩
  have g123:=(g1.trans g2).trans g3
  cases c with
  | true =>
    rw [if_pos rfl] at e ⊢
    obtain ⟨z',e5,e6⟩:=Option.bind_eq_some_iff.mp e
    refine rc σ ρ F3 H3 z' _ g3.fh (va.mono g123.ff) e5 fun F4 H4 w4 g4 a4=>?_
    exact hg' F4 H4 u w4 y z' z Q g4.fh (a2.mono (g3.ff.trans g4.ff)) a4 e6 fun F5 H5 w5 g5 a5=>q F5 H5 w5 ((g123.trans g4).trans g5) a5
  | false =>
    rw [if_neg Bool.false_ne_true] at e ⊢
    cases e
    exact q F3 H3 _ g123 .bl
theorem zfz {op op':CmpOp}{r r':R2}{g g':D→D→Option D}{f h k:Ev→Option D}(ho:OpR X (compareOp op) r)(ho':OpR X (compareOp op') r')(hg:OpD r g)(hg':OpD r' g')(ha:ED X a f)(hb:ED X b h)(hc:ED X c k)
    (pch:∀ {ta tb tc:TE},PE X a ta→PE X b tb→PE X c tc→PE X (.Compare a [op,op'] [b,c] pos) (zdL r r' ta tb tc)):ED X (.Compare a [op,op'] [b,c] pos) (zP g g' f h k) :=
  let ⟨_,pa,ra⟩:=ha
  let ⟨_,pb,rb⟩:=hb
  let ⟨_,pc,rc⟩:=hc
  ⟨_,pch pa pb pc,zeY hg hg' ra rb rc⟩
noncomputable def zbb:List D→Option (List Int)
  | []=>some []
  | .int b::ds=>(zbb ds).map (b::·)
  | _=>none
omit [KK] in
theorem Xr:∀ {ds:List D} {bs:List Int},zbb ds=some bs→ds=bs.map .int
  | [],bs,h=>by cases h;rfl
  | d::ds,bs,h=>by
    cases d <;> try cases h
    obtain ⟨cs,h1,rfl⟩:=Option.map_eq_some_iff.mp h
    rw [Xr h1]
    rfl
noncomputable def leT:D→D→Option D
  | .tup a,.tup b=>(zbb a).bind fun ns=>(zbb b).map fun ms=>.bl (HT.lexLe ns ms)
  | _,_=>none
theorem zgo {K:PySem.W.Frag}:OpD (rLeT K) leT:=by
  intro F H x y d e z Q s ax ay ez q
  cases d <;> try cases ez
  cases e <;> try cases ez
  obtain ⟨ns,e1,e2⟩:=Option.bind_eq_some_iff.mp ez
  obtain ⟨ms,e3,rfl⟩:=Option.map_eq_some_iff.mp e2
  rw [Xr e1] at ax
  rw [Xr e3] at ay
  obtain ⟨p,xs,rfl,hx,al⟩:=ax.tup_inv
  obtain ⟨p2,ys,rfl,hy,bl⟩:=ay.tup_inv
  cases al.of_ints
  cases bl.of_ints
  exact ⟨p,p2,ns,ms,rfl,rfl,SqT.of (s _ _ hx),SqT.of (s _ _ hy),q F H _ (.refl s) .bl⟩
noncomputable def ixD:D→D→Option D
  | .lst ds,.int i=>atI ds i
  | .tup ds,.int i=>atI ds i
  | .scr ns,.int i=>(atI ns i).map .int
  | _,_=>none
theorem AtL.atI {F:Hp}{ds:List D}{xs:List V}{i:Int}{d:D}(al:AtL F ds xs)(h:L2.atI ds i=some d):∃ x,L2.atI xs i=some x∧At F d x:=by
  unfold L2.atI at h ⊢
  obtain ⟨j,e1,e2⟩:=Option.bind_eq_some_iff.mp h
  obtain ⟨x,hx,ax⟩:=al.get e2
  exact ⟨x,by rw [al.length,e1];exact hx,ax⟩
theorem zi5:OpD (rIx KK.K) ixD:=by
  intro F H x y d e z Q s ax ay ez q
  cases e <;> try (cases d <;> cases ez)
  cases ay.int_inv
  cases d with
  | lst ds =>
    obtain ⟨p,xs,rfl,hx,al⟩:=ax.lst_inv
    obtain ⟨v,e1,av⟩:=al.atI ez
    exact .inl ⟨p,xs,_,v,rfl,rfl,SqL.of (s _ _ hx),e1,q F H _ (.refl s) av⟩
  | tup ds =>
    obtain ⟨p,xs,rfl,hx,al⟩:=ax.tup_inv
    obtain ⟨v,e1,av⟩:=al.atI ez
    exact .inr (.inl ⟨p,xs,_,v,rfl,rfl,SqT.of (s _ _ hx),e1,q F H _ (.refl s) av⟩)
  | scr ns =>
    obtain ⟨p,rfl,hx⟩:=ax.scr_inv
    obtain ⟨n,e1,rfl⟩:=Option.map_eq_some_iff.mp ez
    refine .inl ⟨p,ns.map V.int,_,.int n,rfl,rfl,s.seq hx,?_,q F H _ (.refl s) .int⟩
    unfold L2.atI at e1 ⊢
    rw [List.length_map]
    obtain ⟨j,e2,e3⟩:=Option.bind_eq_some_iff.mp e1
    rw [e2]
    show (ns.map V.int)[j]?=_
    rw [List.getElem?_map,e3]
    rfl
  | _=>cases ez
theorem yo {f h:Ev→Option D}(ha:ED X a f)(hb:ED X b h)(hs:zd0 b)(hK:X.K=KK.K:=by rfl):ED X (.Subscript a b pos) (zm ixD f h) :=
  let ⟨_,pa,ra⟩:=ha
  let ⟨_,pb,rb⟩:=hb
  ⟨_,zha ziC pa pb hs,zeM (by rw [hK];exact zi5) ra rb⟩
noncomputable def Xc {α:Type}(xs:List α)(lo hi:Option Int):List α:=(xs.drop (HT.sIx xs.length 0 lo)).take (HT.sIx xs.length xs.length hi - HT.sIx xs.length 0 lo)
theorem AtL.cut {F:Hp}{ds:List D}{xs:List V}{lo hi:Option Int}(al:AtL F ds xs):AtL F (Xc ds lo hi) (zaP xs lo hi):=by
  unfold Xc zaP
  rw [al.length]
  exact (al.drop _).take _
noncomputable def OD (X:Cx)(e:Option Expr)(f:Ev→Option (Option Int)):Prop:=∃ t,PO X e t∧∀ (σ:St) (ρ:Ev) (F H:Hp) (i:Option Int) (Q:Option Int→Hp→Prop),yq F H→VAt F ρ σ→f ρ=some i→(∀ F' H',Gr F H F' H'→Q i H')→t σ H Q
noncomputable def yl:Ev→Option (Option Int):=fun _=>some none
noncomputable def asI:D→Option Int
  | .int i=>some i
  | _=>none
noncomputable def yi (f:Ev→Option D):Ev→Option (Option Int):=fun ρ=>((f ρ).bind asI).map some
theorem XR:OD X none yl:=⟨_,zgJ,fun _ _ _ _ _ _ s _ e q=>by cases e;exact q _ _ (.refl s)⟩
theorem XG {f:Ev→Option D}(h:ED X e f):OD X (some e) (yi f):=by
  obtain ⟨t,p,r⟩:=h
  refine ⟨_,zgt p,fun σ ρ F H i Q s va e q=>?_⟩
  obtain ⟨j,e1,rfl⟩:=Option.map_eq_some_iff.mp e
  obtain ⟨d,e1,e2⟩:=Option.bind_eq_some_iff.mp e1
  cases d <;> cases e2
  exact r σ ρ F H _ _ s va e1 fun F1 H1 v g1 a1=>⟨_,a1.int_inv,q F1 H1 g1⟩
noncomputable def slD:D→Option Int→Option Int→Option D
  | .lst ds,lo,hi=>some (.lst (Xc ds lo hi))
  | .scr ns,lo,hi=>some (.lst ((Xc ns lo hi).map .int))
  | .tup ds,lo,hi=>some (.tup (Xc ds lo hi))
  | _,_,_=>none
noncomputable def eSl (g:D→Option Int→Option Int→Option D)(f:Ev→Option D)(l h:Ev→Option (Option Int)):Ev→Option D:=fun ρ=>(f ρ).bind fun d=>(l ρ).bind fun lo=>(h ρ).bind fun hi=>g d lo hi
omit [KK] in
theorem zft {ns:List Int}{lo hi:Option Int}:zaP (ns.map V.int) lo hi=(Xc ns lo hi).map V.int:=by
  unfold zaP Xc
  rw [List.length_map,List.map_take,List.map_drop]
end
end Dl
namespace L2
open PySem PySem.Spec PyProof.Rows
noncomputable def rSlN:V→Option Int→Option Int→Hp→VK→Prop:=fun x lo hi H Q=>∃ a xs,x=.ref a∧H a=some (.tup xs)∧(zaP xs lo hi=xs→Q (.ref a) H)∧∀ p,H p=none→Q (.ref p) (upd H p (.tup (zaP xs lo hi)))
theorem zgD {X:Cx}:SlR X rSlN:=by
  intro pins s σ H x v vl vu lo hi sl Q I rx hs pl pu h
  obtain ⟨a,xs,rfl,hx,q1,q2⟩:=h
  by_cases hw:HT.sIx xs.length 0 lo=0∧HT.sIx xs.length xs.length hi=xs.length
  · cases rx
    obtain ⟨its,r,ht,hz⟩:=I.tuple (SqT.of hx)
    have hlen:its.toArray.size=xs.length:=by rw [List.size_toArray];exact r.length.symm
    refine ⟨"tuple",_,PyProof.Rows.slot_tuple_getitem.lookup,ht.typeIs,?_⟩
    refine HT.own_getItem_whole ht hs pl pu (by rw [hlen];exact hw) ⟨.ref a,H,I,rfl,q1 ?_⟩
    unfold zaP
    rw [hw.1,hw.2,List.drop_zero,Nat.sub_zero,List.take_length]
  · exact zhE pins s σ H (.ref a) v vl vu lo hi sl Q I rx hs pl pu ⟨a,xs,rfl,SqT.of hx,hw,q2⟩
end L2
namespace Dl
open PySem L2
variable [KK]
section
variable {X:Cx}{a b c e:Expr}{pos:Pos}
theorem Y7 {lo hi:Option Expr}{p2:Pos}{f:Ev→Option D}{l h:Ev→Option (Option Int)}(ha:ED X a f)(hl:OD X lo l)(hh:OD X hi h)(hK:X.K=KK.K:=by rfl):ED X (.Subscript a (.Slice lo hi none p2) pos) (eSl slD f l h):=by
  obtain ⟨ta,pa,ra⟩:=ha
  obtain ⟨tl,ppl,rl⟩:=hl
  obtain ⟨th,ph,rh⟩:=hh
  refine ⟨_,ze8 (zgg.or zgD) pa ppl ph,fun σ ρ F H z Q s va e q=>?_⟩
  obtain ⟨d,e1,e⟩:=Option.bind_eq_some_iff.mp e
  obtain ⟨i,e2,e⟩:=Option.bind_eq_some_iff.mp e
  obtain ⟨j,e3,e⟩:=Option.bind_eq_some_iff.mp e
  refine ra σ ρ F H d _ s va e1 fun F1 H1 v g1 a1=>?_
  refine rl σ ρ F1 H1 i _ g1.fh (va.mono g1.ff) e2 fun F2 H2 g2=>?_
  refine rh σ ρ F2 H2 j _ g2.fh (va.mono (g1.ff.trans g2.ff)) e3 fun F3 H3 g3=>?_
  have g123:=(g1.trans g2).trans g3
  have a3:=a1.mono (g2.ff.trans g3.ff)
  cases d <;> try cases e
  · obtain ⟨p,xs,rfl,hx,al⟩:=a3.tup_inv
    refine .inr ⟨p,xs,rfl,g3.fh _ _ hx,fun ec=>?_,fun r hr=>?_⟩
    · have:=al.cut (lo:=i) (hi:=j)
      rw [ec] at this
      exact q F3 H3 _ g123 (.tup hx this)
    · have g:=Gr.alloc g3.fh hr (.tup (zaP xs i j))
      exact q _ _ _ (g123.trans g) (.tup zp (al.cut.mono g.ff))
  · obtain ⟨p,xs,rfl,hx,al⟩:=a3.lst_inv
    refine .inl ⟨p,xs,rfl,SqL.of (g3.fh _ _ hx),fun r hr=>?_⟩
    have g:=Gr.alloc g3.fh hr (.lst (zaP xs i j))
    exact q _ _ _ (g123.trans g) (.lst zp (al.cut.mono g.ff))
  · rename_i ns _ _
    obtain ⟨p,rfl,hx⟩:=a3.scr_inv
    refine .inl ⟨p,_,rfl,(by rw [hK];exact g3.fh.seq hx),fun r hr=>?_⟩
    rw [zft]
    have g:=Gr.alloc g3.fh hr (.lst ((Xc ns i j).map V.int))
    exact q _ _ _ (g123.trans g) (.lst zp (.ints _))
noncomputable def CaD (r:List V→Hp→VK→Prop)(g:List D→Option D):Prop:=∀ (F H:Hp) (vs:List V) (ds:List D) (z:D) (Q:VK),yq F H→AtL F ds vs→g ds=some z→(∀ F' H' v,Gr F H F' H'→At F' z v→Q v H')→r vs H Q
noncomputable def eFn (g:List D→Option D)(f:Ev→Option (List D)):Ev→Option D:=fun ρ=>(f ρ).bind g
noncomputable def fFn (g:List D→Option (List D))(f:Ev→Option (List D)):Ev→Option (List D):=fun ρ=>(f ρ).bind g
theorem yL {x:Str}{id:String}{p:Pos}{es:List Expr}{r:List V→Hp→VK→Prop}{g:List D→Option D}{f:Ev→Option (List D)}(hc:YO X (.builtin id) r)(hg:CaD r g)(hgl:Gl X x)(hm:X.mg x=none)(hv:bootBuiltins x=some (.builtin id))(ha:AD X (e::es) f)
    (hn:x≠"__name__":=by decide) (hdb:(x == ("__debug__":Str))=false:=by decide) (he:starEach (e::es) X.env=(false,eval e X.env)::starEach es X.env:=by rfl) (hpl:(backTo pos (starEach es X.env)).any (·.1)=false:=by rfl) :
    ED X (.Call (.Name x p) (e::es) [] pos) (eFn g f):=by
  obtain ⟨t,pa,ra⟩:=ha
  refine ⟨_,yw hc hgl hm hv pa hn hdb he hpl,fun σ ρ F H z Q s va e q=>?_⟩
  obtain ⟨ds,e1,e2⟩:=Option.bind_eq_some_iff.mp e
  refine ra σ ρ F H ds _ s va e1 fun F1 H1 vs g1 a1=>?_
  exact hg F1 H1 vs ds z Q g1.fh a1 e2 fun F' H' v g av=>q F' H' v (g1.trans g) av
theorem vz {x:Str}{T:String}{p:Pos}{es:List Expr}{r:List V→Hp→VK→Prop}{g:List D→Option D}{f:Ev→Option (List D)}(hc:YO X (.type T) r)(hg:CaD r g)(hgl:Gl X x)(hm:X.mg x=none)(hv:bootBuiltins x=some (.type T))(ha:AD X (e::es) f)
    (hn:x≠"__name__":=by decide) (hdb:(x == ("__debug__":Str))=false:=by decide) (he:starEach (e::es) X.env=(false,eval e X.env)::starEach es X.env:=by rfl) (hpl:(backTo pos (starEach es X.env)).any (·.1)=false:=by rfl) :
    ED X (.Call (.Name x p) (e::es) [] pos) (eFn g f):=by
  obtain ⟨t,pa,ra⟩:=ha
  refine ⟨_,VP hc hgl hm hv pa hn hdb he hpl,fun σ ρ F H z Q s va e q=>?_⟩
  obtain ⟨ds,e1,e2⟩:=Option.bind_eq_some_iff.mp e
  refine ra σ ρ F H ds _ s va e1 fun F1 H1 vs g1 a1=>?_
  exact hg F1 H1 vs ds z Q g1.fh a1 e2 fun F' H' v g av=>q F' H' v (g1.trans g) av
noncomputable def x4:List D→Option D
  | [.lst ds]=>some (.int ds.length)
  | [.tup ds]=>some (.int ds.length)
  | [.scr ds]=>some (.int ds.length)
  | _=>none
theorem vf:CaD (fun xs H Q=>∃ p ys,xs=[.ref p]∧(SqL KK.K H p ys∨SqT KK.K H p ys)∧Q (.int ys.length) H) x4:=by
  intro F H vs ds z Q s al e q
  unfold x4 at e
  split at e <;> cases e
  all_goals
    obtain ⟨x,r,rfl,ax,ar⟩:=al.cons_inv
    cases ar.nil_inv
  · obtain ⟨p,xs,rfl,hx,bl⟩:=ax.lst_inv
    exact ⟨p,xs,rfl,.inl (SqL.of (s _ _ hx)),by rw [bl.length];exact q F H _ (.refl s) .int⟩
  · obtain ⟨p,xs,rfl,hx,bl⟩:=ax.tup_inv
    exact ⟨p,xs,rfl,.inr (SqT.of (s _ _ hx)),by rw [bl.length];exact q F H _ (.refl s) .int⟩
  · obtain ⟨p,rfl,hx⟩:=ax.scr_inv
    exact ⟨p,_,rfl,.inl ((s.seq hx)),by rw [List.length_map];exact q F H _ (.refl s) .int⟩
noncomputable def zh2:List D→Option D
  | [.int i,.int j]=>some (.int (if j > i then j else i))
  | _=>none
noncomputable def zfk:List D→Option D
  | [.int i,.int j]=>some (.int (if j < i then j else i))
  | _=>none
theorem zbf {g:Int→Int→Int}:CaD (fun xs H Q=>∃ i j,xs=[.int i,.int j]∧Q (.int (g i j)) H) (fun ds=>match ds with | [.int i,.int j]=>some (.int (g i j)) | _=>none):=by
  intro F H vs ds z Q s al e q
  dsimp only at e
  split at e <;> cases e
  obtain ⟨x,r,rfl,ax,ar⟩:=al.cons_inv
  obtain ⟨y,r,rfl,ay,ar⟩:=ar.cons_inv
  cases ar.nil_inv
  exact ⟨_,_,by rw [ax.int_inv,ay.int_inv],q F H _ (.refl s) .int⟩
theorem zfb:CaD (fun xs H Q=>∃ i j,xs=[.int i,.int j]∧Q (.int (if j > i then j else i)) H) zh2:=zbf (g:=fun i j=>if j > i then j else i)
theorem za5:CaD (fun xs H Q=>∃ i j,xs=[.int i,.int j]∧Q (.int (if j < i then j else i)) H) zfk:=zbf (g:=fun i j=>if j < i then j else i)
noncomputable def zF:List D→Option D
  | [.lst ds]=>some (.tup ds)
  | [.tup ds]=>some (.tup ds)
  | _=>none
theorem vD {K:PySem.W.Frag}:CaD (fun xs H Q=>∃ p ys,xs=[.ref p]∧((SqL K H p ys∧∀ l,H l=none→Q (.ref l) (upd H l (.tup ys)))∨(SqT K H p ys∧Q (.ref p) H))) zF:=by
  intro F H vs ds z Q s al e q
  unfold zF at e
  split at e <;> cases e
  all_goals
    obtain ⟨x,r,rfl,ax,ar⟩:=al.cons_inv
    cases ar.nil_inv
  · obtain ⟨p,xs,rfl,hx,bl⟩:=ax.lst_inv
    refine ⟨p,xs,rfl,.inl ⟨SqL.of (s _ _ hx),fun l hl=>?_⟩⟩
    have g:=Gr.alloc s hl (.tup xs)
    exact q _ _ _ g (.tup zp (bl.mono g.ff))
  · obtain ⟨p,xs,rfl,hx,bl⟩:=ax.tup_inv
    exact ⟨p,xs,rfl,.inr ⟨SqT.of (s _ _ hx),q F H _ (.refl s) (.tup hx bl)⟩⟩
noncomputable def ym:List D→Option (List D)
  | [.lst ds]=>some ds
  | [.tup ds]=>some ds
  | [.scr ns]=>some (ns.map .int)
  | _=>none
theorem XA {p:Pos} {f:Ev→Option (List D)} (hgl:Gl X "list") (hm:X.mg "list"=none) (ha:AD X [e] f) (hK:X.K=KK.K:=by rfl)
    (he:starEach [e] X.env=(false,eval e X.env)::starEach [] X.env:=by rfl) (hpl:(backTo pos (starEach [] X.env)).any (·.1)=false:=by rfl):FL X (.Call (.Name "list" p) [e] [] pos) (fFn ym f):=by
  obtain ⟨t,pa,ra⟩:=ha
  refine ⟨_,VP Vx hgl hm WB pa (by decide) (by decide) he hpl,fun σ ρ F H z Q s va e q=>?_⟩
  obtain ⟨ds,e1,e2⟩:=Option.bind_eq_some_iff.mp e
  refine ra σ ρ F H ds _ s va e1 fun F1 H1 vs g1 a1=>?_
  unfold ym at e2
  split at e2 <;> cases e2
  all_goals
    obtain ⟨x,r,rfl,ax,ar⟩:=a1.cons_inv
    cases ar.nil_inv
  · obtain ⟨p,xs,rfl,hx,bl⟩:=ax.lst_inv
    exact ⟨p,xs,rfl,.inl (SqL.of (g1.fh _ _ hx)),fun l hl=>q _ _ _ _ (g1.trans (Gr.hide g1.fh hl _)) (zaA g1 hl) (g1.fh.free hl) zp bl⟩
  · obtain ⟨p,xs,rfl,hx,bl⟩:=ax.tup_inv
    exact ⟨p,xs,rfl,.inr (SqT.of (g1.fh _ _ hx)),fun l hl=>q _ _ _ _ (g1.trans (Gr.hide g1.fh hl _)) (zaA g1 hl) (g1.fh.free hl) zp bl⟩
  · obtain ⟨p,rfl,hx⟩:=ax.scr_inv
    exact ⟨p,_,rfl,.inl (by rw [hK];exact g1.fh.seq hx),fun l hl=>q _ _ _ _ (g1.trans (Gr.hide g1.fh hl _)) (zaA g1 hl) (g1.fh.free hl) zp (.ints _)⟩
inductive TyD (K:PySem.W.Frag) (H:Hp):V→Value→Prop where
  | of {v:V} {t:Value} (h:zbo K H v t):TyD K H v t
  | dd {a:Addr} {u:HO} (h:Rd H a u) (d:(∃ kvs,u=.dK kvs)∨∃ kvs,u=.dT kvs):TyD K H (.ref a) (.type "dict")
theorem VM {X:Cx}:YO X (.builtin "isinstance") (fun xs H Q=>∃ x n t b,xs=[x,.ty n]∧TyD X.K H x t∧PySem.W.kitOne X.K t (.type n)=some b∧Q (.bl b) H):=by
  intro pins s σ H xs us Q I r h
  obtain ⟨x,n,t,b,rfl,ty,e,q⟩:=h
  cases ty with
  | of ty=>exact zaX pins s σ H _ us Q I r ⟨x,n,t,b,rfl,ty,e,q⟩
  | @dd a u h d =>
    cases r with
    | cons r1 r2 =>
      cases r2 with
      | cons r3 r4 =>
        cases r4
        cases r1
        cases r3
        have ok:=h.ok I.hok
        rcases d with ⟨kvs,rfl⟩ | ⟨kvs,rfl⟩
        · obtain ⟨_,_,vs,_,p⟩:=(show xH X.prog X.w H s.heap a (.dK kvs) from ok)
          obtain ⟨o,es,ep,h1,h2,_⟩:=p
          exact PySem.W.kia_one PySem.W.kitx_dict I.kIn ⟨o,h1,h2.1⟩ e (fun z=>nomatch z) fun tk=>⟨.bl b,H,I.tok tk,rfl,q⟩
        · obtain ⟨_,_,xs,_,o,es,ep,h1,h2,_⟩:=(show xH X.prog X.w H s.heap a (.dT kvs) from ok)
          exact PySem.W.kia_one PySem.W.kitx_dict I.kIn ⟨o,h1,h2.1⟩ e (fun z=>nomatch z) fun tk=>⟨.bl b,H,I.tok tk,rfl,q⟩
theorem At.ty {K:PySem.W.Frag}{F H:Hp}(s:yq F H):∀ {d:D} {v:V},At F d v→(∀ ns,d≠.scr ns)→TyD K H v (.type (tyN d))
  | .non,_,h,_=>by cases h.non_inv;exact .of .non
  | .bl b,_,h,_=>by cases h.bl_inv;exact .of (.bl b)
  | .int i,_,h,_=>by cases h.int_inv;exact .of (.int i)
  | .str x,_,h,_=>by cases h.str_inv;exact .of (.str x)
  | .tup ds,_,h,_=>by obtain ⟨a,xs,rfl,e,_⟩:=h.tup_inv;exact .of (.tup (s _ _ e))
  | .lst ds,_,h,_=>by obtain ⟨a,xs,rfl,e,_⟩:=h.lst_inv;exact .of (.lst (s _ _ e))
  | .scr ns,_,_,n=>absurd rfl (n ns)
  | .dct z t ks vs,_,h,_=>by
    obtain ⟨a,xs,rfl,d,_⟩:=h.dct_inv
    obtain ⟨u,e1,e2⟩:=(d.mono s).rd
    exact .dd e2 (by
      unfold zhv at e1
      split at e1
      · obtain ⟨kvs,rfl,_⟩:=e1;exact .inr ⟨kvs,rfl⟩
      · obtain ⟨kvs,rfl,_⟩:=e1;exact .inl ⟨kvs,rfl⟩)
inductive Ty where
  | int | bool | tuple | list | str
noncomputable def Ty.nm:Ty→String
  | .int=>"int" | .bool=>"bool" | .tuple=>"tuple" | .list=>"list" | .str=>"str"
noncomputable def isT:Ty→D→Bool
  | .int,.int _=>true | .int,.bl _=>true
  | .bool,.bl _=>true
  | .tuple,.tup _=>true
  | .list,.lst _=>true
  | .str,.str _=>true
  | _,_=>false
noncomputable def zR (n:Ty):D→Option D
  | .scr _=>none
  | d=>some (.bl (isT n d))
theorem zh4 (K:PySem.W.Frag)(n:Ty)(d:D)(h:∀ ns,d≠.scr ns):PySem.W.kitOne K (.type (tyN d)) (.type n.nm)=some (isT n d):=by
  cases n <;> cases d <;> first | exact absurd rfl (h _) | kernel_rfl
theorem zT {p:Pos} {f:Ev→Option D} (n:Ty) (hgl:Gl X "isinstance") (hm:X.mg "isinstance"=none) (ha:ED X a f) (hb:PE X b (tC (.ty n.nm)))
    (hs:starEach [a,b] X.env=(false,eval a X.env)::starEach [b] X.env:=by rfl) (hs2:starEach [b] X.env=(false,eval b X.env)::starEach [] X.env:=by rfl) (hpl:(backTo pos (starEach [b] X.env)).any (·.1)=false:=by rfl) :
    ED X (.Call (.Name "isinstance" p) [a,b] [] pos) (eUn (zR n) f):=by
  obtain ⟨t,pa,ra⟩:=ha
  refine ⟨_,yw VM hgl hm zC (zr pa (zr hb yI hs2) hs) (by decide) (by decide) hs hpl,fun σ ρ F H z Q s va e q=>?_⟩
  obtain ⟨d,e1,e2⟩:=Option.bind_eq_some_iff.mp e
  refine ra σ ρ F H d _ s va e1 fun F1 H1 v g1 a1=>?_
  have ns:∀ ns,d≠.scr ns:=fun ns h=>by subst h;cases e2
  have e3:z=.bl (isT n d):=by
    cases d <;> first | exact (Option.some.inj e2).symm | exact absurd rfl (ns _)
  subst e3
  exact ⟨v,n.nm,_,_,rfl,a1.ty g1.fh ns,zh4 _ n d ns,q F1 H1 _ g1 .bl⟩
noncomputable def wl (m:Bool)(i:Nat)(f:Ev→Option D):SE→Ctl:=fun ρ=>match (vEv m f ρ).bind fun d=>match ρ[i]? with
    | some (.o ds)=>if decide (ds.length < sizeLine)=true then some (ρ.set i (.o (ds++[d]))) else none
    | _=>none with
  | some ρ'=>.nx ρ'
  | none=>.no
theorem Zc {m:Bool}{i:Nat}{p pos':Pos}{f:Ev→Option D}(ho:PE X a (WM i))(he:ED X e f)
    (hp:∀ {ta:TE} {t:TA},PE X a ta→PA X [e] t→PE X (.Call (.Attribute a "append" p) [e] [] pos') (tBM X.K "list" zcA ta t)) (hsw:swapsWith (.Call (.Attribute a "append" p) [e] [] pos') none pos.line X.env=pure false:=by rfl)
    (hs:starEach [e] X.env=(false,eval e X.env)::starEach [] X.env:=by rfl):SD X (.Expr (.Call (.Attribute a "append" p) [e] [] pos') pos) (wl m i f):=by
  obtain ⟨t,pe,re⟩:=he
  refine ⟨_,zaK (hp ho (zr pe yI hs)) hsw,fun Fb Hb F H ρ σ E rl k=>?_⟩
  unfold wl at k
  cases h:(vEv m f ρ).bind fun d=>match ρ[i]? with
    | some (.o ds)=>if decide (ds.length < sizeLine)=true then some (ρ.set i (.o (ds++[d]))) else none
    | _=>none with
  | none=>rw [h] at k;exact k.elim
  | some ρ' =>
    rw [h] at k
    obtain ⟨d,e1,e2⟩:=Option.bind_eq_some_iff.mp h
    cases hs:ρ[i]? with
    | none=>rw [hs] at e2;cases e2
    | some sl =>
      rw [hs] at e2
      cases sl with
      | no=>cases e2
      | v _=>cases e2
      | m _ _ _=>cases e2
      | o ds =>
        dsimp only at e2
        split at e2 <;> cases e2
        rename_i hl
        obtain ⟨q,xs,f1,f2,f3,f4,f5⟩:=rl.owns i ds hs
        refine ⟨_,f1,.inl ⟨rfl,xs,SqL.of f4⟩,?_⟩
        refine re.at rl e1 fun F' H' v g av=>?_
        have rl2:=rl.grow g
        obtain ⟨q2,xs2,f1',_,_,f4',f5'⟩:=rl2.owns i ds hs
        rw [f1] at f1'
        cases f1'
        refine ⟨q,xs2,v,rfl,rfl,f4',by rw [f5'.length];exact of_decide_eq_true hl,?_⟩
        exact k _ _ σ (rl2.mutate hs f1 (f5'.snoc av))
noncomputable def vZ (i:Nat)(f:Ev→Option D):SE→Ctl:=fun ρ=>match (f (visF ρ)).bind fun d=>match ρ[i]?,d with
    | some (.o ds),.lst es=>if lim (ds.length+es.length)=true then some (ρ.set i (.o (ds++es))) else none
    | _,_=>none with
  | some ρ'=>.nx ρ'
  | none=>.no
end
end Dl
namespace Dl
open PySem L2
variable [KK]
noncomputable def okE:Nat→D→Bool
  | _,.scr _=>false
  | _,.dct _ _ _ _=>false
  | 0,.tup _=>false
  | 0,.lst _=>false
  | n+1,.tup ds=>ds.all (okE n)
  | n+1,.lst ds=>ds.all (okE n)
  | _,_=>true
noncomputable def eqN:Nat→D→D→Bool
  | _,.non,.non=>true
  | _,.bl a,.bl b=>a == b
  | _,.bl a,.int b=>(if a then 1 else 0) == b
  | _,.int a,.bl b=>a == (if b then 1 else 0)
  | _,.int a,.int b=>a == b
  | _,.str a,.str b=>a == b
  | n+1,.tup a,.tup b=>(List.zipWith (eqN n) a b).all id&&a.length == b.length
  | n+1,.lst a,.lst b=>(List.zipWith (eqN n) a b).all id&&a.length == b.length
  | _,_,_=>false
omit [KK] in
theorem Wy {n:Nat}:∀ (a b:List D),(List.zipWith (eqN n) a b).all id=(List.range (min a.length b.length)).all fun j=>eqN n (a.getD j .non) (b.getD j .non):=by
  intro a b
  have:List.zipWith (eqN n) a b=(List.range (min a.length b.length)).map fun j=>eqN n (a.getD j .non) (b.getD j .non):=by
    apply List.ext_getElem
    · simp
    · intro i h1 h2
      simp at h1 h2
      have g1:i < a.length:=Nat.lt_of_lt_of_le h1 (Nat.min_le_left _ _)
      have g2:i < b.length:=Nat.lt_of_lt_of_le h1 (Nat.min_le_right _ _)
      simp [g1,g2]
  rw [this,List.all_map]
  rfl
omit [KK] in
noncomputable def vOf:D→V
  | .bl b=>.bl b
  | .int i=>.int i
  | .str t=>.str t
  | _=>.non
theorem wo {F:Hp}{d:D}{x:V}(h:okE 0 d=true)(a:At F d x):x=vOf d:=by
  cases d with
  | non=>exact a.non_inv
  | bl b=>exact a.bl_inv
  | int b=>exact a.int_inv
  | str b=>exact a.str_inv
  | _=>cases h
omit [KK] in
theorem Xd {d:D}(h:okE 0 d=true):zgQ (vOf d)=true:=by
  cases d <;> first | rfl | cases h
omit [KK] in
theorem Ve {d:D}{p:Addr}(h:okE 0 d=true)(e:vOf d=.ref p):False:=by
  cases d <;> first | (cases h;done) | (cases e;done)
noncomputable def dOfV:V→D
  | .bl b=>.bl b
  | .int i=>.int i
  | .str t=>.str t
  | _=>.non
omit [KK] in
theorem zdF {d:D}(h:okE 0 d=true):dOfV (vOf d)=d:=by
  cases d <;> first | rfl | (cases h;done)
omit [KK] in
theorem zec {d e:D}(h1:okE 0 d=true)(h2:okE 0 e=true)(h:vOf d=vOf e):d=e:=by
  rw [←zdF h1,h,zdF h2]
omit [KK] in
theorem wj {n:Nat}{d:D}(h:okE (n+1) d=true):okE 0 d=true∨(∃ ds,d=.tup ds∧ds.all (okE n)=true)∨∃ ds,d=.lst ds∧ds.all (okE n)=true:=by
  cases d with
  | tup ds=>exact .inr (.inl ⟨ds,rfl,h⟩)
  | lst ds=>exact .inr (.inr ⟨ds,rfl,h⟩)
  | scr _=>cases h
  | dct _ _ _ _=>cases h
  | _=>exact .inl rfl
theorem zd9 {F:Hp}{n:Nat}(ih:∀ {d e:D} {v:V},okE n d=true→okE n e=true→At F d v→At F e v→d=e):∀ {xs:List V} {ds es:List D},ds.all (okE n)=true→es.all (okE n)=true→AtL F ds xs→AtL F es xs→ds=es:=by
  intro xs
  induction xs with
  | nil =>
    intro ds es _ _ a1 a2
    exact (List.length_eq_zero_iff.mp a1.length.symm).trans (List.length_eq_zero_iff.mp a2.length.symm).symm
  | cons x xs ih2 =>
    intro ds es h1 h2 a1 a2
    cases ds with
    | nil=>cases a1.nil_inv
    | cons d ds=>cases es with
      | nil=>cases a2.nil_inv
      | cons e es =>
        obtain ⟨y,r,e1,b1,c1⟩:=a1.cons_inv
        obtain ⟨y2,r2,e2,b2,c2⟩:=a2.cons_inv
        cases e1
        cases e2
        rw [List.all_cons,Bool.and_eq_true] at h1 h2
        rw [ih2 h1.2 h2.2 c1 c2,ih h1.1 h2.1 b1 b2]
theorem zfP {F:Hp}:∀ (n:Nat) {d e:D} {v:V},okE n d=true→okE n e=true→At F d v→At F e v→d=e:=by
  intro n
  induction n with
  | zero =>
    intro d e v h1 h2 a1 a2
    exact zec h1 h2 ((wo h1 a1).symm.trans (wo h2 a2))
  | succ n ih =>
    intro d e v h1 h2 a1 a2
    rcases wj h1 with f1 | ⟨ds,rfl,k1⟩ | ⟨ds,rfl,k1⟩
    · have e1:=wo f1 a1
      rcases wj h2 with f2 | ⟨es,rfl,_⟩ | ⟨es,rfl,_⟩
      · exact zec f1 f2 (e1.symm.trans (wo f2 a2))
      · obtain ⟨p,xs,e2,_⟩:=a2.tup_inv
        exact (Ve f1 (e1.symm.trans e2)).elim
      · obtain ⟨p,xs,e2,_⟩:=a2.lst_inv
        exact (Ve f1 (e1.symm.trans e2)).elim
    · obtain ⟨p,xs,e0,hx,al⟩:=a1.tup_inv
      rcases wj h2 with f2 | ⟨es,rfl,k2⟩ | ⟨es,rfl,k2⟩
      · exact (Ve f2 ((wo f2 a2).symm.trans e0)).elim
      · obtain ⟨q,ys,e1,hy,bl⟩:=a2.tup_inv
        cases e0.symm.trans e1
        cases hx.symm.trans hy
        rw [zd9 ih k1 k2 al bl]
      · obtain ⟨q,ys,e1,hy,bl⟩:=a2.lst_inv
        cases e0.symm.trans e1
        cases hx.symm.trans hy
    · obtain ⟨p,xs,e0,hx,al⟩:=a1.lst_inv
      rcases wj h2 with f2 | ⟨es,rfl,k2⟩ | ⟨es,rfl,k2⟩
      · exact (Ve f2 ((wo f2 a2).symm.trans e0)).elim
      · obtain ⟨q,ys,e1,hy,bl⟩:=a2.tup_inv
        cases e0.symm.trans e1
        cases hx.symm.trans hy
      · obtain ⟨q,ys,e1,hy,bl⟩:=a2.lst_inv
        cases e0.symm.trans e1
        cases hx.symm.trans hy
        rw [zd9 ih k1 k2 al bl]
omit [KK] in
theorem zbn:∀ (n:Nat) {d:D},okE n d=true→eqN n d d=true:=by
  intro n
  induction n with
  | zero =>
    intro d h
    cases d with
    | tup _=>cases h
    | lst _=>cases h
    | scr _=>cases h
    | dct _ _ _ _=>cases h
    | _=>first | rfl | exact decide_eq_true rfl | exact beq_self_eq_true _
  | succ n ih =>
    have ihl:∀ {ds:List D},ds.all (okE n)=true→(List.zipWith (eqN n) ds ds).all id=true:=by
      intro ds
      induction ds with
      | nil=>intro _;rfl
      | cons d ds ih2 =>
        intro h
        rw [List.all_cons,Bool.and_eq_true] at h
        rw [List.zipWith_cons_cons,List.all_cons,ih2 h.2,Bool.and_true]
        exact ih h.1
    intro d h
    cases d with
    | tup ds=>show ((List.zipWith (eqN n) ds ds).all id&&ds.length == ds.length)=true;rw [ihl h];simp
    | lst ds=>show ((List.zipWith (eqN n) ds ds).all id&&ds.length == ds.length)=true;rw [ihl h];simp
    | scr _=>cases h
    | dct _ _ _ _=>cases h
    | _=>first | rfl | exact decide_eq_true rfl | exact beq_self_eq_true _
theorem zfV {F:Hp}(n:Nat){d e:D}{v:V}(h1:okE n d=true)(h2:okE n e=true)(a1:At F d v)(a2:At F e v):eqN n d e=true:=by
  rw [zfP n h1 h2 a1 a2]
  exact zbn n h2
omit [KK] in
theorem wt {n:Nat}{ds:List D}{j:Nat}(h:ds.all (okE n)=true)(hj:j < ds.length):okE n (ds.getD j .non)=true:=by
  have:ds.getD j .non=ds[j]:=by simp [hj]
  rw [this]
  exact List.all_eq_true.mp h _ (List.getElem_mem hj)
theorem AtL.nth {F:Hp}{ds:List D}{xs:List V}{us:List Value}{j:Nat}(al:AtL F ds xs)(r:yP xs us)(h:j < us.length):∃ x,At F (ds.getD j .non) x∧xS x us[j]:=by
  have hl:=al.length
  have hl2:=r.length
  have hj:j < ds.length:=by omega
  obtain ⟨x,hx,ax⟩:=al.get (i:=j) (d:=ds[j]) (by simp [hj])
  obtain ⟨u,hu,ru⟩:=r.get hx
  refine ⟨x,by rw [show ds.getD j .non=ds[j] by simp [hj]];exact ax,?_⟩
  have:us[j]?=some us[j]:=by simp [h]
  rw [hu] at this
  cases this
  exact ru
omit [KK] in
theorem zbw {n:Nat}{d e:D}(h1:okE 0 d=true)(h2:okE 0 e=true):eqN n d e=eqV (vOf d) (vOf e):=by
  cases n <;> cases d <;> first | (cases h1;done) | skip
  all_goals cases e <;> first | (cases h2;done) | rfl
omit [KK] in
theorem zbB {n:Nat}{d:D}(ds:List D)(h:okE 0 d=true):eqN (n+1) d (.tup ds)=false∧eqN (n+1) d (.lst ds)=false∧eqN (n+1) (.tup ds) d=false∧eqN (n+1) (.lst ds) d=false:=by
  cases d <;> first | exact ⟨rfl,rfl,rfl,rfl⟩ | cases h
omit [KK] in
theorem WC {A:Around}{s:Shared}{d:D}{u:Value}{p:Addr}{its:Array Value}(h:okE 0 d=true)(r:xS (vOf d) u)(hu:A.units < cLine) :
    (s.heap.IsTuple p its→SeqAt.EqAt A s u (.ref p) false∧SeqAt.EqAt A s (.ref p) u false)∧(s.heap.IsList p its→SeqAt.EqAt A s u (.ref p) false∧SeqAt.EqAt A s (.ref p) u false):=by
  cases d with
  | non=>cases r;exact ⟨fun ht=>⟨.none_tuple ht hu,.tuple_none ht hu⟩,fun ht=>⟨.none_list ht hu,.list_none ht hu⟩⟩
  | bl b=>cases r;exact ⟨fun ht=>⟨.bool_tuple b ht hu,.tuple_bool b ht hu⟩,fun ht=>⟨.bool_list b ht hu,.list_bool b ht hu⟩⟩
  | int b=>obtain ⟨t,rfl⟩:=r;exact ⟨fun ht=>⟨.int_tuple b t ht hu,.tuple_int b t ht hu⟩,fun ht=>⟨.int_list b t ht hu,.list_int b t ht hu⟩⟩
  | str b=>obtain ⟨t,rfl⟩:=r;exact ⟨fun ht=>⟨.str_tuple b t ht hu,.tuple_str b t ht hu⟩,fun ht=>⟨.str_list b t ht hu,.list_str b t ht hu⟩⟩
  | _=>cases h
theorem WT {X:Cx}{pins:List (Addr × Obj)}{σ:St}{F H:Hp}{s:Shared}(I:Inv X pins σ H s)(sm:yq F H){ds:List D}{x:V}{u:Value}(a:At F (.tup ds) x)(r:xS x u):∃ p its xs,u=.ref p∧x=.ref p∧yP xs its∧AtL F ds xs∧s.heap.IsTuple p its.toArray:=by
  obtain ⟨p,xs,rfl,hx,al⟩:=a.tup_inv
  cases r
  obtain ⟨its,rv,ht,hz⟩:=I.tuple (SqT.of (sm _ _ hx))
  exact ⟨p,its,xs,rfl,rfl,rv,al,ht⟩
theorem WZ {X:Cx}{pins:List (Addr × Obj)}{σ:St}{F H:Hp}{s:Shared}(I:Inv X pins σ H s)(sm:yq F H){ds:List D}{x:V}{u:Value}(a:At F (.lst ds) x)(r:xS x u):∃ p its xs,u=.ref p∧x=.ref p∧yP xs its∧AtL F ds xs∧s.heap.IsList p its.toArray:=by
  obtain ⟨p,xs,rfl,hx,al⟩:=a.lst_inv
  cases r
  obtain ⟨its,rv,ht,hz⟩:=I.list (SqL.of (sm _ _ hx))
  exact ⟨p,its,xs,rfl,rfl,rv,al,ht.isList⟩
omit [KK] in
theorem zdv {n:Nat}(ds es:List D):((List.zipWith (eqN n) ds es).all id&&ds.length == es.length)=((List.range (min ds.length es.length)).all (fun j=>eqN n (ds.getD j .non) (es.getD j .non))&&ds.length == es.length):=by rw [Wy]
theorem V6 {X:Cx}{pins:List (Addr × Obj)}{σ:St}{F H:Hp}{s:Shared}(I:Inv X pins σ H s)(sm:yq F H):∀ (n:Nat) {A:Around} {d e:D} {x y:V} {u v:Value},okE n d=true→okE n e=true→At F d x→At F e y→xS x u→xS y v→A.units+n < cLine→SeqAt.EqAt A s u v (eqN n d e):=by
  intro n
  induction n with
  | zero =>
    intro A d e x y u v h1 h2 a1 a2 r1 r2 hu
    cases wo h1 a1
    cases wo h2 a2
    rw [zbw h1 h2]
    exact zfZ r1 r2 (Xd h1) (Xd h2)
  | succ n ih =>
    intro A d e x y u v h1 h2 a1 a2 r1 r2 hu
    have hu0:A.units < cLine:=Nat.lt_of_le_of_lt (Nat.le_add_right _ _) hu
    have hu1:A.units+1+n < cLine:=by rw [Nat.add_assoc,Nat.add_comm 1 n];exact hu
    rcases wj h1 with f1 | ⟨ds,rfl,k1⟩ | ⟨ds,rfl,k1⟩
    · cases wo f1 a1
      rcases wj h2 with f2 | ⟨es,rfl,k2⟩ | ⟨es,rfl,k2⟩
      · cases wo f2 a2
        rw [zbw f1 f2]
        exact zfZ r1 r2 (Xd f1) (Xd f2)
      · obtain ⟨q,its2,ys,rfl,_,_,_,ht2⟩:=WT I sm a2 r2
        rw [(zbB es f1).1]
        exact ((WC f1 r1 hu0).1 ht2).1
      · obtain ⟨q,its2,ys,rfl,_,_,_,ht2⟩:=WZ I sm a2 r2
        rw [(zbB es f1).2.1]
        exact ((WC f1 r1 hu0).2 ht2).1
    · obtain ⟨p,its,xs,rfl,hxp,rv,al,ht⟩:=WT I sm a1 r1
      rcases wj h2 with f2 | ⟨es,rfl,k2⟩ | ⟨es,rfl,k2⟩
      · cases wo f2 a2
        rw [(zbB ds f2).2.2.1]
        exact ((WC f2 r2 hu0).1 ht).2
      · obtain ⟨q,its2,ys,rfl,hyq,rv2,bl,ht2⟩:=WT I sm a2 r2
        by_cases hpq:p=q
        · subst hpq
          rw [hxp] at a1
          rw [hyq] at a2
          rw [zfV (n+1) h1 h2 a1 a2]
          exact .same _
        · have hl1:its.toArray.size=ds.length:=by rw [List.size_toArray,← rv.length,al.length]
          have hl2:its2.toArray.size=es.length:=by rw [List.size_toArray,← rv2.length,bl.length]
          have:=SeqAt.RcAt.tuples (A:=A) (e:=fun j=>eqN n (ds.getD j .non) (es.getD j .non)) ht ht2 hu0 fun j g1 g2=>by
            obtain ⟨x',ax,rx⟩:=al.nth rv (j:=j) g1
            obtain ⟨y',ay,ry⟩:=bl.nth rv2 (j:=j) g2
            exact ih (wt k1 (hl1 ▸ g1)) (wt k2 (hl2 ▸ g2)) ax ay rx ry hu1
          rw [hl1,hl2] at this
          rw [show eqN (n+1) (.tup ds) (.tup es)=_ from zdv ds es]
          exact SeqAt.EqAt.of_refs hpq this
      · obtain ⟨q,its2,ys,rfl,_,_,_,ht2⟩:=WZ I sm a2 r2
        exact .tuple_list ht ht2 hu0
    · obtain ⟨p,its,xs,rfl,hxp,rv,al,ht⟩:=WZ I sm a1 r1
      rcases wj h2 with f2 | ⟨es,rfl,k2⟩ | ⟨es,rfl,k2⟩
      · cases wo f2 a2
        rw [(zbB ds f2).2.2.2]
        exact ((WC f2 r2 hu0).2 ht).2
      · obtain ⟨q,its2,ys,rfl,_,_,_,ht2⟩:=WT I sm a2 r2
        exact .list_tuple ht ht2 hu0
      · obtain ⟨q,its2,ys,rfl,hyq,rv2,bl,ht2⟩:=WZ I sm a2 r2
        by_cases hpq:p=q
        · subst hpq
          rw [hxp] at a1
          rw [hyq] at a2
          rw [zfV (n+1) h1 h2 a1 a2]
          exact .same _
        · have hl1:its.toArray.size=ds.length:=by rw [List.size_toArray,← rv.length,al.length]
          have hl2:its2.toArray.size=es.length:=by rw [List.size_toArray,← rv2.length,bl.length]
          rw [show eqN (n+1) (.lst ds) (.lst es)=_ from zdv ds es]
          by_cases hle:ds.length=es.length
          · have:=SeqAt.RcAt.lists (A:=A) (e:=fun j=>eqN n (ds.getD j .non) (es.getD j .non)) ht ht2 (by rw [hl1,hl2,hle]) hu0 fun j g1 g2=>by
              obtain ⟨x',ax,rx⟩:=al.nth rv (j:=j) g1
              obtain ⟨y',ay,ry⟩:=bl.nth rv2 (j:=j) g2
              exact ih (wt k1 (hl1 ▸ g1)) (wt k2 (hl2 ▸ g2)) ax ay rx ry hu1
            rw [hl1] at this
            rw [←hle,Nat.min_self,beq_self_eq_true,Bool.and_true]
            exact SeqAt.EqAt.of_refs hpq this
          · have:=SeqAt.RcAt.lists_lengths (A:=A) ht ht2 (by rw [hl1,hl2];exact bne_iff_ne.mpr hle) hu0
            rw [beq_eq_false_iff_ne.mpr hle,Bool.and_false]
            exact SeqAt.EqAt.of_refs hpq this
noncomputable def zfr (d:D)(es:List D):Option Bool:=if okE 20 d=true∧es.all (okE 20)=true then some (es.any fun e=>eqN 20 e d) else none
noncomputable def inD (d e:D):Option D:=(yj e).bind fun es=>(zfr d es).map .bl
noncomputable def zbi (d e:D):Option D:=(yj e).bind fun es=>(zfr d es).map fun b=>.bl (!b)
open Classical in
noncomputable def VZ (F:Hp)(d:D)(u:Value):Bool:=decide (∃ d0 x,At F d0 x∧xS x u∧okE 20 d0=true∧eqN 20 d0 d=true)
open Classical in
theorem zav {F:Hp}{d d0:D}{x:V}{u:Value}(a:At F d0 x)(r:xS x u)(k:okE 20 d0=true):VZ F d u=eqN 20 d0 d:=by
  unfold VZ
  cases h:eqN 20 d0 d with
  | true=>exact decide_eq_true ⟨d0,x,a,r,k,h⟩
  | false =>
    refine decide_eq_false ?_
    rintro ⟨d1,y,a1,r1,k1,h1⟩
    have e:=r1.inj r
    subst e
    rw [zfP 20 k1 k a1 a] at h1
    rw [h1] at h
    cases h
theorem Zf {F:Hp}{d:D}:∀ {ds:List D} {xs:List V} {us:List Value},AtL F ds xs→yP xs us→ds.all (okE 20)=true→us.any (VZ F d)=ds.any fun e=>eqN 20 e d
  | [],_,_,al,r,_=>by cases al.nil_inv;cases r;rfl
  | e::ds,_,_,al,r,k=>by
    obtain ⟨x,xs,rfl,a1,a2⟩:=al.cons_inv
    cases r with
    | cons r1 r2 =>
      rw [List.all_cons,Bool.and_eq_true] at k
      rw [List.any_cons,List.any_cons,zav a1 r1 k.1,Zf a2 r2 k.2]
section
variable {X:Cx}
noncomputable def zjn (neg:Bool):R2:=fun x y H Q=>∃ F d e es b,yq F H∧At F d x∧At F e y∧yj e=some es∧zfr d es=some b∧Q (.bl (if neg then !b else b)) H
theorem zhD {k:Nat}(hr:vN k X.A):OpR X (compareOp .In) (zjn false):=by
  intro pins s σ H x y v u Q I rx ry h
  obtain ⟨F,d,e,es,b,sm,a1,a2,hs,hb,q⟩:=h
  unfold zfr at hb
  split at hb <;> cases hb
  rename_i hk
  have hu:X.A.in1.units+20 < cLine:=by have:=hr.un;show X.A.units+1+20 < cLine;omega
  have mem:∀ {xs:List V} {us:List Value},AtL F es xs→yP xs us→∀ z∈us,SeqAt.EqAt X.A.in1 s z v (VZ F d z):=fun {xs us} al r z hz=>by
    obtain ⟨j,hj,rfl⟩:=List.getElem_of_mem hz
    obtain ⟨x',ax,rx'⟩:=al.nth r hj
    have hj':j < es.length:=by have:=al.length;have:=r.length;omega
    have k2:=wt hk.2 hj'
    rw [zav ax rx' k2]
    exact V6 I sm 20 k2 hk.1 ax a1 rx' rx hu
  cases e <;> cases hs
  · obtain ⟨p,xs,rfl,hx,al⟩:=a2.tup_inv
    cases ry
    obtain ⟨its,r,pl,hz⟩:=I.tuple (SqT.of (sm _ _ hx))
    refine SeqAt.in_tupleAt (VZ F d) pl (fun z hz=>mem al r z (by simpa using hz)) ⟨.bl _,H,I,rfl,?_⟩
    rw [show its.toArray.any (VZ F d)=its.any (VZ F d) by simp,Zf al r hk.2]
    exact q
  · obtain ⟨p,xs,rfl,hx,al⟩:=a2.lst_inv
    cases ry
    obtain ⟨its,r,pl,hz⟩:=I.list (SqL.of (sm _ _ hx))
    refine SeqAt.in_listAt (VZ F d) pl.isList (fun z hz=>mem al r z (by simpa using hz)) ⟨.bl _,H,I,rfl,?_⟩
    rw [show its.toArray.any (VZ F d)=its.any (VZ F d) by simp,Zf al r hk.2]
    exact q
theorem zcM {k:Nat}(hr:vN k X.A):OpR X (compareOp .NotIn) (zjn true):=by
  intro pins s σ H x y v u Q I rx ry h
  obtain ⟨F,d,e,es,b,sm,a1,a2,hs,hb,q⟩:=h
  unfold zfr at hb
  split at hb <;> cases hb
  rename_i hk
  have hu:X.A.in1.units+20 < cLine:=by have:=hr.un;show X.A.units+1+20 < cLine;omega
  have mem:∀ {xs:List V} {us:List Value},AtL F es xs→yP xs us→∀ z∈us,SeqAt.EqAt X.A.in1 s z v (VZ F d z):=fun {xs us} al r z hz=>by
    obtain ⟨j,hj,rfl⟩:=List.getElem_of_mem hz
    obtain ⟨x',ax,rx'⟩:=al.nth r hj
    have hj':j < es.length:=by have:=al.length;have:=r.length;omega
    have k2:=wt hk.2 hj'
    rw [zav ax rx' k2]
    exact V6 I sm 20 k2 hk.1 ax a1 rx' rx hu
  cases e <;> cases hs
  · obtain ⟨p,xs,rfl,hx,al⟩:=a2.tup_inv
    cases ry
    obtain ⟨its,r,pl,hz⟩:=I.tuple (SqT.of (sm _ _ hx))
    refine SeqAt.notIn_tupleAt (VZ F d) pl (fun z hz=>mem al r z (by simpa using hz)) ⟨.bl _,H,I,rfl,?_⟩
    rw [show its.toArray.any (VZ F d)=its.any (VZ F d) by simp,Zf al r hk.2]
    exact q
  · obtain ⟨p,xs,rfl,hx,al⟩:=a2.lst_inv
    cases ry
    obtain ⟨its,r,pl,hz⟩:=I.list (SqL.of (sm _ _ hx))
    refine SeqAt.notIn_listAt (VZ F d) pl.isList (fun z hz=>mem al r z (by simpa using hz)) ⟨.bl _,H,I,rfl,?_⟩
    rw [show its.toArray.any (VZ F d)=its.any (VZ F d) by simp,Zf al r hk.2]
    exact q
theorem zio:OpD (zjn false) inD:=by
  intro F H x y d e z Q s ax ay ez q
  obtain ⟨es,e1,e2⟩:=Option.bind_eq_some_iff.mp ez
  obtain ⟨b,e3,rfl⟩:=Option.map_eq_some_iff.mp e2
  exact ⟨F,d,e,es,b,s,ax,ay,e1,e3,q F H _ (.refl s) .bl⟩
theorem zdm:OpD (zjn true) zbi:=by
  intro F H x y d e z Q s ax ay ez q
  obtain ⟨es,e1,e2⟩:=Option.bind_eq_some_iff.mp ez
  obtain ⟨b,e3,rfl⟩:=Option.map_eq_some_iff.mp e2
  exact ⟨F,d,e,es,b,s,ax,ay,e1,e3,q F H _ (.refl s) .bl⟩
noncomputable def eqG (d e:D):Option Bool:=match d,e with
  | .tup _,.tup _=>if okE 20 d=true∧okE 20 e=true then some (eqN 20 d e) else none
  | .lst _,.lst _=>if okE 20 d=true∧okE 20 e=true then some (eqN 20 d e) else none
  | _,_=>eqS d e
noncomputable def ZF (d e:D):Option D:=(eqG d e).map .bl
noncomputable def zjt:R2:=fun x y H Q=>∃ F d e,yq F H∧At F d x∧At F e y∧((∃ ds es,d=.tup ds∧e=.tup es)∨(∃ ds es,d=.lst ds∧e=.lst es))∧okE 20 d=true∧okE 20 e=true∧Q (.bl (eqN 20 d e)) H
theorem zhH {k:Nat}(hr:vN k X.A):OpR X (compareOp .Eq) zjt:=by
  intro pins s σ H x y v u Q I rx ry h
  obtain ⟨F,d,e,sm,a1,a2,hk,k1,k2,q⟩:=h
  have hu:X.A.units+30 < cLine:=by have:=hr.un;omega
  rcases hk with ⟨ds,es,rfl,rfl⟩ | ⟨ds,es,rfl,rfl⟩
  · obtain ⟨p,xs,rfl,hx,al⟩:=a1.tup_inv
    obtain ⟨p2,ys,rfl,hy,bl⟩:=a2.tup_inv
    cases rx
    cases ry
    obtain ⟨its,r,ht,hz⟩:=I.tuple (SqT.of (sm _ _ hx))
    obtain ⟨its2,r2,ht2,hz2⟩:=I.tuple (SqT.of (sm _ _ hy))
    have hl1:its.toArray.size=ds.length:=by rw [List.size_toArray,← r.length,al.length]
    have hl2:its2.toArray.size=es.length:=by rw [List.size_toArray,← r2.length,bl.length]
    refine SeqAt.eq_tupleAt (e:=fun j=>eqN 19 (ds.getD j .non) (es.getD j .non)) (show s.heap.IsTuple p its.toArray from ht) (show s.heap.IsTuple p2 its2.toArray from ht2) (by omega) (fun j g1 g2=>?_) ⟨.bl _,H,I,rfl,?_⟩
    · obtain ⟨x',ax,rx⟩:=al.nth r (j:=j) (by simpa using g1)
      obtain ⟨y',ay,ry⟩:=bl.nth r2 (j:=j) (by simpa using g2)
      exact V6 I sm 19 (wt k1 (by rw [←hl1];exact g1)) (wt k2 (by rw [←hl2];exact g2)) ax ay (by simpa using rx) (by simpa using ry) (Nat.lt_of_le_of_lt (show X.A.units+20≤X.A.units+30 from Nat.add_le_add_left (by decide) _) hu)
    · rw [hl1,hl2,← Wy]
      exact q
  · obtain ⟨p,xs,rfl,hx,al⟩:=a1.lst_inv
    obtain ⟨p2,ys,rfl,hy,bl⟩:=a2.lst_inv
    cases rx
    cases ry
    obtain ⟨its,r,ht,hz⟩:=I.list (SqL.of (sm _ _ hx))
    obtain ⟨its2,r2,ht2,hz2⟩:=I.list (SqL.of (sm _ _ hy))
    have hl1:its.toArray.size=ds.length:=by rw [List.size_toArray,← r.length,al.length]
    have hl2:its2.toArray.size=es.length:=by rw [List.size_toArray,← r2.length,bl.length]
    have e1:eqN 20 (.lst ds) (.lst es)=((List.range (min ds.length es.length)).all (fun j=>eqN 19 (ds.getD j .non) (es.getD j .non))&&ds.length == es.length):=by
      show ((List.zipWith (eqN 19) ds es).all id&&ds.length == es.length)=_
      rw [Wy]
    by_cases hle:ds.length=es.length
    · refine SeqAt.eq_listAt (e:=fun j=>eqN 19 (ds.getD j .non) (es.getD j .non)) ht.isList ht2.isList (by rw [hl1,hl2];exact hle) (Nat.lt_of_le_of_lt (Nat.le_add_right _ 30) hu) (fun j g1 g2=>?_) ⟨.bl _,H,I,rfl,?_⟩
      · obtain ⟨x',ax,rx⟩:=al.nth r (j:=j) (by simpa using g1)
        obtain ⟨y',ay,ry⟩:=bl.nth r2 (j:=j) (by simpa using g2)
        exact V6 I sm 19 (wt k1 (by rw [←hl1];exact g1)) (wt k2 (by rw [←hl2];exact g2)) ax ay (by simpa using rx) (by simpa using ry) (Nat.lt_of_le_of_lt (show X.A.units+20≤X.A.units+30 from Nat.add_le_add_left (by decide) _) hu)
      · rw [hl1]
        rw [e1,← hle,Nat.min_self] at q
        simpa using q
    · refine SeqAt.eq_list_lengthsAt ht.isList ht2.isList (by rw [hl1,hl2];simpa using hle) (Nat.lt_of_le_of_lt (Nat.le_add_right _ 30) hu) ⟨.bl _,H,I,rfl,?_⟩
      have:(ds.length == es.length)=false:=by simpa using hle
      rw [e1,this,Bool.and_false] at q
      exact q
theorem zg1:OpD zjt (fun d e=>match d,e with
  | .tup _,.tup _=>if okE 20 d=true∧okE 20 e=true then some (.bl (eqN 20 d e)) else none
  | .lst _,.lst _=>if okE 20 d=true∧okE 20 e=true then some (.bl (eqN 20 d e)) else none
  | _,_=>none):=by
  intro F H x y d e z Q s ax ay ez q
  dsimp only at ez
  split at ez
  · split at ez <;> cases ez
    rename_i hk
    exact ⟨F,_,_,s,ax,ay,.inl ⟨_,_,rfl,rfl⟩,hk.1,hk.2,q F H _ (.refl s) .bl⟩
  · split at ez <;> cases ez
    rename_i hk
    exact ⟨F,_,_,s,ax,ay,.inr ⟨_,_,rfl,rfl⟩,hk.1,hk.2,q F H _ (.refl s) .bl⟩
  · cases ez
theorem YH {k:Nat}(hr:vN k X.A):OpR X (compareOp .Eq) (fun x y H Q=>rEq x y H Q∨zjt x y H Q):=zhP.or (zhH hr)
theorem vm:OpD (fun x y H Q=>rEq x y H Q∨zjt x y H Q) ZF:=by
  refine zaU (VQ zfI zg1) fun d e z h=>?_
  obtain ⟨b,hb,rfl⟩:=Option.map_eq_some_iff.mp h
  unfold eqG at hb
  split at hb
  · split at hb <;> cases hb
    rename_i hk
    show (Option.or none (if okE 20 _=true∧okE 20 _=true then some (D.bl (eqN 20 _ _)) else none))=_
    rw [if_pos hk]
    rfl
  · split at hb <;> cases hb
    rename_i hk
    show (Option.or none (if okE 20 _=true∧okE 20 _=true then some (D.bl (eqN 20 _ _)) else none))=_
    rw [if_pos hk]
    rfl
  · show ((eqD d e).or _)=_
    unfold eqD
    rw [hb]
    rfl
theorem zbz {pins:List (Addr × Obj)}{σ:St}{H:Hp}{s:Shared}{a:Addr}{xs:List V}{A:Around}{Q:Value→Shared→Prop}{E:Value→Shared→Prop}(I:Inv X pins σ H s)(hh:A.handled=none)(h:SqL X.K H a xs∨SqT X.K H a xs)
    (k:∀ (it:Addr) (its:List Value) (fp wr:List Addr) (St:Nat→Heap→Prop) (s₂:Shared),yP xs its→Walks X.prog X.w A it fp wr its.length (fun i v=>its[i]?=some v) St→St 0 s₂.heap→(∀ b∈fp,b < s₂.heap.objs.size) →
      (∀ (h':Heap) (tk:Nat),(∀ b o,b∉wr→s₂.heap.get? b=some o→h'.get? b=some o)→Inv X pins σ H { s₂ with heap:=h',toks:=tk })→Q (.ref it) s₂) :
    wpAny (model X.prog X.w) A (pyIter (.ref a)) Q E s:=by
  have back:∀ {o:Obj} {s₂:Shared},s₂={ s with heap:=s.heap.push o }→∀ (h':Heap) (tk:Nat),(∀ b u,b∉[s.heap.objs.size]→s₂.heap.get? b=some u→h'.get? b=some u)→Inv X pins σ H { s₂ with heap:=h',toks:=tk }:=fun {o s₂} e h' tk kk=>by
    subst e
    exact I.kept (t':=tk) fun b u z=>kk b u (by simpa using Nat.ne_of_lt (Heap.lt_size z)) (Heap.get?_push_of_some _ z)
  rcases h with h | h
  · obtain ⟨its,rv,p,hz⟩:=I.list h
    have lt:a < s.heap.objs.size:=by obtain ⟨o,n,ho,_⟩:=p;exact Heap.lt_size ho
    refine wpAny_pyIter_list p.isList ?_
    have W:=Walks.list (prog:=X.prog) (w:=X.w) (A:=A) hh s.heap.objs.size a (Nat.ne_of_lt lt) its.toArray
    refine k s.heap.objs.size its [s.heap.objs.size,a] [s.heap.objs.size] (fun i h=>h.IsListIter s.heap.objs.size a i∧h.IsList a its.toArray) _ rv (by simpa using W) ⟨⟨_,Heap.get?_push_size _ rfl,rfl,rfl⟩,p.isList.at fun o e=>Heap.get?_push_of_some _ e⟩ (fun b hb=>?_) (back rfl)
    show b < (s.heap.push _).objs.size
    rw [Heap.size_push]
    rcases List.mem_cons.mp hb with rfl | hb
    · exact Nat.lt_succ_self _
    · rw [List.mem_singleton.mp hb];exact Nat.lt_succ_of_lt lt
  · obtain ⟨its,rv,p,hz⟩:=I.tuple h
    have p':s.heap.IsTuple a its.toArray:=p
    have lt:a < s.heap.objs.size:=by obtain ⟨o,ho,_⟩:=p;exact Heap.lt_size ho
    refine wpAny_pyIter_tuple p' ?_
    have W:=Walks.tuple (prog:=X.prog) (w:=X.w) (A:=A) hh s.heap.objs.size a (Nat.ne_of_lt lt) its.toArray
    refine k s.heap.objs.size its [s.heap.objs.size,a] [s.heap.objs.size] (fun i h=>h.IsTupleIter s.heap.objs.size a i∧h.IsTuple a its.toArray) _ rv (by simpa using W) ⟨⟨_,Heap.get?_push_size _ rfl,rfl,rfl⟩,p'.at fun o e=>Heap.get?_push_of_some _ e⟩ (fun b hb=>?_) (back rfl)
    show b < (s.heap.push _).objs.size
    rw [Heap.size_push]
    rcases List.mem_cons.mp hb with rfl | hb
    · exact Nat.lt_succ_self _
    · rw [List.mem_singleton.mp hb];exact Nat.lt_succ_of_lt lt
end
end Dl
namespace Dl
open PySem L2
variable [KK]
omit [KK] in
theorem zdW {bs:List Bool}:(List.range bs.length).all (fun i=>bs.getD i false)=bs.all id:=by
  have:bs=(List.range bs.length).map fun i=>bs.getD i false:=by
    apply List.ext_getElem
    · simp
    · intro i h1 h2
      simp [h1]
  conv=>rhs;rw [this]
  rw [List.all_map]
  rfl
omit [KK] in
theorem zc4:∀ (ns:List Int) (n:Nat),n≤ns.length→preSum (fun i=>ns.getD i 0) n=(ns.take n).sum:=by
  intro ns n
  induction n with
  | zero=>intro _;simp [preSum]
  | succ n ih =>
    intro h
    show preSum (fun i=>ns.getD i 0) n+ns.getD n 0=_
    rw [ih (by omega),List.take_succ,List.sum_append]
    have:ns[n]?=some ns[n]:=by simp [show n < ns.length by omega]
    simp [this]
section
variable {X:Cx}
omit [KK] in
theorem zhh {bs:List Bool}{its:List Value}{i:Nat}{v:Value}(r:yP (bs.map V.bl) its)(h:its[i]?=some v):v=.bool (bs.getD i false):=by
  have hl:=r.length
  have hi:i < its.length:=(List.getElem?_eq_some_iff.mp h).1
  rw [List.length_map] at hl
  obtain ⟨u,hu,ru⟩:=r.get (i:=i) (x:=.bl (bs[i]'(by omega))) (by rw [List.getElem?_map];simp [show i < bs.length by omega])
  rw [h] at hu
  cases hu
  cases ru
  simp [show i < bs.length by omega]
omit [KK] in
theorem ze9 {ns:List Int}{its:List Value}{i:Nat}{v:Value}(r:yP (ns.map V.int) its)(h:its[i]?=some v):∃ t,v=.int (ns.getD i 0) t:=by
  have hl:=r.length
  have hi:i < its.length:=(List.getElem?_eq_some_iff.mp h).1
  rw [List.length_map] at hl
  obtain ⟨u,hu,ru⟩:=r.get (i:=i) (x:=.int (ns[i]'(by omega))) (by rw [List.getElem?_map];simp [show i < ns.length by omega])
  rw [h] at hu
  cases hu
  obtain ⟨t,rfl⟩:=ru
  exact ⟨t,by simp [show i < ns.length by omega]⟩
theorem zdO (hc:X.calm=true):YO X (.builtin "all") (fun xs H Q=>∃ (p:Addr) (bs:List Bool),xs=[.ref p]∧(SqL X.K H p (bs.map V.bl)∨SqT X.K H p (bs.map V.bl))∧Q (.bl (bs.all id)) H):=by
  intro pins s σ H xs us Q I r h
  obtain ⟨p,bs,rfl,hq,q⟩:=h
  obtain ⟨u,rfl,ru⟩:=zax r
  cases ru
  refine call_all_walk (zbz I (I.ok.hd hc) hq fun it its fp wr St s₂ rv W st fpl back=>?_)
  have hl:=rv.length
  rw [List.length_map] at hl
  refine ⟨it,fp,wr,_,_,St,fun i=>bs.getD i false,rfl,W,st,fun i v s Q E hv hQ=>?_,fun h' tk kk=>⟨.bl _,H,back h' tk kk,rfl,?_⟩⟩
  · rw [zhh rv hv]
    exact wpAny_truthy_bool hQ
  · rw [←hl,zdW]
    exact q
theorem zcI (hc:X.calm=true):YO X (.builtin "sum") (fun xs H Q=>∃ (p:Addr) (ns:List Int),xs=[.ref p]∧(SqL X.K H p (ns.map V.int)∨SqT X.K H p (ns.map V.int))∧Q (.int ns.sum) H):=by
  intro pins s σ H xs us Q I r h
  obtain ⟨p,ns,rfl,hq,q⟩:=h
  obtain ⟨u,rfl,ru⟩:=zax r
  cases ru
  refine call_sum_walkG (zbz I (I.ok.hd hc) hq fun it its fp wr St s₂ rv W st fpl back=>?_)
  have hl:=rv.length
  rw [List.length_map] at hl
  refine ⟨it,fp,wr,_,_,St,fun i=>ns.getD i 0,rfl,W,st,fpl,fun i v hv=>ze9 rv hv,fun h' tk t' kk=>⟨.int ns.sum,H,back h' tk kk,?_,q⟩⟩
  refine ⟨t',?_⟩
  rw [←hl,zc4 ns _ (Nat.le_refl _),List.take_length]
noncomputable def zgK:List D→Option (List Bool)
  | []=>some []
  | .bl b::ds=>(zgK ds).map (b::·)
  | _=>none
noncomputable def zgY:List D→Option (List Int)
  | []=>some []
  | .int b::ds=>(zgY ds).map (b::·)
  | _=>none
omit [KK] in
theorem zel:∀ {ds:List D} {bs:List Bool},zgK ds=some bs→ds=bs.map .bl
  | [],bs,h=>by cases h;rfl
  | d::ds,bs,h=>by
    cases d <;> try cases h
    obtain ⟨cs,h1,rfl⟩:=Option.map_eq_some_iff.mp h
    rw [zel h1]
    rfl
omit [KK] in
theorem zaB:∀ {ds:List D} {bs:List Int},zgY ds=some bs→ds=bs.map .int
  | [],bs,h=>by cases h;rfl
  | d::ds,bs,h=>by
    cases d <;> try cases h
    obtain ⟨cs,h1,rfl⟩:=Option.map_eq_some_iff.mp h
    rw [zaB h1]
    rfl
omit [KK] in
theorem zeJ (bs:List Bool):zgK (bs.map .bl)=some bs:=by
  induction bs with
  | nil=>rfl
  | cons b r ih=>show (zgK (r.map .bl)).map (b::·)=_;rw [ih];rfl
omit [KK] in
theorem zex (bs:List Int):zgY (bs.map .int)=some bs:=by
  induction bs with
  | nil=>rfl
  | cons b r ih=>show (zgY (r.map .int)).map (b::·)=_;rw [ih];rfl
theorem AtL.of_bls {H:Hp}:∀ {ns:List Bool} {xs:List V},AtL H (ns.map D.bl) xs→xs=ns.map V.bl
  | [],_,h=>h.nil_inv
  | n::r,_,h=>by
    obtain ⟨x,r',rfl,h1,h2⟩:=AtL.cons_inv (by simpa using h)
    rw [h1.bl_inv,AtL.of_bls h2]
    rfl
noncomputable def zjk {α:Type}(as:List D→Option α)(g:α→Option D):List D→Option D
  | [d]=>((yj d).bind as).bind g
  | _=>none
theorem zc8 {K:PySem.W.Frag}{F H:Hp}{vs:List V}{ds:List D}{z:D}{α:Type}{as:List D→Option α}{g:α→Option D}(s:yq F H)(al:AtL F ds vs)(e:zjk as g ds=some z) :
    ∃ p es xs b,vs=[.ref p]∧(SqL K H p xs∨SqT K H p xs)∧AtL F es xs∧as es=some b∧g b=some z:=by
  unfold zjk at e
  split at e
  · obtain ⟨b,e1,e2⟩:=Option.bind_eq_some_iff.mp e
    obtain ⟨es,e3,e4⟩:=Option.bind_eq_some_iff.mp e1
    obtain ⟨x,r,rfl,ax,ar⟩:=al.cons_inv
    cases ar.nil_inv
    rename_i d
    cases d <;> cases e3
    · obtain ⟨p,xs,rfl,hx,bl⟩:=ax.tup_inv
      exact ⟨p,_,xs,b,rfl,.inr (SqT.of (s _ _ hx)),bl,e4,e2⟩
    · obtain ⟨p,xs,rfl,hx,bl⟩:=ax.lst_inv
      exact ⟨p,_,xs,b,rfl,.inl (SqL.of (s _ _ hx)),bl,e4,e2⟩
  · cases e
noncomputable def zi0:=zjk zgK fun bs=>some (.bl (bs.all id))
noncomputable def zjA:=zjk zgY fun ns=>some (.int ns.sum)
theorem zgk {K:PySem.W.Frag}:CaD (fun xs H Q=>∃ (p:Addr) (bs:List Bool),xs=[.ref p]∧(SqL K H p (bs.map V.bl)∨SqT K H p (bs.map V.bl))∧Q (.bl (bs.all id)) H) zi0:=by
  intro F H vs ds z Q s al e q
  obtain ⟨p,es,xs,bs,rfl,hq,bl,e1,e2⟩:=zc8 (K:=K) s al e
  cases e2
  rw [zel e1] at bl
  rw [bl.of_bls] at hq
  exact ⟨p,bs,rfl,hq,q F H _ (.refl s) .bl⟩
theorem zhi {K:PySem.W.Frag}:CaD (fun xs H Q=>∃ (p:Addr) (ns:List Int),xs=[.ref p]∧(SqL K H p (ns.map V.int)∨SqT K H p (ns.map V.int))∧Q (.int ns.sum) H) zjA:=by
  intro F H vs ds z Q s al e q
  obtain ⟨p,es,xs,bs,rfl,hq,bl,e1,e2⟩:=zc8 (K:=K) s al e
  cases e2
  rw [zaB e1] at bl
  rw [bl.of_ints] at hq
  exact ⟨p,bs,rfl,hq,q F H _ (.refl s) .int⟩
end
end Dl
namespace Dl
open PySem L2
variable [KK]
section
variable {X:Cx}{tg a b c e:Expr}{pos:Pos}
noncomputable def zba:List D→List D→List D
  | x::xs,y::ys=>.tup [x,y]::zba xs ys
  | _,_=>[]
omit [KK] in
theorem zbp:∀ (xs ys:List D) (i:Nat),(zba xs ys)[i]?=match xs[i]?,ys[i]? with | some x,some y=>some (.tup [x,y]) | _,_=>none
  | [],ys,i=>by simp [zba]
  | x::xs,[],i=>by simp [zba]
  | x::xs,y::ys,0=>by simp [zba]
  | x::xs,y::ys,i+1=>by simpa [zba] using zbp xs ys i
omit [KK] in
theorem Xl:∀ (xs ys:List D),xs.length≤ys.length→(zba xs ys).length=xs.length
  | [],ys,_=>by simp [zba]
  | x::xs,[],h=>by simp at h
  | x::xs,y::ys,h=>by simp [zba,Xl xs ys (by simpa using h)]
noncomputable def yO (f:Ev→Option (List D)):Ev→Option (List D):=fun ρ=>(f ρ).bind fun as=>match as with
  | [d,e]=>(yj d).bind fun xs=>(yj e).bind fun ys=>if xs.length≤ys.length then some (zba xs ys) else none
  | _=>none
theorem zh9 {K:PySem.W.Frag}{F H:Hp}{d:D}{v:V}{ds:List D}(s:yq F H)(h:At F d v)(e:yj d=some ds):∃ b p xs,v=.ref p∧(∀ {F' H':Hp},yq F F'→yq F' H'→Sq b K H' p xs)∧AtL F ds xs:=by
  cases d <;> cases e
  · obtain ⟨p,xs,rfl,hx,al⟩:=h.tup_inv
    exact ⟨false,p,xs,rfl,fun s1 s2=>SqT.of (s2 _ _ (s1 _ _ hx)),al⟩
  · obtain ⟨p,xs,rfl,hx,al⟩:=h.lst_inv
    exact ⟨true,p,xs,rfl,fun s1 s2=>SqL.of (s2 _ _ (s1 _ _ hx)),al⟩
theorem ziE {es:List Expr} {k:Nat} {tp p:Pos} {f:Ev→Option (List D)} (hg:Gl X "zip") (hm:X.mg "zip"=none) (ha:AD X [a,b] f)
    (hs:starEach [a,b] X.env=[(false,eval a X.env),(false,eval b X.env)]:=by rfl) (hs2:starEach [b] X.env=[(false,eval b X.env)]:=by rfl):ID X (.Tuple es k tp) (.Call (.Name "zip" p) [a,b] [] pos) (yO f):=by
  obtain ⟨t,pa,r⟩:=ha
  refine ⟨_,ziI hg hm zhZ pa hs hs2,fun σ ρ F H ds R s va e q=>?_⟩
  obtain ⟨as,e1,e2⟩:=Option.bind_eq_some_iff.mp e
  refine r σ ρ F H as _ s va e1 fun F1 H1 v g1 a1=>?_
  split at e2
  · obtain ⟨x,r',rfl,ax,ar⟩:=a1.cons_inv
    obtain ⟨y,r',rfl,ay,ar⟩:=ar.cons_inv
    cases ar.nil_inv
    obtain ⟨xs,e3,e2'⟩:=Option.bind_eq_some_iff.mp e2
    obtain ⟨ys,e4,e2''⟩:=Option.bind_eq_some_iff.mp e2'
    clear e2 e2' e
    split at e2'' <;> cases e2''
    rename_i hle
    obtain ⟨b1,p1,us,rfl,sq1,al⟩:=zh9 (K:=X.K) g1.fh ax e3
    obtain ⟨b2,p2,ws,rfl,sq2,bl⟩:=zh9 (K:=X.K) g1.fh ay e4
    refine ⟨b1,b2,p1,p2,us,ws,rfl,sq1 (yq.refl _) g1.fh,sq2 (yq.refl _) g1.fh,q F1 H1 _ g1 fun i F2 H2 s1 s2=>?_⟩
    have q1:=sq1 s1 s2
    have q2:=sq2 s1 s2
    refine ⟨fun hl=>⟨us,q1,by rw [hl,Xl _ _ hle,al.length]⟩,fun d hd=>?_⟩
    rw [zbp] at hd
    cases h1:xs[i]? with
    | none=>rw [h1] at hd;cases hd
    | some x =>
      cases h2:ys[i]? with
      | none=>rw [h1,h2] at hd;cases hd
      | some y =>
        rw [h1,h2] at hd
        cases hd
        obtain ⟨u,hu,au⟩:=al.get h1
        obtain ⟨u2,hu2,au2⟩:=bl.get h2
        refine ⟨⟨us,ws,u,u2,q1,q2,hu,hu2⟩,fun z H3 hz=>?_⟩
        obtain ⟨T,x',y',rfl,hT,rfl,hx',hy'⟩:=hz
        have e5:=hx' us q1
        have e6:=hy' ws q2
        rw [hu] at e5
        rw [hu2] at e6
        cases e5
        cases e6
        have g3:=Gr.alloc s2 hT (.tup [u,u2])
        exact ⟨_,g3,.tup zp (.cons (au.mono (s1.trans g3.ff)) (.cons (au2.mono (s1.trans g3.ff)) .nil))⟩
  · cases e2
noncomputable def yn (g:List D→Option (List D))(f:Ev→Option (List D))(b:D→SE→Option SE)(h:SE→Ctl):SE→Ctl:=fun ρ=>match (f (visG ρ)).bind g with
  | some ds=>zbh b h ds ρ
  | none=>.no
theorem Vd {p pos':Pos} {body:List Stmt} {f:Ev→Option (List D)} {b':D→SE→Option SE} {g:SE→Ctl} (hp:PassesOwn (model X.prog X.w) X.A X.env X.xe) (hc:X.calm=true) (hgl:Gl X "range") (hm:X.mg "range"=none) (ha:AD X [a] f) (hg:BD X tg b') (hb:SDs X body g)
    (hs0:starEach [a] X.env=[(false,eval a X.env)]:=by rfl) (hs:∀ x,foldedSetIterable (.Call (.Name "range" p) [a] [] pos) X.env x=pure x:=by intro _;rfl):SD X (.For tg (.Call (.Name "range" p) [a] [] pos) body [] pos') (yn wc f b' g):=by
  obtain ⟨t,pa,r⟩:=ha
  obtain ⟨tg',pg,rg⟩:=hg
  obtain ⟨tb,pb,rb⟩:=hb
  refine ⟨_,zbc hp hc (VS hgl hm pa hs0) pg pb hs,fun Fb Hb F H ρ σ E rl k=>?_⟩
  unfold yn at k
  cases h:(f (visG ρ)).bind wc with
  | none=>rw [h] at k;exact k.elim
  | some ds =>
    rw [h] at k
    obtain ⟨as,e1,e2⟩:=Option.bind_eq_some_iff.mp h
    refine r σ _ _ H as _ rl.gh rl.visG e1 fun F1 H1 vs g1 a1=>?_
    have rl2:=rl.grow (rl.back g1).1
    unfold wc at e2
    split at e2
    · split at e2 <;> cases e2
      rename_i hc
      obtain ⟨x,r',rfl,ax,ar⟩:=a1.cons_inv
      cases ar.nil_inv
      exact ⟨_,by rw [ax.int_inv],(yx.mp hc).1,(yx.mp hc).2,zdr (zbr 0 _) rg rb rl2 k⟩
    · cases e2
theorem zeG {p pos':Pos} {body:List Stmt} {f:Ev→Option (List D)} {b':D→SE→Option SE} {g:SE→Ctl} (hp:PassesOwn (model X.prog X.w) X.A X.env X.xe) (hc:X.calm=true) (hgl:Gl X "range") (hm:X.mg "range"=none) (ha:AD X [a,b] f) (hg:BD X tg b') (hb:SDs X body g)
    (hs0:starEach [a,b] X.env=[(false,eval a X.env),(false,eval b X.env)]:=by rfl) (hs2:starEach [b] X.env=[(false,eval b X.env)]:=by rfl) (hs:∀ x,foldedSetIterable (.Call (.Name "range" p) [a,b] [] pos) X.env x=pure x:=by intro _;rfl):SD X (.For tg (.Call (.Name "range" p) [a,b] [] pos) body [] pos') (yn wv f b' g):=by
  obtain ⟨t,pa,r⟩:=ha
  obtain ⟨tg',pg,rg⟩:=hg
  obtain ⟨tb,pb,rb⟩:=hb
  refine ⟨_,zbc hp hc (Vw hgl hm pa hs0 hs2) pg pb hs,fun Fb Hb F H ρ σ E rl k=>?_⟩
  unfold yn at k
  cases h:(f (visG ρ)).bind wv with
  | none=>rw [h] at k;exact k.elim
  | some ds =>
    rw [h] at k
    obtain ⟨as,e1,e2⟩:=Option.bind_eq_some_iff.mp h
    refine r σ _ _ H as _ rl.gh rl.visG e1 fun F1 H1 vs g1 a1=>?_
    have rl2:=rl.grow (rl.back g1).1
    unfold wv at e2
    split at e2
    · split at e2 <;> cases e2
      rename_i hc
      obtain ⟨x,r',rfl,ax,ar⟩:=a1.cons_inv
      obtain ⟨y,r',rfl,ay,ar⟩:=ar.cons_inv
      cases ar.nil_inv
      exact ⟨_,_,by rw [ax.int_inv,ay.int_inv],⟨(yx.mp hc.1).1,(yx.mp hc.1).2,(yx.mp hc.2).1,(yx.mp hc.2).2⟩,zdr (zbr _ _) rg rb rl2 k⟩
    · cases e2
end
theorem zhk {P:Program}{w:World}{K:PySem.W.Frag}{mg:Str→Option Value}{base:Heap}{f:Addr}{fd:FuncData}{ps:List Str}{k m:Nat}:xk P w K mg base CX0 k f fd ps (spD m fun _=>none):=by
  refine ⟨fun vs H Q E h=>?_,fun A outer s H args us vs Q E _ _ _ _ h=>?_⟩
  · obtain ⟨_,_,_,_,_,_,e,_⟩:=h
    cases e
  · obtain ⟨_,_,_,_,_,_,e,_⟩:=h
    cases e
noncomputable def zi3 (n:Nat)(g:(List D→Option D)→SE→Ctl):Nat→List D→Option D
  | 0=>fun _=>none
  | k+1=>fnD n (g (zi3 n g k))
theorem zhO {P:Program}{w:World}{K:PySem.W.Frag}{mg:Str→Option Value}{base:Heap}{x qual:Str}{st:Stmt}{f:Addr}{fd:FuncData}{N ps:List Str}{k0:Nat}{g:(List D→Option D)→SE→Ctl}(Fu:Fun K x qual st f fd)(S:zA N ps (ze st))
    (hb:∀ (k:Nat) (r:List D→Option D),xk P w K mg base CX0 (k0+k) f fd ps (spD ps.length r)→∀ (cdv:Value) (A:Around) (outer:List Env) (s:Shared) (H:Hp) (E:XK),vN (k0+k) (A.deeper (PyProof.Rows.envOfC qual (ze st) s.heap.objs.size f cdv))→SDs (Y2 CX0 P w K mg base N qual (ze st) f cdv A outer s H E).nox (zy st) (g r)) :
    ∀ n,xk P w K mg base CX0 (k0+n) f fd ps (spD ps.length (zi3 N.length g n)):=by
  intro n
  induction n with
  | zero=>exact zhk
  | succ n ih=>exact xU Fu S fun cdv A outer s H E hr=>hb n _ ih cdv A outer s H E hr
noncomputable def zc6 (K:PySem.W.Frag):Sp:=fun vs H Q _=>∃ (a:Addr) (ns:List Int),vs=[.ref a]∧SqL K H a (ns.map V.int)∧ns.length≤63∧∀ H',Q (.bl true) H'
end Dl
namespace Dl
open PySem L2
theorem zhx {P:Program}{w:World}{K:PySem.W.Frag}{mg:Str→Option Value}{base:Heap}{f:Addr}{fd:FuncData}{ps:List Str}{k:Nat}{p:List D→Option D}(F:xk P w K mg base CX0 k f fd ps (@spD ⟨K⟩ 1 p))(h:∀ ns:List Int,ns.length≤63→p [.scr ns]=some (.bl true)) :
    xk P w K mg base CX0 k f fd ps (zc6 K):=by
  letI:KK:=⟨K⟩
  refine F.imp fun vs H Q E hs=>?_
  obtain ⟨a,ns,rfl,hq,hl,q⟩:=hs
  refine ⟨[.scr ns],.bl true,H,rfl,yq.refl _,.cons ?_ .nil,h ns hl,fun F' H' v _ av=>?_⟩
  · unfold At
    exact ⟨a,rfl,hq⟩
  · rw [av.bl_inv]
    exact q H'
structure Def (K:PySem.W.Frag) (mg:Str→Option Value) (x:Str) (st:Stmt) (ps:List Str) (f:Addr) (fd:FuncData):Prop where
  fn:Fun K x x st f fd
  bd:Zr K fd ps []
  at_:mg x=some (.ref f)
theorem Def.kp {K:PySem.W.Frag}{mg:Str→Option Value}{x:Str}{st:Stmt}{ps:List Str}{f:Addr}{fd:FuncData}(d:Def K mg x st ps f fd):PySem.W.keepIn K (.ref f)=true:=d.fn.kp
end Dl
namespace Dl
open PySem L2
inductive Ctl.w:Ctl→(SE→Prop)→(SE→Prop)→(SE→Prop)→(D→Prop)→Prop where
  | nx {ρ:SE} {n b k:SE→Prop} {r:D→Prop}:n ρ→Ctl.w (.nx ρ) n b k r
  | bk {ρ:SE} {n b k:SE→Prop} {r:D→Prop}:b ρ→Ctl.w (.bk ρ) n b k r
  | ct {ρ:SE} {n b k:SE→Prop} {r:D→Prop}:k ρ→Ctl.w (.ct ρ) n b k r
  | rt {d:D} {n b k:SE→Prop} {r:D→Prop}:r d→Ctl.w (.rt d) n b k r
section
variable {ρ:SE}{d:D}{n b k:SE→Prop}{r:D→Prop}
theorem Ctl.w.nxi (h:Ctl.w (.nx ρ) n b k r):n ρ:=by cases h;assumption
theorem Ctl.w.bki (h:Ctl.w (.bk ρ) n b k r):b ρ:=by cases h;assumption
theorem Ctl.w.cti (h:Ctl.w (.ct ρ) n b k r):k ρ:=by cases h;assumption
theorem Ctl.w.rti (h:Ctl.w (.rt d) n b k r):r d:=by cases h;assumption
theorem Ctl.w.noi (h:Ctl.w .no n b k r):False:=by cases h
end
noncomputable abbrev noP:SE→Prop:=fun _=>False
section
variable {g h:SE→Ctl}{ρ ρ':SE}{n b k:SE→Prop}{r:D→Prop}
theorem xt (e:(g ρ).w (fun ρ'=>(h ρ').w n b k r) b k r):(zK g h ρ).w n b k r:=by
  unfold zK
  cases hg:g ρ with
  | nx ρ'=>rw [hg] at e;exact e.nxi
  | bk ρ'=>rw [hg] at e;exact .bk e.bki
  | ct ρ'=>rw [hg] at e;exact .ct e.cti
  | rt d=>rw [hg] at e;exact .rt e.rti
  | no=>rw [hg] at e;exact e.noi.elim
theorem zB (e:g ρ=.nx ρ')(q:(h ρ').w n b k r):(zK g h ρ).w n b k r:=xt (by rw [e];exact .nx q)
theorem Yv (e:g ρ=.nx ρ')(q:n ρ'):(g ρ).w n b k r:=by rw [e];exact .nx q
theorem Y1 {d:D}(e:g ρ=.rt d)(q:r d):(g ρ).w n b k r:=by rw [e];exact .rt q
theorem Zs {t:Ev→Option Bool}{c:Bool}(e:t (visG ρ)=some c)(h1:c=true→(g ρ).w n b k r)(h2:c=false→(h ρ).w n b k r):(sIf t g h ρ).w n b k r:=by
  unfold sIf
  rw [e]
  cases c with
  | true=>exact h1 rfl
  | false=>exact h2 rfl
theorem zf3 {i:Nat}(e:ziA ρ i=ρ')(q:(g ρ').w n b k r):(sFz i g ρ).w n b k r:=by
  unfold sFz
  rw [e]
  exact q
theorem zcz {bd:D→SE→Option SE}(I:Nat→SE→Prop):∀ (ds:List D) (j:Nat) (ρ:SE),I j ρ →
    (∀ i d ρ,ds[i]?=some d→I (j+i) ρ→∃ ρ1,bd d ρ=some ρ1∧(g ρ1).w (I (j+i+1)) n (I (j+i+1)) r)→(∀ ρ,I (j+ds.length) ρ→n ρ)→(zbh bd g ds ρ).w n b k r
  | [],j,ρ,h0,_,fin=>.nx (fin ρ h0)
  | d::ds,j,ρ,h0,step,fin=>by
    obtain ⟨ρ1,e1,e2⟩:=step 0 d ρ rfl h0
    unfold zbh
    rw [e1]
    dsimp only
    have next:∀ ρ',I (j+1) ρ'→(zbh bd g ds ρ').w n b k r:=fun ρ' h'=>zcz I ds (j+1) ρ' h'
      (fun i d' ρ hd hI=>by
        have:=step (i+1) d' ρ (by simpa using hd) (by rw [show j+(i+1)=j+1+i by omega];exact hI)
        rwa [show j+(i+1)+1=j+1+i+1 by omega] at this)
      (fun ρ hI=>fin ρ (by rw [List.length_cons,show j+(ds.length+1)=j+1+ds.length by omega];exact hI))
    cases hg:g ρ1 with
    | nx ρ'=>rw [hg] at e2;exact next ρ' e2.nxi
    | ct ρ'=>rw [hg] at e2;exact next ρ' e2.cti
    | bk ρ'=>rw [hg] at e2;exact .nx e2.bki
    | rt d'=>rw [hg] at e2;exact .rt e2.rti
    | no=>rw [hg] at e2;exact e2.noi.elim
theorem V7 {f:Ev→Option (List D)}{bd:D→SE→Option SE}{ds:List D}(I:Nat→SE→Prop)(e:f (visF ρ)=some ds)(h0:I 0 ρ)
    (step:∀ i d ρ,ds[i]?=some d→I i ρ→∃ ρ1,bd d ρ=some ρ1∧(g ρ1).w (I (i+1)) n (I (i+1)) r) (fin:∀ ρ,I ds.length ρ→n ρ):(wA f bd g ρ).w n b k r:=by
  unfold wA
  rw [e]
  exact zcz I ds 0 ρ h0 (fun i d ρ hd hI=>by rw [Nat.zero_add] at hI ⊢;exact step i d ρ hd hI) (fun ρ hI=>fin ρ (by rw [Nat.zero_add] at hI;exact hI))
theorem zbs {f:Ev→Option (List D)}{bd:D→SE→Option SE}{rg:List D→Option (List D)}{lo:Int}{c:Nat}(I:Nat→SE→Prop)(e:(f (visG ρ)).bind rg=some (Z3 lo c))(h0:I 0 ρ)
    (step:∀ (i:Nat) ρ,i < c→I i ρ→∃ ρ1,bd (.int (lo+i)) ρ=some ρ1∧(g ρ1).w (I (i+1)) n (I (i+1)) r) (fin:∀ ρ,I c ρ→n ρ):(yn rg f bd g ρ).w n b k r:=by
  unfold yn
  rw [e]
  refine zcz I (Z3 lo c) 0 ρ h0 (fun i d ρ hd hI=>?_) (fun ρ hI=>fin ρ ?_)
  · rw [Nat.zero_add] at hI ⊢
    unfold Z3 at hd
    rw [List.getElem?_map] at hd
    by_cases hi:i < c
    · rw [List.getElem?_range hi] at hd
      cases hd
      exact step i ρ hi hI
    · rw [List.getElem?_eq_none (by simpa using hi)] at hd
      cases hd
  · rw [Nat.zero_add] at hI
    rwa [show (Z3 lo c).length=c by unfold Z3;simp] at hI
end
theorem Vh {m:Nat}{g:SE→Ctl}{ds:List D}{d:D}{ρ:SE}(e:ds.map .v++List.replicate (m - ds.length) .no=ρ)(q:(g ρ).w (fun _=>d=.non) noP noP (fun d'=>d'=d)):fnD m g ds=some d:=by
  unfold fnD
  rw [e]
  cases hg:g ρ with
  | nx ρ'=>rw [hg] at q;rw [show d=.non from q.nxi]
  | rt d'=>rw [hg] at q;rw [show d'=d from q.rti]
  | bk _=>rw [hg] at q;exact q.bki.elim
  | ct _=>rw [hg] at q;exact q.cti.elim
  | no=>rw [hg] at q;exact q.noi.elim
theorem Z0 {m:Bool}{i:Nat}{f:Ev→Option D}{ρ:SE}{ds:List D}{d:D}(h1:vEv m f ρ=some d)(h2:ρ[i]?=some (.o ds))(h3:ds.length≤1000):wl m i f ρ=.nx (ρ.set i (.o (ds++[d]))):=by
  unfold wl
  rw [h1,h2]
  show (match (if decide (ds.length < sizeLine)=true then some (ρ.set i (.o (ds++[d]))) else none) with | some ρ'=>Ctl.nx ρ' | none=>Ctl.no)=_
  rw [if_pos (decide_eq_true (vC h3))]
theorem WU {b:D→Option (List (Option D))}{t:Ev→Option Bool}{f:Ev→Option D}{ρ:Ev}{α:Type}(c:α→D)(y:α→D):∀ (xs:List α),(∀ x∈xs,∃ own,b (c x)=some own∧t (own++ρ)=some true∧f (own++ρ)=some (y x))→lcD b t f ρ (xs.map c)=some (xs.map y)
  | [],_=>rfl
  | x::xs,h=>by
    obtain ⟨own,h1,h2,h3⟩:=h x List.mem_cons_self
    show lcD b t f ρ (c x::xs.map c)=_
    unfold lcD
    rw [h1]
    simp only [Option.bind_some,h2,if_true,h3,WU c y xs fun z hz=>h z (List.mem_cons_of_mem _ hz)]
    rfl
theorem Zy {b:D→Option (List (Option D))}{t:Ev→Option Bool}{f:Ev→Option D}{ρ:Ev}{α:Type}(c:α→D)(p:α→Bool)(y:α→D):∀ (xs:List α),(∀ x∈xs,∃ own,b (c x)=some own∧t (own++ρ)=some (p x)∧(p x=true→f (own++ρ)=some (y x)))→lcD b t f ρ (xs.map c)=some ((xs.filter p).map y)
  | [],_=>rfl
  | x::xs,h=>by
    obtain ⟨own,h1,h2,h3⟩:=h x List.mem_cons_self
    have ih:=Zy c p y xs fun z hz=>h z (List.mem_cons_of_mem _ hz)
    show lcD b t f ρ (c x::xs.map c)=_
    unfold lcD
    rw [h1]
    simp only [Option.bind_some,h2]
    cases hp:p x with
    | false =>
      rw [if_neg Bool.false_ne_true,ih,List.filter_cons,if_neg (by rw [hp];exact Bool.false_ne_true)]
    | true =>
      rw [if_pos rfl,h3 hp,ih,List.filter_cons,if_pos hp]
      rfl
mutual
noncomputable def noS:D→Bool
  | .tup ds=>zet ds
  | .lst ds=>zet ds
  | .scr _=>false
  | _=>true
noncomputable def zet:List D→Bool
  | []=>true
  | d::ds=>noS d&&zet ds
end
theorem vK:∀ {ds:List D} {i:Nat} {d:D},zet ds=true→ds[i]?=some d→noS d=true
  | [],_,_,_,h=>by simp at h
  | d::ds,i,e,h,he=>by
    unfold zet at h
    rw [Bool.and_eq_true] at h
    cases i with
    | zero=>simp at he;subst he;exact h.1
    | succ i=>exact vK h.2 (by simpa using he)
theorem vB {n:Nat}(h:n≤1000):lim n=true:=by
  unfold lim
  exact decide_eq_true (Nat.le_of_lt (vC h))
theorem zag (lo:Int)(n:Nat):(Z3 lo n).length=n:=by unfold Z3;simp
end Dl
namespace Dl
open PySem L2
noncomputable abbrev Pr:=Int × Int
noncomputable def prD (t:Pr):D:=.tup [.int t.1,.int t.2]
noncomputable def zji:D→Option Pr
  | .tup [.int a,.int b]=>some (a,b)
  | _=>none
noncomputable def zaq:List D→Option (List Pr)
  | []=>some []
  | d::ds=>(zji d).bind fun t=>(zaq ds).map (t::·)
theorem zgW {d:D}{t:Pr}(h:zji d=some t):d=prD t:=by
  unfold zji at h
  split at h
  · cases h;rfl
  · cases h
theorem zbx:∀ {ds:List D} {ts:List Pr},zaq ds=some ts→ds=ts.map prD
  | [],ts,h=>by cases h;rfl
  | d::ds,ts,h=>by
    unfold zaq at h
    obtain ⟨t,h1,h2⟩:=Option.bind_eq_some_iff.mp h
    obtain ⟨us,h3,rfl⟩:=Option.map_eq_some_iff.mp h2
    rw [zgW h1,zbx h3]
    rfl
theorem zd5 (ts:List Pr):zaq (ts.map prD)=some ts:=by
  induction ts with
  | nil=>rfl
  | cons t ts ih =>
    show (zji (prD t)).bind (fun u=>(zaq (ts.map prD)).map (u::·))=_
    rw [ih]
    rfl
noncomputable def zht (a b:Pr):Bool:=!OwnSort.bltP b a
noncomputable def Zp (ts:List Pr):List Pr:=ts.mergeSort zht
noncomputable def leI (a b:Int):Bool:=decide (a≤b)
noncomputable def ze6 (ns:List Int):List Int:=ns.mergeSort leI
theorem Wp {a b:Pr}:OwnSort.bltP b a=false↔zht a b=true:=by unfold zht;simp
theorem vd {a b:Pr}:zht a b=true↔a.1 < b.1∨(a.1=b.1∧a.2≤b.2):=by
  rw [←Wp]
  unfold OwnSort.bltP
  rw [decide_eq_false_iff_not]
  omega
theorem zb7 {ts us:List Pr}(p:us.Perm ts)(h:us.Pairwise fun a b=>OwnSort.bltP b a=false):us=Zp ts:=by
  refine List.Perm.eq_of_pairwise (le:=fun a b=>zht a b=true) (fun a b _ _ h1 h2=>?_) (h.imp fun x=>Wp.mp x) ?_ (p.trans (List.mergeSort_perm _ _).symm)
  · rw [vd] at h1 h2
    exact Prod.ext (by omega) (by omega)
  · exact List.pairwise_mergeSort (fun a b c h1 h2=>by rw [vd] at *;omega) (fun a b=>by rw [Bool.or_eq_true,vd,vd];omega) _
theorem zbN {ts us:List Int}(p:us.Perm ts)(h:us.Pairwise (·≤·)):us=ze6 ts:=by
  refine List.Perm.eq_of_pairwise (le:=fun a b=>leI a b=true) (fun a b _ _ h1 h2=>?_) (h.imp fun x=>decide_eq_true x) ?_ (p.trans (List.mergeSort_perm _ _).symm)
  · unfold leI at h1 h2
    rw [decide_eq_true_eq] at h1 h2
    omega
  · exact List.pairwise_mergeSort (fun a b c h1 h2=>by unfold leI at *;rw [decide_eq_true_eq] at *;omega) (fun a b=>by unfold leI;rw [Bool.or_eq_true,decide_eq_true_eq,decide_eq_true_eq];omega) _
noncomputable def Vp:List D→Option (List D)
  | [.lst ds]=>if ds.length < 64 then match zaq ds with
      | some ts=>some ((Zp ts).map prD)
      | none=>match zgY ds with
        | some ns=>some ((ze6 ns).map .int)
        | none=>none
    else none
  | _=>none
variable [KK]
section
variable {X:Cx}{e:Expr}{pos:Pos}
theorem At.pr_inv {F:Hp}{t:Pr}{v:V}(h:At F (prD t) v):∃ a,v=.ref a∧F a=some (.tup [.int t.1,.int t.2]):=by
  obtain ⟨a,xs,rfl,hx,al⟩:=h.tup_inv
  obtain ⟨x,r,rfl,a1,al⟩:=al.cons_inv
  obtain ⟨y,r,rfl,a2,al⟩:=al.cons_inv
  cases al.nil_inv
  cases a1.int_inv
  cases a2.int_inv
  exact ⟨a,rfl,hx⟩
theorem VE (hc:X.calm=true):YO X (.builtin "sorted") (fun xs H Q=>∃ F p ys ds out,xs=[.ref p]∧yq F H∧H p=some (.lst ys)∧AtL F ds ys∧Vp [.lst ds]=some out∧∀ l zs,H l=none→AtL F out zs→Q (.ref l) (upd H l (.lst zs))):=by
  intro pins s σ H xs us Q I r h
  obtain ⟨F,p,ys,ds,out,rfl,sm,hp,al,hs,q⟩:=h
  obtain ⟨u,rfl,ru⟩:=zax r
  cases ru
  obtain ⟨its,rv,pl,hz⟩:=I.list (SqL.of hp)
  have hlen:its.length=ds.length:=by rw [←rv.length,al.length]
  unfold Vp at hs
  dsimp only at hs
  split at hs <;> try cases hs
  rename_i h64
  have fin:∀ (zs:List V) (ws:List Value),zs.length < 64→yP zs ws→AtL F out zs→EP X pins σ Q (.ref (s.heap.objs.size+1)) { s with heap:=PyProof.Rows.sortedAll s.heap its ws.toArray }:=fun zs ws hl rz az=>by
    have hn:H (s.heap.objs.size+1)=none:=I.hok.fresh (Nat.le_succ _)
    obtain ⟨ep,he⟩:=PyProof.Rows.sortedAll_at s.heap its ws.toArray
    refine ⟨.ref (s.heap.objs.size+1),upd H (s.heap.objs.size+1) (.lst zs),I.laid (t':=s.toks) (fun b o z=>PyProof.Rows.sortedAll_old z) (Nat.le_succ _) ?_,rfl,q _ zs hn az⟩
    exact ⟨Nat.le_of_lt (vC (by omega)),ws,ep,rz,he⟩
  split at hs
  · rename_i ts hts
    cases hs
    have eds:=zbx hts
    subst eds
    have look:∀ {v:Value},v∈its→∃ a t,v=.ref a∧t∈ts∧F a=some (.tup [.int t.1,.int t.2])∧OwnSort.TP s.heap v t:=fun {v} hv=>by
      obtain ⟨j,hj,rfl⟩:=List.getElem_of_mem hv
      have hj2:j < ts.length:=by rw [List.length_map] at hlen;omega
      obtain ⟨x,hx,ax⟩:=al.get (i:=j) (d:=prD ts[j]) (by rw [List.getElem?_map];simp [hj2])
      obtain ⟨a,rfl,ha⟩:=ax.pr_inv
      obtain ⟨v,hv,rvv⟩:=rv.get hx
      have e1:its[j]?=some its[j]:=by simp [hj]
      rw [hv] at e1
      cases e1
      have e2:its[j]=.ref a:=rvv
      refine ⟨a,ts[j],e2,List.getElem_mem hj2,ha,?_⟩
      obtain ⟨us,ru,⟨o,ho,hcl,n,hd⟩,_⟩:=I.tuple (SqT.of (sm _ _ ha))
      obtain ⟨u1,u2,rfl,r1,r2⟩:=zbX ru
      obtain ⟨t1,rfl⟩:=r1
      obtain ⟨t2,rfl⟩:=r2
      exact ⟨a,o,n,t1,t2,e2,ho,hcl,hd⟩
    refine OwnSort.own_sorted pl.isList (fun v hv=>let ⟨a,t,_,_,_,ht⟩:=look hv;⟨t,ht⟩) (by omega) fun o2 pm ri=>?_
    obtain ⟨us,l1,l2,l3⟩:=ri
    have hlo:o2.toList.length=ts.length:=by rw [pm.length_eq,hlen,List.length_map]
    -- the values' addresses
    have zsOf:∀ (ws:List Value) (vs:List Pr),ws.length=vs.length→(∀ w∈ws,w∈its)→(∀ (i:Nat) v t,ws[i]?=some v→vs[i]?=some t→OwnSort.TP s.heap v t)→∃ zs:List V,yP zs ws∧AtL F (vs.map prD) zs:=by
      intro ws
      induction ws with
      | nil =>
        intro vs hl _ _
        cases vs with
        | nil=>exact ⟨[],.nil,.nil⟩
        | cons _ _=>simp at hl
      | cons w ws ih =>
        intro vs hl hm ht
        cases vs with
        | nil=>simp at hl
        | cons t vs =>
          obtain ⟨zs,z1,z2⟩:=ih vs (by simpa using hl) (fun w' hw'=>hm w' (List.mem_cons_of_mem _ hw')) (fun i v t h1 h2=>ht (i+1) v t (by simpa using h1) (by simpa using h2))
          obtain ⟨a,t',rfl,_,ha,htp⟩:=look (hm w List.mem_cons_self)
          have et:t'=t:=htp.uniq (ht 0 _ t rfl rfl)
          subst et
          exact ⟨.ref a::zs,.cons rfl z1,.cons (.tup ha (.cons .int (.cons .int .nil))) z2⟩
    obtain ⟨zs,z1,z2⟩:=zsOf o2.toList us l1 (fun w hw=>pm.mem_iff.mp hw) l2
    have keysPerm:us.Perm ts:=by
      -- by the keys of the values
      have kv:∀ (ws:List Value) (vs:List Pr),ws.length=vs.length→(∀ (i:Nat) v t,ws[i]?=some v→vs[i]?=some t→OwnSort.TP s.heap v t)→vs=ws.map fun v=>(OwnSort.keyP s.heap v).getD (0,0):=by
        intro ws
        induction ws with
        | nil=>intro vs hl _;cases vs with
          | nil=>rfl
          | cons _ _=>simp at hl
        | cons w ws ih =>
          intro vs hl ht
          cases vs with
          | nil=>simp at hl
          | cons t vs =>
            rw [List.map_cons,OwnSort.keyP_of (ht 0 w t rfl rfl),← ih vs (by simpa using hl) fun i v t h1 h2=>ht (i+1) v t (by simpa using h1) (by simpa using h2)]
            rfl
      rw [kv _ _ l1 l2,kv its ts (by rw [hlen,List.length_map]) fun i v t h1 h2=>?_]
      · exact pm.map _
      · obtain ⟨x,hx,ax⟩:=al.get (i:=i) (d:=prD t) (by rw [List.getElem?_map,h2];rfl)
        obtain ⟨a,rfl,ha⟩:=ax.pr_inv
        obtain ⟨v',hv',rvv⟩:=rv.get hx
        rw [h1] at hv'
        cases hv'
        obtain ⟨us',ru',⟨o,ho,hcl,n,hd⟩,_⟩:=I.tuple (SqT.of (sm _ _ ha))
        obtain ⟨u1,u2,rfl,r1,r2⟩:=zbX ru'
        obtain ⟨t1,rfl⟩:=r1
        obtain ⟨t2,rfl⟩:=r2
        exact ⟨a,o,n,t1,t2,rvv,ho,hcl,hd⟩
    have e3:=zb7 keysPerm l3
    rw [e3] at z2
    have:=fin zs o2.toList (by rw [z1.length];rw [List.length_map] at h64;omega) z1 z2
    simpa using this
  · split at hs <;> try cases hs
    rename_i ns hns
    have eds:=zaB hns
    subst eds
    have hI:PyProof.Rows.IntsAre its ns:=ZK (by rw [←al.of_ints];exact rv)
    refine PyProof.Rows.sorted_ints pl.isList hI (by omega) fun o2 ns' h1 h2 h3=>?_
    have e3:=zbN h2 h3
    subst e3
    have z1:yP ((ze6 ns).map V.int) o2.toList:=VA h1
    have:=fin ((ze6 ns).map V.int) o2.toList (by rw [List.length_map,h2.length_eq];rw [List.length_map] at h64;omega) z1 (.ints _)
    simpa using this
theorem Vj {p:Pos} {f:Ev→Option (List D)} (hc:X.calm=true) (hgl:Gl X "sorted") (hm:X.mg "sorted"=none) (ha:AD X [e] f)
    (he:starEach [e] X.env=(false,eval e X.env)::starEach [] X.env:=by rfl) (hpl:(backTo pos (starEach [] X.env)).any (·.1)=false:=by rfl):FL X (.Call (.Name "sorted" p) [e] [] pos) (fFn Vp f):=by
  obtain ⟨t,pa,ra⟩:=ha
  refine ⟨_,yw (VE hc) hgl hm zdK pa (by decide) (by decide) he hpl,fun σ ρ F H z Q s va e q=>?_⟩
  obtain ⟨ds,e1,e2⟩:=Option.bind_eq_some_iff.mp e
  refine ra σ ρ F H ds _ s va e1 fun F1 H1 vs g1 a1=>?_
  have e2':=e2
  unfold Vp at e2'
  split at e2'
  · obtain ⟨x,r,rfl,ax,ar⟩:=a1.cons_inv
    cases ar.nil_inv
    obtain ⟨p,ys,rfl,hx,bl⟩:=ax.lst_inv
    exact ⟨F1,p,ys,_,z,rfl,g1.fh,g1.fh _ _ hx,bl,e2,fun l zs hl az=>q _ _ _ _ (g1.trans (Gr.hide g1.fh hl _)) (zaA g1 hl) (g1.fh.free hl) zp az⟩
  · cases e2'
end
end Dl
namespace Dl
open PySem L2
variable [KK]
end Dl
namespace L2
open PySem PySem.Spec PyProof.Rows
section
variable {X:Cx}
end
end L2
namespace Dl
open PySem L2
section
variable [KK]{X:Cx}{a e k:Expr}{pos:Pos}
end
end Dl
namespace Dl
open PySem L2
end Dl
namespace L2
open PySem PySem.Spec PyProof.Rows
section
variable {X:Cx}{tg:Expr}
end
end L2
namespace Dl
open PySem L2
section
variable [KK]{X:Cx}{a b c e:Expr}{tg:Expr}{pos:Pos}
end
end Dl
namespace Dl
open PySem L2
variable [KK]
section
variable {X:Cx}{st:Stmt}{sts:List Stmt}{a e:Expr}{pos:Pos}
end
end Dl
namespace Dl
open PySem L2
variable [KK]
section
variable {X:Cx}{a b:Expr}{pos:Pos}
end
end Dl
namespace Dl
open PySem L2
variable [KK]
section
variable {X:Cx}{a e:Expr}
end
end Dl
namespace Dl
open PySem L2
section
variable [KK]
section
variable {κ:Type}[DecidableEq κ](f:κ→List Key)(hf:∀ a b,f a=f b→a=b)
include hf
end
section
variable {X:Cx}{a b c:Expr}{pos apos:Pos}
theorem zgj:ED X (.Dict [] [] pos) (eC (.dct false false [] [])):=by
  refine ⟨_,zfd,fun σ ρ F H z Q s va e q=>?_⟩
  cases e
  intro p hp
  refine q _ _ _ (Gr.alloc s hp _) ?_
  unfold At
  refine ⟨p,[],rfl,⟨_,?_,zp⟩,.nil⟩
  unfold zhv
  rw [if_neg Bool.false_ne_true]
  exact ⟨[],rfl,rfl,rfl⟩
end
section
variable {X:Cx}{a e ko:Expr}{pos pos':Pos}{st:Stmt}
end
end
end Dl
namespace Dl
open PySem L2
variable [KK]
section
variable {X:Cx}{a b e:Expr}{pos pos':Pos}
end
end Dl
namespace Dl
open PySem L2
variable [KK]
section
variable {X:Cx}
noncomputable def rNeL:R2:=fun x y H Q=>∃ F ds es,yq F H∧At F (.lst ds) x∧At F (.lst es) y∧okE 20 (.lst ds)=true∧okE 20 (.lst es)=true∧Q (.bl (!eqN 20 (.lst ds) (.lst es))) H
theorem zcv {k:Nat}(hr:vN k X.A):OpR X (compareOp .NotEq) rNeL:=by
  intro pins s σ H x y v u Q I rx ry h
  obtain ⟨F,ds,es,sm,a1,a2,k1,k2,q⟩:=h
  have hu:X.A.units+30 < cLine:=by have:=hr.un;omega
  obtain ⟨p,xs,rfl,hx,al⟩:=a1.lst_inv
  obtain ⟨p2,ys,rfl,hy,bl⟩:=a2.lst_inv
  cases rx
  cases ry
  obtain ⟨its,r,ht,hz⟩:=I.list (SqL.of (sm _ _ hx))
  obtain ⟨its2,r2,ht2,hz2⟩:=I.list (SqL.of (sm _ _ hy))
  have hl1:its.toArray.size=ds.length:=by rw [List.size_toArray,← r.length,al.length]
  have hl2:its2.toArray.size=es.length:=by rw [List.size_toArray,← r2.length,bl.length]
  have e1:eqN 20 (.lst ds) (.lst es)=((List.range (min ds.length es.length)).all (fun j=>eqN 19 (ds.getD j .non) (es.getD j .non))&&ds.length == es.length):=by
    show ((List.zipWith (eqN 19) ds es).all id&&ds.length == es.length)=_
    rw [Wy]
  by_cases hle:ds.length=es.length
  · refine SeqAt.RcNeAt.lists (e:=fun j=>eqN 19 (ds.getD j .non) (es.getD j .non)) ht.isList ht2.isList (by rw [hl1,hl2];exact hle) (Nat.lt_of_le_of_lt (Nat.le_add_right _ 30) hu) (fun j g1 g2=>?_) _ _ _ _ ⟨.bl _,H,I,rfl,?_⟩
    · obtain ⟨x',ax,rx⟩:=al.nth r (j:=j) (by simpa using g1)
      obtain ⟨y',ay,ry⟩:=bl.nth r2 (j:=j) (by simpa using g2)
      exact V6 I sm 19 (wt k1 (by rw [←hl1];exact g1)) (wt k2 (by rw [←hl2];exact g2)) ax ay (by simpa using rx) (by simpa using ry) (Nat.lt_of_le_of_lt (show X.A.units+20≤X.A.units+30 from Nat.add_le_add_left (by decide) _) hu)
    · rw [hl1]
      rw [e1,← hle,Nat.min_self] at q
      simpa using q
  · refine SeqAt.RcNeAt.lists_lengths ht.isList ht2.isList (by rw [hl1,hl2];simpa using hle) (Nat.lt_of_le_of_lt (Nat.le_add_right _ 30) hu) _ _ _ _ ⟨.bl _,H,I,rfl,?_⟩
    have:(ds.length == es.length)=false:=by simpa using hle
    rw [e1,this,Bool.and_false] at q
    exact q
end
noncomputable def zgq:D→D→Option D
  | .lst ds,.lst es=>if (okE 20 (.lst ds)&&okE 20 (.lst es))=true then some (.bl (!eqN 20 (.lst ds) (.lst es))) else none
  | _,_=>none
theorem zaR:OpD rNeL zgq:=by
  intro F H x y d e z Q s ax ay ez q
  unfold zgq at ez
  split at ez
  · split at ez <;> cases ez
    rename_i hk
    rw [Bool.and_eq_true] at hk
    exact ⟨F,_,_,s,ax,ay,hk.1,hk.2,q F H _ (.refl s) .bl⟩
  · cases ez
end Dl
namespace L2
open PySem PySem.Spec PyProof.Rows
section
variable {prog:Program}{w:World}{A:Around}{E:Value→Shared→Prop}{s:Shared}{d it:Addr}{o:Obj}{es:Array DictEntry}{ep i:Nat}
end
section
variable {X:Cx}{tg:Expr}
end
end L2
namespace Dl
open PySem L2
section
variable [KK]
section
variable {X:Cx}{tg a b e k v:Expr}{pos pos':Pos}{sts:List Stmt}
end
end
end Dl
namespace OwnRep
open PySem Builtin
end OwnRep
namespace L2
open PySem
section
variable {X:Cx}
end
end L2
namespace Dl
open PySem L2
section
variable [KK]
section
variable {X:Cx}{a b:Expr}{pos:Pos}
end
end
end Dl
namespace L2
open PySem PySem.Spec PyProof.Rows
end L2
namespace Dl
open PySem L2
variable [KK]
end Dl
namespace PySem
open Sem (wp)
namespace OwnRev
end OwnRev
section
variable {prog:Program}{w:World}{A:Around}{E:Value→Shared→Prop}{s:Shared}
end
end PySem
namespace L2
open PySem PySem.Spec PyProof.Rows
end L2
namespace Dl
open PySem L2 PySem.Spec PyProof.Rows
variable [KK]{X:Cx}{e:Expr}
end Dl
namespace OwnSet
open PySem
end OwnSet
namespace OwnSet
open PySem
theorem W0 {α:Type}(a b c d e:α):(#[0,1,2,3,4]:Array Nat).filterMap (fun i=>(#[a,b,c,d,e]:Array α)[i]?)=#[a,b,c,d,e]:=by
  simp [Array.filterMap]
section
variable {prog:Program}{w:World}{A:Around}{E:Value→Shared→Prop}{s:Shared}
end
end OwnSet
namespace OwnSet
open PySem
section
variable {prog:Program}{w:World}{A:Around}{E:Value→Shared→Prop}{s:Shared}
end
section
variable {prog:Program}{w:World}{A:Around}{R:Result→Shared→Prop}{I:Addr}{fp wr:List Addr}{G:Array GenState→Array GenState→Prop}{n:Nat}{P:Nat→Value→Prop}{St:Nat→Shared→Prop}
end
section
variable {prog:Program}{w:World}{A:Around}{E:Value→Shared→Prop}{s:Shared}
end
end OwnSet
namespace OwnSet
open PySem
section
variable {prog:Program}{w:World}{A:Around}{E:Value→Shared→Prop}{s:Shared}
end
end OwnSet
namespace OwnSet
open PySem
section
variable {prog:Program}{w:World}{A:Around}{E:Value→Shared→Prop}{s:Shared}
end
end OwnSet
namespace OwnSet
open PySem
section
variable {prog:Program}{w:World}{A:Around}{E:Value→Shared→Prop}{s:Shared}
end
end OwnSet
namespace OwnSet
open PySem
section
variable {prog:Program}{w:World}{A:Around}{E:Value→Shared→Prop}{s:Shared}
end
end OwnSet
namespace OwnSet
open PySem
section
variable {prog:Program}{w:World}{A:Around}{E:Value→Shared→Prop}{s:Shared}
end
end OwnSet
namespace OwnSet
open PySem PyProof.Rows
section
variable {prog:Program}{w:World}{A:Around}{E:Value→Shared→Prop}{s:Shared}
end
end OwnSet
namespace L2
open PySem PySem.Spec PyProof.Rows
end L2
namespace Dl
open PySem L2 PySem.Spec PyProof.Rows
variable [KK]{X:Cx}{e:Expr}
end Dl
namespace Dl
open PySem L2 PySem.Spec PyProof.Rows
variable [KK]{X:Cx}{a b:Expr}{pos apos:Pos}
end Dl
namespace L2
open PySem PySem.Spec PyProof.Rows
section
variable {X:Cx}{a:Addr}{D:List (Str × KTD.Dat)}{nm:Str}{b:Expr}{p pos:Pos}{tb:TE}
end
end L2
namespace Dl
open PySem L2 PySem.Spec PyProof.Rows
variable [KK]{X:Cx}{a:Addr}{T:List (Str × KTD.Dat)}{nm:Str}{b:Expr}{p p2 p3 pos:Pos}{f:Ev→Option D}
end Dl
namespace L2
open PySem PySem.Spec PyProof.Rows
end L2
namespace Dl
open PySem L2 PySem.Spec PyProof.Rows
variable [KK]{X:Cx}{e:Expr}
end Dl
namespace L2
open PySem PySem.Spec PyProof.Rows
end L2
namespace Dl
open PySem L2 PySem.Spec PyProof.Rows
variable [KK]{X:Cx}{a e ko:Expr}{pos tpos:Pos}
end Dl
namespace PySem
open Sem (wp)
section
variable {prog:Program}{w:World}{A:Around}{E:Value→Shared→Prop}{s:Shared}{z TI TO i1 i2 i3:Addr}{fp1 fp2 fp3:List Addr}{n1 n2 n3 k1 k2 k3:Nat}{P1 P2 P3:Nat→Value→Prop}{St1 St2 St3:Nat→Heap→Prop}{a b c:Value}
end
section
variable {prog:Program}{w:World}{A:Around}{E:Value→Shared→Prop}{s:Shared}
variable {z TI TO i1 i2 i3:Addr}{fp1 fp2 fp3:List Addr}{n1 n2 n3 k1 k2 k3:Nat}{P1 P2 P3:Nat→Value→Prop}{St1 St2 St3:Nat→Heap→Prop}{a b c:Value}
end
end PySem
namespace L2
open PySem PySem.Spec PyProof.Rows
end L2
namespace Dl
open PySem L2 PySem.Spec PyProof.Rows
variable [KK]{X:Cx}{a b c:Expr}{pos:Pos}
end Dl
namespace Dl
open PySem L2
variable [KK]
noncomputable def zgw (F H:Hp)(Q:VK)(d:D):Prop:=match d with
  | .lst es=>∀ F' H' q xs,Gr F H F' H'→H q=none→F' q=none→H' q=some (.lst xs)→AtL F' es xs→Q (.ref q) H'
  | d=>∀ F' H' v,Gr F H F' H'→At F' d v→Q v H'
noncomputable def SOkN (Fb Hb:Hp)(E:Wh):Ctl→Prop
  | .rt d=>zgw Fb Hb E.rt d
  | c=>SOk Fb Hb E c
noncomputable def RSN (t:TS)(g:SE→Ctl):Prop:=∀ (Fb Hb F H:Hp) (ρ:SE) (σ:St) (E:Wh),Rl Fb Hb F H ρ σ→SOkN Fb Hb E (g ρ)→t E σ H
noncomputable def SDN (X:Cx)(st:Stmt)(g:SE→Ctl):Prop:=∃ t,PS X st t∧RSN t g
noncomputable def zjl (X:Cx)(sts:List Stmt)(g:SE→Ctl):Prop:=∃ t,PSs X sts t∧RSN t g
section
variable {X:Cx}{st:Stmt}{sts:List Stmt}{a b c e tg:Expr}{pos pos':Pos}
theorem Vz {g h:SE→Ctl}(h1:SDN X st g)(h2:zjl X sts h):zjl X (st::sts) (zK g h):=by
  obtain ⟨t,p,r⟩:=h1
  obtain ⟨u,p2,r2⟩:=h2
  refine ⟨_,yZ p p2,fun Fb Hb F H ρ σ E rl k=>?_⟩
  refine r Fb Hb F H ρ σ { E with nx:=u E } rl ?_
  unfold zK at k
  cases e:g ρ with
  | nx ρ' =>
    rw [e] at k
    exact fun F' H' σ' rl'=>r2 Fb Hb F' H' ρ' σ' E rl' k
  | rt d=>rw [e] at k;exact k
  | bk d=>rw [e] at k;exact k
  | ct d=>rw [e] at k;exact k
  | no=>rw [e] at k;exact k
theorem zf1 {g:SE→Ctl}(h:SD X st g)(hn:∀ ρ d,g ρ≠.rt d):SDN X st g:=by
  obtain ⟨t,p,r⟩:=h
  refine ⟨t,p,fun Fb Hb F H ρ σ E rl k=>r Fb Hb F H ρ σ E rl ?_⟩
  cases e:g ρ with
  | rt d=>exact absurd e (hn ρ d)
  | nx _=>rw [e] at k;exact k
  | bk _=>rw [e] at k;exact k
  | ct _=>rw [e] at k;exact k
  | no=>rw [e] at k;exact k
omit [KK] in
theorem zdj {f:Ev→Option D}(ρ:SE)(d:D):wI f ρ≠.rt d:=by
  unfold wI
  cases f (visG ρ) <;> (intro h;cases h)
omit [KK] in
theorem zd1 {m:Bool}{i:Nat}{f:Ev→Option D}(ρ:SE)(d:D):yG m i f ρ≠.rt d:=by
  unfold yG
  cases vEv m f ρ <;> (intro h;cases h)
end
noncomputable def zjv (m:Nat)(p:List D→Option D):Sp:=fun vs H Q _=>∃ ds d F,ds.length=m∧yq F H∧AtL F ds vs∧p ds=some d∧zgw F H Q d
theorem zh8 {P:Program}{w:World}{K:PySem.W.Frag}{mg:Str→Option Value}{base:Heap}{x qual:Str}{st:Stmt}{f:Addr}{fd:FuncData}{N ps:List Str}{k:Nat}{g:SE→Ctl}(Fu:Fun K x qual st f fd)(S:zA N ps (ze st))
    (hb:∀ (cdv:Value) (A:Around) (outer:List Env) (s:Shared) (H:Hp) (E:XK),vN k (A.deeper (PyProof.Rows.envOfC qual (ze st) s.heap.objs.size f cdv))→zjl (Y2 CX0 P w K mg base N qual (ze st) f cdv A outer s H E).nox (zy st) g) :
    xk P w K mg base CX0 (k+1) f fd ps (zjv ps.length (fnD N.length g)):=by
  refine Fu.ok S (fun vs H Q E h=>?_) fun cdv A outer s H vs Q E hr h=>?_
  · obtain ⟨ds,d,F,hl,_,a,_⟩:=h
    rw [a.length];exact hl
  · obtain ⟨ds,d,F,hl,sm,a,e,q⟩:=h
    obtain ⟨t,p,r⟩:=hb cdv A outer s H E hr
    refine ⟨t,p,r F H F H _ _ _ (Xa sm a) ?_⟩
    unfold fnD at e
    cases hg:g (ds.map .v++List.replicate (N.length - ds.length) .no) with
    | rt d'=>rw [hg] at e;cases e;exact q
    | nx ρ=>rw [hg] at e;cases e;exact fun F' H' σ rl=>q F' H' _ rl.gr .non
    | bk ρ=>rw [hg] at e;cases e
    | ct ρ=>rw [hg] at e;cases e
    | no=>rw [hg] at e;cases e
theorem zhB {P:Program}{w:World}{K:PySem.W.Frag}{mg:Str→Option Value}{base:Heap}{f:Addr}{fd:FuncData}{ps:List Str}{k m:Nat}{p:List D→Option D}(F:xk P w K mg base CX0 k f fd ps (zjv m p)):xk P w K mg base CX0 k f fd ps (spD m p) :=
  F.imp fun vs H Q E ⟨ds,d,F',h1,h2,h3,h4,h5⟩=>by
    refine ⟨ds,d,F',h1,h2,h3,h4,?_⟩
    cases d with
    | lst es=>exact fun F2 H2 q xs g h0 hF hH hx=>h5 _ _ _ (g.show h0 hF hH) (At.lst zp (hx.mono (fun b u e=>by rw [zo (zk e hF)];exact e)))
    | _=>exact h5
noncomputable def EN (X:Cx)(e:Expr)(f:Ev→Option D):Prop:=∃ t,PE X e t∧∀ (σ:St) (ρ:Ev) (F H:Hp) (d:D) (Q:VK),yq F H→VAt F ρ σ→f ρ=some d→zgw F H Q d→t σ H Q
theorem zgl {X:Cx}{x:Str}{k m:Nat}{f:Addr}{fd:FuncData}{ps:List Str}{p:List D→Option D}{e:Expr}{es:List Expr}{pp pos:Pos}{fa:Ev→Option (List D)}(F:xk X.prog X.w X.K X.mg X.base CX0 k f fd ps (zjv m p))(hr:vN k X.A)(hg:Gl X x)(hm:X.mg x=some (.ref f))(hk:PySem.W.keepIn X.K (.ref f)=true)(hb:Zr X.K fd ps [])
    (ha:AD X (e::es) fa) (hdb:(x == ("__debug__":Str))=false:=by decide) (he:starEach (e::es) X.env=(false,eval e X.env)::starEach es X.env:=by rfl) (hpl:(backTo pos (starEach es X.env)).any (·.1)=false:=by rfl) :
    EN X (.Call (.Name x pp) (e::es) [] pos) (zq m p fa):=by
  obtain ⟨t,pa,r⟩:=ha
  refine ⟨_,WO F hr hg hm hk hb .nil zgO pa hdb he hpl,fun σ ρ F0 H d Q s va e q=>?_⟩
  obtain ⟨ds,e1,e2⟩:=Option.bind_eq_some_iff.mp e
  split at e2 <;> try cases e2
  rename_i hl
  refine r σ ρ F0 H ds _ s va e1 fun F1 H1 vs g1 a1=>?_
  refine ⟨ds,d,F1,hl,g1.fh,by rw [List.append_nil];exact a1,e2,?_⟩
  cases d with
  | lst es=>exact fun F' H' q' xs g h0 hF hH hx=>q F' H' q' xs (g1.trans g) (zaA g1 h0) hF hH hx
  | _=>exact fun F' H' v g av=>q F' H' v (g1.trans g) av
noncomputable def zhS (i:Nat)(f:Ev→Option D):SE→Ctl:=fun ρ=>match f (visF ρ) with
  | some (.lst es)=>.nx (ρ.set i (.o es))
  | some d=>.nx (ρ.set i (.v d))
  | none=>.no
theorem zhN {X:Cx}{e:Expr}{pos pos':Pos}{i:Nat}{x:Str}{f:Ev→Option D}(hN:X.N.Nodup)(hi:X.N[i]?=some x)(hx:Loc X.env.scope x)(he:EN X e f)(hs:swapsWith e (some (.Name x pos')) pos.line X.env=pure false:=by rfl)
    (hf:X.fn x=true∨X.env.scope.names.lookup x=some .local:=by first | exact .inl rfl | exact .inr rfl | assumption):SD X (.Assign [.Name x pos'] e pos) (zhS i f):=by
  obtain ⟨t,p,r⟩:=he
  refine ⟨_,Zl hN hi hx p hs hf,fun Fb Hb F H ρ σ E rl k=>?_⟩
  unfold zhS at k
  cases h:f (visF ρ) with
  | none=>rw [h] at k;exact k.elim
  | some d =>
    rw [h] at k
    refine r σ _ _ H d _ rl.gr.fh rl.visF h ?_
    cases d with
    | lst es=>exact fun F' H' q xs g h0 hF hH hx=>k F' H' _ ((rl.grow g).setO (rl.notbase h0) hF hH hx (rl.notown h0))
    | _=>exact fun F' H' v g av=>k F' H' _ ((rl.grow g).set av)
omit [KK] in
theorem zgI {i:Nat}{f:Ev→Option D}{ρ ρ':SE}{es:List D}(h:f (visF ρ)=some (.lst es))(h2:ρ.set i (.o es)=ρ':=by rfl):zhS i f ρ=.nx ρ':=by
  unfold zhS
  rw [h,← h2]
end Dl
namespace L2
open PySem PySem.Spec PyProof.Rows
noncomputable def KD {α:Type}:Sem α→Prop
  | .pure _=>True
  | .raise _=>True
  | .unsupported _=>True
  | .finish _=>True
  | .rule _ k=>KD (k ())
  | .at _ k=>KD (k ())
  | .load _ _ k=>∀ o,KD (k o)
  | .update _ _ f k=>(∀ o,(f o).dict=o.dict)∧KD (k ())
  | .loadIfAlive _ k=>∀ o,KD (k o)
  | .point _ k=>KD (k ())
  | .register _ _=>True
  | .alloc _ k=>∀ a,KD (k a)
  | .fresh k=>∀ t,KD (k t)
  | .ask k=>∀ x,KD (k x)
  | .handled _ k=>∀ x,KD (k x)
  | .stack k=>∀ x,KD (k x)
  | .thread k=>∀ n,KD (k n)
  | .choose _ _ _=>False
  | .os _ _ _=>False
  | .call _ _ _ _ _=>False
  | .newGen _ _=>False
  | .genState _ _=>False
  | .resume _ _ _ _=>False
  | .yield _ _ _ _=>False
  | .fork _ _=>False
  | .await _ _ _ _ _=>False
theorem zgv {α β:Type}(f:α→Sem β)(hf:∀ a,KD (f a)):∀ (m:Sem α),KD m→KD (m.bind f):=by
  intro m
  induction m with
  | pure a=>intro _;exact hf a
  | raise e=>intro _;trivial
  | unsupported w=>intro _;trivial
  | finish e=>intro _;trivial
  | rule t k ih=>intro h;exact ih () h
  | «at» p k ih=>intro h;exact ih () h
  | load a p k ih=>intro h o;exact ih o (h o)
  | update a p g k ih=>intro h;exact ⟨h.1,ih () h.2⟩
  | loadIfAlive a k ih=>intro h o;exact ih o (h o)
  | point l k ih=>intro h;exact ih () h
  | register a k ih=>intro h;trivial
  | alloc o k ih=>intro h a;exact ih a (h a)
  | fresh k ih=>intro h a;exact ih a (h a)
  | ask k ih=>intro h a;exact ih a (h a)
  | handled o k ih=>intro h a;exact ih a (h a)
  | stack k ih=>intro h a;exact ih a (h a)
  | thread k ih=>intro h a;exact ih a (h a)
  | choose s n k ih=>intro h;exact h.elim
  | os q l k ih=>intro h;exact h.elim
  | call c h g l k ih=>intro h;exact h.elim
  | newGen c k ih=>intro h;exact h.elim
  | genState g k ih=>intro h;exact h.elim
  | resume g r l k ih=>intro h;exact h.elim
  | yield v g l k ih=>intro h;exact h.elim
  | fork c k ih=>intro h;exact h.elim
  | await a f d l k ih=>intro h;exact h.elim
theorem yc {α β:Type}{m:Sem α}{f:α→Sem β}(hm:KD m)(hf:∀ a,KD (f a)):KD (m>>=f):=zgv f hf m hm
noncomputable def DK (h h':Heap):Prop:=∀ (b:Nat) (o:Obj),h.objs[b]?=some o→∃ o':Obj,h'.objs[b]?=some o'∧o'.dict=o.dict
theorem DK.refl (h:Heap):DK h h:=fun _ o e=>⟨o,e,rfl⟩
theorem DK.trans {h1 h2 h3:Heap}(a:DK h1 h2)(b:DK h2 h3):DK h1 h3:=fun p o e=>by
  obtain ⟨o1,e1,d1⟩:=a p o e
  obtain ⟨o2,e2,d2⟩:=b p o1 e1
  exact ⟨o2,e2,d2.trans d1⟩
theorem DK.push (h:Heap)(o:Obj):DK h (h.push o):=fun b u e=>by
  refine ⟨u,?_,rfl⟩
  obtain ⟨objs,l⟩:=h
  show (objs.push o)[b]?=some u
  have hb:b < objs.size:=(Array.getElem?_eq_some_iff.mp e).1
  rw [Array.getElem?_push_lt hb]
  exact (Array.getElem?_eq_some_iff.mp e).2 ▸ rfl
theorem DK.update (h:Heap)(a:Addr){f:Obj→Obj}(hf:∀ o,(f o).dict=o.dict):DK h (h.update a f):=fun b u e=>by
  obtain ⟨objs,l⟩:=h
  show ∃ o',(objs.modify a f)[b]?=some o'∧_
  rw [Array.getElem?_modify]
  have e:objs[b]?=some u:=e
  split
  · rw [e];exact ⟨f u,rfl,hf u⟩
  · rw [e];exact ⟨u,rfl,rfl⟩
theorem zcV {h:Heap}{b:Addr}{o:Obj}(e:h.get? b=some o):h.objs[b]?=some o:=by
  unfold Heap.get? at e
  split at e
  · cases e
  · exact e
theorem DK.of {h h':Heap}{b:Addr}{o o':Obj}(k:DK h h')(e:h.get? b=some o)(e':h'.get? b=some o'):o'.dict=o.dict:=by
  obtain ⟨o2,e2,d⟩:=k b o (zcV e)
  rw [zcV e'] at e2
  cases e2
  exact d
theorem zjP {α:Type}(M:Model)(Γ:PySem.Ctx):∀ (m:Sem α) (Q:α→Pos→Shared→Prop) (E:Value→Pos→Shared→Prop) (p:Pos) (s s0:Shared),KD m→DK s0.heap s.heap→Sem.wp M Γ m Q E p s →
    Sem.wp M Γ m (fun a p s'=>Q a p s'∧DK s0.heap s'.heap) (fun e p s'=>E e p s'∧DK s0.heap s'.heap) p s:=by
  intro m
  induction m with
  | pure a=>intro Q E p s s0 _ k h;exact ⟨h,k⟩
  | raise e=>intro Q E p s s0 _ k h;exact ⟨h,k⟩
  | unsupported w=>intro Q E p s s0 _ k h;exact h
  | finish e=>intro Q E p s s0 _ k h;exact h
  | rule t k ih=>intro Q E p s s0 c d h;exact ih () Q E p s s0 c d h
  | «at» p k ih=>intro Q E p s s0 c d h;exact ih () Q E _ s s0 c d h
  | load a p k ih =>
    intro Q E p s s0 c d h
    obtain ⟨o,e,h⟩:=h
    exact ⟨o,e,ih o Q E p s s0 (c o) d h⟩
  | update a p g k ih =>
    intro Q E p s s0 c d h
    obtain ⟨e,h⟩:=h
    exact ⟨e,ih () Q E p _ s0 c.2 (d.trans (.update s.heap a c.1)) h⟩
  | loadIfAlive a k ih=>intro Q E p s s0 c d h;exact ih _ Q E p s s0 (c _) d h
  | point l k ih=>intro Q E p s s0 c d h;exact ih () Q E p s s0 c d h
  | register a k ih=>intro Q E p s s0 c d h;exact h
  | alloc o k ih=>intro Q E p s s0 c d h;exact ih _ Q E p _ s0 (c _) (d.trans (.push s.heap o)) h
  | fresh k ih=>intro Q E p s s0 c d h;exact ih _ Q E p _ s0 (c _) d h
  | ask k ih=>intro Q E p s s0 c d h;exact ih _ Q E p s s0 (c _) d h
  | handled o k ih=>intro Q E p s s0 c d h;exact ih _ Q E p s s0 (c _) d h
  | stack k ih=>intro Q E p s s0 c d h;exact ih _ Q E p s s0 (c _) d h
  | thread k ih=>intro Q E p s s0 c d h;exact ih _ Q E p s s0 (c _) d h
  | choose s n k ih=>intro Q E p s s0 c;exact c.elim
  | os q l k ih=>intro Q E p s s0 c;exact c.elim
  | call c h g l k ih=>intro Q E p s s0 c;exact c.elim
  | newGen c k ih=>intro Q E p s s0 c;exact c.elim
  | genState g k ih=>intro Q E p s s0 c;exact c.elim
  | resume g r l k ih=>intro Q E p s s0 c;exact c.elim
  | yield v g l k ih=>intro Q E p s s0 c;exact c.elim
  | fork c k ih=>intro Q E p s s0 c;exact c.elim
  | await a f d l k ih=>intro Q E p s s0 c;exact c.elim
theorem zid {α:Type}{M:Model}{A:Around}{t:Sem α}{Q:α→Shared→Prop}{E:Value→Shared→Prop}{s:Shared}(c:KD t)(h:wpAny M A t Q E s) :
    wpAny M A t (fun a s'=>Q a s'∧DK s.heap s'.heap) (fun e s'=>E e s'∧DK s.heap s'.heap) s:=fun Γ p hΓ=>zjP M Γ t _ _ p s s c (.refl _) (h Γ p hΓ)
theorem WX {α:Type}{M:Model}{A:Around}{t:Sem α}{Q Q':α→Shared→Prop}{E:Value→Shared→Prop}{s:Shared}(c:KD t)(h:wpAny M A t Q E s)(k:∀ a s',Q a s'→DK s.heap s'.heap→Q' a s'):wpAny M A t Q' E s :=
  wpAny_mono (zid c h) (fun a s' x=>k a s' x.1 x.2) fun _ _ x=>x.1
theorem zaJ (v:Value):KD (fieldsOf v):=by
  unfold fieldsOf
  split
  · refine yc (fun _=>trivial) fun o=>?_
    split <;> trivial
  · trivial
theorem Xb (v:Value)(i:Nat):KD (field v i):=by
  unfold field
  refine yc (zaJ v) fun vs=>?_
  split <;> trivial
theorem X7 (f:Array Value→Array Value)(o:Obj):(Obj.mapFields f o).dict=o.dict:=by
  obtain ⟨c,d,x,s⟩:=o
  cases x <;> rfl
theorem YQ (v:Value)(i:Nat)(x:Value):KD (setField v i x):=by
  unfold setField
  split
  · unfold updateField
    refine yc (fun _=>trivial) fun o=>?_
    split
    · split
      · exact ⟨X7 _,trivial⟩
      · trivial
    · trivial
  · trivial
theorem Yn (e:Value)(f:Option Addr):KD (setFlight e f):=by
  unfold setFlight
  refine yc (Xb e 1) fun tb=>?_
  split
  · exact YQ _ _ _
  · trivial
theorem V0 (ty:String)(vs:List Value):KD (newFields ty vs):=by
  have last:KD (newObjAsIs (Value.type ty) (Data.fields vs.toArray)):=yc (fun _=>trivial) fun _=>trivial
  unfold newFields newObj
  show KD (if vs.toArray.size > sizeLine+2 then _ else _)
  by_cases h:vs.toArray.size > sizeLine+2
  · rw [if_pos h]
    exact yc (show KD (unsupported (α:=Unit) _) from trivial) fun _=>last
  · rw [if_neg h]
    exact last
theorem zan (a b c d e:Value)(pl:List Value):KD (EntryCells.newEntry a b c d e pl):=V0 _ _
theorem zeO (f:Addr)(b:Bool):KD (entryPlaceOf f b):=by
  unfold entryPlaceOf
  refine yc (fun _=>trivial) fun acts=>?_
  split <;> trivial
theorem VL:KD frameEnvs:=by
  unfold frameEnvs
  exact yc (fun _=>trivial) fun _=>trivial
theorem zeS:∀ l:List Env,KD (readyFrames l):=by
  intro l
  induction l with
  | nil=>trivial
  | cons env outer ih =>
    unfold readyFrames
    split
    · refine yc (fun _=>trivial) fun o=>?_
      split
      · trivial
      · refine yc ?_ fun b=>yc ?_ fun bk=>yc ⟨fun o=>rfl,trivial⟩ fun _=>ih
        · unfold behindIsImport
          split
          · trivial
          · split
            · trivial
            · exact yc (Xb _ _) fun _=>trivial
        · unfold keptBack
          split
          · split
            · trivial
            · unfold underTheClaimsCaller
              exact yc (fun _=>trivial) fun _=>trivial
          · trivial
    · trivial
theorem zbT (env:Env):KD (PySem.frameOf env):=by
  unfold PySem.frameOf
  refine yc VL fun l=>yc ?_ fun o=>?_
  · unfold frameObject
    split
    · trivial
    · exact yc (zeS _) fun _=>trivial
  · split <;> trivial
theorem ZW (e:Value)(env:Env):KD (noteFrame e env):=by
  unfold noteFrame
  split
  · rename_i f hf
    refine yc (Xb e 1) fun head=>?_
    have last:KD (do setField e 1 (← EntryCells.newEntry head (← PySem.frameOf env) .none (rawInt f) .none (← entryPlaceOf f (head != .none)))):=yc (zbT env) fun _=>yc (zeO _ _) fun _=>yc (zan _ _ _ _ _ _) fun _=>YQ _ _ _
    by_cases h:(head != Value.none)=true
    · dsimp only
      rw [if_pos h]
      refine yc (Xb head 3) fun x=>?_
      split
      · trivial
      · exact yc (YQ _ _ _) fun _=>last
    · dsimp only
      rw [if_neg h]
      exact last
  · trivial
theorem zbM (env:Env)(e:Value):KD (leaving env e):=yc (ZW e env) fun _=>Yn e none
end L2
namespace L2
open PySem PySem.Spec PyProof.Rows
open Sem (wp)
noncomputable abbrev exH (h:Heap) (C:Addr) (us:List Value):Heap:=(h.push { cls:=.type "tuple",data:=.seq us.toArray }).push { cls:=.ref C,data:=.fields #[.ref h.objs.size,.none,.none,.none,.bool false,.none] }
theorem wU {h:Heap}{C:Addr}{us:List Value}{b:Addr}{o:Obj}(e:h.get? b=some o):(exH h C us).get? b=some o:=Heap.get?_push_of_some _ (Heap.get?_push_of_some _ e)
theorem zgb (h:Heap)(C:Addr)(us:List Value):(exH h C us).get? (h.objs.size+1)=some { cls:=.ref C,data:=.fields #[.ref h.objs.size,.none,.none,.none,.bool false,.none] }:=by heap_get
section
variable {prog:Program}{w:World}{A:Around}{E:Value→Shared→Prop}{h:Heap}{g:Array GenState}{d:Drawn}{t:Nat}{os:OsState}
  {nm q:Str} {C N fI:Addr} {bs bm:List Value} {hdct:Bool} {sn:List Str} {sub:List Value} {ab:Bool} {col:Option Bool} {dd:Option Addr} {k0 k1 k2 k3 k5:Option Value} {mN:Str→Option Value} {us:List Value} {oI:Obj}
theorem zcg {R:Fin→Shared→Prop} (T:OwnTail h [.type "ValueError",.type "Exception",.type "BaseException",.type "object"] bm) (hC:h.get? C=some (excClassObj nm q C N bs bm hdct sn sub ab col dd k0 k1 k2 k3 k5 "ValueError.__new__")) (hN:h.Ns N mN) (hi:mN "__init__"=some (.ref fI)) (hf:h.get? fI=some oI) (hc:oI.cls=.type "function")
    (k:wpAny (model prog w) A (call (.ref fI) (.ref (h.objs.size+1)::us)) (fun r s'=>r=.none∧R (.done (.ret (.ref (h.objs.size+1)))) s') E ⟨exH h C us,g,d,t,os⟩) (hu:us.length≤sizeLine) :
    wpAny (model prog w) A (Builtin.«type.__call__» ⟨.ref C::us,[]⟩) R E ⟨h,g,d,t,os⟩:=by
  have FV:=PySem.F.excBase_ValueError
  repeat (first | with_reducible refine wpAny_madeBy_exc hC ?_ | with_reducible refine wpAny_loadPart_at hC ?_ | wp_step)
  refine codeAny_call_builtin_code (Code.quiet_builtin _ FV.quiet) (wpAny_check_new_subU FV (by decide) T hC (codeAny_exc_new_subU FV (by decide) FV T hC ?_ hu))
  show wpAny _ _ _ _ _ _
  have gC:=wU (us:=us) (C:=C) hC
  have gf:=wU (us:=us) (C:=C) hf
  have gN:(exH h C us).Ns N mN:=let ⟨ob,ens,epo,e1,r1⟩:=hN;⟨ob,ens,epo,wU e1,r1⟩
  have gT:=T.keeps (h':=exH h C us) fun b o e=>wU e
  have ge:=zgb h C us
  have inC:(Value.ref C::bm).contains (.ref C)=true:=by simp
  unfold isInstance
  repeat (first | (with_reducible refine wpAny_isSubtype_exc gC ?_;rw [inC]) | with_reducible refine wpAny_loadPart_at ge ?_ | wp_step)
  show wpAny _ _ (typeLookup (.ref C) _) _ _ _
  refine wpAny_typeLookup_tail gC gN gT FV.mroIs FV.init.lookup ?_
  rw [hi]
  refine wpAny_holding (wpAny_bind ?_)
  unfold bindSpecial
  refine wpAny_bind (wpAny_typeOf (T:="function") ⟨_,gf,hc⟩ ?_)
  rw [if_pos (by decide)]
  refine wpAny_pure (wpAny_bind (wpAny_mono k (fun r s' hr=>?_) fun _ _ z=>z))
  obtain ⟨rfl,hr⟩:=hr
  wp_walk
  exact hr
theorem zdR {R:Value→Shared→Prop} (T:OwnTail h [.type "ValueError",.type "Exception",.type "BaseException",.type "object"] bm) (hC:h.get? C=some (excClassObj nm q C N bs bm hdct sn sub ab col dd k0 k1 k2 k3 k5 "ValueError.__new__")) (hN:h.Ns N mN) (hi:mN "__init__"=some (.ref fI)) (hf:h.get? fI=some oI) (hc:oI.cls=.type "function")
    (k:wpAny (model prog w) (A.under (.builtin "type.__call__" ⟨.ref C::us,[]⟩)) (call (.ref fI) (.ref (h.objs.size+1)::us)) (fun r s'=>r=.none∧R (.ref (h.objs.size+1)) s') E ⟨exH h C us,g,d,t,os⟩) (hu:us.length≤sizeLine) :
    wpAny (model prog w) A (call (.ref C) us) R E ⟨h,g,d,t,os⟩:=by
  have l1:=tc_lookup
  have l2:=tc_bind (.ref C)
  have tp:(⟨h,g,d,t,os⟩:Shared).TypeIs (.ref C) "type":=⟨_,hC,rfl⟩
  refine wpAny_call (codeAny_of_tree ?_)
  show wpAny _ _ (callAny (.ref C) _) _ _ _
  repeat (any_goals (first | with_reducible refine wpAny_loadPart_at hC ?_ | assumption | wp_step))
  refine ⟨rfl,codeAny_call_builtin_at (Code.quiet_builtin _ (by decide +kernel)) entry_typeCall (wpAny_check_type_call_sub hC (zcg T hC hN hi hf hc ?_ hu))⟩
  exact k
end
theorem zcm {M:Model}{A:Around}{E:Value→Shared→Prop}{env:Env}{s:Shared}{x:Sem Value}{Q:Flow→Shared→Prop}{nm q:Str}{C N:Addr}{bs bm:List Value}{hdct:Bool}{sn:List Str}{sub:List Value}{ab:Bool}{col:Option Bool}{dd:Option Addr}{k0 k1 k2 k3 k5:Option Value}{newId:String}
    (hb:bm.contains (.type "BaseException")=true) (hh:A.handled=none) (h:wpAny M A x (fun v s1=>∃ e t od sl,v=.ref e∧s1.heap.get? C=some (excClassObj nm q C N bs bm hdct sn sub ab col dd k0 k1 k2 k3 k5 newId) ∧
      s1.heap.get? e=some { cls:=.ref C,dict:=od,data:=.fields #[.ref t,.none,.none,.none,.bool false,.none],slots:=sl }∧E (.ref e) s1) E s):wpAny M A (raiseStmt env (some x) none) Q E s:=by
  have inB:(Value.ref C::bm).contains (.type "BaseException")=true:=by rw [List.contains_cons,hb,Bool.or_true]
  unfold raiseStmt
  refine wpAny_bind (wpAny_mono h (fun v s1 z=>?_) fun _ _ z=>z)
  obtain ⟨e,t,od,sl,rfl,gC,ge,hE⟩:=z
  obtain ⟨hp,gg,dd',tk,os⟩:=s1
  repeat (first | with_reducible refine wpAny_loadPart_at gC ?_ | with_reducible refine wpAny_loadPart_at ge ?_ | (with_reducible refine wpAny_isSubtype_exc gC ?_;rw [inB]) | wp_step)
  exact wpAny_raiseNew_none hh hE
end L2
namespace L2
open PySem PySem.Spec PyProof.Rows
section
variable {prog:Program}{w:World}{A:Around}{E:Value→Shared→Prop}{s:Shared}{env:Env}
  {nm q:Str} {C N fI:Addr} {bs bm:List Value} {hdct:Bool} {sn:List Str} {sub:List Value} {ab:Bool} {col:Option Bool} {dd:Option Addr} {k0 k1 k2 k3 k5:Option Value} {mN:Str→Option Value} {oI:Obj}
theorem zcb {x:Str} {np cpos pos:Pos} {args:List Expr} {Q:Flow→Shared→Prop} (hb:bm.contains (.type "BaseException")=true) (hh:A.handled=none) (hpl:(backTo cpos (starEach args env)).any (·.1)=false) (hi:mN "__init__"=some (.ref fI)) (hc:oI.cls=.type "function")
    (h:wpAny (model prog w) A (eval (.Name x np) env) (fun f s1=>f=.ref C∧wpAny (model prog w) A (evalArgs (.ref C) true (backTo cpos (starEach args env)) []) (fun a s2=>a.kw=[]∧a.pos.length≤sizeLine ∧
      s2.heap.get? C=some (excClassObj nm q C N bs bm hdct sn sub ab col dd k0 k1 k2 k3 k5 "ValueError.__new__")∧s2.heap.Ns N mN∧OwnTail s2.heap [.type "ValueError",.type "Exception",.type "BaseException",.type "object"] bm∧s2.heap.get? fI=some oI ∧
      wpAny (model prog w) (A.under (.builtin "type.__call__" ⟨.ref C::a.pos,[]⟩)) (call (.ref fI) (.ref (s2.heap.objs.size+1)::a.pos)) (fun r s3=>r=.none∧∃ t od sl,s3.heap.get? C=some (excClassObj nm q C N bs bm hdct sn sub ab col dd k0 k1 k2 k3 k5 "ValueError.__new__") ∧
        s3.heap.get? (s2.heap.objs.size+1)=some { cls:=.ref C,dict:=od,data:=.fields #[.ref t,.none,.none,.none,.bool false,.none],slots:=sl }∧E (.ref (s2.heap.objs.size+1)) s3) E { s2 with heap:=exH s2.heap C a.pos }) E s1) E s) :
    wpAny (model prog w) A (exec (.Raise (some (.Call (.Name x np) args [] cpos)) none pos) env) Q E s:=by
  rw [arm_exec_Raise]
  refine wpAny_bind (wpAny_standAt (zcm (C:=C) (nm:=nm) (q:=q) (N:=N) (bs:=bs) (bm:=bm) (hdct:=hdct) (sn:=sn) (sub:=sub) (ab:=ab) (col:=col) (dd:=dd) (k0:=k0) (k1:=k1) (k2:=k2) (k3:=k3) (k5:=k5) (newId:="ValueError.__new__") hb hh (wpAny_bind (wpAny_mono (wpAny_Call_ofName (wpAny_mono h (fun f s1 z=>?_) fun _ _ z=>z)) (fun v s3 z=>wpAny_bind (wpAny_standAt (wpAny_pure z))) fun _ _ z=>z))))
  obtain ⟨rfl,z⟩:=z
  unfold callWith
  refine wpAny_bind (wpAny_holding (wpAny_mono z (fun a s2 y=>wpAny_bind (wpAny_standAt ?_)) fun _ _ z=>z))
  obtain ⟨us,kw⟩:=a
  obtain ⟨ekw,hlen,gC,gN,gT,gf,run⟩:=y
  obtain rfl:kw=[]:=ekw
  obtain ⟨hp,g,d,tk,os⟩:=s2
  simp only [hpl]
  refine wpAny_bind (wpAny_keeperOf_exc gC (wpAny_bind (zdR gT gC gN hi gf hc (wpAny_mono run (fun r s3 y=>?_) fun _ _ z=>z) hlen)))
  obtain ⟨rfl,t,od,sl,hC3,he3,hE⟩:=y
  exact ⟨rfl,wpAny_bind (wpAny_holding (wpAny_point (wpAny_pure ⟨_,t,od,sl,rfl,hC3,he3,hE⟩)))⟩
end
noncomputable def zh1 (K:PySem.W.Frag)(C f:Addr):Bool:=match K.lookup C with
  | some ⟨.type "type",_,.cls cd,sl⟩=>(match cd.mro,sl.toList with
    | .ref C'::bm,[_,_,_,_,some (.builtin n),_]=>(C' == C)&&(n == "ValueError.__new__"&&(!cd.hasDel&&(cd.hasDict&&(PySem.W.tailIn K [.type "ValueError",.type "Exception",.type "BaseException",.type "object"] bm&&(PySem.W.nsOkIn K cd.ns&&(PySem.W.nsIn K cd.ns "__init__" == some (some (.ref f))&&(match K.lookup f with | some of=>of.cls == .type "function" | none=>false)))))))
    | _,_=>false)
  | _=>false
theorem zgm {K:PySem.W.Frag}{h:Heap}{N:Addr}{m:Str→Option Value}{n:Str}{v:Value}(X:K.In h)(G:h.Ns N m)(e:PySem.W.nsIn K N n=some (some v)):m n=some v:=by
  obtain ⟨ob,ens,epo,ho,hd,_,hf⟩:=G
  unfold PySem.W.nsIn at e
  split at e
  · rename_i ql
    have z:=(X _ _ ql).symm.trans ho
    cases z
    cases hd
    split at e
    · rename_i en he
      cases e
      rw [←hf]
      unfold nsFind findBy
      rw [←Array.find?_toList,he]
      rfl
    · split at e <;> cases e
  · cases e
theorem zev {K:PySem.W.Frag}{h0:Heap}{C f:Addr}(X:K.In h0)(e:zh1 K C f=true) :
    ∃ bm N nm q bs sn sub ab col dd k0 k1 k2 k3 k5 mN oI,h0.get? C=some (excClassObj nm q C N bs bm true sn sub ab col dd k0 k1 k2 k3 k5 "ValueError.__new__")∧h0.Ns N mN∧mN "__init__"=some (.ref f)∧OwnTail h0 [.type "ValueError",.type "Exception",.type "BaseException",.type "object"] bm∧h0.get? f=some oI∧oI.cls=.type "function":=by
  unfold zh1 at e
  split at e
  · rename_i dd cd sl ho
    split at e
    · rename_i C' bm k0 k1 k2 k3 n k5 hm hs
      simp only [Bool.and_eq_true,beq_iff_eq,Bool.not_eq_true'] at e
      obtain ⟨rfl,rfl,hdel,hdict,ht,hok,hi,hf⟩:=e
      obtain ⟨nm,bs,mro,ns,qn,hd,sn,sub,ab,col,del⟩:=cd
      dsimp only at hm hdel hdict hok hi
      subst hm hdel hdict
      have hsl:sl=#[k0,k1,k2,k3,some (.builtin "ValueError.__new__"),k5]:=by
        obtain ⟨l⟩:=sl
        simp only at hs
        rw [hs]
      subst hsl
      split at hf
      · rename_i oI hoI
        exact ⟨bm,ns,nm,qn,bs,sn,sub,ab,col,dd,k0,k1,k2,k3,k5,h0.nsMap ns,oI,X _ _ ho,.of_isNs (PySem.W.isNs_of_in X hok),zgm X (.of_isNs (PySem.W.isNs_of_in X hok)) hi,PySem.W.tail_of_in X ht,X _ _ hoI,beq_iff_eq.mp hf⟩
      · cases hf
    · cases e
  · cases e
end L2
namespace L2
open PySem PySem.Spec PyProof.Rows PySem.Builtin PySem.Builtin.ObjectAttr
noncomputable abbrev veV:List Value:=[.type "ValueError",.type "Exception",.type "BaseException",.type "object"]
noncomputable def zd2:List Value→Bool
  | .ref _::r=>zd2 r
  | l=>l == veV
theorem zdZ (self:Value):∀ {l:List Value},zd2 l=true→refuseLoop self "__setattr__" l=pure ():=by
  intro l
  induction l with
  | nil=>intro e;cases e
  | cons v r ih =>
    intro e
    cases v with
    | ref c=>rw [refuseLoop_ref];exact ih e
    | _=>exact beq_iff_eq.mp (show ((_:List Value) == veV)=true from e) ▸ PySem.F.store_ValueError.passes self
theorem zdk:∀ {l:List Value},zd2 l=true→l.contains (.type "object")=true∧l.isEmpty=false:=by
  intro l
  induction l with
  | nil=>intro e;cases e
  | cons v r ih =>
    intro e
    refine ⟨?_,rfl⟩
    cases v with
    | ref c=>rw [List.contains_cons,(ih e).1,Bool.or_true]
    | _=>rw [beq_iff_eq.mp (show ((_:List Value) == veV)=true from e)];decide +kernel
noncomputable def V4 (K:PySem.W.Frag) (C:Addr):Bool:=(PySem.W.clsIn K C).any (fun cd=>zd2 cd.mro&&cd.hasDict)&&PySem.W.findIn K (.ref C) "__setattr__" == some (some (.builtin "object.__setattr__"))&&PySem.W.findIn K (.ref C) "__getattribute__" == some (some (.builtin "BaseException.__getattribute__"))&&PySem.W.findIn K (.ref C) "__getattr__" == some none&&PySem.W.subIn K (.ref C) (.type "BaseException") == some true
set_option genInjectivity false in
set_option genSizeOf false in
set_option genCtorIdx false in
structure vW (K:PySem.W.Frag) (C:Addr):Prop where
  cls:∃ cd,PySem.W.clsIn K C=some cd∧zd2 cd.mro=true∧cd.hasDict=true
  sa:PySem.W.findIn K (.ref C) "__setattr__"=some (some (.builtin "object.__setattr__"))
  ga:PySem.W.findIn K (.ref C) "__getattribute__"=some (some (.builtin "BaseException.__getattribute__"))
  gt:PySem.W.findIn K (.ref C) "__getattr__"=some none
  sb:PySem.W.subIn K (.ref C) (.type "BaseException")=some true
theorem vW.of {K:PySem.W.Frag}{C:Addr}(h:V4 K C=true):vW K C:=by
  unfold V4 at h
  simp only [Bool.and_eq_true,beq_iff_eq] at h
  obtain ⟨cd,e,h2⟩:=PySem.W.any_some h.1.1.1.1
  rw [Bool.and_eq_true] at h2
  exact ⟨⟨cd,e,h2.1,h2.2⟩,h.1.1.1.2,h.1.1.2,h.1.2,h.2⟩
section
variable {prog:Program}{w:World}{A:Around}{E:Value→Shared→Prop}{s:Shared}{K:PySem.W.Frag}{x C:Addr}{ox:Obj}{od:Option Obj}{name:Str}{v:Value}
theorem zgu {tk:Tok}{R:Result→Shared→Prop}(X:K.In s.heap)(I:PySem.W.InstAt s.heap x ox C od)(hp:vW K C)(ha:PySem.W.findIn K (.ref C) name=some none)
    (h:wpAny (model prog w) A.in1 (storeInOwnDict (.ref x) (.ref C) (.str name tk) name v false) (fun fin s'=>match fin with | .done f=>R (.ok f) s' | .again c'=>c'.quiet=true∧codeAny (model prog w) A c' R s') (fun e s'=>R (.error e) s') s) :
    codeAny (model prog w) A (.call (.builtin "object.__setattr__") ⟨[.ref x,.str name tk,v],[]⟩) R s:=by
  have SO:=PySem.F.store_object
  obtain ⟨cd,hc,ho,_⟩:=hp.cls
  obtain ⟨hin,hne⟩:=zdk ho
  have isO:PySem.W.Looks (model prog w) s.heap (isInstance (.ref x) (.type "object")) true:=I.type.andThen (PySem.W.looks_mroIn X (by unfold PySem.W.mroIn;rw [hc,Option.bind_some,if_neg (by rw [hne];decide),hin]))
  refine codeAny_call_builtin SO.slot.plain SO.entry (@PySem.W.check_slot (model prog w) _ _ s "object.__setattr__" "object" "__setattr__" (.ref x) [.str name tk,v] [] _ SO.kind SO.split isO (SO.args (.ref x) (.str name tk) v) ?_)
  have lm:PySem.W.Looks (model prog w) s.heap (mroOf (.ref C)) cd.mro:=(PySem.W.looks_clsIn X hc).andThen .now
  have lt:PySem.W.Looks (model prog w) s.heap (storeTaker? none) none:=.now
  rw [PySem.W.osa_eq,refuse_eq]
  refine wpAny_bind (wpAny_bind (I.type.here (wpAny_bind (lm.here ?_))))
  rw [zdZ _ ho]
  exact wpAny_pure (wpAny_bind (I.type.here (wpAny_bind ((PySem.W.looks_findIn X ha).here (wpAny_bind (lt.here h))))))
theorem zgn {Q:Unit→Shared→Prop}(X:K.In s.heap)(I:PySem.W.InstAt s.heap x ox C od)(hp:vW K C)(ha:PySem.W.findIn K (.ref C) name=some none)
    (h:wpAny (model prog w) A.in1 (storeInOwnDict (.ref x) (.ref C) (.str name s.toks) name v false) (fun fin s'=>match fin with | .done (.ret _)=>Q () s' | _=>False) E { s with toks:=s.toks+1 }) :
    wpAny (model prog w) A (setAttr (.ref x) name v) Q E s:=by
  refine PySem.W.set_plain X I hp.sa (zgu (s:={ s with toks:=s.toks+1 }) X I hp ha (wpAny_mono h (fun fin s' z=>?_) fun _ _ z=>z))
  cases fin with
  | again c=>exact z.elim
  | done f=>cases f <;> first | exact z | exact z.elim
theorem zbF {M:Model} {nameV:Value} {Q:Unit→Shared→Prop} (X:K.In s.heap) (I:PySem.W.InstAt s.heap x ox C od) (hb:PySem.W.subIn K (.ref C) (.type "BaseException")=some true) (hq:Q () s):wpAny M A (checkBuiltinCall "BaseException.__getattribute__" ⟨[.ref x,nameV],[]⟩) Q E s:=by
  have hk:builtinKind "BaseException.__getattribute__"=some .slot:=by decide +kernel
  have hsp:splitId "BaseException.__getattribute__"=some ("BaseException","__getattribute__"):=by decide +kernel
  have ha:=PySem.F.args_bexc_ga (.ref x) nameV
  have L0:=I.type (M:=M)
  have L1:PySem.W.Looks M s.heap (isSubtype (.ref C) (.type "BaseException")) true:=PySem.W.looks_subIn X hb
  simp only [checkBuiltinCall,hk,hsp]
  refine wpAny_bind ?_
  unfold isInstance
  refine wpAny_bind (L0.here (L1.here ?_))
  repeat (first | assumption | wp_step)
theorem zfp {Q:Unit→Shared→Prop}(X:K.In s.heap)(hx:s.heap.get? x=some ox)(hcl:ox.cls=.ref C)(hno:PySem.W.notCls ox=true)(hd:ox.dict=none)(hp:vW K C)(ha:PySem.W.findIn K (.ref C) name=some none)
    (h:∀ h':Heap,h'.get? x=some { ox with dict:=some s.heap.objs.size }→h'.Ns1 s.heap.objs.size (fun y=>if y=name then some v else none)→(∀ b o,b≠x→s.heap.get? b=some o→h'.get? b=some o)→Q () { s with heap:=h',toks:=s.toks+2 }) :
    wpAny (model prog w) A (setAttr (.ref x) name v) Q E s:=by
  have I:PySem.W.InstAt s.heap x ox C none:=⟨hx,hcl,hno,by rw [hd];trivial⟩
  refine zgn X I hp ha ?_
  obtain ⟨cd,hc,_,hh⟩:=hp.cls
  have lc:=PySem.W.looks_clsIn (M:=model prog w) X hc
  unfold storeInOwnDict
  refine wpAny_bind (wpAny_pure ?_)
  have hmod:(Value.ref C == Value.type "module")=false:=rfl
  simp only [hmod]
  unfold ownDictForStores instanceDict
  refine wpAny_bind ?_
  refine wpAny_bind (wpAny_loadPart hx ?_)
  obtain ⟨oc,odi,oda,osl⟩:=ox
  dsimp only at hcl hd
  subst hcl hd
  dsimp only
  refine wpAny_bind (lc.here (s:={ s with toks:=s.toks+1 }) ?_)
  rw [hh]
  rw [if_neg (by decide),if_neg (by simp [typeHasDict])]
  have nc:∀ c,oda≠.cls c:=fun c e=>by rw [e] at hno;cases hno
  split
  · rename_i c;exact absurd rfl (nc c)
  have gx:(s.heap.push { cls:=.type "dict",data:=.dict #[] }).get? x=some ⟨.ref C,none,oda,osl⟩:=Heap.get?_push_of_some _ hx
  have xs:x≠s.heap.objs.size:=Nat.ne_of_lt (Heap.lt_size hx)
  refine wpAny_bind (wpAny_alloc' (wpAny_bind (wpAny_update' gx (wpAny_pure ?_))))
  generalize eh:((s.heap.push { cls:=Value.type "dict",data:=Data.dict #[] }).update x fun o=>{ cls:=o.cls,dict:=some s.heap.objs.size,data:=o.data,slots:=o.slots })=h1
  have gd:h1.get? s.heap.objs.size=some { cls:=.type "dict",data:=.dict #[] }:=by rw [←eh];exact (Heap.get?_update_ne _ _ _ _ xs.symm).trans (Heap.get?_push_at rfl rfl)
  have gn:h1.Ns s.heap.objs.size (fun _=>none):=⟨_,#[],_,gd,rfl,fun e he=>absurd he (by simp),fun _=>rfl⟩
  show wpAny _ _ (storeInDict s.heap.objs.size (.str name s.toks) name v) _ _ _
  unfold storeInDict newKeyGuard
  refine wpAny_bind (wpAny_pure (wpAny_bind (wpAny_nsSet1 (Heap.Ns1.of_empty gn) fun h' hn' hs=>?_)))
  obtain ⟨oD,eD,pD,hoD,hdD,hcD⟩:=hn'.count (Within.cons name v Within.nil)
  refine wpAny_bind (wpAny_lookBehind hoD (by rw [hdD];exact pastItsLine_dict (Nat.le_trans hcD (by rw [List.length_cons,List.length_nil,sizeLine_eq];omega))) (wpAny_pure (h h' ?_ hn' fun b o hb e=>?_)))
  · refine (hs.2 x xs).trans ?_
    rw [←eh]
    refine Heap.get?_update_self _ gx ?_
    have fr:=(Heap.get?_some_iff.mp hx).2
    cases oda <;> first | rfl | exact fr
  · refine (hs.2 b (Nat.ne_of_lt (Heap.lt_size e))).trans ?_
    rw [←eh]
    exact (Heap.get?_update_ne _ _ _ _ hb).trans (Heap.get?_push_of_some _ e)
theorem zhl {f:Str}{b:Bool}{Q:Value→Shared→Prop}(X:K.In s.heap)(I:PySem.W.InstAt s.heap x ox C od)(hp:vW K C)(hf:PySem.W.findObj K C od f=some (.value v))(hv:PySem.W.handedIn v=true)
    (h:Q v { s with toks:=s.toks+1 }):wpAny (model prog w) A (getAttr (.ref x) f b) Q E s:=by
  obtain ⟨hh,g,d,t,os⟩:=s
  have L0:=I.type (M:=model prog w)
  have L1:=PySem.W.looks_findIn (M:=model prog w) X hp.ga
  have L2:=PySem.W.looks_findIn (M:=model prog w) X hp.gt
  have L3:=PySem.W.looks_find (M:=model prog w) X I hf
  have fb:=PySem.F.attrBase_ValueError.ga.bind (.ref x)
  have hx2:(Value.builtin "BaseException.__getattribute__" == Value.builtin "object.__getattribute__")=false:=by decide +kernel
  have hx3:(b&&onTheHeap (Value.builtin "BaseException.__getattribute__"))=false:=by cases b <;> rfl
  unfold getAttr getAttrBy
  refine wpAny_bind (wpAny_mkText (wpAny_holding (wpAny_bind (L0.at (wpAny_bind (L1.at ?_))))))
  dsimp only
  rw [hx2,Bool.and_false,if_neg Bool.false_ne_true]
  unfold getAttrByItsOwn
  refine wpAny_bind ?_
  show wpAny _ _ (typeLookup (.ref C) "__getattr__") _ _ _
  refine L2.at (wpAny_bind (wpAny_attempt (wpAny_holding ?_)))
  unfold callGetattribute
  rw [hx3,if_neg Bool.false_ne_true]
  unfold boundAndCalled
  rw [fb]
  refine wpAny_bind (wpAny_pure ?_)
  refine wpAny_call (codeAny_call_builtin PySem.F.attrBase_ValueError.ga.plain PySem.F.entry_bexc_ga ?_)
  refine zbF X I hp.sb ?_
  refine wpAny_bind (wpAny_pure (wpAny_bind (wpAny_pure (wpAny_bind (L0.at (wpAny_bind (L3.at ?_)))))))
  refine wpAny_pure ?_
  show wpAny _ _ (handedOut v) _ _ _
  rw [PySem.W.handedOut_of hv];exact wpAny_pure h
end
end L2
namespace L2
open PySem PySem.Spec PyProof.Rows
section
variable {P:Program}{w:World}{H H':Hp}{h h':Heap}{a:Addr}{o:HO}
theorem xH.ex (x:xH P w H h a o):∃ u,h.get? a=some u:=by
  cases o with
  | lst xs=>obtain ⟨_,_,_,_,e⟩:=x;exact ⟨_,e⟩
  | tup xs=>obtain ⟨_,_,_,ob,e,_⟩:=x;exact ⟨_,e⟩
  | dK kvs=>obtain ⟨_,_,_,_,o,_,_,e,_⟩:=x;exact ⟨_,e⟩
  | dT kvs=>obtain ⟨_,_,_,_,o,_,_,e,_⟩:=x;exact ⟨_,e⟩
  | set S n=>obtain ⟨o,_,_,_,e,_⟩:=x;exact ⟨_,e⟩
  | ins C dx fs=>obtain ⟨_,_,_,e,_⟩:=x;exact ⟨_,e⟩
  | own y=>exact x
  | xd fs=>obtain ⟨_,⟨_,_,_,e,_⟩,_⟩:=x;exact ⟨_,e⟩
  | rng lo hi=>obtain ⟨_,_,_,e⟩:=x;exact ⟨_,e⟩
  | frz ob u=>obtain ⟨e,_⟩:=x;exact ⟨_,e⟩
  | tbl ps=>exact ⟨_,(show h.get? a=some _ from x)⟩
  | met f y=>exact ⟨_,(show h.get? a=some _ from x)⟩
  | ext φ=>obtain ⟨_,⟨_,e⟩,_⟩:=x;exact ⟨_,e⟩
theorem HOk.stays (x:HOk P w H h)(k:∀ b u,H b≠none→h.get? b=some u→h'.get? b=some u):HOk P w H h':=fun a o e =>
  (x a o e).stay (fun b u hb q=>k b u (by
    rcases hb with rfl | hb
    · rw [e];intro z;cases z
    · rw [hb];intro z;cases z) q) (fun _ q=>q) fun _ _ q=>q
end
structure Cov (outer:List Env) (H:Hp) (h:Heap) (H':Hp) (h' B:Heap):Prop where
  old:∀ b o,h.get? b=some o→H b=none→b∉frs outer→B.get? b=some o
  there:∀ b o,h.get? b=some o→b∉frs outer→∃ o',B.get? b=some o'
  new:∀ b o,H' b≠none→h'.get? b=some o→B.get? b=some o
noncomputable def XN (h:Heap)(a:Addr)(od:Option Addr):Prop:=∃ oe,h.get? a=some oe∧oe.dict=od
theorem XN.stay {h h':Heap}{a:Addr}{od:Option Addr}(d:XN h a od)(k:DK h h')(e:∃ oe,h'.get? a=some oe):XN h' a od:=by
  obtain ⟨oe,h1,h2⟩:=d
  obtain ⟨oe',h3⟩:=e
  exact ⟨oe',h3,(k.of h1 h3).trans h2⟩
noncomputable def Air (P:Program)(w:World):CXT:=fun outer H s E e s' =>
  ∃ (ea C t:Addr) (od:Option Addr) (H':Hp) (B:Heap),e=.ref ea∧s'.os=s.os∧AllBare s'.gens∧Un (frs outer) [] H H' s.heap s'.heap∧HOk P w H' s'.heap ∧
    Heap.FlyingW B outer ea (.ref C) (.ref t) s'.heap∧Cov outer H s.heap H' s'.heap B∧XN s'.heap ea od∧E (.ref C) od H'
section
variable {X:Cx}{pins:List (Addr × Obj)}{σ:St}{H H':Hp}{s s':Shared}{E:XK}{e:Value}{M:Model}{E2:Value→Shared→Prop}
theorem Inv.airUn (hex:X.ex=[])(I:Inv X pins σ H s){h' B:Heap}(J:Inv X pins σ H' s')(cov:Cov X.stack H s.heap H' s'.heap B)(hB:B.StaysIn h')(hfr:h'.FunFrames B X.outer)(up:s'.heap.UpToSlots h') :
    Un X.fs [] X.H₀ H' X.s₀.heap h'∧HOk X.prog X.w H' h'∧Cov X.outer X.H₀ X.s₀.heap H' h' B:=by
  have neL:∀ b o,X.s₀.heap.get? b=some o→b≠X.env.locals:=fun b o e=>Nat.ne_of_lt (Nat.lt_of_lt_of_le (Heap.lt_size e) I.ok.above)
  have nst:∀ b o,X.s₀.heap.get? b=some o→b∉X.fs→b∉frs X.stack:=fun b o e n z=>(List.mem_cons.mp (I.stkSub b z)).elim (neL b o e) n
  have nx:∀ b:Addr,b∉X.ex:=by rw [hex];simp
  have cov':Cov X.outer X.H₀ X.s₀.heap H' h' B:=by
    refine ⟨fun b o e n hb=>cov.old b o (I.base.keep b o e n hb (nx b)) (I.base.free b o e n (nx b)) (nst b o e hb),fun b o e hb=>?_,fun b o hb e=>?_⟩
    · obtain ⟨o',e'⟩:=I.base.there b o e (nx b)
      exact cov.there b o' e' (nst b o e hb)
    · cases q:H' b with
      | none=>exact absurd q hb
      | some u =>
        obtain ⟨ob,ho⟩:=(J.hok b u q).ex
        have z:=cov.new b ob hb ho
        have z2:=hB b ob z
        rw [e] at z2
        cases z2
        exact z
  refine ⟨⟨fun b o e n hb _=>hB b o (cov'.old b o e n hb),fun b o e n hb _=>?_,fun b o e n _=>J.base.free b o e n (nx b),fun b o e _=>?_,J.base.tups,J.base.frzs,J.base.tbls⟩,J.hok.stays fun b u hb hu=>hB b u (cov.new b u hb hu),cov'⟩
  · obtain ⟨sl,e1⟩:=J.base.slot b o e n hb (nx b)
    obtain ⟨_,o2,ho2,hd⟩:=I.ok.funs.mem hb
    rw [e] at ho2
    cases ho2
    obtain ⟨sl2,e2⟩:=up b _ e1 hd
    exact ⟨sl2,e2⟩
  · by_cases hb:b∈X.fs
    · obtain ⟨_,o2,ho2,_⟩:=hfr.mem hb
      exact ⟨o2,ho2⟩
    · obtain ⟨o',e'⟩:=cov'.there b o e hb
      exact ⟨o',hB b o' e'⟩
end
end L2
namespace L2
open PySem PySem.Spec PyProof.Rows
end L2
namespace Dl
open PySem L2
noncomputable def pay (j:Nat):Option (List (Str × V)):=match j / 16 % 4 with
  | 0=>none
  | 1=>some [("at",.int ((j / 64:Nat) - 1))]
  | 2=>some [("row",.int ((j / 64:Nat) - 1))]
  | _=>some [("many",.int ((j / 64 / 1024:Nat):Int)),("most",.int ((j / 64 % 1024:Nat):Int))]
variable [KK]
section
variable (E:XK)(cl:Nat→Addr)
noncomputable def EJ (j:Nat)(H:Hp):Prop:=match pay j with
  | none=>E (.ref (cl j)) none H
  | some fs=>∀ dx,H dx=none→E (.ref (cl j)) (some dx) (upd H dx (.xd fs))
noncomputable def Wi (F H:Hp)(j:Nat):Prop:=∀ F' H',Gr F H F' H'→EJ E cl j H'
noncomputable def RXE (t:TE)(fx:Ev→Option Nat):Prop:=∀ (σ:St) (ρ:Ev) (F H:Hp) (j:Nat) (Q:VK),yq F H→VAt F ρ σ→fx ρ=some j→Wi E cl F H j→t σ H Q
noncomputable def RXS (t:TS)(gx:SE→Option Nat):Prop:=∀ (Fb Hb F H:Hp) (ρ:SE) (σ:St) (D':Wh) (j:Nat),Rl Fb Hb F H ρ σ→gx ρ=some j→Wi E cl Fb Hb j→t D' σ H
noncomputable def XE (X:Cx)(e:Expr)(fx:Ev→Option Nat):Prop:=∃ t,PE X e t∧RXE E cl t fx
noncomputable def XS (X:Cx)(st:Stmt)(gx:SE→Option Nat):Prop:=∃ t,PS X st t∧RXS E cl t gx
noncomputable def XSs (X:Cx)(sts:List Stmt)(gx:SE→Option Nat):Prop:=∃ t,PSs X sts t∧RXS E cl t gx
end
section
variable {E:XK}{cl:Nat→Addr}{X:Cx}{a b c e:Expr}{es:List Expr}{st:Stmt}{sts:List Stmt}{pos pos':Pos}
theorem Wi.grow {F H F1 H1:Hp}{j:Nat}(w:Wi E cl F H j)(g:Gr F H F1 H1):Wi E cl F1 H1 j:=fun F' H' g'=>w F' H' (g.trans g')
theorem Wi.out {Fb Hb F H:Hp}{ρ:SE}{σ:St}{j:Nat}(w:Wi E cl Fb Hb j)(rl:Rl Fb Hb F H ρ σ):Wi E cl (gOf ρ σ F H) H j:=fun F' H' g=>w F' H' (rl.out g)
noncomputable def spX (cl:Nat→Addr)(m:Nat)(r:List D→Option Nat):Sp:=fun vs H _ E=>∃ ds j F,ds.length=m∧yq F H∧AtL F ds vs∧r ds=some j∧Wi E cl F H j
noncomputable def zik (m:Nat)(r:List D→Option Nat)(f:Ev→Option (List D)):Ev→Option Nat:=fun ρ=>(f ρ).bind fun ds=>if ds.length=m then r ds else none
theorem zgP {x:Str}{k m:Nat}{f:Addr}{fd:FuncData}{ps:List Str}{r:List D→Option Nat}{pp:Pos}{fa:Ev→Option (List D)}(F:xk X.prog X.w X.K X.mg X.base (Air X.prog X.w) k f fd ps (spX cl m r))(hx:Xg (Air X.prog X.w) X E)(hr:vN k X.A)(hg:Gl X x)(hm:X.mg x=some (.ref f))(hk:PySem.W.keepIn X.K (.ref f)=true)(hb:Zr X.K fd ps [])
    (ha:AD X (e::es) fa) (hdb:(x == ("__debug__":Str))=false:=by decide) (he:starEach (e::es) X.env=(false,eval e X.env)::starEach es X.env:=by rfl) (hpl:(backTo pos (starEach es X.env)).any (·.1)=false:=by rfl) :
    XE E cl X (.Call (.Name x pp) (e::es) [] pos) (zik m r fa):=by
  obtain ⟨t,pa,ra⟩:=ha
  refine ⟨_,WO F hr hg hm hk hb .nil hx pa hdb he hpl,fun σ ρ F0 H j Q s va e w=>?_⟩
  obtain ⟨ds,e1,e2⟩:=Option.bind_eq_some_iff.mp e
  split at e2 <;> try cases e2
  rename_i hl
  refine ra σ ρ F0 H ds _ s va e1 fun F1 H1 vs g1 a1=>?_
  exact ⟨ds,j,F1,hl,g1.fh,by rw [List.append_nil];exact a1,e2,w.grow g1⟩
theorem zhr {fx:Ev→Option Nat}(h:XE E cl X e fx)(hs:swapsWith e none pos.line X.env=pure false:=by rfl):XS E cl X (.Expr e pos) (fun ρ=>fx (visG ρ)):=by
  obtain ⟨t,p,r⟩:=h
  exact ⟨_,zaK p hs,fun Fb Hb F H ρ σ D' j rl e w=>r σ _ _ H j _ rl.gh rl.visG e (w.out rl)⟩
noncomputable def xIf (t:Ev→Option Bool)(g h:SE→Option Nat):SE→Option Nat:=fun ρ=>match t (visG ρ) with
  | some true=>g ρ
  | some false=>h ρ
  | none=>none
theorem zjN {as bs:List Stmt}{t:Ev→Option Bool}{g h:SE→Option Nat}(hc:TD X c t)(ha:XSs E cl X as g)(hb:XSs E cl X bs h):XS E cl X (.If c as bs pos) (xIf t g h):=by
  obtain ⟨tc,pc,rc⟩:=hc
  obtain ⟨ta,pa,ra⟩:=ha
  obtain ⟨tb,pb,rb⟩:=hb
  refine ⟨_,zbS pc pa pb,fun Fb Hb F H ρ σ D' j rl k w=>?_⟩
  unfold xIf at k
  cases h:t (visG ρ) with
  | none=>rw [h] at k;cases k
  | some d =>
    rw [h] at k
    refine rc σ _ _ H d _ rl.gh rl.visG h fun F' H' g=>?_
    have rl2:=rl.grow (rl.back g).1
    cases d with
    | true=>rw [if_pos rfl];exact ra Fb Hb _ H' ρ σ D' j rl2 k w
    | false=>rw [if_neg Bool.false_ne_true];exact rb Fb Hb _ H' ρ σ D' j rl2 k w
noncomputable def xNo:SE→Option Nat:=fun _=>none
theorem Z5:XS E cl X st xNo:=⟨_,za2,fun _ _ _ _ _ _ _ _ _ h _=>by cases h⟩
theorem zdp {g:SE→Option Nat}(h:XS E cl X st g):XSs E cl X [st] g:=let ⟨_,p,r⟩:=h;⟨_,vI p,r⟩
noncomputable def zfR (gx:SE→Option Nat)(g:SE→Ctl)(hx:SE→Option Nat):SE→Option Nat:=fun ρ=>match gx ρ with
  | some j=>some j
  | none=>match g ρ with
    | .nx ρ'=>hx ρ'
    | _=>none
theorem Xe {gx hx:SE→Option Nat}{g:SE→Ctl}(h1:XS E cl X st gx)(h2:SD X st g)(h3:XSs E cl X sts hx):XSs E cl X (st::sts) (zfR gx g hx):=by
  obtain ⟨t1,p1,r1⟩:=h1
  obtain ⟨t2,p2,r2⟩:=h2
  obtain ⟨u,p3,r3⟩:=h3
  have por:PS X st (fun D σ H=>t1 D σ H∨t2 D σ H):=fun pins s σ H D I h=>h.elim (p1 pins s σ H D I) (p2 pins s σ H D I)
  refine ⟨_,yZ por p3,fun Fb Hb F H ρ σ D' j rl k w=>?_⟩
  unfold zfR at k
  cases e1:gx ρ with
  | some j' =>
    rw [e1] at k
    cases k
    exact .inl (r1 Fb Hb F H ρ σ _ j rl e1 w)
  | none =>
    rw [e1] at k
    dsimp only at k
    cases e2:g ρ with
    | nx ρ' =>
      rw [e2] at k
      refine .inr (r2 Fb Hb F H ρ σ _ rl ?_)
      rw [e2]
      exact fun F' H' σ' rl'=>r3 Fb Hb F' H' ρ' σ' D' j rl' k w
    | rt _=>rw [e2] at k;cases k
    | bk _=>rw [e2] at k;cases k
    | ct _=>rw [e2] at k;cases k
    | no=>rw [e2] at k;cases k
theorem zcL {g:SE→Option Nat}(h:XS E cl X st g):XSs E cl X (st::sts) g:=by
  obtain ⟨t,p,r⟩:=h
  exact ⟨_,yZ p (fun _ _ _ _ _ _ h=>(h:False).elim),fun Fb Hb F H ρ σ D' j rl k w=>r Fb Hb F H ρ σ _ j rl k w⟩
end
noncomputable def fnX (n:Nat)(gx:SE→Option Nat)(ds:List D):Option Nat:=gx (ds.map .v++List.replicate (n - ds.length) .no)
theorem zh7 {P:Program}{w:World}{K:PySem.W.Frag}{mg:Str→Option Value}{base:Heap}{x qual:Str}{st:Stmt}{f:Addr}{fd:FuncData}{N ps:List Str}{k:Nat}{cl:Nat→Addr}{gx:SE→Option Nat}(Fu:Fun K x qual st f fd)(S:zA N ps (ze st))
    (hb:∀ (cdv:Value) (A:Around) (outer:List Env) (s:Shared) (H:Hp) (E:XK),vN k (A.deeper (PyProof.Rows.envOfC qual (ze st) s.heap.objs.size f cdv))→XSs E cl (Y2 (Air P w) P w K mg base N qual (ze st) f cdv A outer s H E) (zy st) gx) :
    xk P w K mg base (Air P w) (k+1) f fd ps (spX cl ps.length (fnX N.length gx)):=by
  obtain ⟨oc,od,kV,doc,pm,an,cdv,ct,osl,rfl,lk,hcd⟩:=Fu.ex
  refine ziu lk hcd S (fun vs H Q E h=>?_) fun A outer s H vs Q E hr hsp=>?_
  · obtain ⟨ds,d,F,hl,_,a,_⟩:=h
    rw [a.length];exact hl
  · obtain ⟨ds,j,F,hl,sm,a,e,q⟩:=hsp
    obtain ⟨t,p,r⟩:=hb cdv A outer s H E hr
    exact ⟨t,p,r F H F H _ _ _ j (Xa sm a) e q⟩
end Dl
namespace L2
open PySem PySem.Spec PyProof.Rows
section
variable {X:Cx}{pins:List (Addr × Obj)}{σ:St}{H H':Hp}{s s':Shared}{E:XK}{e:Value}{E2:Value→Shared→Prop}{B h3:Heap}
theorem Inv.caught (I:Inv X pins σ H s)(os:s'.os=s.os)(bare:AllBare s'.gens)(un:Un (frs X.stack) [] H H' s.heap s'.heap)(hok:HOk X.prog X.w H' s'.heap)(cov:Cov X.stack H s.heap H' s'.heap B)
    (hB:B.StaysIn h3) (hfr:h3.FunFrames B X.stack) (up:s'.heap.UpToSlots h3):Inv X pins σ H' { s' with heap:=h3 }:=by
  obtain ⟨h',g',d',t',o'⟩:=s'
  have eo:o'=s.os:=os
  subst eo
  have nil:∀ b:Addr,b∉([]:List Addr):=fun b z=>nomatch z
  show Inv X pins σ H' { s with heap:=h3,gens:=g',drawn:=d',toks:=t' }
  refine I.step (s:=s) (g':=g') (d':=d') (t':=t') (ch:=[]) (fun b z=>nomatch z) (fun b o hL hb _ e n=>hB b o (cov.old b o e n fun z=>(List.mem_cons.mp (I.stkSub b z)).elim hL hb)) (fun b o hL hb _ e n=>?_) (fun b o _ e n=>un.free b o e n (nil b)) (fun b o _ e=>?_) un.tups un.frzs un.tbls (fun m hm=>?_) (hok.stays fun b u hb hu=>hB b u (cov.new b u hb hu)) bare
  · obtain ⟨sl,e1⟩:=un.any e n (nil b)
    obtain ⟨_,o2,ho2,hd⟩:=I.funs.mem hb
    rw [e] at ho2
    cases ho2
    obtain ⟨sl2,e2⟩:=up b _ e1 hd
    exact ⟨sl2,e2⟩
  · by_cases hb:b∈frs X.stack
    · obtain ⟨_,o2,ho2,_⟩:=hfr.mem hb
      exact ⟨o2,ho2⟩
    · obtain ⟨o',e'⟩:=cov.there b o e hb
      exact ⟨o',hB b o' e'⟩
  · obtain ⟨o,es,ep,ho,hd,r⟩:=hm
    obtain ⟨sl,e1⟩:=un.any ho I.free (nil _)
    exact up.ns ⟨_,es,ep,e1,hd,r⟩
theorem zb2 {M:Model}(hst:X.stack=X.env::X.outer)(hf:X.env.frame=some X.env.locals)(hex:X.ex=[])(I:Inv X pins σ H s)(a:Air X.prog X.w X.stack H s E e s'){hs:List ExceptHandler}{Q:Flow→Shared→Prop}
    (k:∀ (ea C t:Addr) (od:Option Addr) (H':Hp) (B h3:Heap),E (.ref C) od H'→XN h3 ea od→H' ea=none→(∀ o',X.s₀.heap.get? ea=some o'→False)→(∀ p∈X.pn++pins,p.1≠ea)→Heap.FlyingW B X.stack ea (.ref C) (.ref t) h3→(∀ h4:Heap,B.StaysIn h4→h4.FunFrames B X.stack→h3.UpToSlots h4→Inv X pins σ H' { s' with heap:=h4 }) →
      e=.ref ea→wpAny M X.A (handleBy (.ref ea) X.env hs) Q E2 { s' with heap:=h3 }) :
    wpAny M X.A (noteFrame e X.env) (fun _ s₂=>wpAny M X.A (setFlight e none) (fun _ s₃=>wpAny M X.A (handleBy e X.env hs) Q E2 s₃) E2 s₂) E2 s':=by
  obtain ⟨ea,C,t,od,H',B,rfl,os,bare,un,hok,fl,cov,di,hE⟩:=a
  have hfr:X.A.frames=some (X.env::X.outer):=by rw [I.ok.frames,hst]
  have fl0:=fl
  rw [hst] at fl0
  refine WX (ZW _ _) (wpAny_looks_onW (Q:=fun _ s''=>∃ h2,s''={ s' with heap:=h2 }∧Heap.HeldW B (X.env::X.outer) ea (.ref C) (.ref t) X.env.locals h2∧s'.heap.UpToSlots h2) hfr hf fl0 fun h2 hheld up2=>⟨h2,rfl,hheld,up2⟩) ?_
  rintro _ _ ⟨h2,rfl,hheld,up2⟩ dk2
  refine WX (Yn _ _) (wpAny_landsW (Q:=fun _ s''=>∃ h3,s''={ s' with heap:=h3 }∧Heap.FlyingW B (X.env::X.outer) ea (.ref C) (.ref t) h3∧h2.UpToSlots h3) (s:={ s' with heap:=h2 }) hheld fun h3 fl3 up3=>⟨h3,rfl,fl3,up3⟩) ?_
  rintro _ _ ⟨h3,rfl,fl3,up3⟩ dk3
  have di3:XN h3 ea od:=by
    obtain ⟨ob,hob,_⟩:=fl3.there
    exact di.stay (DK.trans dk2 dk3) ⟨ob,hob⟩
  rw [←hst] at fl3
  have hnB:B.get? ea=none:=fl.2.1
  have nfr:ea∉frs X.stack:=fun z=>by
    obtain ⟨_,o2,ho2,hnf⟩:=fl.2.2.1.mem z
    obtain ⟨oe,vs,_,_,_,he,_,hd,_⟩:=fl.2.2.2
    rw [he] at ho2
    cases ho2
    exact hnf vs hd
  have nold:∀ o',s.heap.get? ea=some o'→False:=fun o' z=>by
    obtain ⟨o2,e2⟩:=cov.there ea o' z nfr
    rw [hnB] at e2
    cases e2
  refine k ea C t od H' B h3 hE di3 ?_ (fun o' z=>?_) (fun p hp z=>?_) fl3 (fun h4 b1 b2 b3=>I.caught os bare un hok cov b1 b2 ((up2.trans up3).trans b3)) rfl
  · cases q:H' ea with
    | none=>rfl
    | some u =>
      obtain ⟨ob,ho⟩:=(hok ea u q).ex
      have z:=cov.new ea ob (by rw [q];intro z;cases z) ho
      rw [hnB] at z
      cases z
  · obtain ⟨o2,e2⟩:=I.base.there ea o' z (by rw [hex];intro z;cases z)
    exact nold o2 e2
  · exact nold p.2 (z ▸ (I.pin p hp).1)
end
end L2
namespace L2
open PySem PySem.Spec PyProof.Rows
noncomputable abbrev Cx.held (X:Cx)(e:Value):Cx:={ X with A:=X.A.mark (some e),calm:=false }
section
variable {X:Cx}{pins:List (Addr × Obj)}{σ:St}{H H':Hp}{s s':Shared}{E:Value→Shared→Prop}{e:Value}{M:Model}{A:Around}
theorem Cx.Ok.held (ok:X.Ok)(e:Value):(X.held e).Ok :=
  ⟨ok.mod,ok.kind,ok.glob,ok.blt,ok.above,ok.inj,ok.has,ok.cab,(fun z=>by cases z),ok.frames,ok.stk,ok.exf,ok.bs,ok.bsz,ok.noex,ok.exfs,ok.funs,ok.frf⟩
theorem Inv.held (I:Inv X pins σ H s)(e:Value):Inv (X.held e) pins σ H s:=⟨I.ok.held e,I.os,I.bare,I.base,I.loc,I.cell,I.free,I.freeC,I.pin,I.hok,I.len⟩
theorem Inv.unheld (ok:X.Ok)(I:Inv (X.held e) pins σ H s):Inv X pins σ H s:=⟨ok,I.os,I.bare,I.base,I.loc,I.cell,I.free,I.freeC,I.pin,I.hok,I.len⟩
theorem Zi {i:Nat}{x:Str}{pos:Pos}{Q:Unit→Shared→Prop}(I:Inv X pins σ H s)(hN:X.N.Nodup)(hi:X.N[i]?=some x)(hk:X.env.scope.names.lookup x=some .local)
    (h:∀ s',Inv X pins (σ.set i none) H s'→Q () s'):wpAny M A (do bindName X.env x .none;unbindBehindTheSuite X.env x pos) Q E s:=by
  obtain ⟨m,hn,hl⟩:=id I.loc
  have hcls:(X.env.scope.kind == .class||(X.env.scope.kind == .module&&X.env.locals != X.env.globals))=false:=by rw [I.ok.kind];rfl
  have hiσ:i < σ.length:=by rw [I.len];exact (List.getElem?_eq_some_iff.mp hi).1
  have cne:=I.cne
  refine wpAny_nameGoes_keeps hk hn hcls fun h' v hn' hs=>?_
  obtain ⟨oL,_,_,hoL,_⟩:=id hn
  have tracked:HOk X.prog X.w H h':=fun b ob e=>by
    refine (I.hok b ob e).stay (fun c w' hc q=>(hs.2 c ?_).trans q) (fun _ q=>q) fun _ _ q=>q
    rintro rfl
    rcases hc with rfl | hc
    · rw [I.free] at e;cases e
    · rw [I.free] at hc;cases hc
  have ne0:∀ b o,X.s₀.heap.get? b=some o→b≠X.env.locals:=fun b o e=>Nat.ne_of_lt (Nat.lt_of_lt_of_le (Heap.lt_size e) I.ok.above)
  refine h _ ⟨I.ok,I.os,I.bare,⟨fun b o e n hb hx=>?_,fun b o e n hb hx=>?_,I.base.free,fun b o e hx=>?_,I.base.tups,I.base.frzs,I.base.tbls⟩,⟨_,hn',fun j y v' e1 e2 e3=>?_⟩,fun y c e=>?_,I.free,I.freeC,fun p hp=>?_,tracked,by simpa using I.len⟩
  · exact (hs.2 b (ne0 b o e)).trans (I.base.keep b o e n hb hx)
  · obtain ⟨sl,e1⟩:=I.base.slot b o e n hb hx
    exact ⟨sl,(hs.2 b (ne0 b o e)).trans e1⟩
  · obtain ⟨o',e1⟩:=I.base.there b o e hx
    exact ⟨o',(hs.2 b (ne0 b o e)).trans e1⟩
  · by_cases hj:j=i
    · subst hj
      rw [List.getElem?_set_self hiσ] at e2
      cases e2
    · rw [List.getElem?_set_ne (Ne.symm hj)] at e2
      obtain ⟨u',r',q⟩:=hl j y v' e1 e2 e3
      refine ⟨u',r',?_⟩
      rcases q with ⟨k,e⟩ | ⟨k,c,e,z⟩
      · refine .inl ⟨k,?_⟩
        have:y≠x:=fun e=>hj (WS hN e1 (e ▸ hi))
        simp [this,e]
      · exact .inr ⟨k,c,e,z.sameBut hs (cne y c e)⟩
  · obtain ⟨w',z⟩:=I.cell y c e
    exact ⟨w',z.sameBut hs (cne y c e)⟩
  · obtain ⟨e,n,ne,nf,d⟩:=I.pin p hp
    exact ⟨(hs.2 p.1 ne).trans e,n,ne,nf,d⟩
noncomputable def zcq (a C:Addr)(od:Option Addr):HO:=.ext fun h=>∃ oe,h.get? a=some oe∧oe.cls=.ref C∧oe.dict=od∧PySem.W.notCls oe=true
theorem Inv.track {a:Addr}{o:HO}{ob:Obj}{vs:Array Value}(I:Inv X pins σ H s)(ha:H a=none)(he:s.heap.get? a=some ob)(hd:ob.data=.fields vs)(h0:∀ o',X.s₀.heap.get? a=some o'→False)(hp:∀ p∈X.pn++pins,p.1≠a)
    (new:xH X.prog X.w (upd H a o) s.heap a o):Inv X pins σ (upd H a o) s:=by
  have neL:X.env.locals≠a:=by
    rintro rfl
    obtain ⟨m,⟨oL,es,ep,hoL,hdL,_⟩,_⟩:=I.loc
    rw [he] at hoL
    cases hoL
    rw [hd] at hdL
    cases hdL
  have neC:∀ x c,X.env.cells.lookup x=some c→c≠a:=fun x c e=>by
    rintro rfl
    obtain ⟨v,oc,hoc,hdc⟩:=I.cell x c e
    rw [he] at hoc
    cases hoc
    rw [hd] at hdc
    cases hdc
  refine ⟨I.ok,I.os,I.bare,⟨I.base.keep,I.base.slot,fun b u e n hx=>?_,I.base.there,fun b xs e=>?_,fun b u v e=>?_,fun b ps e=>?_⟩,I.loc,I.cell,?_,fun x c e=>?_,fun p hq=>?_,fun b u e=>?_,I.len⟩
  · rw [zo (fun z:b=a=>h0 u (z ▸ e))]
    exact I.base.free b u e n hx
  · have e1:=I.base.tups b xs e
    rw [zo (zk e1 ha)]
    exact e1
  · have e1:=I.base.frzs b u v e
    rw [zo (zk e1 ha)]
    exact e1
  · obtain ⟨more,e1⟩:=I.base.tbls b ps e
    exact ⟨more,by rw [zo (zk e1 ha)];exact e1⟩
  · rw [zo neL]
    exact I.free
  · rw [zo (neC x c e)]
    exact I.freeC x c e
  · obtain ⟨e,n,ne,nf,d⟩:=I.pin p hq
    exact ⟨e,by rw [zo (hp p hq)];exact n,ne,nf,d⟩
  · by_cases c:b=a
    · subst c
      rw [zp] at e
      cases e
      exact new
    · rw [zo c] at e
      refine (I.hok b u e).stay (fun _ _ _ q=>q) (fun c hc=>?_) fun c xs hc=>?_
      · rw [zo (zk hc ha)];exact hc
      · rw [zo (zk hc ha)];exact hc
end
end L2
namespace L2
open PySem PySem.Spec PyProof.Rows
noncomputable abbrev Cx.pinned (X:Cx)(ps:List (Addr × Obj)):Cx:={ X with pn:=X.pn++ps }
section
variable {X:Cx}{pins ps:List (Addr × Obj)}{σ:St}{H H':Hp}{s s':Shared}
theorem Cx.Ok.pinned (ok:X.Ok)(ps:List (Addr × Obj)):(X.pinned ps).Ok :=
  ⟨ok.mod,ok.kind,ok.glob,ok.blt,ok.above,ok.inj,ok.has,ok.cab,ok.hd,ok.frames,ok.stk,ok.exf,ok.bs,ok.bsz,ok.noex,ok.exfs,ok.funs,ok.frf⟩
theorem Inv.pinAll (I:Inv X pins σ H s):Inv (X.pinned pins) [] σ H s:=⟨I.ok.pinned pins,I.os,I.bare,I.base,I.loc,I.cell,I.free,I.freeC,fun p hp=>I.pin p (by rw [List.append_nil] at hp;exact hp),I.hok,I.len⟩
theorem Inv.unpin (ok:X.Ok)(I:Inv (X.pinned pins) ps σ H s):Inv X pins σ H s:=⟨ok,I.os,I.bare,I.base,I.loc,I.cell,I.free,I.freeC,fun p hp=>I.pin p (List.mem_append_left _ hp),I.hok,I.len⟩
end
noncomputable abbrev gone (i:Nat)(D:Wh):Wh:={ nx:=fun σ H=>D.nx (σ.set i none) H,rt:=D.rt,bk:=fun σ H=>D.bk (σ.set i none) H,ct:=fun σ H=>D.ct (σ.set i none) H }
noncomputable def exW (K:PySem.W.Frag)(CS:Addr)(i n:Nat)(u:TS)(D:Wh):XK:=fun cls od H'=>∃ C,cls=.ref C∧PySem.W.exmOne K (.ref C) (.ref CS)=some true∧∀ (ea:Addr) (σ:St),σ.length=n→H' ea=none→u (gone i D) (σ.set i (some (.ref ea))) (upd H' ea (zcq ea C od))
theorem ziq {Y:Cx}{CS:Addr}{x n:Str}{i:Nat}{body suite:List Stmt}{b₀:Stmt}{pos hpos np:Pos}{tb:XK→TS}{u:TS}(hst:Y.stack=Y.env::Y.outer)(hf:Y.env.frame=some Y.env.locals)(hex:Y.ex=[])
    (hN:Y.N.Nodup) (hi:Y.N[i]?=some n) (hk:Y.env.scope.names.lookup n=some .local) (hg:Gl Y x) (hm:Y.mg x=some (.ref CS))
    (hbody:∀ (ps:List (Addr × Obj)) (W:Value→Shared→Prop) (E0:XK),Xg (Air Y.prog Y.w) ((Y.pinned ps).wish W) E0→PSs ((Y.pinned ps).wish W) body (tb E0))
    (hsuite:∀ ea,PSs (Y.held (.ref ea)).nox (b₀::suite) u) (hd:(x == ("__debug__":Str))=false:=by decide) :
    PS Y.nox (.Try body [.ExceptHandler (some (.Name x np)) (some n) (b₀::suite) hpos] [] [] pos) (fun D σ H=>tb (exW Y.K CS i Y.N.length u D) D σ H):=by
  intro pins s σ H D I h
  have ok:Y.Ok:=I.ok.unwish
  have IY:Inv Y pins σ H s:=I.unwish
  refine wpAny_Try_except ?_
  refine wpAny_mono (hbody pins _ (exW Y.K CS i Y.N.length u D) ?_ [] s σ H D (IY.pinAll.wish _) h) ?_ fun e s₁ h=>h
  · intro pins' σ' H1 s1 e s2 I1 a
    have I1':Inv Y pins σ' H1 s1:=I1.unwish.unpin ok
    refine zb2 (X:=Y) hst hf hex I1' a fun ea C t od H' B h3 hE di3 hea h0 hpn fl hinv ee=>?_
    obtain ⟨C',ec,hsub,hu⟩:=hE
    cases ec
    have I3:Inv Y pins σ' H' { s2 with heap:=h3 }:=hinv h3 fl.1 fl.2.2.1 (.refl _)
    obtain ⟨ob,hob,hobc⟩:=fl.there
    have ty:PySem.W.Looks (model Y.prog Y.w) h3 (typeOf (.ref ea)) (.ref C):=hobc ▸ (PySem.W.Looks.ld hob).andThen .now
    refine wpAny_handleBy_cons (codeAny_handlers_test (Xz (X:=Y.held (.ref ea)) (I3.held (.ref ea)) hg hm ?_ hd)) (by intro q;cases q)
    refine (PySem.W.exm_one (M:=model Y.prog Y.w) I3.kIn ty hsub).here ?_
    refine codeAny_handlers_suite_as ?_
    refine WX (Yn _ _) (wpAny_setFlight_noneW (Q:=fun _ s''=>∃ h4,s''={ s2 with heap:=h4 }∧B.StaysIn h4∧h4.FunFrames B Y.stack∧h4.TracedW B ea (.ref C) (.ref t)∧∀ b o,h3.get? b=some o→(∀ vs,o.data≠.fields vs)→h4.get? b=some o) (s:={ s2 with heap:=h3 }) fl.1 fl.2.2.1 fl.2.2.2.at fun h4 k1 k2 k3 k4=>⟨h4,rfl,k1,k2,k3,k4⟩) ?_
    rintro _ _ ⟨h4,rfl,k1,k2,k3,k4⟩ dk4
    have I4:Inv Y pins σ' H' { s2 with heap:=h4 }:=hinv h4 k1 k2 fun b o hb hn=>⟨o.slots,k4 b o hb hn⟩
    obtain ⟨oe,vs,_,_,_,he,hcl,hdv,_⟩:=k3
    obtain ⟨oe',he',hdi⟩:=di3.stay dk4 ⟨oe,he⟩
    rw [he] at he'
    cases he'
    have hnc:PySem.W.notCls oe=true:=by unfold PySem.W.notCls;rw [hdv]
    have I5:Inv Y pins σ' (upd H' ea (zcq ea C od)) { s2 with heap:=h4 }:=I4.track hea he hdv h0 hpn ⟨⟨oe,he,hcl.1,hdi,hnc⟩,⟨oe,he⟩,fun h1 h2 ⟨o1,e1,e2⟩ kk=>⟨o1,kk o1 e1,e2⟩⟩
    refine Wz (X:=Y.held (.ref ea)) (v:=.ref ea) (I5.held (.ref ea)) hN hi (.inl hk) rfl (fun s6 I6=>?_) (.inr hk)
    refine wpAny_mono (hsuite ea pins s6 _ _ (gone i D) (I6.wish _) (hu ea σ' I4.len hea)) (fun f s7 q=>?_) fun x s7 q=>q.elim
    cases f with
    | ret uv =>
      obtain ⟨v,σ7,H7,I7,rv,q⟩:=q
      exact Zi ((Inv.unheld (X:=Y) ok I7.unwish)) hN hi hk fun s8 I8=>⟨v,_,H7,I8.wish _,rv,q⟩
    | next =>
      obtain ⟨σ7,H7,I7,q⟩:=q
      exact Zi ((Inv.unheld (X:=Y) ok I7.unwish)) hN hi hk fun s8 I8=>⟨_,H7,I8.wish _,q⟩
    | brk =>
      obtain ⟨σ7,H7,I7,q⟩:=q
      exact Zi ((Inv.unheld (X:=Y) ok I7.unwish)) hN hi hk fun s8 I8=>⟨_,H7,I8.wish _,q⟩
    | cont =>
      obtain ⟨σ7,H7,I7,q⟩:=q
      exact Zi ((Inv.unheld (X:=Y) ok I7.unwish)) hN hi hk fun s8 I8=>⟨_,H7,I8.wish _,q⟩
  · intro f s₁ q
    cases f with
    | ret uv =>
      obtain ⟨v,σ7,H7,I7,rv,q⟩:=q
      exact ⟨v,σ7,H7,(Inv.unpin (X:=Y) ok I7.unwish).wish _,rv,q⟩
    | next =>
      obtain ⟨σ7,H7,I7,q⟩:=q
      exact wpAny_execs_nil ⟨σ7,H7,(Inv.unpin (X:=Y) ok I7.unwish).wish _,q⟩
    | brk =>
      obtain ⟨σ7,H7,I7,q⟩:=q
      exact ⟨σ7,H7,(Inv.unpin (X:=Y) ok I7.unwish).wish _,q⟩
    | cont =>
      obtain ⟨σ7,H7,I7,q⟩:=q
      exact ⟨σ7,H7,(Inv.unpin (X:=Y) ok I7.unwish).wish _,q⟩
end L2
namespace L2
open PySem PySem.Spec PyProof.Rows PySem.W PySem.Calls PySem.Builtin PySem.Builtin.Getset_descriptor
section
variable {prog:Program}{w:World}{A:Around}{E:Value→Shared→Prop}{K:PySem.W.Frag}{h:Heap}{g:Array GenState}{d:Drawn}{t:Nat}{os:OsState}{a C:Addr}{o:Obj}
noncomputable def Of (h:Heap)(a:Addr)(o:Obj)(C:Addr):Prop:=h.get? a=some o∧o.cls=.ref C
theorem Of.type {M:Model}(I:Of h a o C):Looks M h (typeOf (.ref a)) (.ref C):=I.2 ▸ (Looks.ld I.1).andThen .now
theorem zdh {M:Model} {name:Str} {x gt:Value} (X:K.In h) (ha:findIn K (.ref C) name=some (some x)) (hg:specialIn K x "__get__"=some (some gt)) (ht:takesIn K x=some true):Looks M h (Builtin.ObjectAttr.find (.ref a) (.ref C) name) (.bind gt x):=by
  have L1:=looks_findIn (M:=M) X ha
  have L2:Looks M h (Builtin.ObjectAttr.getOf (some x)) (some gt):=looks_specialIn X hg
  have L3:=looks_takesIn (M:=M) X ht
  exact L1.andThen (L2.andThen ((show Looks M h (Builtin.ObjectAttr.dataDescriptor? (some x) (some gt)) (some (gt,x)) from L3.andThen .now).andThen (Looks.tag .now)))
theorem zgG {R:Result→Shared→Prop} {tp:Value} (X:K.In h) (I:Of h a o C) (hm:mroIn K C (.type "object")=some true) (hq:R (.ok (.ret (.ref C))) ⟨h,g,d,t,os⟩) :
    codeAny (model prog w) A (.call (.builtin "getset_descriptor.__get__") ⟨[.builtin "object.__class__",.ref a,tp],[]⟩) R ⟨h,g,d,t,os⟩:=by
  have L0:=I.type (M:=model prog w)
  have L1:=looks_mroIn (M:=model prog w) X hm
  refine codeAny_call_builtin KF.slot_gs.plain KF.entry_gs (KF.slot_gs.check _ _ _ _ _ _ _ _ KF.type_class (KF.args_gs _ _ _) ?_)
  unfold Builtin.«getset_descriptor.__get__» descrGet
  rw [dga_obj]
  refine wpAny_bind (wpAny_pure ?_)
  unfold descrGetter descrCheckInstance descrNameAndClass isInstance
  simp only [KF.owner_class]
  repeat lk
  refine ⟨Code.quiet_builtin _ (by decide +kernel),codeAny_builtin KF.entry_class ?_⟩
  unfold Builtin.«object.__class__» shownTypeOf
  repeat lk
  exact hq
theorem zeb {tk:Tok} {Q:Fin→Shared→Prop} (X:K.In h) (I:Of h a o C) (ha:findIn K (.ref C) "__class__"=some (some (.builtin "object.__class__"))) (hn:specialIn K (.builtin "object.__class__") "__get__"=some (some (.builtin "getset_descriptor.__get__"))) (ht:takesIn K (.builtin "object.__class__")=some true) (hm:mroIn K C (.type "object")=some true)
    (hq:Q (.done (.ret (.ref C))) ⟨h,g,d,t,os⟩):wpAny (model prog w) A (Builtin.«object.__getattribute__» ⟨[.ref a,.str "__class__" tk],[]⟩) Q E ⟨h,g,d,t,os⟩:=by
  have L0:=I.type (M:=model prog w)
  have L1:=zdh (M:=model prog w) (a:=a) X ha hn ht
  refine wpAny_bind (wpAny_pure (wpAny_bind ?_))
  refine wpAny_pure (wpAny_bind (L0.at (wpAny_bind (L1.at ?_))))
  show wpAny _ _ (holding [.builtin "object.__class__"] (call (.builtin "getset_descriptor.__get__") [.builtin "object.__class__",.ref a,.ref C])>>=ret) _ _ _
  exact wpAny_bind (wpAny_holding (wpAny_call (zgG X I hm (wpAny_pure hq))))
theorem zdD {M:Model} {nameV:Value} {Q:Unit→Shared→Prop} (X:K.In h) (I:Of h a o C) (hb:subIn K (.ref C) (.type "BaseException")=some true) (hq:Q () ⟨h,g,d,t,os⟩):wpAny M A (checkBuiltinCall "BaseException.__getattribute__" ⟨[.ref a,nameV],[]⟩) Q E ⟨h,g,d,t,os⟩:=by
  have hk:builtinKind "BaseException.__getattribute__"=some .slot:=by decide +kernel
  have hsplit:splitId "BaseException.__getattribute__"=some ("BaseException","__getattribute__"):=by decide +kernel
  have ha:=F.args_bexc_ga (.ref a) nameV
  have L0:=I.type (M:=M)
  have L1:Looks M h (isSubtype (.ref C) (.type "BaseException")) true:=looks_subIn X hb
  simp only [checkBuiltinCall,hk,hsplit]
  refine wpAny_bind ?_
  unfold isInstance
  refine wpAny_bind (L0.at (L1.at ?_))
  repeat (first | assumption | wp_step)
theorem zij {tk:Tok} {Q:Value→Shared→Prop} (X:K.In h) (I:Of h a o C) (hga:findIn K (.ref C) "__getattribute__"=some (some (.builtin "BaseException.__getattribute__"))) (hgt:findIn K (.ref C) "__getattr__"=some none)
    (ha:findIn K (.ref C) "__class__"=some (some (.builtin "object.__class__"))) (hn:specialIn K (.builtin "object.__class__") "__get__"=some (some (.builtin "getset_descriptor.__get__"))) (ht:takesIn K (.builtin "object.__class__")=some true) (hm:mroIn K C (.type "object")=some true) (hb:subIn K (.ref C) (.type "BaseException")=some true) (hq:Q (.ref C) ⟨h,g,d,t,os⟩) :
    wpAny (model prog w) A (getAttrBy (.ref a) (.str "__class__" tk) false) Q E ⟨h,g,d,t,os⟩:=by
  have L0:=I.type (M:=model prog w)
  have L1:=looks_findIn (M:=model prog w) X hga
  have L2:=looks_findIn (M:=model prog w) X hgt
  have f3:=F.attrBase_ValueError.ga.bind (.ref a)
  have hx2:(Value.builtin "BaseException.__getattribute__" == Value.builtin "object.__getattribute__")=false:=by decide +kernel
  unfold getAttrBy
  refine wpAny_holding (wpAny_bind (L0.at (wpAny_bind (L1.at ?_))))
  dsimp only
  rw [hx2,Bool.and_false,if_neg Bool.false_ne_true]
  unfold getAttrByItsOwn
  refine wpAny_bind ?_
  show wpAny _ _ (typeLookup (.ref C) "__getattr__") _ _ _
  refine L2.at (wpAny_bind (wpAny_attempt (wpAny_holding ?_)))
  show wpAny _ _ (boundAndCalled (.builtin "BaseException.__getattribute__") (.ref a) (.str "__class__" tk)) _ _ _
  unfold boundAndCalled
  rw [f3]
  refine wpAny_bind (wpAny_pure ?_)
  refine wpAny_call (codeAny_call_builtin F.attrBase_ValueError.ga.plain F.entry_bexc_ga (zdD X I hb (zeb X I ha hn ht hm ?_)))
  exact handed_on rfl hq
theorem zdI {Q:Option Value→Shared→Prop} {s:Shared} (X:K.In s.heap) (I:Of s.heap a o C) (hga:findIn K (.ref C) "__getattribute__"=some (some (.builtin "BaseException.__getattribute__"))) (hgt:findIn K (.ref C) "__getattr__"=some none)
    (ha:findIn K (.ref C) "__class__"=some (some (.builtin "object.__class__"))) (hn:specialIn K (.builtin "object.__class__") "__get__"=some (some (.builtin "getset_descriptor.__get__"))) (ht:takesIn K (.builtin "object.__class__")=some true) (hm:mroIn K C (.type "object")=some true) (hb:subIn K (.ref C) (.type "BaseException")=some true)
    (hq:Q (some (.ref C)) { s with toks:=s.toks+1 }):wpAny (model prog w) A (getAttr? (.ref a) "__class__") Q E s:=by
  obtain ⟨hh,g,d,t,os⟩:=s
  unfold getAttr? getAttrBy?
  exact wpAny_bind (wpAny_mkText (wpAny_bind (wpAny_attempt (zij X I hga hgt ha hn ht hm hb (wpAny_pure hq)))))
noncomputable def wS (K:PySem.W.Frag) (C:Addr):Bool:=(clsIn K C).isSome&&findIn K (.ref C) "__getattribute__" == some (some (.builtin "BaseException.__getattribute__"))&&findIn K (.ref C) "__getattr__" == some none&&findIn K (.ref C) "__class__" == some (some (.builtin "object.__class__"))
  && specialIn K (.builtin "object.__class__") "__get__" == some (some (.builtin "getset_descriptor.__get__"))&&takesIn K (.builtin "object.__class__") == some true&&mroIn K C (.type "object") == some true&&subIn K (.ref C) (.type "BaseException") == some true
theorem zfh (q:wS K C=true):KitX K (.ref a) (.ref C) (fun h=>∃ o,Of h a o C):=by
  unfold wS at q
  simp only [Bool.and_eq_true,beq_iff_eq] at q
  obtain ⟨⟨⟨⟨⟨⟨⟨hcls,hga⟩,hgt⟩,ha⟩,hn⟩,ht⟩,hm⟩,hb⟩:=q
  obtain ⟨cd,hcd⟩:=Option.isSome_iff_exists.mp hcls
  unfold clsIn at hcd
  refine ⟨fun _ _ _ ⟨_,I⟩=>I.type,fun _ _ X _=>?_,fun h tp dd its n sl X htp=>?_,fun X ⟨_,I⟩ k=>zdI X I hga hgt ha hn ht hm hb k⟩
  · split at hcd
    · rename_i c' d' cd' sl' ho
      intro A' Q' E' s' k q
      unfold isType loadHead
      exact wpAny_bind (wpAny_loadPart (k _ _ (X _ _ ho)) (wpAny_pure q))
    · cases hcd
  · refine Bool.eq_false_iff.mpr fun q=>?_
    have e:C=tp:=Value.ref.inj (beq_iff_eq.mp q)
    subst e
    split at hcd
    · rename_i c' d' cd' sl' ho
      have z:=(X _ _ ho).symm.trans htp
      cases z
    · cases hcd
theorem X6 {c:Value}{b:Bool}{s:Shared}{Q:Value→Shared→Prop}(q:wS K C=true)(X:K.In s.heap)(I:∃ o,Of s.heap a o C)(e:kitOne K (.ref C) c=some b)(hq:∀ tk,Q (.bool b) { s with toks:=tk }) :
    wpAny (model prog w) A (call (.builtin "isinstance") [.ref a,c]) Q E s:=kia_one (zfh q) X I e (by intro z;cases z) hq
end
end L2
namespace L2
open PySem PySem.Spec PyProof.Rows
section
variable {P:Program}{w:World}{K:PySem.W.Frag}{mg:Str→Option Value}{base:Heap}
noncomputable def zdo (P:Program)(w:World)(K:PySem.W.Frag)(mg:Str→Option Value)(base:Heap)(k:Nat)(f:Addr)(fd:FuncData)(ps:List Str)(sp:Sp):Prop :=
  (∀ vs H Q E,sp vs H Q E→vs.length=ps.length)∧∀ (A:Around) (outer:List Env) (s:Shared) (H:Hp) (args:Args) (us:List Value) (vs:List V) (Q:VK) (E:XK) (ev:Value),vN k A→zfS P w K mg base A outer s H→BindsTo s fd args (ps.zip us)→yP vs us→sp vs H Q E →
    codeAny (model P w) (A.mark (some ev)) (.call (.ref f) args) (CR CX0 outer P w H s Q E) s
theorem zgh {x qual:Str}{st:Stmt}{f:Addr}{fd:FuncData}{N ps:List Str}{k:Nat}{sp:Sp}(F:Fun K x qual st f fd)(S:zA N ps (ze st))(len:∀ vs H Q E,sp vs H Q E→vs.length=ps.length)
    (hbody:∀ (cdv:Value) (A:Around) (outer:List Env) (s:Shared) (H:Hp) (vs:List V) (Q:VK) (E:XK) (ev:Value),vN k (A.deeper (envOfC qual (ze st) s.heap.objs.size f cdv))→sp vs H Q E →
      ∃ t,PSs ((Y2 CX0 P w K mg base N qual (ze st) f cdv A outer s H E).held ev).nox (zy st) t∧t { nx:=fun _ H'=>Q .non H',rt:=Q } (start N vs) H):zdo P w K mg base (k+1) f fd ps sp:=by
  obtain ⟨oc,od,kV,doc,pm,an,cdv,ct,osl,rfl,lk,hcd⟩:=F.ex
  refine ⟨len,fun A outer s H args us vs Q E ev hr e0 hb r hsp=>?_⟩
  have KX:K.In s.heap:=e0.mod.kin.keeps fun b o e=>(e0.bs b o e).1
  have lim:s.heap.NoLimit:=e0.mod.nolimit.keeps fun b o e=>(e0.bs b o e).1
  refine codeAny_call_function (A:=A.mark (some ev)) hr.depth (KX _ _ lk) rfl S.co S.gen rfl (PySem.W.codeRec_of KX hcd) (hb _ _ _ _ ?_)
  refine wpAny_newFunctionEnv_cells S.kind (fun y hy=>?_) fun env he s1 x=>?_
  · rcases S.par y.1 (List.of_mem_zip (a:=y.1) (b:=y.2) hy).1 with q | q
    · exact .inl q
    · exact .inr ⟨q,PySem.W.cellsFrom_some _ _ _ (.inl q)⟩
  subst he
  refine ⟨lim.keeps x.toInCall.keep,codeAny_func ?_⟩
  obtain ⟨t,ht,hq⟩:=hbody cdv A outer s H vs Q E ev (hr.deeper _) hsp
  have I:Inv (Y2 CX0 P w K mg base N qual (ze st) f cdv A outer s H E) [] (start N vs) H s1:=Vr S hr.hd e0 (len _ _ _ _ hsp) r x
  refine wpAny_mono (ht [] s1 (start N vs) H _ ((I.held ev).wish _) hq) (fun fl s' hs=>?_) fun e s' hs=>hs.elim
  cases fl with
  | ret u =>
    obtain ⟨v,σ',H',J,rv,q⟩:=hs
    exact ⟨v,H',J.os,J.bare,J.base,J.hok,rv,q⟩
  | next =>
    obtain ⟨σ',H',J,q⟩:=hs
    exact ⟨V.non,H',J.os,J.bare,J.base,J.hok,rfl,q⟩
  | brk =>
    obtain ⟨_,_,_,q⟩:=hs
    exact False.elim q
  | cont =>
    obtain ⟨_,_,_,q⟩:=hs
    exact False.elim q
end
theorem zeX {Y:Cx}{ev:Value}{k:Nat}{f:Addr}{fd:FuncData}{ps:List Str}{sp:Sp}{x:Str}{p pos:Pos}{e:Expr}{es:List Expr}{t:TA}{E:XK}(F:zdo Y.prog Y.w Y.K Y.mg Y.base k f fd ps sp)(hr:vN k Y.A)(hg:Gl Y x)(hm:Y.mg x=some (.ref f))(hk:PySem.W.keepIn Y.K (.ref f)=true)(hb:Zr Y.K fd ps [])(hok:Y.Ok)
    (ha:PA (Y.held ev).nox (e::es) t) (hdb:(x == ("__debug__":Str))=false:=by decide) (he:starEach (e::es) Y.env=(false,eval e Y.env)::starEach es Y.env:=by rfl) (hpl:(backTo pos (starEach es Y.env)).any (·.1)=false:=by rfl) :
    PE (Y.held ev).nox (.Call (.Name x p) (e::es) [] pos) (zg0 sp [] E t):=by
  intro pins s σ H Q I h
  refine wpAny_Call_Name_kw (Xz I hg hm ?_ hdb)
  refine PySem.W.callWith_K (h₀:=Y.base) I.ok.mod.kin hk (thn (ha pos pins s σ H _ I h) fun us s1 ⟨vs,H1,I1,r,q⟩=>⟨I1.kIn,?_⟩) he hpl
  have q:sp (vs++[]) H1 Q E:=q
  rw [List.append_nil] at q
  have I2:Inv Y pins σ H1 s1:=Inv.unheld (X:=Y) hok I1.unwish
  refine wpAny_call (codeAny_mono (F.2 Y.A Y.stack s1 H1 ⟨us,[]⟩ us vs Q E ev hr I2.env0 ?_ r q) fun r s' hq=>?_)
  · have:=hb s1 us I2.kIn (by rw [List.append_nil,← r.length];exact F.1 _ _ _ _ q)
    rwa [List.append_nil] at this
  · cases r with
    | error e=>exact False.elim hq
    | ok fl =>
      cases fl with
      | ret u=>exact I1.after hq
      | next=>exact False.elim hq
      | brk=>exact False.elim hq
      | cont=>exact False.elim hq
end L2
namespace L2
open PySem PySem.Spec PyProof.Rows PySem.SeqAt
theorem WR:∀ {bs:List Bool} {its:List Value},yP (bs.map V.bl) its→its=bs.map Value.bool
  | [],its,r=>by
    have:=r.length
    exact List.eq_nil_of_length_eq_zero (by rw [←this];rfl)
  | b::bs,its,r=>by
    cases r with
    | cons r1 r2 =>
      rw [WR r2]
      cases r1
      rfl
theorem za6 {A:Around}{s:Shared}{bs:List Bool}{y:Value}(h:y∈(bs.map Value.bool).toArray):EqAt A s y (.bool true) (isBoolOf true y):=by
  obtain ⟨b,_,rfl⟩:=List.mem_map.mp (List.mem_toArray.mp h)
  exact EqAt.bool_bool b true
noncomputable def zcZ:V→List V→Hp→VK→Prop:=fun x vs H Q=>∃ (l:Addr) (bs:List Bool),x=.ref l∧vs=[.bl true]∧H l=some (.lst (bs.map V.bl))∧Q (.int ((bs.countP (· == true):Nat):Int)) H
theorem zdn {X:Cx}:MtR X "list.count" zcZ:=by
  intro pins s σ H x vs v us Q I rx rv h
  obtain ⟨l,bs,rfl,rfl,hH,q⟩:=h
  cases rx
  obtain ⟨u,rfl,ru⟩:=rv.one
  cases ru
  obtain ⟨its,r,pl,hz⟩:=I.list (SqL.of (K:=X.K) hH)
  have e:=WR r
  subst e
  obtain ⟨⟨cls,dd,data,sl⟩,ho,hc,n,hd⟩:=pl.isList
  simp only at hc hd
  subst hc hd
  refine call_meets PySem.F.slot_list_count ⟨_,ho,rfl⟩ PySem.F.entry_list_count (PySem.F.args_list_count_2 _ _) (list_countAt l (bs.map Value.bool).toArray n dd sl (.bool true) (isBoolOf true)) ⟨ho,fun y hy=>za6 hy,?_⟩
  refine ⟨.int (((bs.map Value.bool).toArray.toList.countP (isBoolOf true):Nat):Int),H,I.tok _,⟨_,rfl⟩,?_⟩
  rw [show (bs.map Value.bool).toArray.toList=bs.map Value.bool from rfl,List.countP_map]
  exact q
noncomputable def zdx:V→List V→Hp→VK→Prop:=fun x vs H Q=>∃ (l:Addr) (bs:List Bool),x=.ref l∧vs=[.bl true]∧H l=some (.lst (bs.map V.bl))∧true∈bs∧Q (.int ((bs.idxOf true:Nat):Int)) H
theorem zdA {X:Cx}:MtR X "list.index" zdx:=by
  intro pins s σ H x vs v us Q I rx rv h
  obtain ⟨l,bs,rfl,rfl,hH,hm,q⟩:=h
  cases rx
  obtain ⟨u,rfl,ru⟩:=rv.one
  cases ru
  obtain ⟨its,r,pl,hz⟩:=I.list (SqL.of (K:=X.K) hH)
  have e:=WR r
  subst e
  obtain ⟨⟨cls,dd,data,sl⟩,ho,hc,n,hd⟩:=pl.isList
  simp only at hc hd
  subst hc hd
  have hj:bs.idxOf true < bs.length:=List.idxOf_lt_length_iff.mpr hm
  have hl63:=Wx
  have hb:bs.length≤sizeLine:=by simpa using hz
  refine call_meets PySem.F.slot_list_index ⟨_,ho,rfl⟩ PySem.F.entry_list_index (PySem.F.args_list_index_2 _ _) (list_indexAt l (bs.map Value.bool).toArray n dd sl (.bool true) (isBoolOf true) (bs.idxOf true) (by simpa using hj) (by omega) ?_ ?_) ⟨ho,fun y hy=>za6 hy,⟨.int ((bs.idxOf true:Nat):Int),H,I.tok _,⟨_,rfl⟩,q⟩⟩
  · simp only [List.getElem_toArray,List.getElem_map]
    rw [List.getElem_idxOf hj]
    rfl
  · intro m hm2 hlt
    simp only [List.getElem_toArray,List.getElem_map]
    exact List.not_of_lt_findIdx (p:=(· == true)) (xs:=bs) hlt
end L2
namespace L2
open PySem PySem.Spec PyProof.Rows
noncomputable def clsV:V→Option Value
  | .ref C=>some (.ref C)
  | .ty T=>some (.type T)
  | _=>none
noncomputable def zju (K:PySem.W.Frag):List V→Hp→VK→Prop:=fun vs H Q=>∃ (a C:Addr) (od:Option Addr) (v:V) (c:Value) (b:Bool),vs=[.ref a,v]∧H a=some (zcq a C od)∧wS K C=true∧clsV v=some c∧PySem.W.kitOne K (.ref C) c=some b∧Q (.bl b) H
theorem yY {X:Cx}:YO X (.builtin "isinstance") (zju X.K):=by
  intro pins s σ H vs us Q I rv h
  obtain ⟨a,C,od,v,c,b,rfl,hH,hl,hc,hk,q⟩:=h
  obtain ⟨u1,u2,rfl,r1,r2⟩:∃ u1 u2,us=[u1,u2]∧xS (.ref a) u1∧xS v u2:=by
    cases rv with
    | cons r1 r=>cases r with
      | cons r2 r=>cases r;exact ⟨_,_,rfl,r1,r2⟩
  cases r1
  have e2:u2=c:=by
    cases v <;> try cases hc
    · cases r2;rfl
    · cases r2;rfl
  subst e2
  obtain ⟨⟨oe,h1,h2,_⟩,_⟩:=I.hok a _ hH
  exact X6 hl I.kIn ⟨oe,h1,h2⟩ hk fun tk=>⟨.bl b,H,I.tok tk,rfl,q⟩
theorem za7 {K:PySem.W.Frag}{σ:St}{H:Hp}{a C:Addr}{od:Option Addr}{v:V}{c:Value}{b:Bool}{Q:VK}(h0:σ[0]?=some (some (.ref a)))(hH:H a=some (zcq a C od))(hl:wS K C=true)(hc:clsV v=some c)(hk:PySem.W.kitOne K (.ref C) c=some b)(q:Q (.bl b) H) :
    tCB (zju K) (Xm (WM 0) (Xm (tC v) zge)) σ H Q:=⟨.ref a,h0,⟨a,C,od,v,c,b,rfl,hH,hl,hc,hk,q⟩⟩
end L2
namespace Dl
open PySem L2
variable [KK]
section
variable {E:XK}{cl:Nat→Addr}{X:Cx}{e:Expr}{es:List Expr}
end
end Dl
namespace L2
open PySem PySem.Spec PyProof.Rows
noncomputable def zbL (n j:Nat):List Bool:=(List.range n).map fun i=>i == j
noncomputable def zbl (K:PySem.W.Frag) (cs:List Addr) (CS C:Addr) (j:Nat):Bool:=wS K C&&(PySem.W.kitOne K (.ref C) (.type "ValueError") == some true)&&(PySem.W.exmOne K (.ref C) (.ref CS) == some true)&&(cs.map (fun c=>PySem.W.kitOne K (.ref C) (.ref c)) == (zbL cs.length j).map some)
set_option genInjectivity false in
set_option genSizeOf false in
set_option genCtorIdx false in
structure zbd (K:PySem.W.Frag) (cs:List Addr) (CS C:Addr) (j:Nat):Prop where
  look:wS K C=true
  val:PySem.W.kitOne K (.ref C) (.type "ValueError")=some true
  exm:PySem.W.exmOne K (.ref C) (.ref CS)=some true
  hot:cs.map (fun c=>PySem.W.kitOne K (.ref C) (.ref c))=(zbL cs.length j).map some
theorem zbd.of {K:PySem.W.Frag}{cs:List Addr}{CS C:Addr}{j:Nat}(h:zbl K cs CS C j=true):zbd K cs CS C j:=by
  unfold zbl at h
  simp only [Bool.and_eq_true,beq_iff_eq] at h
  exact ⟨h.1.1.1,h.1.1.2,h.1.2,h.2⟩
section
variable {K:PySem.W.Frag}{σ:St}{H H0:Hp}{a C:Addr}{od:Option Addr}
noncomputable def tIs (K:PySem.W.Frag):List Addr→TA
  | []=>zge
  | c::r=>Xm (tCB (zju K) (Xm (WM 0) (Xm (tC (.ref c)) zge))) (tIs K r)
theorem zgd (h0:σ[0]?=some (some (.ref a)))(hH:H a=some (zcq a C od))(hl:wS K C=true):∀ (cs:List Addr) (bs:List Bool) (Q:List V→Hp→Prop),cs.map (fun c=>PySem.W.kitOne K (.ref C) (.ref c))=bs.map some→Q (bs.map V.bl) H→tIs K cs σ H Q:=by
  intro cs
  induction cs with
  | nil =>
    intro bs Q e q
    cases bs with
    | nil=>exact q
    | cons b r=>cases e
  | cons c r ih =>
    intro bs Q e q
    cases bs with
    | nil=>cases e
    | cons b bs =>
      obtain ⟨e1,e2⟩:=List.cons.inj e
      exact za7 h0 hH hl rfl e1 (ih bs _ e2 q)
structure KSt (H0:Hp) (a C:Addr) (od:Option Addr) (bs:List Bool) (σ:St) (H:Hp):Prop where
  same:yq H0 H
  len:σ.length=2
  e0:σ[0]?=some (some (.ref a))
  he:H a=some (zcq a C od)
  lst:∃ p,σ[1]?=some (some (.ref p))∧H p=some (.lst (bs.map V.bl))
theorem zcT {bs:List Bool}{p:Addr}(s:yq H0 H)(hl:σ.length=2)(e0:σ[0]?=some (some (.ref a)))(he:H a=some (zcq a C od))(hp:H p=none):KSt H0 a C od bs (σ.set 1 (some (.ref p))) (upd H p (.lst (bs.map V.bl))):=by
  refine ⟨fun b o e=>?_,by rw [List.length_set];exact hl,?_,?_,p,?_,zp⟩
  · have:=s b o e
    rw [zo (zk this hp)];exact this
  · rw [List.getElem?_set_ne (by decide)];exact e0
  · rw [zo (zk he hp)];exact he
  · rw [List.getElem?_set_self (by omega)]
theorem zdH {cs:List Addr}{bs:List Bool}{D:Wh}(hk:wS K C=true)(e:cs.map (fun c=>PySem.W.kitOne K (.ref C) (.ref c))=bs.map some)(hb:bs.length≤sizeLine)(hl:σ.length=2)(e0:σ[0]?=some (some (.ref a)))(he:H a=some (zcq a C od))(k:∀ σ' H',KSt H a C od bs σ' H'→D.nx σ' H') :
    ze5 (zjH (tIs K cs)) (vL 1) D σ H :=
  zgd e0 he hk cs bs _ e ⟨by rw [List.length_map];exact hb,fun p hp=>k _ _ (zcT (.refl _) hl e0 he hp)⟩
theorem Va {cs:List Addr}{bs0 bs:List Bool}{D:Wh}(hk:wS K C=true)(e:cs.map (fun c=>PySem.W.kitOne K (.ref C) (.ref c))=bs.map some)(hb:bs0.length+bs.length≤sizeLine)(S:KSt H0 a C od bs0 σ H)(k:∀ σ' H',KSt H0 a C od (bs0++bs) σ' H'→D.nx σ' H') :
    ze5 (tOp zjG (WM 1) (zjH (tIs K cs))) (vL 1) D σ H:=by
  obtain ⟨p,e1,hp⟩:=S.lst
  refine ⟨.ref p,e1,zgd S.e0 S.he hk cs bs _ e ⟨by rw [List.length_map];omega,fun q hq=>?_⟩⟩
  refine ⟨p,q,bs0.map V.bl,bs.map V.bl,rfl,rfl,by rw [zo (zk hp hq)];exact hp,zp,by rw [List.length_map,List.length_map];exact hb,fun r hr=>?_⟩
  rw [←List.map_append]
  refine k _ _ (zcT (fun b o e=>?_) S.len S.e0 ?_ hr)
  · have:=S.same b o e
    rw [zo (zk this hq)];exact this
  · rw [zo (zk S.he hq)];exact S.he
theorem zcF:∀ j:Nat,j < 13→(zbL 13 j).countP (· == true)=1∧(zbL 13 j).idxOf true=j∧true∈zbL 13 j:=by decide +kernel
theorem zgy {j:Nat} {D:Wh} {tr:TS} (hv:PySem.W.kitOne K (.ref C) (.type "ValueError")=some true) (hk:wS K C=true) (hj:j < 13) (S:KSt H0 a C od (zbL 13 j) σ H) (k:D.rt (.int j) H) :
    zj5 (zjs (tOr (tNot (tB (tCB (zju K) (Xm (WM 0) (Xm (tC (.ty "ValueError")) zge))))) (zdw (tOp rNe (tBM K "list" zcZ (WM 1) (Xm (tC (.bl true)) zge)) (tC (.int 1))))) tr zeC) (zjj (tBM K "list" zdx (WM 1) (Xm (tC (.bl true)) zge))) D σ H:=by
  obtain ⟨h1,h2,h3⟩:=zcF j hj
  obtain ⟨p,e1,hp⟩:=S.lst
  refine za7 S.e0 S.he hk rfl hv ⟨true,rfl,?_⟩
  show (if (!true)=true then _ else _)
  rw [if_neg (by decide)]
  refine ⟨.ref p,e1,.inl ⟨rfl,_,SqL.of hp⟩,p,_,rfl,rfl,hp,?_⟩
  rw [h1]
  refine ⟨rfl,false,by rw [WK];rfl,?_⟩
  show (if false=true then _ else _)
  rw [if_neg (by decide)]
  refine ⟨.ref p,e1,.inl ⟨rfl,_,SqL.of hp⟩,p,_,rfl,rfl,hp,h3,?_⟩
  rw [h2]
  exact k
end
noncomputable def zcH (cl:Nat→Addr)(ok:Nat→Prop):Sp:=fun vs H Q _=>∃ a j od,vs=[.ref a]∧H a=some (zcq a (cl j) od)∧ok j∧∀ H',yq H H'→Q (.int (j:Nat)) H'
noncomputable def tXA (K:PySem.W.Frag)(ta:TE)(f:Str):TE:=fun σ H Q=>ta σ H fun x H1=>∃ a C dx fs v,x=.ref a∧H1 a=some (zcq a C (some dx))∧H1 dx=some (.xd fs)∧vW K C∧Wq K C f∧fs.lookup f=some v∧Q v H1
theorem zjU {X:Cx}{e:Expr}{ta:TE}{f:Str}{pos:Pos}(he:PE X e ta)(hb:attributeBase e f X.env (eval e X.env)=eval e X.env):PE X (.Attribute e f pos) (tXA X.K ta f):=by
  intro pins s σ H Q I h
  refine zgf hb (thn (he pins s σ H _ I h) fun u s1 hh9=>?_)
  obtain ⟨x,H1,I1,rx,a,C,dx,fs,v,ex,ea,ed,hx,n,l,q⟩:=hh9
  subst ex
  obtain rfl:u=Value.ref a:=rx
  obtain ⟨⟨oe,h1,h2,h3,h4⟩,_⟩:=I1.hok a _ ea
  obtain ⟨mA,hn,hr⟩:=I1.hok dx _ ed
  obtain ⟨od,g1,g2⟩:=VH hn
  obtain ⟨u,hu,ru⟩:=zgN.some_of (v:=v) (o:=mA f) (by rw [←l];exact hr f)
  have II:PySem.W.InstAt s1.heap a oe C (some od):=⟨h1,h2,h4,by rw [h3];exact g1⟩
  obtain ⟨cd,hc,_,hh⟩:=hx.cls
  have hf:PySem.W.findObj X.K C (some od) f=some (.value u):=by
    unfold PySem.W.findObj
    rw [hc,Option.bind_some,show PySem.W.findIn X.K (.ref C) f=some none from n]
    show ((PySem.W.ownOf cd (some od) f).bind _)=_
    unfold PySem.W.ownOf
    rw [hh,if_pos rfl]
    dsimp only
    rw [g2,hu]
    rfl
  exact zhl I1.kIn II hx hf (zdV ru) ⟨v,H1,I1.tok _,ru,q⟩
theorem PS.nox {X:Cx}{st:Stmt}{t:TS}(h:PS X.nox st t):PS X st t:=fun pins s σ H D I hw =>
  wpAny_mono (h pins s σ H D (I.wish _) hw) (fun _ _ q=>q.unwish) fun _ _ z=>False.elim z
end L2
namespace Dl
open PySem L2
variable [KK]
theorem SD.nox {X:Cx}{st:Stmt}{g:SE→Ctl}(h:SD X.nox st g):SD X st g:=let ⟨t,p,r⟩:=h;⟨t,p.nox,r⟩
noncomputable def xEx (fx:Ev→Option Nat):SE→Option Nat:=fun ρ=>fx (visG ρ)
theorem zek {E:XK}{cl:Nat→Addr}{X:Cx}{sts:List Stmt}:XSs E cl X sts xNo:=⟨fun _ _ _=>False,fun _ _ _ _ _ _ h=>h.elim,fun _ _ _ _ _ _ _ _ _ h _=>by cases h⟩
theorem Gr.more {F H H':Hp}(s:yq F H)(k:yq H H'):Gr F H F H':=⟨yq.refl _,s.trans k,fun p o e1 e2=>⟨.inl e1,k p o e2⟩⟩
noncomputable def ziD (gx:SE→Option Nat)(g:SE→Ctl)(h:Nat→Option D):SE→Ctl:=fun ρ=>match gx ρ with
  | some j=>match h j with
    | some d=>.rt d
    | none=>.no
  | none=>g ρ
noncomputable def WV (H:Hp)(j:Nat)(od:Option Addr):Prop:=match pay j with
  | none=>od=none
  | some fs=>∃ dx,od=some dx∧H dx=some (.xd fs)
theorem WV.mono {H H':Hp}{j:Nat}{od:Option Addr}(h:WV H j od)(s:yq H H'):WV H' j od:=by
  unfold WV at h ⊢
  cases e:pay j with
  | none=>rw [e] at h;exact h
  | some fs=>rw [e] at h;obtain ⟨dx,e1,e2⟩:=h;exact ⟨dx,e1,s _ _ e2⟩
structure Est (cl:Nat→Addr) (i j:Nat) (σ:St) (H:Hp) (a:Addr) (od:Option Addr):Prop where
  sl:σ[i]?=some (some (.ref a))
  he:H a=some (zcq a (cl j) od)
  pa:WV H j od
theorem Est.mono {cl:Nat→Addr}{i j:Nat}{σ:St}{H H':Hp}{a:Addr}{od:Option Addr}(h:Est cl i j σ H a od)(s:yq H H'):Est cl i j σ H' a od:=⟨h.sl,s _ _ h.he,h.pa.mono s⟩
noncomputable def RU (cl:Nat→Addr)(i:Nat)(u:TS)(h:Nat→Option D):Prop:=∀ (j:Nat) (d:D) (σ:St) (H:Hp) (a:Addr) (od:Option Addr) (D':Wh),h j=some d→Est cl i j σ H a od→(∀ H' v,(∀ F,yq F H→∃ F',Gr F H F' H'∧At F' d v)→D'.rt v H')→u D' σ H
theorem ziL {Y:Cx}{CS:Addr}{x n:Str}{i:Nat}{body suite:List Stmt}{b₀:Stmt}{pos hpos np:Pos}{cl:Nat→Addr}{g:SE→Ctl}{gx:SE→Option Nat}{u:TS}{h:Nat→Option D}(hst:Y.stack=Y.env::Y.outer)(hf:Y.env.frame=some Y.env.locals)(hex:Y.ex=[])
    (hN:Y.N.Nodup) (hi:Y.N[i]?=some n) (hk:Y.env.scope.names.lookup n=some .local) (hg:Gl Y x) (hm:Y.mg x=some (.ref CS))
    (hbx:∀ (ps:List (Addr × Obj)) (W:Value→Shared→Prop) (E0:XK),Xg (Air Y.prog Y.w) ((Y.pinned ps).wish W) E0→XSs E0 cl ((Y.pinned ps).wish W) body gx)
    (hb:∀ (ps:List (Addr × Obj)) (W:Value→Shared→Prop),SDs ((Y.pinned ps).wish W) body g)
    (hexm:∀ j d,h j=some d→PySem.W.exmOne Y.K (.ref (cl j)) (.ref CS)=some true)
    (hsuite:Y.Ok→∀ ea,PSs (Y.held (.ref ea)).nox (b₀::suite) u) (hu:RU cl i u h) (hd:(x == ("__debug__":Str))=false:=by decide) :
    SD Y.nox (.Try body [.ExceptHandler (some (.Name x np)) (some n) (b₀::suite) hpos] [] [] pos) (ziD gx g h):=by
  let tb:XK→TS:=fun E0 D σ H=>∀ (ps:List (Addr × Obj)) (W:Value→Shared→Prop),Xg (Air Y.prog Y.w) ((Y.pinned ps).wish W) E0→∃ t,PSs ((Y.pinned ps).wish W) body t∧t D σ H
  refine ⟨fun D σ H=>tb (exW Y.K CS i Y.N.length u D) D σ H,fun pins s σ H D I hq=>?_,fun Fb Hb F H ρ σ D rl k=>?_⟩
  · refine ziq (tb:=tb) hst hf hex hN hi hk hg hm (fun ps W E0 hP pins s σ H D I hq=>?_) (hsuite I.ok.unwish) hd pins s σ H D I hq
    obtain ⟨t,p,ht⟩:=hq ps W hP
    exact p pins s σ H D I ht
  · intro ps W hP
    unfold ziD at k
    cases e:gx ρ with
    | none =>
      rw [e] at k
      obtain ⟨t,p,r⟩:=hb ps W
      exact ⟨t,p,r Fb Hb F H ρ σ D rl k⟩
    | some j =>
      rw [e] at k
      dsimp only at k
      cases e2:h j with
      | none=>rw [e2] at k;exact k.elim
      | some d =>
        rw [e2] at k
        obtain ⟨t,p,r⟩:=hbx ps W _ hP
        refine ⟨t,p,r Fb Hb F H ρ σ D j rl e fun F' H' gr=>?_⟩
        have go:∀ (od:Option Addr) (H0:Hp),yq H' H0→WV H0 j od→exW Y.K CS i Y.N.length u D (.ref (cl j)) od H0:=fun od H0 sm pa=>⟨_,rfl,hexm j d e2,fun ea σ' hl hn=>by
          have hi':i < σ'.length:=by
            rw [hl]
            exact (List.getElem?_eq_some_iff.mp hi).1
          have sm0:yq H0 (upd H0 ea (zcq ea (cl j) od)):=fun b o q=>by rw [zo (zk q hn)];exact q
          refine hu j d _ _ ea od _ e2 ⟨by rw [List.getElem?_set_self hi'],zp,pa.mono sm0⟩ fun H'' v av=>?_
          obtain ⟨F2,g2,a2⟩:=av F' (gr.fh.trans (sm.trans sm0))
          exact k F2 H'' v ((gr.trans (Gr.more gr.fh (sm.trans sm0))).trans g2) a2⟩
        unfold EJ
        cases ep:pay j with
        | none=>exact go none H' (yq.refl _) (by unfold WV;rw [ep])
        | some fs=>exact fun dx hdx=>go (some dx) _ (fun b o q=>by rw [zo (zk q hdx)];exact q) (by unfold WV;rw [ep];exact ⟨dx,rfl,zp⟩)
noncomputable def SX (cl:Nat→Addr)(i:Nat)(t:TE)(f:Nat→Option D):Prop:=∀ (j:Nat) (d:D) (σ:St) (H:Hp) (a:Addr) (od:Option Addr) (Q:VK),f j=some d→Est cl i j σ H a od→(∀ H' v,yq H H'→(∀ F,At F d v)→Q v H')→t σ H Q
section
variable {cl:Nat→Addr}{i:Nat}
noncomputable def fK (js:List Nat):Nat→Option D:=fun j=>if j % 16∈js then some (.int (j % 16:Nat)) else none
theorem zfu {js:List Nat}{E:XK}{ok:Nat→Prop}(hcl:∀ j,cl j=cl (j % 16))(hok:∀ j,j∈js→ok j):SX cl i (zg0 (zcH cl ok) [] E (Xm (WM i) zge)) (fK js):=by
  intro j d σ H a od Q e es k
  unfold fK at e
  split at e <;> try cases e
  rename_i hj
  refine ⟨.ref a,es.sl,a,j % 16,od,rfl,?_,hok _ hj,fun H' sm=>k H' _ sm fun F=>.int⟩
  rw [←hcl j]
  exact es.he
noncomputable def fA (f:Str)(js:List Nat):Nat→Option D:=fun j=>if j % 16∈js then (pay j).bind fun fs=>match fs.lookup f with
  | some (.int n)=>some (.int n)
  | _=>none
  else none
theorem zhs {K:PySem.W.Frag}{f:Str}{js:List Nat}(hx:∀ j,j % 16∈js→vW K (cl j)∧Wq K (cl j) f):SX cl i (tXA K (WM i) f) (fA f js):=by
  intro j d σ H a od Q e es k
  unfold fA at e
  split at e <;> try cases e
  rename_i hj
  obtain ⟨fs,e1,e2⟩:=Option.bind_eq_some_iff.mp e
  have pa:=es.pa
  unfold WV at pa
  rw [e1] at pa
  obtain ⟨dx,rfl,hdx⟩:=pa
  split at e2 <;> cases e2
  rename_i n hl
  exact ⟨.ref a,es.sl,a,_,dx,fs,.int n,rfl,es.he,hdx,(hx j hj).1,(hx j hj).2,hl,k H _ (yq.refl _) fun F=>.int⟩
theorem zf5 {t:TE}{f:Nat→Option D}(h:SX cl i t f):RU cl i (zjj t) f:=fun j d σ H a od D' e es k =>
  h j d σ H a od _ e es fun H' v sm av=>k H' v fun F s=>⟨F,Gr.more s sm,av F⟩
noncomputable def ze4 (f:Nat→Option D)(c:Int)(h1 h2:Nat→Option D):Nat→Option D:=fun j=>match f j with
  | some (.int n)=>if n=c then h1 j else h2 j
  | _=>none
theorem zjF {t:TE}{f:Nat→Option D}{c:Int}{u1 u2:TS}{h1 h2:Nat→Option D}(h:SX cl i t f)(k1:RU cl i u1 h1)(k2:RU cl i u2 h2):RU cl i (zj5 (zjs (zdw (tOp rEq t (tC (.int c)))) u1 zeC) u2) (ze4 f c h1 h2):=fun j d σ H a od D' e es k=>by
  unfold ze4 at e
  split at e <;> try cases e
  rename_i n hn
  refine h j _ σ H a od _ hn es fun H' v sm av=>?_
  cases (av H).int_inv
  have back:∀ H2 w,(∀ F,yq F H'→∃ F',Gr F H' F' H2∧At F' d w)→D'.rt w H2:=fun H2 w q=>k H2 w fun F s=>by
    obtain ⟨F',g,a'⟩:=q F (s.trans sm)
    exact ⟨F',(Gr.more s sm).trans g,a'⟩
  refine ⟨rfl,decide (n=c),by rw [WK];rfl,?_⟩
  by_cases hc:n=c
  · rw [if_pos hc] at e
    rw [if_pos (by rw [decide_eq_true hc])]
    exact k1 j d σ H' a od _ e (es.mono sm) back
  · rw [if_neg hc] at e
    rw [if_neg (by rw [decide_eq_false hc];decide)]
    exact k2 j d σ H' a od _ e (es.mono sm) back
end
end Dl
namespace L2
open PySem PySem.Spec PyProof.Rows
noncomputable def zcr (a C t:Addr)(od:Option Addr):HO:=.ext fun h=>∃ sl,h.get? a=some { cls:=.ref C,dict:=od,data:=.fields #[.ref t,.none,.none,.none,.bool false,.none],slots:=sl }
section
variable {X:Cx}{pins:List (Addr × Obj)}{σ:St}{H:Hp}{s:Shared}{h':Heap}{a C t dx:Addr}{f:Str}
theorem zdf {P:Program}{w:World}{H:Hp}{h:Heap}{od:Option Addr}{sl:Array (Option Value)}(e:h.get? a=some { cls:=.ref C,dict:=od,data:=.fields #[.ref t,.none,.none,.none,.bool false,.none],slots:=sl }):xH P w H h a (zcr a C t od) :=
  ⟨⟨sl,e⟩,⟨_,e⟩,fun h1 h2 ⟨sl,z⟩ k=>⟨sl,k _ z⟩⟩
theorem Inv.two {φ:Heap→Prop}{o1 o2:HO}{t':Nat}(I:Inv X pins σ H s)(ha:H a=some (.ext φ))(nice:∀ o,H dx=some o→∃ fs,o=.xd fs)(old:∀ o,s.heap.get? dx=some o→H dx≠none)(ne:a≠dx)(k:∀ b o,b≠a→b≠dx→s.heap.get? b=some o→h'.get? b=some o)
    (n1:xH X.prog X.w (upd (upd H dx o2) a o1) h' a o1) (n2:xH X.prog X.w (upd (upd H dx o2) a o1) h' dx o2):Inv X pins σ (upd (upd H dx o2) a o1) { s with heap:=h',toks:=t' }:=by
  have other:∀ b u,H b=some u→(∀ ψ,u≠.ext ψ)→(∀ fs,u≠.xd fs)→upd (upd H dx o2) a o1 b=some u:=fun b u e n1 n2=>by
    have x1:b≠a:=fun z=>by subst z;rw [ha] at e;cases e;exact n1 _ rfl
    have x2:b≠dx:=fun z=>by subst z;obtain ⟨fs,rfl⟩:=nice u e;exact n2 _ rfl
    rw [zo x1,zo x2];exact e
  have free:∀ b o,s.heap.get? b=some o→H b=none→b≠a∧b≠dx:=fun b o e n=>⟨fun z=>by (subst z;rw [ha] at n;cases n),fun z=>by (subst z;exact old o e n)⟩
  refine I.un ⟨fun b o e n _ _=>k b o (free b o e n).1 (free b o e n).2 e,fun b o e n _ _=>⟨o.slots,k b o (free b o e n).1 (free b o e n).2 e⟩,fun b o e n _=>by rw [zo (free b o e n).1,zo (free b o e n).2];exact n,fun b o e _=>?_,
    fun b xs e=>other b _ e (fun _ z=>by cases z) (fun _ z=>by cases z),fun b o u e=>other b _ e (fun _ z=>by cases z) (fun _ z=>by cases z),fun b ps e=>⟨#[],by rw [Array.append_empty];exact other b _ e (fun _ z=>by cases z) (fun _ z=>by cases z)⟩⟩ fun b u e=>?_
  · by_cases x1:b=a
    · subst x1;exact n1.ex
    · by_cases x2:b=dx
      · subst x2;exact n2.ex
      · exact ⟨o,k b o x1 x2 e⟩
  · by_cases x1:b=a
    · subst x1;rw [zp] at e;cases e;exact n1
    · rw [zo x1] at e
      by_cases x2:b=dx
      · subst x2;rw [zp] at e;cases e;exact n2
      · rw [zo x2] at e
        refine (I.hok b u e).stay (fun c v hc q=>?_) (fun c hc=>other c _ hc (fun _ z=>by cases z) fun _ z=>by cases z) fun c xs hc=>other c _ hc (fun _ z=>by cases z) fun _ z=>by cases z
        rcases hc with rfl | hc
        · exact k _ v x1 x2 q
        · refine k c v (fun z=>?_) (fun z=>?_) q
          · subst z;rw [ha] at hc;cases hc
          · subst z;obtain ⟨fs,z⟩:=nice _ hc;cases z
theorem zj2 {A:Around}{E:Value→Shared→Prop}{y:V}{u:Value}{Q:Unit→Shared→Prop}(I:Inv X pins σ H s)(e:H a=some (zcr a C t none))(hx:vW X.K C)(n:Wq X.K C f)(ry:xS y u)
    (h:∀ dx s',H dx=none→Inv X pins σ (upd (upd H dx (.xd [(f,y)])) a (zcr a C t (some dx))) s'→Q () s'):wpAny (model X.prog X.w) A (setAttr (.ref a) f u) Q E s:=by
  obtain ⟨⟨sl,ea⟩,_⟩:=I.hok a _ e
  refine zfp I.kIn ea rfl rfl rfl hx n fun h' e1 e2 e3=>h s.heap.objs.size _ (I.hok.fresh (Nat.le_refl _)) ?_
  have ne:a≠s.heap.objs.size:=Nat.ne_of_lt (Heap.lt_size ea)
  refine I.two e (fun o z=>by rw [I.hok.fresh (Nat.le_refl _)] at z;cases z) (fun o z=>absurd (Heap.lt_size z) (Nat.lt_irrefl _)) ne (fun b o hb _ z=>e3 b o hb z) (zdf (sl:=sl) e1) ⟨_,e2,fun g=>?_⟩
  show zgN (List.lookup g [(f,y)]) _
  by_cases q:g=f
  · subst q
    rw [if_pos rfl]
    simp only [List.lookup,beq_self_eq_true]
    exact ry
  · rw [if_neg q]
    simp only [List.lookup,beq_eq_false_iff_ne.mpr q]
    trivial
end
noncomputable def sX1 (K:PySem.W.Frag)(ta tv:TE)(f:Str):TS:=fun D σ H=>tv σ H fun y H1=>ta σ H1 fun x H2=>∃ a C t,x=.ref a∧H2 a=some (zcr a C t none)∧vW K C∧Wq K C f∧∀ dx,H2 dx=none→D.nx σ (upd (upd H2 dx (.xd [(f,y)])) a (zcr a C t (some dx)))
section
variable {X:Cx}{o e value:Expr}{f:Str}{pos pos':Pos}{ta tv:TE}
theorem zjI (ha:PE X o ta)(hv:PE X value tv)(hs:swapsWith value (some (.Attribute o f pos')) pos.line X.env=pure false):PS X (.Assign [.Attribute o f pos'] value pos) (sX1 X.K ta tv f):=by
  intro pins s σ H D I h
  refine plainObj_wpAny_Assign_Attribute (thn (hv pins s σ H _ I h) fun u s1 ⟨y,H1,I1,ry,q⟩=>thn (ha pins s1 σ H1 _ I1 q) fun ov s2 hh9=>?_) hs
  obtain ⟨x,H2,I2,rx,a,C,t,ex,ea,hx,n,q2⟩:=hh9
  subst ex
  obtain rfl:ov=Value.ref a:=rx
  exact zj2 I2 ea hx n ry fun dx s3 hd I3=>⟨σ,_,I3,q2 dx hd⟩
end
noncomputable def spI (K:PySem.W.Frag)(m:Nat)(ns:List Str)(g:List V→List (Str × V)):Sp:=fun vs H Q _=>∃ a C t ys,vs=.ref a::ys∧ys.length=m∧H a=some (zcr a C t none)∧vW K C∧(∀ f,f∈ns→Wq K C f)∧∀ dx,H dx=none→Q .non (upd (upd H dx (.xd (g ys))) a (zcr a C t (some dx)))
noncomputable def gI1 (f:Str):List V→List (Str × V):=fun ys=>[(f,ys.getD 0 .non)]
theorem zgz {K:PySem.W.Frag}{m:Nat}{ns:List Str}{g:List V→List (Str × V)}(vs:List V)(H:Hp)(Q:VK)(E:XK)(h:spI K m ns g vs H Q E):vs.length=m+1:=by
  obtain ⟨a,C,t,ys,rfl,hl,_⟩:=h
  rw [List.length_cons,hl]
theorem zgV {K:PySem.W.Frag} {f:Str} {vs:List V} {H:Hp} {Q:VK} {E:XK} {rt:VK} (h:spI K 1 [f] (gI1 f) vs H Q E):sX1 K (WM 0) (WM 1) f { nx:=fun _ H'=>Q .non H',rt:=rt } (start ["self",f] vs) H:=by
  obtain ⟨a,C,t,ys,rfl,hl,ha,hx,hn,q⟩:=h
  obtain ⟨y,rfl⟩:∃ y,ys=[y]:=by
    cases ys with
    | nil=>cases hl
    | cons y r=>cases r with
      | nil=>exact ⟨y,rfl⟩
      | cons _ _=>cases hl
  exact ⟨y,rfl,.ref a,rfl,a,C,t,rfl,ha,hx,hn f (List.mem_singleton.mpr rfl),fun dx hd=>q dx hd⟩
end L2
namespace L2
open PySem PySem.Spec PyProof.Rows
section
variable {X:Cx}{pins:List (Addr × Obj)}{σ:St}{H:Hp}{s:Shared}{ea dx:Addr}{φ:Heap→Prop}
theorem Inv.untrack {H':Hp}(I:Inv X pins σ H s)(he:H ea=some (.ext φ))(h1:H' ea=none)(h2:∀ b,b≠ea→H' b=H b):Inv X pins σ H' s:=by
  have no:∀ b,H b=none→H' b=none:=fun b e=>by
    have:b≠ea:=fun z=>by (subst z;rw [he] at e;cases e)
    rw [h2 b this];exact e
  have keep:∀ b u,H b=some u→(∀ ψ,u≠.ext ψ)→H' b=some u:=fun b u e n=>by
    have:b≠ea:=fun z=>by (subst z;rw [he] at e;cases e;exact n _ rfl)
    rw [h2 b this];exact e
  refine ⟨I.ok,I.os,I.bare,⟨I.base.keep,I.base.slot,fun b o e n hx=>no b (I.base.free b o e n hx),I.base.there,fun b xs e=>keep b _ (I.base.tups b xs e) (fun _ z=>by cases z),fun b o u e=>keep b _ (I.base.frzs b o u e) (fun _ z=>by cases z),fun b ps e=>?_⟩,I.loc,I.cell,no _ I.free,fun x c e=>no _ (I.freeC x c e),fun p hp=>?_,fun b u e=>?_,I.len⟩
  · obtain ⟨more,z⟩:=I.base.tbls b ps e
    exact ⟨more,keep b _ z fun _ y=>by cases y⟩
  · obtain ⟨e,n,r⟩:=I.pin p hp
    exact ⟨e,no _ n,r⟩
  · have ne:b≠ea:=fun z=>by (subst z;rw [h1] at e;cases e)
    rw [h2 b ne] at e
    exact (I.hok b u e).stay (fun _ _ _ q=>q) (fun c hc=>keep c _ hc fun _ z=>by cases z) fun c xs hc=>keep c _ hc fun _ z=>by cases z
end
structure zjg (K:PySem.W.Frag) (mg:Str→Option Value) (C:Addr) (x:Str) (f:Addr) (ns:List Str):Prop where
  bound:mg x=some (.ref C)
  exc:zh1 K C f=true
  attr:V4 K C=true
  no:∀ n,n∈ns→PySem.W.findIn K (.ref C) n=some none
theorem zd8 {P:Program}{w:World}{K:PySem.W.Frag}{mg:Str→Option Value}{base:Heap}{N:List Str}{qual:Str}{scope:Scope}{f:Addr}{cd:Value}{A:Around}{outer:List Env}{s:Shared}{H:Hp}{E:XK}{C fI:Addr}{fd:FuncData}{x:Str}{np cpos pos:Pos}{ns ps:List Str}{m k:Nat}{g:List V→List (Str × V)}{e:Expr}{es:List Expr}{t:TA}
    (hc:zjg K mg C x fI ns) (F:xk P w K mg base CX0 k fI fd ps (spI K m ns g)) (hb:Zr K fd ps []) (hr:vN (k+1) (Y2 (Air P w) P w K mg base N qual scope f cd A outer s H E).A) (hg:Gl (Y2 (Air P w) P w K mg base N qual scope f cd A outer s H E) x) (ha:PA (Y2 (Air P w) P w K mg base N qual scope f cd A outer s H E) (e::es) t) (hd:(x == ("__debug__":Str))=false:=by decide)
    (hse:starEach (e::es) (Y2 (Air P w) P w K mg base N qual scope f cd A outer s H E).env=(false,eval e (Y2 (Air P w) P w K mg base N qual scope f cd A outer s H E).env)::starEach es (Y2 (Air P w) P w K mg base N qual scope f cd A outer s H E).env:=by rfl) (hpl:(backTo cpos (starEach es (Y2 (Air P w) P w K mg base N qual scope f cd A outer s H E).env)).any (·.1)=false:=by rfl) :
    PS (Y2 (Air P w) P w K mg base N qual scope f cd A outer s H E) (.Raise (some (.Call (.Name x np) (e::es) [] cpos)) none pos) (fun _ σ H0=>t σ H0 fun vs H1=>vs.length=m∧m≤1000∧∀ dx,H1 dx=none→E (.ref C) (some dx) (upd H1 dx (.xd (g vs)))):=by
  let X:=Y2 (Air P w) P w K mg base N qual scope f cd A outer s H E
  intro pins s1 σ H0 D I h
  have I:Inv X pins σ H0 s1:=I
  obtain ⟨bm,NN,nm,q,bs,sn,sub,ab,col,dd,k0,k1,k2,k3,k5,mN,oI,hC,hN,hi,T,hf,hfc⟩:=zev I.ok.mod.kin hc.exc
  refine zcb (C:=C) (nm:=nm) (q:=q) (N:=NN) (bs:=bs) (bm:=bm) (hdct:=true) (sn:=sn) (sub:=sub) (ab:=ab) (col:=col) (dd:=dd) (k0:=k0) (k1:=k1) (k2:=k2) (k3:=k3) (k5:=k5) (mN:=mN) (fI:=fI) (oI:=oI) (T.hasType PySem.F.excBase_ValueError.hasBase) (I.ok.hd rfl) (by rw [hse];show ((false||(backTo cpos (starEach es _)).any (·.1)))=false;rw [hpl];rfl) hi hfc (Xz I hg hc.bound ⟨rfl,?_⟩ hd)
  have hs:=ha cpos pins s1 σ H0 _ I h
  rw [hse] at hs ⊢
  refine PySem.Calls.evalArgs_plain (wpAny_mono hs (fun us s2 z=>?_) fun _ _ z=>z)
  obtain ⟨vs,H1,I2,r,hl,hm,hE⟩:=z
  have I2:Inv X pins σ H1 s2:=I2
  have hul:us.length≤sizeLine:=by rw [←r.length,hl];exact Nat.le_of_lt (vC hm)
  refine ⟨rfl,hul,I2.bk _ _ hC,hN.keeps I2.bk,T.keeps I2.bk,I2.bk _ _ hf,?_⟩
  have I3:Inv X pins σ (upd H1 (s2.heap.objs.size+1) (zcr (s2.heap.objs.size+1) C s2.heap.objs.size none)) { s2 with heap:=exH s2.heap C us }:=I2.laid (t':=s2.toks) (fun b o z=>wU z) (Nat.le_succ _) (zdf (zgb _ _ _))
  have hn1:H1 (s2.heap.objs.size+1)=none:=I2.hok.fresh (Nat.le_succ _)
  let R:VK:=fun v H'=>v=.non∧∃ dx,upd H1 (s2.heap.objs.size+1) (zcr (s2.heap.objs.size+1) C s2.heap.objs.size none) dx=none∧H'=upd (upd (upd H1 (s2.heap.objs.size+1) (zcr (s2.heap.objs.size+1) C s2.heap.objs.size none)) dx (.xd (g vs))) (s2.heap.objs.size+1) (zcr (s2.heap.objs.size+1) C s2.heap.objs.size (some dx))
  have hsp:spI K m ns g (.ref (s2.heap.objs.size+1)::vs) (upd H1 (s2.heap.objs.size+1) (zcr (s2.heap.objs.size+1) C s2.heap.objs.size none)) R E0:=⟨_,C,_,vs,rfl,hl,zp,.of hc.attr,hc.no,fun dx hdx=>⟨rfl,dx,hdx,rfl⟩⟩
  have r3:yP (V.ref (s2.heap.objs.size+1)::vs) (Value.ref (s2.heap.objs.size+1)::us):=.cons rfl r
  have hl3:(Value.ref (s2.heap.objs.size+1)::us++[]).length=ps.length:=by rw [List.append_nil,← r3.length];exact F.len _ _ _ _ hsp
  have bd:=hb { s2 with heap:=exH s2.heap C us } (Value.ref (s2.heap.objs.size+1)::us) I3.kIn hl3
  rw [List.append_nil] at bd
  refine wpAny_call (codeAny_mono (F.run _ X.stack _ _ ⟨Value.ref (s2.heap.objs.size+1)::us,[]⟩ _ _ R E0 (hr.make C us []) (I3.env0.make C us []) bd r3 hsp) fun res s4 z=>?_)
  cases res with
  | error e=>exact z.elim
  | ok fl =>
    cases fl with
    | next=>exact False.elim z
    | brk=>exact False.elim z
    | cont=>exact False.elim z
    | ret u =>
      obtain ⟨v,H4,os4,bare4,un4,hok4,rv,rfl,dx,hdx,rfl⟩:=id z
      have J4:Inv X pins σ _ s4:=I3.call' (ch:=[]) os4 un4 hok4 bare4 (fun b z=>nomatch z)
      obtain rfl:u=Value.none:=rv
      have ned:s2.heap.objs.size+1≠dx:=fun z=>by (subst z;rw [zp] at hdx;cases hdx)
      have hd1:H1 dx=none:=by rw [zo ned.symm] at hdx;exact hdx
      have J5:Inv X pins σ (upd H1 dx (.xd (g vs))) s4:=J4.untrack (ea:=s2.heap.objs.size+1) zp (by rw [zo ned];exact hn1) fun b hb=>by
        rw [zo hb]
        unfold upd
        by_cases h2:b=dx
        · rw [if_pos h2,if_pos h2]
        · rw [if_neg h2,if_neg h2,if_neg hb]
      obtain ⟨⟨sl,he4⟩,_⟩:=J4.hok _ _ zp
      refine ⟨rfl,_,some dx,sl,J4.bk _ _ hC,he4,?_⟩
      show wpAny (model P w) X.A (leaving X.env (.ref (s2.heap.objs.size+1))) (fun _ s''=>Air P w outer H s E (.ref (s2.heap.objs.size+1)) s'') _ s4
      let B:=PySem.W.hideAll s4.heap ((s2.heap.objs.size+1)::frs X.stack)
      have hin:∀ env∈X.stack,∀ a,env.frame=some a→a∈(s2.heap.objs.size+1)::frs X.stack:=fun env he a ha=>.tail _ (List.mem_filterMap.mpr ⟨env,he,ha⟩)
      refine WX (zbM _ _) (wpAny_leaving_firstW (Q:=fun _ s''=>∃ h2,s''={ s4 with heap:=h2 }∧Heap.LeftW B (X.env::outer) (s2.heap.objs.size+1) (.ref C) (.ref s2.heap.objs.size) s4.heap h2) (base:=B) (L:=X.env.locals) (outer:=outer) (J4.ok.frames) (PySem.W.funFrames_hide J4.stack hin) rfl he4 (fun b o q=>PySem.W.of_hideAll _ q) (PySem.W.hideAll_none _ (.head _)) rfl rfl rfl fun h2 y=>⟨h2,rfl,y⟩) ?_
      rintro _ _ ⟨h2,rfl,y1,⟨_,_,y2⟩,y3,y4⟩ dk
      have x1:Heap.FlyingW B outer (s2.heap.objs.size+1) (.ref C) (.ref s2.heap.objs.size) h2:=⟨y1,PySem.W.hideAll_none _ (.head _),y2,y3⟩
      have nfr:∀ b,b∉frs X.stack→b≠s2.heap.objs.size+1→b∉(s2.heap.objs.size+1)::frs X.stack:=fun b h1 h2 z=>(List.mem_cons.mp z).elim h2 h1
      have cov:Cov X.stack H1 s2.heap (upd H1 dx (.xd (g vs))) s4.heap B:=by
        refine ⟨fun b o e n hb=>?_,fun b o e hb=>?_,fun b o hb e=>?_⟩
        · have ne:b≠s2.heap.objs.size+1:=Nat.ne_of_lt (Nat.lt_succ_of_lt (Heap.lt_size e))
          exact PySem.W.hideAll_get _ (un4.keep b o (wU e) (by rw [zo ne];exact n) hb (by simp)) (nfr b hb ne)
        · have ne:b≠s2.heap.objs.size+1:=Nat.ne_of_lt (Nat.lt_succ_of_lt (Heap.lt_size e))
          obtain ⟨o',e'⟩:=un4.there b o (wU e) (by simp)
          exact ⟨o',PySem.W.hideAll_get _ e' (nfr b hb ne)⟩
        · refine PySem.W.hideAll_get _ e (nfr b (fun z=>hb (J5.stkFree b z)) fun z=>?_)
          subst z
          exact hb (by rw [zo ned];exact hn1)
      obtain ⟨u1,u2,u3⟩:=I2.airUn (X:=X) rfl J5 cov x1.1 x1.2.2.1 y4
      obtain ⟨ob,hob,_⟩:=x1.there
      exact ⟨_,C,_,some dx,_,B,rfl,J5.os,J5.bare,u1,u2,x1,u3,XN.stay (h:=s4.heap) ⟨_,he4,rfl⟩ dk ⟨ob,hob⟩,hE dx hd1⟩
end L2
namespace Dl
open PySem L2
variable [KK]
noncomputable def xRI (enc:List D→Option Nat)(fa:Ev→Option (List D)):SE→Option Nat:=fun ρ=>(fa (visG ρ)).bind enc
noncomputable def zjD (c kd:Nat):List D→Option Nat
  | [.int i]=>if -1≤i then some (c+16*kd+64*(i+1).toNat) else none
  | _=>none
noncomputable def ziY (cl:Nat→Addr)(C:Addr)(m:Nat)(g:List V→List (Str × V))(enc:List D→Option Nat):Prop:=∀ ds j,enc ds=some j→cl j=C∧ds.length=m∧∀ F vs,AtL F ds vs→pay j=some (g vs)
theorem zg8 {cl:Nat→Addr} {c:Nat} (hcl:∀ j,cl j=cl (j % 16)) (hc:c < 16):ziY cl (cl c) 1 (gI1 "at") (zjD c 1):=by
  intro ds j e
  unfold zjD at e
  split at e <;> try cases e
  rename_i i
  split at e <;> cases e
  rename_i hi
  refine ⟨by rw [hcl (c+16*1+64*(i+1).toNat)];congr 1;omega,rfl,fun F vs a=>?_⟩
  obtain ⟨v,r,rfl,a1,a2⟩:=a.cons_inv
  cases a1.int_inv
  cases a2.nil_inv
  have e1:(c+16*1+64*(i+1).toNat) / 16 % 4=1:=by omega
  have e2:(((c+16*1+64*(i+1).toNat) / 64:Nat):Int) - 1=i:=by omega
  unfold pay
  rw [e1]
  show some [(_,V.int _)]=_
  rw [e2]
  rfl
theorem zcX {P:Program}{w:World}{K:PySem.W.Frag}{mg:Str→Option Value}{base:Heap}{N:List Str}{qual:Str}{scope:Scope}{f:Addr}{cd:Value}{A:Around}{outer:List Env}{s:Shared}{H:Hp}{E:XK}{cl:Nat→Addr}{C fI:Addr}{fd:FuncData}{x:Str}{np cpos pos:Pos}{ns ps:List Str}{m k:Nat}{g:List V→List (Str × V)}{e:Expr}{es:List Expr}{enc:List D→Option Nat}{fa:Ev→Option (List D)}
    (hc:zjg K mg C x fI ns) (F:xk P w K mg base CX0 k fI fd ps (spI K m ns g)) (hb:Zr K fd ps []) (hen:ziY cl C m g enc) (hr:vN (k+1) (Y2 (Air P w) P w K mg base N qual scope f cd A outer s H E).A) (hg:Gl (Y2 (Air P w) P w K mg base N qual scope f cd A outer s H E) x) (ha:AD (Y2 (Air P w) P w K mg base N qual scope f cd A outer s H E) (e::es) fa) (hm:m≤1000:=by decide) (hd:(x == ("__debug__":Str))=false:=by decide)
    (hse:starEach (e::es) (Y2 (Air P w) P w K mg base N qual scope f cd A outer s H E).env=(false,eval e (Y2 (Air P w) P w K mg base N qual scope f cd A outer s H E).env)::starEach es (Y2 (Air P w) P w K mg base N qual scope f cd A outer s H E).env:=by rfl) (hpl:(backTo cpos (starEach es (Y2 (Air P w) P w K mg base N qual scope f cd A outer s H E).env)).any (·.1)=false:=by rfl) :
    XS E cl (Y2 (Air P w) P w K mg base N qual scope f cd A outer s H E) (.Raise (some (.Call (.Name x np) (e::es) [] cpos)) none pos) (xRI enc fa):=by
  obtain ⟨t,pa,ra⟩:=ha
  refine ⟨_,zd8 hc F hb hr hg pa hd hse hpl,fun Fb Hb F H ρ σ D' j rl e w=>?_⟩
  obtain ⟨ds,e1,e2⟩:=Option.bind_eq_some_iff.mp e
  obtain ⟨ec,el,ep⟩:=hen ds j e2
  refine ra σ _ _ H ds _ rl.gh rl.visG e1 fun F' H' vs gr a=>⟨by rw [a.length];exact el,hm,fun dx hdx=>?_⟩
  have z:=w F' H' (rl.out gr)
  unfold EJ at z
  rw [ep F' vs a,ec] at z
  exact z dx hdx
end Dl
namespace L2
open PySem PySem.Spec PyProof.Rows
noncomputable def zhQ (s:Stmt)(k:Nat):Stmt:=match s with
  | .ClassDef _ _ _ body _ _ _ _ _ _ _=>body.getD k s
  | _=>s
noncomputable def zjB (K:PySem.W.Frag)(C:Addr)(ns:List Str):Bool:=ns.all fun n=>PySem.W.findIn K (.ref C) n == some none
theorem zdQ {K:PySem.W.Frag}{C:Addr}{ns:List Str}(h:zjB K C ns=true):∀ n,n∈ns→PySem.W.findIn K (.ref C) n=some none:=fun n hn=>beq_iff_eq.mp (List.all_eq_true.mp h n hn)
end L2
namespace Dl
open PySem L2
theorem zh3 {cl:Nat→Addr}{i:Nat}{c:Int}[KK]:SX cl i (tUn (rU fun i=>.int (-i)) (tC (.int c))) (fun _=>some (.int (-c))):=fun j d σ H a od Q e es k=>by
  cases e
  exact ⟨c,rfl,k H _ (yq.refl _) fun F=>.int⟩
end Dl
namespace Dl
open PySem L2
noncomputable def zhc (js:List Nat)(h:Nat→Option D):Nat→Option D:=fun j=>if j % 16∈js then h j else none
theorem zgX {js:List Nat}{h:Nat→Option D}{j:Nat}{d:D}(e:zhc js h j=some d):j % 16∈js:=by
  unfold zhc at e
  split at e
  · assumption
  · cases e
theorem zjd {cl:Nat→Addr}{i:Nat}{js:List Nat}{u:TS}{h:Nat→Option D}[KK](r:RU cl i u h):RU cl i u (zhc js h):=fun j d σ H a od D' e es k=>by
  unfold zhc at e
  split at e
  · exact r j d σ H a od D' e es k
  · cases e
end Dl
namespace OwnSort
open PySem PyProof.Rows
section
variable {prog:Program}{w:World}{A:Around}{E:Value→Shared→Prop}{s:Shared}
end
end OwnSort
namespace Dl
open PySem L2
variable [KK]
section
variable {X:Cx}{e:Expr}{pos:Pos}
end
end Dl
namespace Dl
open PySem L2
variable [KK]
section
variable {E:XK}{cl:Nat→Addr}{X:Cx}{a b:Expr}{pos:Pos}
end
end Dl
namespace L2
open PySem PySem.Spec PyProof.Rows
section
variable {prog:Program}{w:World}{A:Around}{E:Value→Shared→Prop}{s:Shared}
end
section
variable {X:Cx}{e st:Expr}{te:TE}{t3:TO}{pos p2:Pos}
end
end L2
namespace Dl
open PySem L2
variable [KK]
end Dl
namespace L2
open PySem PySem.Spec PyProof.Rows
end L2
namespace Dl
open PySem L2
end Dl
namespace PySem
section
variable {prog:Program}{w:World}{A:Around}{R:Result→Shared→Prop}{it S:Addr}{fp wr:List Addr}{n:Nat}{P:Nat→Value→Prop}{St:Nat→Heap→Prop}{kw:List (Str × Value)}
end
end PySem
namespace PySem
open Sem (wp)
end PySem
namespace L2
open PySem PySem.Spec PyProof.Rows
section
variable {X:Cx}{e de:Expr}{p pos kp:Pos}{t:TA}{td:TE}
end
end L2
namespace Dl
open PySem L2
variable [KK]
section
variable {X:Cx}{e de:Expr}{p pos kp:Pos}
end
end Dl
namespace Dl
open PySem L2
variable [KK]
section
variable {X:Cx}
end
end Dl
namespace OwnSet
open PySem
section
variable {prog:Program}{w:World}{A:Around}{E:Value→Shared→Prop}{s:Shared}
end
end OwnSet
namespace L2
open PySem PySem.Spec PyProof.Rows
end L2
namespace Dl
open PySem L2 PySem.Spec PyProof.Rows
variable [KK]{X:Cx}{e:Expr}
end Dl
namespace OwnSortT
open PySem PyProof.Rows OwnSort
theorem zg2:∀ a:List Int,HT.lexLt a a=false:=by
  intro a
  induction a with
  | nil=>rfl
  | cons x xs ih=>rw [HT.lexLt_cons,if_pos rfl,ih]
theorem Vq:∀ a b c:List Int,HT.lexLt a b=true→HT.lexLt b c=true→HT.lexLt a c=true:=by
  intro a
  induction a with
  | nil =>
    intro b c h1 h2
    cases c with
    | nil=>cases b <;> cases h2
    | cons _ _=>rfl
  | cons x xs ih =>
    intro b c h1 h2
    cases b with
    | nil=>cases h1
    | cons y ys=>cases c with
      | nil=>cases h2
      | cons z zs =>
        rw [HT.lexLt_cons] at h1 h2 ⊢
        by_cases e1:x=y
        · rw [if_pos e1] at h1
          by_cases e2:y=z
          · rw [if_pos e2] at h2;rw [if_pos (e1.trans e2)];exact ih _ _ h1 h2
          · rw [if_neg e2,decide_eq_true_eq] at h2;rw [if_neg (by omega),decide_eq_true_eq];omega
        · rw [if_neg e1,decide_eq_true_eq] at h1
          by_cases e2:y=z
          · rw [if_neg (by omega),decide_eq_true_eq];omega
          · rw [if_neg e2,decide_eq_true_eq] at h2;rw [if_neg (by omega),decide_eq_true_eq];omega
theorem VB:∀ a b:List Int,HT.lexLt a b=false→HT.lexLt b a=false→a=b:=by
  intro a
  induction a with
  | nil =>
    intro b h1 h2
    cases b with
    | nil=>rfl
    | cons _ _=>cases h1
  | cons x xs ih =>
    intro b h1 h2
    cases b with
    | nil=>cases h2
    | cons y ys =>
      rw [HT.lexLt_cons] at h1 h2
      by_cases e:x=y
      · rw [if_pos e] at h1;rw [if_pos e.symm] at h2;rw [e,ih _ h1 h2]
      · rw [if_neg e,decide_eq_false_iff_not] at h1;rw [if_neg (Ne.symm e),decide_eq_false_iff_not] at h2;omega
theorem zhm (a b c:List Int)(h:HT.lexLt a c=true):HT.lexLt a b=true∨HT.lexLt b c=true:=by
  cases h1:HT.lexLt a b with
  | true=>exact .inl rfl
  | false =>
    refine .inr ?_
    cases h2:HT.lexLt b a with
    | true=>exact Vq _ _ _ h2 h
    | false=>rw [←VB _ _ h1 h2];exact h
noncomputable def TT (h:Heap) (v:Value) (t:List Int):Prop:=∃ a o n its,v=.ref a∧h.get? a=some o∧o.cls=.type "tuple"∧o.data=.seq its.toArray n∧IntsAre its t∧t≠[]
theorem zcD:∀ {vs:List Value} {ns ms:List Int},IntsAre vs ns→IntsAre vs ms→ns=ms:=by
  intro vs ns ms h
  induction h generalizing ms with
  | nil=>intro h2;cases h2;rfl
  | cons n t h ih=>intro h2;cases h2 with | cons n' t' h'=>rw [ih h']
theorem TT.uniq {h:Heap}{v:Value}{s t:List Int}(x:TT h v s)(y:TT h v t):s=t:=by
  obtain ⟨a,o,n,its,rfl,e1,_,d1,i1,_⟩:=x
  obtain ⟨b,p,m,its',e,e2,_,d2,i2,_⟩:=y
  cases e
  rw [e1] at e2
  cases e2
  rw [d1] at d2
  have e3:its.toArray=its'.toArray:=by injection d2
  cases List.toArray_inj e3
  exact zcD i1 i2
open Classical in
noncomputable def za0 (h:Heap)(v:Value):Option (List Int):=if x:∃ t,TT h v t then some x.choose else none
theorem zfx {h:Heap}{v:Value}{t:List Int}(x:TT h v t):za0 h v=some t:=by
  unfold za0
  have y:∃ t,TT h v t:=⟨t,x⟩
  rw [dif_pos y,y.choose_spec.uniq x]
@[reducible] noncomputable def zhy (h:Heap):KeyKind where
  α:=List Int
  blt:=HT.lexLt
  irrefl:=zg2
  trans:=Vq
  negTrans:=zhm
  total:=VB
  keyOf:=za0 h
  dflt:=[]
section
variable {prog:Program}{w:World}{A:Around}{E:Value→Shared→Prop}{s:Shared}
end
noncomputable def zi2 (h:Heap)(out:List Value):Prop:=∃ ts:List (List Int),out.length=ts.length∧(∀ (i:Nat) (v:Value) (t:(List Int)),out[i]?=some v→ts[i]?=some t→TT h v t)∧ts.Pairwise fun a b=>HT.lexLt b a=false
theorem zas {h h':Heap}{vs:List Value}{xs:Array Keyed}(hT:∀ v∈vs,∃ t,TT h v t)(hk:∀ v t,TT h v t→TT h' v t)(pm:xs.Perm (pairsOf vs))(hs:SortedToK (zhy h') xs (pairsOf vs).size):(xs.map (·.2)).toList.Perm vs∧zi2 h (xs.map (·.2)).toList:=by
  have hl:xs.toList.Perm (vs.zip vs):=by rw [←pairsOf_toList];exact Array.perm_iff_toList_perm.mp pm
  have hm:∀ p∈xs.toList,p.1=p.2∧p.1∈vs:=fun p hp=>mem_zip_self (hl.mem_iff.mp hp)
  have e2:(xs.map (·.2)).toList=xs.toList.map (·.2):=by simp
  rw [e2]
  refine ⟨?_,xs.toList.map fun p=>(za0 h' p.1).getD ([]:List Int),by simp,fun i v t hv ht=>?_,?_⟩
  · have:=hl.map (·.2)
    rwa [show (vs.zip vs).map (·.2)=vs from List.map_snd_zip (Nat.le_refl _)] at this
  · rw [List.getElem?_map] at hv ht
    cases hx:xs.toList[i]? with
    | none=>rw [hx] at hv;cases hv
    | some p =>
      rw [hx] at hv ht
      cases hv
      cases ht
      obtain ⟨q1,q2⟩:=hm p (List.mem_of_getElem? hx)
      obtain ⟨t,ht⟩:=hT _ q2
      show TT h p.2 ((za0 h' p.1).getD ([]:List Int))
      rw [zfx (hk _ _ ht),← q1]
      exact ht
  · rw [List.pairwise_iff_getElem]
    intro i j hi hj hij
    have hi':i < xs.size:=by simpa using hi
    have hj':j < xs.size:=by simpa using hj
    have:=hs i j (Nat.le_of_lt hij) (by rw [←pm.size_eq];exact hj')
    unfold KK at this
    rw [getElem?_pos xs i hi',getElem?_pos xs j hj'] at this
    have this:HT.lexLt ((za0 h' xs[j].1).getD ([]:List Int)) ((za0 h' xs[i].1).getD ([]:List Int))=false:=this
    simpa using this
section
variable {prog:Program}{w:World}{A:Around}{E:Value→Shared→Prop}{s:Shared}
end
end OwnSortT
namespace OwnDk
open PySem
section
variable {prog:Program}{w:World}{A:Around}{E:Value→Shared→Prop}{s:Shared}
end
end OwnDk
namespace Dl
open PySem L2
variable [KK]
section
variable {X:Cx}{e:Expr}{pos:Pos}
end
end Dl
namespace Dl
open PySem L2
variable [KK]{X:Cx}{tg a:Expr}{pos:Pos}
end Dl
namespace Dl
open PySem L2
variable [KK]
noncomputable def shT (k:Bool):D→Option (List D × D)
  | .tup [x,y]=>match k,x,y with
    | false,.lst es,y=>some (es,y)
    | true,x,.lst es=>some (es,x)
    | _,_,_=>none
  | _=>none
noncomputable def tvT (k:Bool)(p:Addr)(v:V):List V:=if k=true then [v,.ref p] else [.ref p,v]
noncomputable def tupT (k:Bool)(es:List D)(y:D):D:=if k=true then .tup [y,.lst es] else .tup [.lst es,y]
omit [KK] in
theorem ziP {k:Bool}{d:D}{es:List D}{y:D}(h:shT k d=some (es,y)):d=tupT k es y:=by
  unfold shT at h
  split at h
  · rename_i a b
    cases k with
    | false=>cases a <;> cases h;rfl
    | true=>cases b <;> cases h;rfl
  · cases h
noncomputable def zaL (k:Bool)(F H:Hp)(Q:VK)(d:D):Prop:=match shT k d with
  | some (es,y)=>∀ F' H' a p xs v,Gr F H F' H'→H p=none→H a=none→F' p=none→F' a=none→H' p=some (.lst xs)→H' a=some (.tup (tvT k p v))→AtL F' es xs→At F' y v→Q (.ref a) H'
  | none=>∀ F' H' v,Gr F H F' H'→At F' d v→Q v H'
theorem zaL.up {k:Bool}{Fb Hb F1 H1:Hp}{Q:VK}{d:D}(g1:Gr Fb Hb F1 H1)(h:zaL k Fb Hb Q d):zaL k F1 (hb2 F1 Hb) Q d:=by
  have base:∀ q,hb2 F1 Hb q=none→Hb q=none:=fun q h=>by
    cases e:F1 q with
    | none=>rw [Za e] at h;exact h
    | some o=>rw [zbv e] at h;cases h
  unfold zaL at h ⊢
  cases e:shT k d with
  | some p =>
    obtain ⟨es,y⟩:=p
    rw [e] at h
    exact fun F' H' a p xs v g hp ha=>h F' H' a p xs v (g1.up g) (base p hp) (base a ha)
  | none =>
    rw [e] at h
    exact fun F' H' v g av=>h F' H' v (g1.up g) av
theorem zaL.of {k:Bool}{F H:Hp}{Q:VK}{d:D}(h:∀ F' H' v,Gr F H F' H'→At F' d v→Q v H'):zaL k F H Q d:=by
  unfold zaL
  cases e:shT k d with
  | none=>exact h
  | some q =>
    obtain ⟨es,y⟩:=q
    rintro F' H' a p xs v g hp ha fp fa kp ka al av
    have ne:a≠p:=zj9 ka kp (by intro z;cases z)
    have g2:=g.show hp fp kp
    have g3:=g2.show ha (by rw [zo ne];exact fa) ka
    have s2:yq F' (upd F' p (.lst xs)):=fun b u e=>by rw [zo (zk e fp)];exact e
    have s3:yq (upd F' p (.lst xs)) (upd (upd F' p (.lst xs)) a (.tup (tvT k p v))):=fun b u e=>by rw [zo (zk e (by rw [zo ne];exact fa))];exact e
    have al':At (upd (upd F' p (.lst xs)) a (.tup (tvT k p v))) (.lst es) (.ref p):=At.lst (s3 _ _ zp) (al.mono (s2.trans s3))
    have av':At (upd (upd F' p (.lst xs)) a (.tup (tvT k p v))) y v:=av.mono (s2.trans s3)
    refine h _ _ _ g3 ?_
    rw [ziP e]
    cases k with
    | false=>exact At.tup zp (.cons al' (.cons av' .nil))
    | true=>exact At.tup zp (.cons av' (.cons al' .nil))
noncomputable def zjV (k:Bool)(Fb Hb:Hp)(E:Wh):Ctl→Prop
  | .rt d=>zaL k Fb Hb E.rt d
  | c=>SOk Fb Hb E c
noncomputable def RST (k:Bool)(t:TS)(g:SE→Ctl):Prop:=∀ (Fb Hb F H:Hp) (ρ:SE) (σ:St) (E:Wh),Rl Fb Hb F H ρ σ→zjV k Fb Hb E (g ρ)→t E σ H
noncomputable def SDT (k:Bool)(X:Cx)(st:Stmt)(g:SE→Ctl):Prop:=∃ t,PS X st t∧RST k t g
noncomputable def zfY (k:Bool)(X:Cx)(sts:List Stmt)(g:SE→Ctl):Prop:=∃ t,PSs X sts t∧RST k t g
section
variable {k:Bool}{X:Cx}{st:Stmt}{sts:List Stmt}{a b c e tg:Expr}{pos pos':Pos}
theorem WI:zfY k X [] zH:=⟨_,Xs,fun _ _ F H ρ σ E r h=>h F H σ r⟩
theorem wP {g h:SE→Ctl}(h1:SDT k X st g)(h2:zfY k X sts h):zfY k X (st::sts) (zK g h):=by
  obtain ⟨t,p,r⟩:=h1
  obtain ⟨u,p2,r2⟩:=h2
  refine ⟨_,yZ p p2,fun Fb Hb F H ρ σ E rl q=>?_⟩
  refine r Fb Hb F H ρ σ { E with nx:=u E } rl ?_
  unfold zK at q
  cases e:g ρ with
  | nx ρ' =>
    rw [e] at q
    exact fun F' H' σ' rl'=>r2 Fb Hb F' H' ρ' σ' E rl' q
  | rt d=>rw [e] at q;exact q
  | bk d=>rw [e] at q;exact q
  | ct d=>rw [e] at q;exact q
  | no=>rw [e] at q;exact q
theorem Zm {g:SE→Ctl}(h1:SDT k X st g):zfY k X [st] g:=let ⟨_,p,r⟩:=h1;⟨_,vI p,r⟩
theorem zbk {g:SE→Ctl}(h:SD X st g)(hn:∀ ρ d,g ρ≠.rt d):SDT k X st g:=by
  obtain ⟨t,p,r⟩:=h
  refine ⟨t,p,fun Fb Hb F H ρ σ E rl q=>r Fb Hb F H ρ σ E rl ?_⟩
  cases e:g ρ with
  | rt d=>exact absurd e (hn ρ d)
  | nx _=>rw [e] at q;exact q
  | bk _=>rw [e] at q;exact q
  | ct _=>rw [e] at q;exact q
  | no=>rw [e] at q;exact q
theorem zcU {as bs:List Stmt}{t:Ev→Option Bool}{g h:SE→Ctl}(hc:TD X c t)(ha:zfY k X as g)(hb:zfY k X bs h):SDT k X (.If c as bs pos) (sIf t g h):=by
  obtain ⟨tc,pc,rc⟩:=hc
  obtain ⟨ta,pa,ra⟩:=ha
  obtain ⟨tb,pb,rb⟩:=hb
  refine ⟨_,zbS pc pa pb,fun Fb Hb F H ρ σ E rl q=>?_⟩
  unfold sIf at q
  cases h:t (visG ρ) with
  | none=>rw [h] at q;exact q.elim
  | some d =>
    rw [h] at q
    refine rc σ _ _ H d _ rl.gh rl.visG h fun F' H' g=>?_
    have rl2:=rl.grow (rl.back g).1
    cases d with
    | true=>rw [if_pos rfl];exact ra Fb Hb _ H' ρ σ E rl2 q
    | false=>rw [if_neg Bool.false_ne_true];exact rb Fb Hb _ H' ρ σ E rl2 q
theorem zgp {iter:Expr}{body:List Stmt}{f:Ev→Option (List D)}{b:D→SE→Option SE}{g:SE→Ctl}(hp:PassesOwn (model X.prog X.w) X.A X.env X.xe)(hc:X.calm=true)(hi:ID X tg iter f)(hg:BD X tg b)(hb:zfY k X body g)
    (hs:∀ x,foldedSetIterable iter X.env x=pure x:=by intro _;rfl):SDT k X (.For tg iter body [] pos) (wA f b g):=by
  obtain ⟨wi,pi,ri⟩:=hi
  obtain ⟨tg',pg,rg⟩:=hg
  obtain ⟨tb,pb,rb⟩:=hb
  refine ⟨_,zbc hp hc pi pg pb hs,fun Fb Hb F H ρ σ E rl q=>?_⟩
  unfold wA at q
  cases h:f (visF ρ) with
  | none=>rw [h] at q;exact q.elim
  | some ds =>
    rw [h] at q
    refine ri σ _ _ H ds _ rl.gr.fh rl.visF h fun F1 H1 J g1 hit=>?_
    have rl0:=rl.grow g1
    refine ⟨fun i m σ H=>m=ds.length - i∧i≤ds.length∧∃ F ρ,yq F1 F∧Rl Fb Hb F H ρ σ∧zjV k Fb Hb E (zbh b g (ds.drop i) ρ),⟨ds.length,by simp,Nat.zero_le _,F1,ρ,yq.refl _,rl0,q⟩,?_⟩
    rintro i m σ H ⟨rfl,hi,F,ρ,s1,rl,q⟩
    obtain ⟨stop,go⟩:=hit i F H s1 rl.gr.fh
    by_cases hlt:i < ds.length
    · have hd:ds.drop i=ds[i]::ds.drop (i+1):=List.drop_eq_getElem_cons hlt
      rw [hd] at q
      unfold zbh at q
      obtain ⟨q1,q2⟩:=go ds[i] (by simp [hlt])
      refine .inr ⟨q1,fun σ H=>∃ F ρ,yq F1 F∧Rl Fb Hb F H ρ σ∧zjV k Fb Hb E (zbh b g (ds.drop (i+1)) ρ),fun σ' H' w=>⟨ds.length - (i+1),by omega,rfl,hlt,w⟩,fun x H' hy=>?_⟩
      obtain ⟨F3,g3,a3⟩:=q2 x H' hy
      cases hbd:b ds[i] ρ with
      | none=>rw [hbd] at q;exact q.elim
      | some ρ1 =>
        rw [hbd] at q
        dsimp only at q
        refine rg Fb Hb F3 H' ρ ρ1 σ _ x _ (rl.grow g3) a3 hbd fun σ2 rl2=>?_
        have s3:=s1.trans g3.ff
        refine rb F1 (hb2 F1 Hb) F3 H' ρ1 σ2 _ (rl2.dn rl0.gr.ff s3) ?_
        cases hgg:g ρ1 with
        | nx ρ'=>rw [hgg] at q;exact fun F4 H4 σ4 r4=>⟨F4,ρ',r4.gr.ff,r4.up rl0.gr,q⟩
        | ct ρ'=>rw [hgg] at q;exact fun F4 H4 σ4 r4=>⟨F4,ρ',r4.gr.ff,r4.up rl0.gr,q⟩
        | bk ρ'=>rw [hgg] at q;exact fun F4 H4 σ4 r4=>q F4 H4 σ4 (r4.up rl0.gr)
        | rt d=>rw [hgg] at q;exact zaL.up rl0.gr q
        | no=>rw [hgg] at q;exact q.elim
    · have e:i=ds.length:=by omega
      subst e
      rw [List.drop_length] at q
      exact .inl ⟨stop rfl,q F H σ rl⟩
noncomputable def zaM (i:Nat)(f:Ev→Option D):SE→Ctl:=fun ρ=>match ρ[i]?,f (visF ρ) with
  | some (.o ds),some y=>.rt (.tup [.lst ds,y])
  | _,_=>.no
theorem zdG {xs:List V}(h:xs.length≤2):xs.length≤sizeLine:=Nat.le_of_lt (vC (Nat.le_trans h (by decide)))
theorem WN {i:Nat}{f:Ev→Option D}{x1}(ho:PE X a (WM i))(he:ED X e f)(hs:starEach [a,e] X.env=(false,eval a X.env)::starEach [e] X.env:=by rfl)(hs2:starEach [e] X.env=(false,eval e X.env)::starEach [] X.env:=by rfl):SDT false X (.Return (some (.Tuple [a,e] x1 pos')) pos) (zaM i f):=by
  obtain ⟨t,p,r⟩:=he
  refine ⟨_,ZX (zdJ (zr ho (zr p yI hs2) hs)),fun Fb Hb F H ρ σ E rl q=>?_⟩
  unfold zaM at q
  cases hi:ρ[i]? with
  | none=>rw [hi] at q;exact q.elim
  | some sl =>
    rw [hi] at q
    cases sl with
    | no=>exact q.elim
    | v _=>exact q.elim
    | m _ _ _=>exact q.elim
    | o ds =>
      cases hf:f (visF ρ) with
      | none=>rw [hf] at q;exact q.elim
      | some y =>
        rw [hf] at q
        obtain ⟨lp,xs,f1,f2,f3,f4,f5⟩:=rl.owns i ds hi
        refine ⟨_,f1,?_⟩
        refine r σ _ _ H y _ rl.gr.fh rl.visF hf fun F' H' v g av=>⟨zdG (Nat.le_refl _),fun ta hta=>?_⟩
        have rl2:=rl.grow g
        obtain ⟨lp2,xs2,f1',_,f3',f4',f5'⟩:=rl2.owns i ds hi
        rw [f1] at f1'
        cases f1'
        have ne:lp≠ta:=zk f4' hta
        exact q F' _ ta lp xs2 v (rl2.gr.trans (Gr.hide g.fh hta _)) f2 (rl2.notbase hta) f3' (g.fh.free hta) (by rw [zo ne];exact f4') zp f5' av
noncomputable def zgA (fl:Ev→Option (List D))(f:Ev→Option D):SE→Ctl:=fun ρ=>match fl (visF ρ),f (visF ρ) with
  | some es,some y=>.rt (.tup [.lst es,y])
  | _,_=>.no
theorem zeW {f:Ev→Option D}{fl:Ev→Option (List D)}{x1}(hl:FL X a fl)(he:ED X e f)(hs:starEach [a,e] X.env=(false,eval a X.env)::starEach [e] X.env:=by rfl)(hs2:starEach [e] X.env=(false,eval e X.env)::starEach [] X.env:=by rfl):SDT false X (.Return (some (.Tuple [a,e] x1 pos')) pos) (zgA fl f):=by
  obtain ⟨t,p,r⟩:=he
  obtain ⟨u,p2,r2⟩:=hl
  refine ⟨_,ZX (zdJ (zr p2 (zr p yI hs2) hs)),fun Fb Hb F H ρ σ E rl q=>?_⟩
  unfold zgA at q
  cases hg:fl (visF ρ) with
  | none=>rw [hg] at q;exact q.elim
  | some es =>
    rw [hg] at q
    cases hf:f (visF ρ) with
    | none=>rw [hf] at q;exact q.elim
    | some y =>
      rw [hf] at q
      refine r2 σ _ _ H es _ rl.gr.fh rl.visF hg fun F' H' lp xs g h0 hF hH hx=>?_
      refine r σ _ F' H' y _ g.fh (rl.visF.mono g.ff) hf fun F2 H2 v g2 av=>⟨zdG (Nat.le_refl _),fun ta hta=>?_⟩
      obtain ⟨k1,k2⟩:=g2.kl (fun _ z=>by cases z) hF hH
      have ne:lp≠ta:=zk k2 hta
      have rl2:=(rl.grow g).grow g2
      exact q F2 _ ta lp xs v (rl2.gr.trans (Gr.hide g2.fh hta _)) (rl.notbase h0) (rl2.notbase hta) k1 (g2.fh.free hta) (by rw [zo ne];exact k2) zp (hx.mono g2.ff) av
end
noncomputable def zjr (k:Bool)(m:Nat)(p:List D→Option D):Sp:=fun vs H Q _=>∃ ds d F,ds.length=m∧yq F H∧AtL F ds vs∧p ds=some d∧zaL k F H Q d
theorem ziF {k:Bool}{P:Program}{w:World}{K:PySem.W.Frag}{mg:Str→Option Value}{base:Heap}{x qual:Str}{st:Stmt}{f:Addr}{fd:FuncData}{N ps:List Str}{n:Nat}{g:SE→Ctl}(Fu:Fun K x qual st f fd)(S:zA N ps (ze st))
    (hb:∀ (cdv:Value) (A:Around) (outer:List Env) (s:Shared) (H:Hp) (E:XK),vN n (A.deeper (PyProof.Rows.envOfC qual (ze st) s.heap.objs.size f cdv))→zfY k (Y2 CX0 P w K mg base N qual (ze st) f cdv A outer s H E).nox (zy st) g) (hnx:∀ ρ ρ',g ρ≠.nx ρ') :
    xk P w K mg base CX0 (n+1) f fd ps (zjr k ps.length (fnD N.length g)):=by
  refine Fu.ok S (fun vs H Q E h=>?_) fun cdv A outer s H vs Q E hr h=>?_
  · obtain ⟨ds,d,F,hl,_,a,_⟩:=h
    rw [a.length];exact hl
  · obtain ⟨ds,d,F,hl,sm,a,e,q⟩:=h
    obtain ⟨t,p,r⟩:=hb cdv A outer s H E hr
    refine ⟨t,p,r F H F H _ _ _ (Xa sm a) ?_⟩
    unfold fnD at e
    cases hg:g (ds.map .v++List.replicate (N.length - ds.length) .no) with
    | rt d'=>rw [hg] at e;cases e;exact q
    | nx ρ=>exact absurd hg (hnx _ _)
    | bk ρ=>rw [hg] at e;cases e
    | ct ρ=>rw [hg] at e;cases e
    | no=>rw [hg] at e;cases e
theorem ziW {k:Bool}{P:Program}{w:World}{K:PySem.W.Frag}{mg:Str→Option Value}{base:Heap}{f:Addr}{fd:FuncData}{ps:List Str}{n m:Nat}{p:List D→Option D}(F:xk P w K mg base CX0 n f fd ps (zjr k m p)):xk P w K mg base CX0 n f fd ps (spD m p) :=
  F.imp fun vs H Q E ⟨ds,d,F',h1,h2,h3,h4,h5⟩=>⟨ds,d,F',h1,h2,h3,h4,zaL.of h5⟩
noncomputable def ET (k:Bool)(X:Cx)(e:Expr)(f:Ev→Option D):Prop:=∃ t,PE X e t∧∀ (σ:St) (ρ:Ev) (F H:Hp) (d:D) (Q:VK),yq F H→VAt F ρ σ→f ρ=some d→zaL k F H Q d→t σ H Q
theorem zhn {k:Bool}{X:Cx}{x:Str}{n m:Nat}{f:Addr}{fd:FuncData}{ps:List Str}{p:List D→Option D}{e:Expr}{es:List Expr}{pp pos:Pos}{fa:Ev→Option (List D)}(F:xk X.prog X.w X.K X.mg X.base CX0 n f fd ps (zjr k m p))(hr:vN n X.A)(hg:Gl X x)(hm:X.mg x=some (.ref f))(hk:PySem.W.keepIn X.K (.ref f)=true)(hb:Zr X.K fd ps [])
    (ha:AD X (e::es) fa) (hdb:(x == ("__debug__":Str))=false:=by decide) (he:starEach (e::es) X.env=(false,eval e X.env)::starEach es X.env:=by rfl) (hpl:(backTo pos (starEach es X.env)).any (·.1)=false:=by rfl) :
    ET k X (.Call (.Name x pp) (e::es) [] pos) (zq m p fa):=by
  obtain ⟨t,pa,r⟩:=ha
  refine ⟨_,WO F hr hg hm hk hb .nil zgO pa hdb he hpl,fun σ ρ F0 H d Q s va e q=>?_⟩
  obtain ⟨ds,e1,e2⟩:=Option.bind_eq_some_iff.mp e
  split at e2 <;> try cases e2
  rename_i hl
  refine r σ ρ F0 H ds _ s va e1 fun F1 H1 vs g1 a1=>⟨ds,d,F1,hl,g1.fh,by rw [List.append_nil];exact a1,e2,?_⟩
  unfold zaL at q ⊢
  cases e:shT k d with
  | some z =>
    obtain ⟨es,y⟩:=z
    rw [e] at q
    exact fun F' H' a p xs v g hp ha=>q F' H' a p xs v (g1.trans g) (zaA g1 hp) (zaA g1 ha)
  | none =>
    rw [e] at q
    exact fun F' H' v g av=>q F' H' v (g1.trans g) av
end Dl
namespace Dl
open PySem L2
variable [KK]
section
variable {X:Cx}{st1 st2 st3 st4:Stmt}{i j:Nat}
omit [KK] in
theorem zhd {i:Nat}{f:Ev→Option (List D)}(ρ:SE)(d:D):wn i f ρ≠.rt d:=by
  unfold wn
  cases f (visF ρ) <;> (intro h;cases h)
omit [KK] in
theorem zhf {m:Bool}{i:Nat}{f:Ev→Option D}(ρ:SE)(d:D):wl m i f ρ≠.rt d:=by
  unfold wl
  split <;> (intro h;cases h)
noncomputable def NNx (g:SE→Ctl):Prop:=∀ ρ ρ',g ρ≠.nx ρ'
omit [KK] in
theorem W5 {g h:SE→Ctl}(k:NNx h):NNx (zK g h):=fun ρ ρ' e=>by
  unfold zK at e
  cases hg:g ρ with
  | nx r=>rw [hg] at e;exact k _ _ e
  | _=>rw [hg] at e;cases e
omit [KK] in
theorem zeK {i:Nat}{f:Ev→Option D}:NNx (zaM i f):=fun ρ ρ' e=>by
  unfold zaM at e
  split at e <;> cases e
noncomputable def zeB (i j:Nat)(f:Ev→Option D):SE→Ctl:=fun ρ=>if (decide (i < ρ.length)&&decide (j < ρ.length))=true then (match f (visF ρ) with
  | some (.tup [.lst es,.non])=>.rt (.lst es)
  | _=>.no) else .no
theorem zc5 {f:Ev→Option D}{u:TS}{tt:TT}(hij:i≠j)(h1:∃ t,PS X st1 (ze5 t (vL i))∧∀ (σ:St) (ρ:Ev) (F H:Hp) (d:D) (Q:VK),yq F H→VAt F ρ σ→f ρ=some d→zaL false F H Q d→t σ H Q)
    (h2:PS X st2 (ze5 (tOp (zjx X.K) (WM i) (tC (.int 1))) (vL j))) (h3:PS X st3 (zjs tt u zeC)) (hk3:∀ (σ:St) (H:Hp) (Q:Bool→Hp→Prop),σ[j]?=some (some .non)→Q false H→tt σ H Q) (h4:PS X st4 (zjj (tOp (zjx X.K) (WM i) (tC (.int 0))))):zjl X [st1,st2,st3,st4] (zeB i j f):=by
  obtain ⟨t1,p1,r1⟩:=h1
  refine ⟨_,yZ p1 (yZ h2 (yZ h3 (vI h4))),fun Fb Hb F H ρ σ E rl q=>?_⟩
  unfold zeB at q
  split at q
  · rename_i hl
    rw [Bool.and_eq_true] at hl
    have hi:i < σ.length:=by rw [←rl.len];exact of_decide_eq_true hl.1
    have hj:j < σ.length:=by rw [←rl.len];exact of_decide_eq_true hl.2
    split at q
    · rename_i es hf
      refine r1 σ _ F H _ _ rl.gr.fh rl.visF hf ?_
      intro F' H' a p xs v g hp ha fp fa kp ka al av
      cases av.non_inv
      have ea:(σ.set i (some (.ref a)))[i]?=some (some (.ref a)):=List.getElem?_set_self hi
      refine ⟨_,ea,a,_,1,.non,rfl,rfl,SqT.of ka,rfl,?_⟩
      have ej:((σ.set i (some (.ref a))).set j (some .non))[j]?=some (some .non):=List.getElem?_set_self (by rw [List.length_set];exact hj)
      refine hk3 _ _ _ ej ?_
      rw [if_neg Bool.false_ne_true]
      have ei:((σ.set i (some (.ref a))).set j (some .non))[i]?=some (some (.ref a)):=by rw [List.getElem?_set_ne hij.symm];exact ea
      refine ⟨_,ei,a,_,0,.ref p,rfl,rfl,SqT.of ka,rfl,?_⟩
      exact q F' H' p xs ((rl.grow g).gr) (rl.notbase hp) fp kp al
    · exact q.elim
  · exact q.elim
theorem zi7 {k:Bool}{x:Str}{e:Expr}{f:Ev→Option D}{pos pos':Pos}(hN:X.N.Nodup)(hi:X.N[i]?=some x)(hx:Loc X.env.scope x)(he:ET k X e f)(hs:swapsWith e (some (.Name x pos')) pos.line X.env=pure false:=by rfl)
    (hf:X.fn x=true∨X.env.scope.names.lookup x=some .local:=by first | exact .inl rfl | exact .inr rfl | assumption):∃ t,PS X (.Assign [.Name x pos'] e pos) (ze5 t (vL i))∧∀ (σ:St) (ρ:Ev) (F H:Hp) (d:D) (Q:VK),yq F H→VAt F ρ σ→f ρ=some d→zaL k F H Q d→t σ H Q :=
  let ⟨t,p,r⟩:=he
  ⟨t,Zl hN hi hx p hs hf,r⟩
omit [KK] in
theorem zc7 {j:Nat}(σ:St)(H:Hp)(Q:Bool→Hp→Prop)(ej:σ[j]?=some (some .non))(q:Q false H):zdw (tOp (fun x y H Q=>(y=.non∧Q (.bl (!decide (x=.non))) H)∨∃ i j,x=.bl i∧y=.bl j∧Q (.bl (!(i == j))) H) (WM j) (tC .non)) σ H Q:=⟨.non,ej,.inl ⟨rfl,false,rfl,q⟩⟩
theorem zhA {sts:List Stmt}:PSs X sts (fun _ _ _=>False):=fun _ _ _ _ _ _ h=>h.elim
end
end Dl
namespace Mz
open PySem Dl
noncomputable abbrev Tie:=Int × Int
noncomputable def ltP (s t:Tie):Prop:=s.1 < t.1∨(s.1=t.1∧s.2 < t.2)
noncomputable instance (s t:Tie):Decidable (ltP s t):=by unfold ltP;infer_instance
theorem zcN {a b c:Tie}(h:ltP a b)(k:ltP b c):ltP a c:=by
  unfold ltP at *
  omega
noncomputable def zd (t:Tie):D:=.tup [.int t.1,.int t.2]
theorem zdT {s t:Tie}(h:zd s=zd t):s=t:=by
  unfold zd at h
  injection h with h
  injection h with h1 h2
  injection h2 with h2 _
  injection h1 with h1
  injection h2 with h2
  exact Prod.ext h1 h2
noncomputable def yy (many:Int)(ties:List Tie):D:=.tup [.int many,.tup (ties.map zd)]
set_option genInjectivity false in
set_option genSizeOf false in
set_option genCtorIdx false in
structure wV (many:Int) (ties:List Tie):Prop where
  lo:1≤many
  hi:many≤8
  rng:∀ t∈ties,0≤t.1∧t.1 < t.2∧t.2 < many
  srt:ties.Pairwise ltP
noncomputable def leP (s t:Tie):Bool:=if s.1=t.1 then (if s.2=t.2 then true else decide (s.2≤t.2)) else decide (s.1≤t.1)
theorem XI {s t:Tie}:leP s t=false↔ltP t s:=by
  unfold leP ltP
  by_cases h:s.1=t.1
  · rw [if_pos h]
    by_cases k:s.2=t.2
    · rw [if_pos k];simp;omega
    · rw [if_neg k,decide_eq_false_iff_not];omega
  · rw [if_neg h,decide_eq_false_iff_not];omega
noncomputable def YK:D→Option Tie
  | .tup [.int a,.int b]=>some (a,b)
  | _=>none
theorem Yb (t:Tie):YK (zd t)=some t:=rfl
theorem Xn {d:D}{t:Tie}(h:YK d=some t):d=zd t:=by
  unfold YK at h
  split at h
  · cases h;rfl
  · cases h
noncomputable def inR (m a:Int):Bool:=decide (0≤a)&&decide (a≤m - 1)
noncomputable def ww (m:Int)(d:D):Bool:=match YK d with
  | some t=>inR m t.1&&inR m t.2&&!decide (t.1=t.2)
  | none=>false
noncomputable def VW (p:Option Tie)(t:Tie):Bool:=match p with
  | some q=>!leP t q
  | none=>true
noncomputable def yK (m:Int):Option Tie→List D→Bool
  | _,[]=>true
  | p,d::r=>match YK d with
    | some t=>ww m d&&!decide (t.2 < t.1)&&VW p t&&yK m (some t) r
    | none=>false
noncomputable def Yw (m:Int):D→Bool
  | .tup ts=>yK m none ts
  | _=>false
noncomputable def YE:D→Bool
  | .tup [.int m,t]=>decide (1≤m)&&decide (m≤8)&&Yw m t
  | _=>false
theorem ZS (m:Int):∀ (ts:List D) (p:Option Tie),yK m p ts=true↔∃ l:List Tie,ts=l.map zd∧(∀ t∈l,0≤t.1∧t.1 < t.2∧t.2 < m)∧(∀ q,p=some q→∀ t∈l,ltP q t)∧l.Pairwise ltP:=by
  intro ts
  induction ts with
  | nil =>
    intro p
    refine ⟨fun _=>⟨[],rfl,by simp,by simp,.nil⟩,fun _=>rfl⟩
  | cons d r ih =>
    intro p
    unfold yK
    cases e:YK d with
    | none =>
      refine Iff.intro (fun h=>nomatch h) (fun hh=>?_)
      obtain ⟨l,h,_⟩:=hh
      cases l with
      | nil=>cases h
      | cons t l' =>
        rw [List.map_cons] at h
        injection h with h1 _
        rw [h1,Yb] at e
        cases e
    | some t =>
      have ed:=Xn e
      subst ed
      simp only [ww,Yb,Bool.and_eq_true,Bool.not_eq_true',decide_eq_false_iff_not,inR,decide_eq_true_eq]
      rw [ih (some t)]
      constructor
      · rintro ⟨⟨⟨⟨⟨h1,h2⟩,h3⟩,h4⟩,h5⟩,l,rfl,hr,hq,hs⟩
        refine ⟨t::l,rfl,?_,?_,List.pairwise_cons.mpr ⟨hq t rfl,hs⟩⟩
        · intro u hu
          rcases List.mem_cons.mp hu with rfl | hu
          · omega
          · exact hr u hu
        · rintro q rfl u hu
          have hqt:ltP q t:=XI.mp (by simpa [VW] using h5)
          rcases List.mem_cons.mp hu with rfl | hu
          · exact hqt
          · exact zcN hqt (hq t rfl u hu)
      · rintro ⟨l,h,hr,hq,hs⟩
        cases l with
        | nil=>cases h
        | cons u l' =>
          rw [List.map_cons] at h
          injection h with h1 h2
          have hu:=zdT h1
          subst hu
          have hb:=hr t (by simp)
          refine ⟨⟨⟨⟨⟨by omega,by omega⟩,by omega⟩,by omega⟩,?_⟩,l',h2,fun v hv=>hr v (by simp [hv]),fun q hqe v hv=>?_,(List.pairwise_cons.mp hs).2⟩
          · cases p with
            | none=>rfl
            | some q =>
              have:=XI.mpr (hq q rfl t (by simp))
              simp [VW,this]
          · cases hqe
            exact (List.pairwise_cons.mp hs).1 v hv
theorem ZJ (d:D):YE d=true↔∃ m ties,d=yy m ties∧wV m ties:=by
  constructor
  · intro h
    unfold YE at h
    split at h
    · rename_i m t
      simp only [Bool.and_eq_true,decide_eq_true_eq] at h
      obtain ⟨⟨h1,h2⟩,h3⟩:=h
      unfold Yw at h3
      split at h3
      · rename_i ts
        obtain ⟨l,rfl,hr,_,hs⟩:=(ZS m ts none).mp h3
        exact ⟨m,l,rfl,h1,h2,hr,hs⟩
      · cases h3
    · cases h
  · rintro ⟨m,ties,rfl,w⟩
    unfold yy YE Yw
    simp only [Bool.and_eq_true,decide_eq_true_eq]
    exact ⟨⟨w.lo,w.hi⟩,(ZS m _ none).mpr ⟨ties,rfl,w.rng,by simp,w.srt⟩⟩
theorem zgF {d:D}(h:∀ m ties,d=yy m ties→¬ wV m ties):YE d=false:=by
  cases e:YE d with
  | false=>rfl
  | true =>
    obtain ⟨m,ties,rfl,w⟩:=(ZJ d).mp e
    exact absurd w (h m ties rfl)
noncomputable def xo (n:Nat):List Tie:=(List.range n).flatMap fun a=>(List.range (n - (a+1))).map fun (j:Nat)=>((a:Int),(a:Int)+1+(j:Int))
theorem Y8:∀ n:Nat,n≤8→(xo n).Pairwise ltP∧(∀ t∈xo n,0≤t.1∧t.1 < t.2∧t.2 < (n:Int))∧(xo n).length≤28:=by
  have h:∀ n:_root_.Fin 9,(xo n.val).Pairwise ltP∧(∀ t∈xo n.val,0≤t.1∧t.1 < t.2∧t.2 < (n.val:Int))∧(xo n.val).length≤28:=by decide +kernel
  exact fun n hn=>h ⟨n,by omega⟩
end Mz
namespace Mz
open Dl
noncomputable def zaZ (i j:Nat):List Tie:=(List.range j).map fun (k:Nat)=>((i:Int),(i:Int)+1+(k:Int))
noncomputable def xW (n i:Nat):List Tie:=(List.range i).flatMap fun a=>zaZ a (n - (a+1))
theorem zdu (n:Nat):xo n=xW n n:=rfl
theorem ZT (n i:Nat):xW n (i+1)=xW n i++zaZ i (n - (i+1)):=by
  unfold xW
  rw [List.range_succ,List.flatMap_append]
  simp
theorem ZZ (i j:Nat):(zaZ i j).length=j:=by unfold zaZ;simp
theorem zch (n:Nat)(hn:n≤8):∀ i:Nat,(xW n i).length≤8*i:=by
  intro i
  induction i with
  | zero=>simp [xW]
  | succ i ih =>
    rw [ZT,List.length_append,ZZ]
    omega
noncomputable def Wu (c k:Int):Int :=
  let a:=(c % 2147483647+977*k+1)*48271 % 2147483647
  let b:=a*a % 2147483629
  (b+40692*(k+3))*69621 % 2147483647 / 8
end Mz
namespace Mz
open Dl
noncomputable def adj (ts:List Tie)(a b:Int):Prop:=(a,b)∈ts∨(b,a)∈ts
inductive zfB (ts:List Tie) (p:Int):Nat→Int→Prop
  | zero:zfB ts p 0 p
  | step {k:Nat} {a b:Int}:zfB ts p k a→adj ts a b→zfB ts p (k+1) b
theorem zar {P:Nat→Prop}:∀ k,P k→∃ j,P j∧∀ i,P i→j≤i:=by
  intro k
  induction k using Nat.strongRecOn with
  | _ k ih =>
    intro h
    by_cases c:∃ i,i < k∧P i
    · obtain ⟨i,hi,h2⟩:=c
      exact ih i hi h2
    · exact ⟨k,h,fun i hi=>Nat.le_of_not_lt fun z=>c ⟨i,z,hi⟩⟩
noncomputable def Within (ts:List Tie)(p:Int)(k:Nat)(v:Int):Prop:=∃ j,j≤k∧zfB ts p j v
theorem zfU {n:Nat}{i:Int}(h0:0≤i)(h1:i < n):L2.ixN n i=some i.toNat:=by
  unfold L2.ixN
  rw [if_pos h0,if_pos h1]
theorem zfT {α:Type}{xs:List α}{i:Int}{x:α}(h0:0≤i)(h:xs[i.toNat]?=some x):L2.atI xs i=some x:=by
  have:=(List.getElem?_eq_some_iff.mp h).1
  unfold L2.atI
  rw [zfU h0 (by omega)]
  exact h
theorem zja {m:Bool}{i:Nat}{fk fe:Ev→Option D}{ρ:SE}{ds:List D}{d:D}{k:Int}(h1:vEv m fe ρ=some d)(h2:fk (visG ρ)=some (.int k))(h3:ρ[i]?=some (.o ds))(h4:0≤k)(h5:k < ds.length) :
    wJ m i fk fe ρ=.nx (ρ.set i (.o (ds.set k.toNat d))):=by
  unfold wJ
  rw [h1,h2,h3]
  show (match ((L2.ixN ds.length k).map fun j=>ρ.set i (Sl.o (ds.set j d))) with | some ρ'=>Ctl.nx ρ' | none=>Ctl.no)=_
  rw [zfU h4 h5]
  rfl
theorem ZE (ts:List Tie):(Zp ts).Perm ts:=List.mergeSort_perm _ _
theorem Vn {ts:List Tie}(h:ts.Nodup):(Zp ts).Pairwise ltP:=by
  have h1:(Zp ts).Pairwise fun a b=>zht a b=true:=List.pairwise_mergeSort (fun a b c h1 h2=>by rw [vd] at *;omega) (fun a b=>by rw [Bool.or_eq_true,vd,vd];omega) _
  have h2:(Zp ts).Nodup:=(ZE ts).nodup_iff.mpr h
  refine (h1.and h2).imp fun {a b} hh=>?_
  obtain ⟨x,y⟩:=hh
  rw [vd] at x
  unfold ltP
  rcases x with x | x
  · exact .inl x
  · refine .inr ⟨x.1,?_⟩
    have:a.2≠b.2:=fun e=>y (Prod.ext x.1 e)
    omega
theorem ziw {m:Bool}{i:Nat}{fk fe:Ev→Option D}{ρ:SE}{n b kk:SE→Prop}{r:D→Prop}(ds:List D)(d:D)(k:Int)(h1:vEv m fe ρ=some d)(h2:fk (visG ρ)=some (.int k))(h3:ρ[i]?=some (.o ds))(h4:0≤k)(h5:k < ds.length)(q:n (ρ.set i (.o (ds.set k.toNat d)))) :
    (wJ m i fk fe ρ).w n b kk r:=Yv (zja h1 h2 h3 h4 h5) q
theorem zbq {α:Type}(xs:List α)(lo hi:Option Int):(Xc xs lo hi).length≤xs.length:=by
  unfold Xc
  rw [List.length_take,List.length_drop]
  omega
theorem zfs {a b:List D}(h:a.length+b.length≤1000):wC (.lst a) (.lst b)=some (.lst (a++b)):=by
  show (if lim (a.length+b.length)=true then _ else none)=_
  rw [if_pos (vB h)]
theorem YW {m:Bool}{i:Nat}{f:Ev→Option D}{ρ ρ':SE}{d:D}(h:vEv m f ρ=some d)(h2:ρ.set i (.v d)=ρ':=by rfl):yG m i f ρ=.nx ρ':=by
  unfold yG
  rw [h,← h2]
theorem ZG {f:Ev→Option D}{ρ:SE}{d:D}(h:f (visG ρ)=some d):wI f ρ=.nx ρ:=by
  unfold wI
  rw [h]
theorem YX {f:Ev→Option D}{ρ:SE}{d:D}(h:f (visG ρ)=some d):yC f ρ=.rt d:=by
  unfold yC
  rw [h]
theorem zhb {i:Nat}{f:Ev→Option (List D)}{ρ ρ':SE}{ds:List D}(h:f (visF ρ)=some ds)(h2:ρ.set i (.o ds)=ρ':=by rfl):wn i f ρ=.nx ρ':=by
  unfold wn
  rw [h,← h2]
theorem zD {a b:Int}:neD (.int a) (.int b)=some (.bl (!decide (a=b))):=rfl
theorem vH {a m x:Int}(h:0 < m)(hx:a % m=x):0≤x∧x < m:=by
  subst hx
  exact ⟨Int.emod_nonneg _ (by omega),Int.emod_lt_of_pos _ h⟩
theorem zhJ {m:Int}{n:Nat}(h:m=((n+1:Nat):Int))(h7:n≤7):wv [.int 1,.int m]=some (Z3 1 n):=by
  show (if zeq 1=true∧zeq m=true then some (Z3 1 (m - 1).toNat) else none)=_
  rw [if_pos ⟨yx.mpr ⟨by omega,by omega⟩,yx.mpr ⟨by omega,by omega⟩⟩,show (m - 1).toNat=n by omega]
theorem zx {a b:Int}:ZF (.int a) (.int b)=some (.bl (decide (a=b))):=rfl
theorem zE {a b:Bool}:ZF (.bl a) (.bl b)=some (.bl (decide (a=b))):=rfl
theorem zv {a b:PySem.Str}:ZF (.str a) (.str b)=some (.bl (decide (a=b))):=rfl
theorem zt {a b:Int}:wC (.int a) (.int b)=some (.int (a+b)):=rfl
end Mz
namespace Mz
open Dl
section
variable {ρ:Ev}{f g h:Ev→Option D}{a:Ev→Option (List D)}{t u:Ev→Option Bool}{d e x y z:D}{ds es:List D}{b c:Bool}
theorem wB:zw ρ=some []:=rfl
theorem zJ (h1:f ρ=some d)(h2:a ρ=some ds):zc f a ρ=some (d::ds):=by unfold zc;rw [h1,h2];rfl
theorem xx {n:Nat}{p:List D→Option D}(h1:a ρ=some ds)(h2:p ds=some d)(hl:ds.length=n:=by rfl):zq n p a ρ=some d:=by
  unfold zq
  rw [h1,Option.bind_some,if_pos hl,h2]
theorem wg {i n:Nat}{p:List D→Option D}{σ σ':SE}(h1:a (visF σ)=some ds)(h2:p ds=some d)(hl:ds.length=n:=by rfl)(h3:σ.set i (.v d)=σ':=by rfl):yG false i (zq n p a) σ=.nx σ':=YW (show zq n p a (visF σ)=some d from xx h1 h2 hl) h3
theorem XL {i:Nat}{f:Ev→Option D}{σ σ':SE}(h:f (visF σ)=some d)(h3:σ.set i (.v d)=σ':=by rfl):yG false i f σ=.nx σ':=YW (show f (visF σ)=some d from h) h3
theorem zN {k:D→D→Option D}(h1:f ρ=some x)(h2:g ρ=some y)(h3:k x y=some z):zm k f g ρ=some z:=by unfold zm;rw [h1,h2];exact h3
theorem zjE {k:D→Option D}(h1:f ρ=some x)(h3:k x=some z):eUn k f ρ=some z:=by unfold eUn;rw [h1];exact h3
theorem XH (h1:a ρ=some ds):xr a ρ=some (.lst ds):=by unfold xr;rw [h1];rfl
theorem zc2 {k:List D→Option D}(h1:a ρ=some ds)(h2:k ds=some d):eFn k a ρ=some d:=by unfold eFn;rw [h1];exact h2
theorem ziN {k:List D→Option (List D)}(h1:a ρ=some ds)(h2:k ds=some es):fFn k a ρ=some es:=by unfold fFn;rw [h1];exact h2
theorem zdU (h1:a ρ=some ds)(hl:ds.length≤1000):zU a ρ=some ds:=by unfold zU;rw [h1,Option.bind_some,if_pos (vB hl)]
theorem zbg (h1:f ρ=some d)(h2:yj d=some ds):iOf f ρ=some ds:=by unfold iOf;rw [h1];exact h2
theorem YU (h1:f ρ=some (.bl b)):tOf f ρ=some b:=by unfold tOf;rw [h1];rfl
theorem V5 (h1:t ρ=some b):zY t ρ=some (!b):=by unfold zY;rw [h1];rfl
theorem ziX (h1:t ρ=some b)(h2:u ρ=some c):wQ t u ρ=some (b||c):=by unfold wQ;rw [h1,h2];cases b <;> rfl
end
end Mz
namespace Mz
open PySem L2 Dl
noncomputable def top (i:Nat):Stmt:=PySem.Challenge.pw_twoforone_k11_walked.main.body.getD i (.Pass ⟨0,0,0,0⟩)
noncomputable abbrev x3:Stmt:=top 18
noncomputable abbrev zZ:Stmt:=top 19
noncomputable abbrev yg:Stmt:=top 20
noncomputable abbrev xT:Stmt:=top 21
noncomputable abbrev xa:Stmt:=top 22
noncomputable abbrev wN:Stmt:=top 24
noncomputable abbrev xZ:Stmt:=top 25
noncomputable abbrev vy:Stmt:=top 26
noncomputable abbrev yW:Stmt:=top 27
noncomputable abbrev yT:Stmt:=top 28
noncomputable abbrev y9:Stmt:=top 30
noncomputable abbrev yD:Stmt:=top 31
noncomputable abbrev wK:Stmt:=top 32
noncomputable abbrev wO:Stmt:=top 33
noncomputable abbrev ZB:Stmt:=top 34
noncomputable abbrev vv:Stmt:=top 35
noncomputable abbrev xz:Stmt:=top 37
noncomputable abbrev xX:Stmt:=top 38
noncomputable abbrev xb:Stmt:=top 39
noncomputable abbrev xj:Stmt:=top 40
noncomputable abbrev xg:Stmt:=top 41
noncomputable abbrev yU:Stmt:=top 42
noncomputable abbrev yh:Stmt:=top 43
noncomputable abbrev yF:Stmt:=top 44
noncomputable abbrev xY:Stmt:=top 45
noncomputable abbrev xD:Stmt:=top 46
noncomputable abbrev xl:Stmt:=top 47
noncomputable abbrev xG:Stmt:=top 48
noncomputable abbrev xV:Stmt:=top 49
noncomputable abbrev Wa:Stmt:=top 50
theorem zaQ:zA ["thing"] ["thing"] (ze x3):=⟨rfl,rfl,rfl,by decide +kernel,rfl,by decide +kernel,by decide +kernel⟩
theorem Y6:zA ["thing","least","most"] ["thing","least","most"] (ze zZ):=⟨rfl,rfl,rfl,by decide +kernel,rfl,by decide +kernel,by decide +kernel⟩
theorem ZD:zA ["thing"] ["thing"] (ze yg):=⟨rfl,rfl,rfl,by decide +kernel,rfl,by decide +kernel,by decide +kernel⟩
theorem zaH:zA ["many","thing"] ["many","thing"] (ze xT):=⟨rfl,rfl,rfl,by decide +kernel,rfl,by decide +kernel,by decide +kernel⟩
theorem Vf:zA ["many","thing"] ["many","thing"] (ze xa):=⟨rfl,rfl,rfl,by decide +kernel,rfl,by decide +kernel,by decide +kernel⟩
theorem zbZ:zA ["many","thing"] ["many","thing"] (ze wN):=⟨rfl,rfl,rfl,by decide +kernel,rfl,by decide +kernel,by decide +kernel⟩
theorem Y0:zA ["many","thing","at","tie"] ["many","thing"] (ze xZ):=⟨rfl,rfl,rfl,by decide +kernel,rfl,by decide +kernel,by decide +kernel⟩
theorem zeo:zA ["thing"] ["thing"] (ze vy):=⟨rfl,rfl,rfl,by decide +kernel,rfl,by decide +kernel,by decide +kernel⟩
theorem X2:zA ["thing"] ["thing"] (ze yW):=⟨rfl,rfl,rfl,by decide +kernel,rfl,by decide +kernel,by decide +kernel⟩
theorem X1:zA ["one","other"] ["one","other"] (ze yT):=⟨rfl,rfl,rfl,by decide +kernel,rfl,by decide +kernel,by decide +kernel⟩
theorem W1:zA ["web","thing"] ["web","thing"] (ze y9):=⟨rfl,rfl,rfl,by decide +kernel,rfl,by decide +kernel,by decide +kernel⟩
theorem XW:zA ["web","thing"] ["web","thing"] (ze yD):=⟨rfl,rfl,rfl,by decide +kernel,rfl,by decide +kernel,by decide +kernel⟩
theorem zbG:zA ["web","thing"] ["web","thing"] (ze wK):=⟨rfl,rfl,rfl,by decide +kernel,rfl,by decide +kernel,by decide +kernel⟩
theorem X9:zA ["heap","step","stones"] ["heap","step"] (ze wO):=⟨rfl,rfl,rfl,by decide +kernel,rfl,by decide +kernel,by decide +kernel⟩
theorem ZL:zA ["web","heap","thing","heaps","now","at","step"] ["web","heap","thing"] (ze ZB):=⟨rfl,rfl,rfl,by decide +kernel,rfl,by decide +kernel,by decide +kernel⟩
theorem vA:zA ["web","heap","steps","told","wrong"] ["web","heap","steps"] (ze vv):=⟨rfl,rfl,rfl,by decide +kernel,rfl,by decide +kernel,by decide +kernel⟩
theorem wY:zA ["cell","k","number"] ["cell","k"] (ze xz):=⟨rfl,rfl,rfl,by decide +kernel,rfl,by decide +kernel,by decide +kernel⟩
theorem vT:zA ["web","heap","found","a","b"] ["web","heap"] (ze xX):=⟨rfl,rfl,rfl,by decide +kernel,rfl,by decide +kernel,by decide +kernel⟩
theorem Zo:zA ["heap","step","found"] ["heap","step"] (ze xb):=⟨rfl,rfl,rfl,by decide +kernel,rfl,by decide +kernel,by decide +kernel⟩
theorem xQ:zA ["e","found"] ["e"] (ze xj):=⟨rfl,rfl,rfl,by decide +kernel,rfl,by decide +kernel,by decide +kernel⟩
theorem wE:zA ["many","found","a"] ["many"] (ze xg):=⟨rfl,rfl,rfl,by decide +kernel,rfl,by decide +kernel,by decide +kernel⟩
theorem x6:zA ["many","cell","ties","k","tie"] ["many","cell"] (ze yU):=⟨rfl,rfl,rfl,by decide +kernel,rfl,by decide +kernel,by decide +kernel⟩
theorem xh:zA ["many","cell","ties","k","tie"] ["many","cell"] (ze yh):=⟨rfl,rfl,rfl,by decide +kernel,rfl,by decide +kernel,by decide +kernel⟩
theorem zQ:zA ["many","cell","most","left","heap","digits","k","stones"] ["many","cell","most"] (ze yF):=⟨rfl,rfl,rfl,by decide +kernel,rfl,by decide +kernel,by decide +kernel⟩
theorem vS:zA ["heap","steps","here","step"] ["heap","steps"] (ze xY):=⟨rfl,rfl,rfl,by decide +kernel,rfl,by decide +kernel,by decide +kernel⟩
theorem Ya:zA ["found","due","one","other"] ["found","due"] (ze xD):=⟨rfl,rfl,rfl,by decide +kernel,rfl,by decide +kernel,by decide +kernel⟩
theorem yJ:zA ["web","heap","cell","found","here","k","may","step"] ["web","heap","cell"] (ze xl):=⟨rfl,rfl,rfl,by decide +kernel,rfl,by decide +kernel,by decide +kernel⟩
theorem Z1:zA ["web","heap","steps","e"] ["web","heap","steps"] (ze xG):=⟨rfl,rfl,rfl,by decide +kernel,rfl,by decide +kernel,by decide +kernel⟩
theorem vP:zA ["web","here","number","bare","apart","some"] ["web","here","number"] (ze xV):=⟨rfl,rfl,rfl,by decide +kernel,rfl,by decide +kernel,by decide +kernel⟩
theorem Yh:zA ["script","cell","many","web","heap","steps","due","handed","found","at","bad"] ["script"] (ze Wa):=⟨rfl,rfl,rfl,by decide +kernel,rfl,by decide +kernel,by decide +kernel⟩
noncomputable abbrev wL:Stmt:=zhQ (top 12) 0
theorem zad:zA ["self","at"] ["self","at"] (ze wL):=⟨rfl,rfl,rfl,by decide +kernel,rfl,by decide +kernel,by decide +kernel⟩
set_option genInjectivity false in
set_option genSizeOf false in
set_option genCtorIdx false in
structure Adr where
  f_is_whole:Addr
  e_is_whole:FuncData
  f_is_whole_within:Addr
  e_is_whole_within:FuncData
  f_is_place_count:Addr
  e_is_place_count:FuncData
  f_is_place:Addr
  e_is_place:FuncData
  f_are_counts:Addr
  e_are_counts:FuncData
  f_is_pair:Addr
  e_is_pair:FuncData
  f_are_ties:Addr
  e_are_ties:FuncData
  f_is_web:Addr
  e_is_web:FuncData
  f_must_be_web:Addr
  e_must_be_web:FuncData
  f_tie_between:Addr
  e_tie_between:FuncData
  f_are_stones:Addr
  e_are_stones:FuncData
  f_must_be_heap:Addr
  e_must_be_heap:FuncData
  f_is_step:Addr
  e_is_step:FuncData
  f_stepped:Addr
  e_stepped:FuncData
  f_walk:Addr
  e_walk:FuncData
  f_walked:Addr
  e_walked:FuncData
  f__law_stir:Addr
  e__law_stir:FuncData
  f__law_may:Addr
  e__law_may:FuncData
  f__law_moved:Addr
  e__law_moved:FuncData
  f__law_kinds:Addr
  e__law_kinds:FuncData
  f__law_pairs:Addr
  e__law_pairs:FuncData
  f__law_web_by:Addr
  e__law_web_by:FuncData
  f__law_joined_by:Addr
  e__law_joined_by:FuncData
  f__law_heap_by:Addr
  e__law_heap_by:FuncData
  f__law_end:Addr
  e__law_end:FuncData
  f__law_same:Addr
  e__law_same:FuncData
  f__law_steps:Addr
  e__law_steps:FuncData
  f__law_came:Addr
  e__law_came:FuncData
  f__law_bad:Addr
  e__law_bad:FuncData
  f_law:Addr
  e_law:FuncData
  t_MOST_PLACES:Tok
  t_MOST_STONES:Tok
  x_NoWeb:Addr
  x_NoKind:Addr
  x_NoHeap:Addr
  x_NoPlace:Addr
  x_NoNumber:Addr
  x_NoTally:Addr
  x_NotTree:Addr
  x_NotJoined:Addr
  x_NoWeights:Addr
  x_NoRow:Addr
  x_NoSteps:Addr
  x_NoText:Addr
  x_TooGreat:Addr
  x_StoneError:Addr
  i_NoSteps:Addr
  j_NoSteps:FuncData
noncomputable def zjo (ad:Adr):List Addr:=[ad.x_NoWeb,ad.x_NoKind,ad.x_NoHeap,ad.x_NoPlace,ad.x_NoNumber,ad.x_NoTally,ad.x_NotTree,ad.x_NotJoined,ad.x_NoWeights,ad.x_NoRow,ad.x_NoSteps,ad.x_NoText,ad.x_TooGreat]
noncomputable def clT (ad:Adr)(j:Nat):Addr:=(zjo ad).getD (j % 16) 0
theorem zjq (ad:Adr)(j:Nat):clT ad j=clT ad (j % 16):=by unfold clT;rw [Nat.mod_mod]
set_option genInjectivity false in
set_option genSizeOf false in
set_option genCtorIdx false in
structure Txt (K:PySem.W.Frag) (mg:Str→Option Value) (ad:Adr):Prop where
  d_is_whole:Def K mg "is_whole" x3 ["thing"] ad.f_is_whole ad.e_is_whole
  d_is_whole_within:Def K mg "is_whole_within" zZ ["thing","least","most"] ad.f_is_whole_within ad.e_is_whole_within
  d_is_place_count:Def K mg "is_place_count" yg ["thing"] ad.f_is_place_count ad.e_is_place_count
  d_is_place:Def K mg "is_place" xT ["many","thing"] ad.f_is_place ad.e_is_place
  d_are_counts:Def K mg "are_counts" xa ["many","thing"] ad.f_are_counts ad.e_are_counts
  d_is_pair:Def K mg "is_pair" wN ["many","thing"] ad.f_is_pair ad.e_is_pair
  d_are_ties:Def K mg "are_ties" xZ ["many","thing"] ad.f_are_ties ad.e_are_ties
  d_is_web:Def K mg "is_web" vy ["thing"] ad.f_is_web ad.e_is_web
  d_must_be_web:Def K mg "must_be_web" yW ["thing"] ad.f_must_be_web ad.e_must_be_web
  d_tie_between:Def K mg "tie_between" yT ["one","other"] ad.f_tie_between ad.e_tie_between
  d_are_stones:Def K mg "are_stones" y9 ["web","thing"] ad.f_are_stones ad.e_are_stones
  d_must_be_heap:Def K mg "must_be_heap" yD ["web","thing"] ad.f_must_be_heap ad.e_must_be_heap
  d_is_step:Def K mg "is_step" wK ["web","thing"] ad.f_is_step ad.e_is_step
  d_stepped:Def K mg "stepped" wO ["heap","step"] ad.f_stepped ad.e_stepped
  d_walk:Def K mg "walk" ZB ["web","heap","thing"] ad.f_walk ad.e_walk
  d_walked:Def K mg "walked" vv ["web","heap","steps"] ad.f_walked ad.e_walked
  d__law_stir:Def K mg "_law_stir" xz ["cell","k"] ad.f__law_stir ad.e__law_stir
  d__law_may:Def K mg "_law_may" xX ["web","heap"] ad.f__law_may ad.e__law_may
  d__law_moved:Def K mg "_law_moved" xb ["heap","step"] ad.f__law_moved ad.e__law_moved
  d__law_kinds:Def K mg "_law_kinds" xj ["e"] ad.f__law_kinds ad.e__law_kinds
  d__law_pairs:Def K mg "_law_pairs" xg ["many"] ad.f__law_pairs ad.e__law_pairs
  d__law_web_by:Def K mg "_law_web_by" yU ["many","cell"] ad.f__law_web_by ad.e__law_web_by
  d__law_joined_by:Def K mg "_law_joined_by" yh ["many","cell"] ad.f__law_joined_by ad.e__law_joined_by
  d__law_heap_by:Def K mg "_law_heap_by" yF ["many","cell","most"] ad.f__law_heap_by ad.e__law_heap_by
  d__law_end:Def K mg "_law_end" xY ["heap","steps"] ad.f__law_end ad.e__law_end
  d__law_same:Def K mg "_law_same" xD ["found","due"] ad.f__law_same ad.e__law_same
  d__law_steps:Def K mg "_law_steps" xl ["web","heap","cell"] ad.f__law_steps ad.e__law_steps
  d__law_came:Def K mg "_law_came" xG ["web","heap","steps"] ad.f__law_came ad.e__law_came
  d__law_bad:Def K mg "_law_bad" xV ["web","here","number"] ad.f__law_bad ad.e__law_bad
  d_law:Def K mg "law" Wa ["script"] ad.f_law ad.e_law
  g_MOST_PLACES:mg "MOST_PLACES"=some (Value.int 8 ad.t_MOST_PLACES)
  g_MOST_STONES:mg "MOST_STONES"=some (Value.int 300 ad.t_MOST_STONES)
  z_ValueError:mg "ValueError"=none
  z_all:mg "all"=none
  z_bool:mg "bool"=none
  z_enumerate:mg "enumerate"=none
  z_int:mg "int"=none
  z_isinstance:mg "isinstance"=none
  z_len:mg "len"=none
  z_list:mg "list"=none
  z_max:mg "max"=none
  z_min:mg "min"=none
  z_range:mg "range"=none
  z_sorted:mg "sorted"=none
  z_str:mg "str"=none
  z_sum:mg "sum"=none
  z_tuple:mg "tuple"=none
  z_zip:mg "zip"=none
  g_NoWeb:mg "NoWeb"=some (Value.ref ad.x_NoWeb)
  g_NoKind:mg "NoKind"=some (Value.ref ad.x_NoKind)
  g_NoHeap:mg "NoHeap"=some (Value.ref ad.x_NoHeap)
  g_NoPlace:mg "NoPlace"=some (Value.ref ad.x_NoPlace)
  g_NoNumber:mg "NoNumber"=some (Value.ref ad.x_NoNumber)
  g_NoTally:mg "NoTally"=some (Value.ref ad.x_NoTally)
  g_NotTree:mg "NotTree"=some (Value.ref ad.x_NotTree)
  g_NotJoined:mg "NotJoined"=some (Value.ref ad.x_NotJoined)
  g_NoWeights:mg "NoWeights"=some (Value.ref ad.x_NoWeights)
  g_NoRow:mg "NoRow"=some (Value.ref ad.x_NoRow)
  g_NoSteps:mg "NoSteps"=some (Value.ref ad.x_NoSteps)
  g_NoText:mg "NoText"=some (Value.ref ad.x_NoText)
  g_TooGreat:mg "TooGreat"=some (Value.ref ad.x_TooGreat)
  g_StoneError:mg "StoneError"=some (Value.ref ad.x_StoneError)
  y_NoSteps:zbl K (zjo ad) ad.x_StoneError ad.x_NoSteps 10=true
  fi_NoSteps:Fun K "__init__" "NoSteps.__init__" wL ad.i_NoSteps ad.j_NoSteps
  bi_NoSteps:Zr K ad.j_NoSteps ["self","at"] []
  ei_NoSteps:zh1 K ad.x_NoSteps ad.i_NoSteps=true
  ea_NoSteps:V4 K ad.x_NoSteps=true
  na_NoSteps:zjB K ad.x_NoSteps ["at"]=true
theorem zjR:(["part","many","thing"]:List Str).Nodup:=by decide +kernel
theorem zkc:(["b","many","found","a"]:List Str).Nodup:=by decide +kernel
theorem zjJ:(["other","many","cell","ties","k","tie"]:List Str).Nodup:=by decide +kernel
theorem zj8:(["tie","web","here","number","bare","apart","some"]:List Str).Nodup:=by decide +kernel
theorem zfj:(["a","b","web","here","number","bare","apart","some"]:List Str).Nodup:=by decide +kernel
theorem zjW:(["k","script","cell","many","web","heap","steps","due","handed","found","at","bad"]:List Str).Nodup:=by decide +kernel
noncomputable def Zq:D→Bool
  | .int _=>true
  | _=>false
noncomputable def y8 (d:D)(lo hi:Int):Bool:=match d with
  | .int i=>decide (lo≤i)&&decide (i≤hi)
  | _=>false
section
variable {P:Program}{w:World}{K:PySem.W.Frag}{mg:Str→Option Value}{base:Heap}{ad:Adr}
noncomputable def yt:List D→Option D
  | [d]=>if noS d=true then some (.bl (Zq d)) else none
  | _=>none
noncomputable def Zx:SE→Ctl :=
  (yC (wa (eUn (zR .int) (zf 0)) (vF (eUn (zR .bool) (zf 0)))))
noncomputable def zbQ:List D→Option D:=fnD 1 Zx
theorem ziZ {α:Type}{ds:List α}(h:ds.length=1):∃ a,ds=[a]:=by match ds,h with | [a],_=>exact ⟨a,rfl⟩
theorem zer {α:Type}{ds:List α}(h:ds.length=2):∃ a b,ds=[a,b]:=by match ds,h with | [a,b],_=>exact ⟨a,b,rfl⟩
theorem len3 {α:Type}{ds:List α}(h:ds.length=3):∃ a b c,ds=[a,b,c]:=by match ds,h with | [a,b,c],_=>exact ⟨a,b,c,rfl⟩
theorem ifS {c:Bool}{x y:D}(h:(if c=true then some x else none)=some y):c=true∧x=y:=by
  split at h
  · cases h
    exact ⟨by assumption,rfl⟩
  · cases h
theorem zaf:∀ ds d,ds.length=1→yt ds=some d→zbQ ds=some d:=by
  intro ds d hl h
  obtain ⟨a,rfl⟩:=ziZ hl
  obtain ⟨hn,rfl⟩:=ifS h
  cases a <;> first | rfl | cases hn
theorem Xx (T:Txt K mg ad):xk P w K mg base CX0 1 ad.f_is_whole ad.e_is_whole ["thing"] (@spD ⟨K⟩ 1 yt):=by
  letI:KK:=⟨K⟩
  refine w8 (xU (N:=["thing"]) (ps:=["thing"]) T.d_is_whole.fn zaQ (g:=Zx) fun cdv A outer s H E hr=>?_) zaf
  unfold Zx
  exact (zn (zO (vU (zT .int rfl T.z_isinstance (zb 0 (pv 0)) (yN (v:=.ty "int") rfl T.z_int zdb rfl)) (YI (zf2 (zT .bool rfl T.z_isinstance (zb 0 (pv 0)) (yN (v:=.ty "bool") rfl T.z_bool W4 rfl)))))))
noncomputable def yE:SE→Ctl :=
  (yC (wa (zq 1 yt (zc (zf 0) zw)) (zP leD leD (zf 1) (zf 0) (zf 2))))
noncomputable def vt:List D→Option D:=fnD 3 yE
noncomputable def zM:List D→Option D
  | [d,.int lo,.int hi]=>if noS d=true then some (.bl (y8 d lo hi)) else none
  | _=>none
theorem Vb {a:D}{lo hi:Int}(hn:noS a=true)(hw:Zq a=false):vt [a,.int lo,.int hi]=some (.bl false):=by
  have e:yt [a]=some (.bl false):=by
    show (if noS a=true then some (D.bl (Zq a)) else none)=_
    rw [if_pos hn,hw]
  refine Vh (ρ:=[.v a,.v (.int lo),.v (.int hi)]) rfl ?_
  unfold yE
  refine Y1 (YX ?_) rfl
  show (((yt [a]).bind asB).bind fun c=>if c=true then _ else some (D.bl false))=_
  rw [e]
  rfl
theorem Zb:∀ ds d,ds.length=3→zM ds=some d→vt ds=some d:=by
  intro ds d hl h
  obtain ⟨a,b,c,rfl⟩:=len3 hl
  cases b <;> try cases h
  cases c <;> try cases h
  rename_i lo hi
  obtain ⟨hn,rfl⟩:=ifS h
  cases a with
  | scr _=>cases hn
  | int i =>
    refine Vh (ρ:=[.v (.int i),.v (.int lo),.v (.int hi)]) rfl ?_
    unfold yE
    refine Y1 (YX ?_) rfl
    show (if decide (lo≤i)=true then some (D.bl (decide (i≤hi))) else some (.bl false))=some (.bl (decide (lo≤i)&&decide (i≤hi)))
    cases decide (lo≤i) <;> rfl
  | tup es=>exact Vb hn rfl
  | lst es=>exact Vb hn rfl
  | dct z t ks vs=>exact Vb hn rfl
  | non=>rfl
  | bl _=>rfl
  | str _=>rfl
theorem vc (T:Txt K mg ad):xk P w K mg base CX0 2 ad.f_is_whole_within ad.e_is_whole_within ["thing","least","most"] (@spD ⟨K⟩ 3 zM):=by
  letI:KK:=⟨K⟩
  have G_is_whole:=Xx (P:=P) (w:=w) (base:=base) T
  refine w8 (xU (N:=["thing","least","most"]) (ps:=["thing","least","most"]) T.d_is_whole_within.fn Y6 (g:=yE) fun cdv A outer s H E hr=>?_) Zb
  unfold yE
  exact (zn (zO (vU (zu (G_is_whole.mono (by decide)) hr rfl T.d_is_whole.at_ T.d_is_whole.kp T.d_is_whole.bd (za (zb 0 (pv 0)) zh)) (YI (zfz zcB zcB xP xP (zb 1 (pv 1)) (zb 0 (pv 0)) (zb 2 (pv 2)) (fun a b c=>zfv zcB zcB a b c))))))
noncomputable def xu:SE→Ctl :=
  (yC (zq 3 zM (zc (zf 0) (zc (eC (.int 1)) (zc (eC (.int 8)) zw)))))
noncomputable def wy:List D→Option D:=fnD 1 xu
noncomputable def yQ:List D→Option D
  | [d]=>if noS d=true then some (.bl (y8 d 1 8)) else none
  | _=>none
theorem ZA:∀ ds d,ds.length=1→yQ ds=some d→wy ds=some d:=by
  intro ds d hl h
  obtain ⟨a,rfl⟩:=ziZ hl
  have e:wy [a]=zM [a,.int 1,.int 8]:=by
    cases h2:zM [a,.int 1,.int 8] <;> simp [wy,xu,fnD,zK,yC,yX,sIf,yG,wI,sNo,zH,vY,wn,wl,vZ,wJ,vEv,visF,visG,Sl.f,Sl.g,zf,eC,zm,wa,eOr,vF,eIf,eUn,vw,xO,xr,zU,zc,zw,zq,eFn,fFn,tOf,yr,wQ,zY,asB,asI,zt,wW,x9,zV,yH,vi,yB,ltD,leD,gtD,geD,vn,zx,zE,zv,zD,vo,zz,ixD,x4,zR,isT,eSl,yl,yi,zP,yj,iOf,wA,yn,wX,wc,wv,zL,yO,fLC,yb,zF,ym,zW,vb,yf,vk,b1,b2,h2]
  rw [e]
  exact h
theorem Zu (T:Txt K mg ad):xk P w K mg base CX0 3 ad.f_is_place_count ad.e_is_place_count ["thing"] (@spD ⟨K⟩ 1 yQ):=by
  letI:KK:=⟨K⟩
  have G_is_whole_within:=vc (P:=P) (w:=w) (base:=base) T
  refine w8 (xU (N:=["thing"]) (ps:=["thing"]) T.d_is_place_count.fn ZD (g:=xu) fun cdv A outer s H E hr=>?_) ZA
  unfold xu
  exact (zn (zO (zu (G_is_whole_within.mono (by decide)) hr rfl T.d_is_whole_within.at_ T.d_is_whole_within.kp T.d_is_whole_within.bd (za (zb 0 (pv 0)) (za (zi zg) (za (zi (xw (v:=.int 8) rfl T.g_MOST_PLACES ⟨_,rfl⟩)) zh))))))
noncomputable def Ys:SE→Ctl :=
  (yC (zq 3 zM (zc (zf 1) (zc (eC (.int 0)) (zc (zm wW (zf 0) (eC (.int 1))) zw)))))
noncomputable def Zv:List D→Option D:=fnD 2 Ys
noncomputable def xA:List D→Option D
  | [.int m,d]=>if noS d=true then some (.bl (y8 d 0 (m - 1))) else none
  | _=>none
theorem zaC:∀ ds d,ds.length=2→xA ds=some d→Zv ds=some d:=by
  intro ds d hl h
  obtain ⟨a,b,rfl⟩:=zer hl
  cases a <;> try cases h
  rename_i m
  have e:Zv [.int m,b]=zM [b,.int 0,.int (m - 1)]:=by
    cases h2:zM [b,.int 0,.int (m - 1)] <;> simp [Zv,Ys,fnD,zK,yC,yX,sIf,yG,wI,sNo,zH,vY,wn,wl,vZ,wJ,vEv,visF,visG,Sl.f,Sl.g,zf,eC,zm,wa,eOr,vF,eIf,eUn,vw,xO,xr,zU,zc,zw,zq,eFn,fFn,tOf,yr,wQ,zY,asB,asI,zt,wW,x9,zV,yH,vi,yB,ltD,leD,gtD,geD,vn,zx,zE,zv,zD,vo,zz,ixD,x4,zR,isT,eSl,yl,yi,zP,yj,iOf,wA,yn,wX,wc,wv,zL,yO,fLC,yb,zF,ym,zW,vb,yf,vk,b1,b2,h2]
  rw [e]
  exact h
theorem zay (T:Txt K mg ad):xk P w K mg base CX0 3 ad.f_is_place ad.e_is_place ["many","thing"] (@spD ⟨K⟩ 2 xA):=by
  letI:KK:=⟨K⟩
  have G_is_whole_within:=vc (P:=P) (w:=w) (base:=base) T
  refine w8 (xU (N:=["many","thing"]) (ps:=["many","thing"]) T.d_is_place.fn zaH (g:=Ys) fun cdv A outer s H E hr=>?_) zaC
  unfold Ys
  exact (zn (zO (zu (G_is_whole_within.mono (by decide)) hr rfl T.d_is_whole_within.at_ T.d_is_whole_within.kp T.d_is_whole_within.bd (za (zb 1 (pv 1)) (za (zi zg) (za (VG (zb 0 (pv 0)) (zi zg)) zh))))))
theorem zgR {d:D}{lo hi:Int}(h:∀ i,d≠.int i):y8 d lo hi=false:=by
  cases d <;> first | rfl | exact absurd rfl (h _)
theorem Vv {d:D}{lo hi:Int}(h:y8 d lo hi=true):∃ i,d=.int i:=by
  cases d with
  | int i=>exact ⟨i,rfl⟩
  | _=>cases h
noncomputable def Zj:SE→Ctl :=
  (zK (sIf (wQ (zY (tOf (eUn (zR .tuple) (zf 1)))) (tOf (zm neD (eFn x4 (zc (zf 1) zw)) (eC (.int 2))))) (yC (eC (.bl false))) zH)
    (yC (wa (zq 2 xA (zc (zf 0) (zc (zm ixD (zf 1) (eC (.int 0))) zw))) (wa (zq 2 xA (zc (zf 0) (zc (zm ixD (zf 1) (eC (.int 1))) zw))) (zm neD (zm ixD (zf 1) (eC (.int 0))) (zm ixD (zf 1) (eC (.int 1))))))))
noncomputable def zcP:List D→Option D:=fnD 2 Zj
noncomputable def y6:List D→Option D
  | [.int m,d]=>if noS d=true then some (.bl (ww m d)) else none
  | _=>none
theorem zeR {m:Int}{x y:D}(h:y8 x 0 (m - 1)=false):ww m (.tup [x,y])=false:=by
  cases x with
  | int i =>
    cases y with
    | int j =>
      show (inR m i&&inR m j&&!decide (i=j))=false
      rw [show inR m i=false from h]
      rfl
    | _=>rfl
  | _=>rfl
theorem zfA {m:Int}{x y:D}(h:y8 y 0 (m - 1)=false):ww m (.tup [x,y])=false:=by
  cases x with
  | int i =>
    cases y with
    | int j =>
      show (inR m i&&inR m j&&!decide (i=j))=false
      rw [show inR m j=false from h,Bool.and_false]
      rfl
    | _=>rfl
  | _=>rfl
theorem zce:∀ ds d,ds.length=2→y6 ds=some d→zcP ds=some d:=by
  intro ds d hl h
  obtain ⟨a,b,rfl⟩:=zer hl
  cases a <;> try cases h
  rename_i m
  obtain ⟨hn,rfl⟩:=ifS h
  clear h
  cases b with
  | tup es =>
    refine Vh (ρ:=[.v (.int m),.v (.tup es)]) rfl ?_
    unfold Zj
    by_cases hl:es.length=2
    · obtain ⟨x,y,rfl⟩:=zer hl
      have hx:noS x=true:=vK (ds:=[x,y]) (i:=0) hn rfl
      have hy:noS y=true:=vK (ds:=[x,y]) (i:=1) hn rfl
      have e0:xA [.int m,x]=some (.bl (y8 x 0 (m - 1))):=by
        show (if noS x=true then some (D.bl (y8 x 0 (m - 1))) else none)=_
        rw [if_pos hx]
      have e1:xA [.int m,y]=some (.bl (y8 y 0 (m - 1))):=by
        show (if noS y=true then some (D.bl (y8 y 0 (m - 1))) else none)=_
        rw [if_pos hy]
      refine zB (ρ':=[.v (.int m),.v (.tup [x,y])]) rfl (Y1 (YX ?_) rfl)
      show (((xA [.int m,x]).bind asB).bind fun c=>if c=true then (((xA [.int m,y]).bind asB).bind fun c=>if c=true then neD x y else some (D.bl false)) else some (D.bl false))=_
      rw [e0,e1]
      cases h1:y8 x 0 (m - 1) with
      | false=>rw [zeR h1];rfl
      | true =>
        cases h2:y8 y 0 (m - 1) with
        | false=>rw [zfA h2];rfl
        | true =>
          obtain ⟨i,rfl⟩:=Vv h1
          obtain ⟨j,rfl⟩:=Vv h2
          show some (D.bl (!decide (i=j)))=some (.bl (inR m i&&inR m j&&!decide (i=j)))
          rw [show inR m i=true from h1,show inR m j=true from h2]
          rfl
    · have e:ww m (.tup es)=false:=by
        unfold ww YK
        split
        · rename_i t ht
          split at ht
          · rename_i e'
            injection e' with e'
            rw [e'] at hl
            exact absurd rfl hl
          · cases ht
        · rfl
      rw [e]
      refine xt (Zs (c:=true) ?_ (fun _=>Y1 rfl rfl) fun z=>by cases z)
      show some (!decide ((es.length:Int)=2))=_
      rw [decide_eq_false (show ¬ (es.length:Int)=2 from fun h=>hl (Int.ofNat.inj h))]
      rfl
  | scr _=>cases hn
  | _=>rfl
theorem Ws (T:Txt K mg ad):xk P w K mg base CX0 4 ad.f_is_pair ad.e_is_pair ["many","thing"] (@spD ⟨K⟩ 2 y6):=by
  letI:KK:=⟨K⟩
  have G_is_place:=zay (P:=P) (w:=w) (base:=base) T
  refine w8 (xU (N:=["many","thing"]) (ps:=["many","thing"]) T.d_is_pair.fn zbZ (g:=Zj) fun cdv A outer s H E hr=>?_) zce
  unfold Zj
  exact (zj (wx (zep (zap (vV (wR (zT .tuple rfl T.z_isinstance (zb 1 (pv 1)) (yN (v:=.ty "tuple") rfl T.z_tuple xv rfl)))) (XJ (yA WA ZN (zS _) (yL yd vf rfl T.z_len YJ (za (zb 1 (pv 1)) zh)) (zi zg))))) (zn (zO (Yd vM))) ya)
      (zn (zO (vU (zu (G_is_place.mono (by decide)) hr rfl T.d_is_place.at_ T.d_is_place.kp T.d_is_place.bd (za (zb 0 (pv 0)) (za (yo (zb 1 (pv 1)) (zi zg) (fun _ _=>rfl)) zh))) (vU (zu (G_is_place.mono (by decide)) hr rfl T.d_is_place.at_ T.d_is_place.kp T.d_is_place.bd (za (zb 0 (pv 0)) (za (yo (zb 1 (pv 1)) (zi zg) (fun _ _=>rfl)) zh))) (YI (ZP WA ZN (zS _) (yo (zb 1 (pv 1)) (zi zg) (fun _ _=>rfl)) (yo (zb 1 (pv 1)) (zi zg) (fun _ _=>rfl)))))))))
end
section
variable {P:Program}{w:World}{K:PySem.W.Frag}{mg:Str→Option Value}{base:Heap}{ad:Adr}
noncomputable def VR (ds:List D):Nat→Option Tie
  | 0=>none
  | k+1=>(ds[k]?).bind YK
noncomputable def v5:SE→Ctl :=
  (zK (sIf (wQ (zY (tOf (zq 2 y6 (zc (zf 0) (zc (zf 3) zw))))) (tOf (zm gtD (zm ixD (zf 3) (eC (.int 0))) (zm ixD (zf 3) (eC (.int 1)))))) (yC (eC (.bl false))) zH)
    (sIf (yr (tOf (zm gtD (zf 2) (eC (.int 0)))) (tOf (zm leT (zf 3) (zm ixD (zf 1) (zm wW (zf 2) (eC (.int 1))))))) (yC (eC (.bl false))) zH))
noncomputable def vp:SE→Ctl :=
  (zK (sIf (zY (tOf (eUn (zR .tuple) (zf 1)))) (yC (eC (.bl false))) zH)
    (zK (wA (zL (zc (zf 1) zw)) (vb 2 (yf (zW 2) (yf (zW 3) vk))) v5)
    (yC (eC (.bl true)))))
noncomputable def zcf:List D→Option D:=fnD 4 vp
noncomputable def vq:List D→Option D
  | [.int m,d]=>if noS d=true then some (.bl (Yw m d)) else none
  | _=>none
theorem X5 {m:Int}{d:D}(h:ww m d=true):∃ t,d=zd t:=by
  unfold ww at h
  split at h
  · rename_i t ht
    exact ⟨t,Xn ht⟩
  · cases h
theorem zaD:∀ ds d,ds.length=2→vq ds=some d→zcf ds=some d:=by
  intro ds d hl h
  obtain ⟨a,b,rfl⟩:=zer hl
  cases a <;> try cases h
  rename_i m
  obtain ⟨hn,rfl⟩:=ifS h
  clear h hl
  cases b with
  | scr _=>cases hn
  | tup es =>
    refine Vh (g:=vp) rfl ?_
    unfold vp
    refine zB rfl ?_
    refine xt (V7 (ds:=Xj 0 es) (fun i ρ=>∃ o1 o2,ρ=[.v (.int m),.v (.tup es),o1,o2]∧yK m none es=yK m (VR es i) (es.drop i)∧∀ k,i=k+1→∃ p,es[k]?=some (zd p)) rfl
      ⟨.no,.no,rfl,rfl,fun k e=>by cases e⟩ ?_ ?_)
    · rintro i d ρ hd ⟨o1,o2,rfl,hp,hk⟩
      rw [v8] at hd
      obtain ⟨dx,hdx,rfl⟩:=Option.map_eq_some_iff.mp hd
      rw [Nat.zero_add]
      refine ⟨_,rfl,?_⟩
      have hdrop:es.drop i=dx::es.drop (i+1):=by
        obtain ⟨h1,h2⟩:=List.getElem?_eq_some_iff.mp hdx
        rw [List.drop_eq_getElem_cons h1,h2]
      have hnx:noS dx=true:=vK hn hdx
      unfold v5
      cases hpr:ww m dx with
      | false =>
        have e1:y6 [.int m,dx]=some (.bl false):=by
          show (if noS dx=true then some (D.bl (ww m dx)) else none)=_
          rw [if_pos hnx,hpr]
        refine xt (Zs (c:=true) (show (((y6 [.int m,dx]).bind asB).map (!·)).bind (fun c=>if c=true then some true else _)=_ by rw [e1];rfl) (fun _=>Y1 rfl ?_) (fun z=>by cases z))
        have e:yK m none es=false:=by
          rw [hp,hdrop]
          unfold yK
          split
          · rw [hpr];rfl
          · rfl
        show D.bl false=.bl (yK m none es)
        rw [e]
      | true =>
        obtain ⟨t,rfl⟩:=X5 hpr
        have e1:y6 [.int m,zd t]=some (.bl true):=by
          show (if noS (zd t)=true then some (D.bl (ww m (zd t))) else none)=_
          rw [if_pos hnx,hpr]
        have step:yK m none es=(!decide (t.2 < t.1)&&VW (VR es i) t&&yK m (some t) (es.drop (i+1))):=by
          rw [hp,hdrop]
          conv=>lhs;unfold yK
          rw [Yb,hpr]
          rfl
        have prevS:VR es (i+1)=some t:=by
          show (es[i]?).bind YK=some t
          rw [hdx]
          rfl
        refine xt (Zs (c:=decide (t.2 < t.1)) (show (((y6 [.int m,zd t]).bind asB).map (!·)).bind (fun c=>if c=true then some true else some (decide (t.2 < t.1)))=_ by rw [e1];rfl) (fun c=>Y1 rfl ?_) (fun c=>Yv rfl ?_))
        · show D.bl false=.bl (yK m none es)
          rw [step,c]
          rfl
        · cases i with
          | zero =>
            refine Zs (c:=false) rfl (fun z=>by cases z) (fun _=>Yv rfl ?_)
            refine ⟨_,_,rfl,?_,fun k e=>?_⟩
            · rw [prevS,step,c]
              rfl
            · cases e
              exact ⟨t,hdx⟩
          | succ j =>
            obtain ⟨p,hpk⟩:=hk j rfl
            have prevK:VR es (j+1)=some p:=by
              show (es[j]?).bind YK=some p
              rw [hpk]
              rfl
            rw [prevK] at step
            have ea:atI es ((((j+1:Nat):Int)) - 1)=some (zd p):=by
              rw [show (((j+1:Nat):Int)) - 1=(j:Nat) from Int.add_sub_cancel (j:Int) 1]
              exact zem hpk
            have okP:VW (some p) t=!leP t p:=rfl
            refine Zs (c:=leP t p) ?_ (fun c2=>Y1 rfl ?_) (fun c2=>Yv rfl ?_)
            · have z:decide ((0:Int) < ((j+1:Nat):Int))=true:=decide_eq_true (Int.natCast_pos.mpr (Nat.succ_pos j))
              show ((some (decide ((0:Int) < ((j+1:Nat):Int)))).bind fun c=>if c=true then (((atI es (((j+1:Nat):Int) - 1)).bind fun y=>leT (zd t) y).bind asB) else some false)=_
              rw [z,ea]
              rfl
            · show D.bl false=.bl (yK m none es)
              rw [step,okP,c2,c]
              rfl
            · refine ⟨_,_,rfl,?_,fun k' e=>?_⟩
              · rw [prevS,step,okP,c2,c]
                rfl
              · cases e
                exact ⟨t,hdx⟩
    · rintro ρ ⟨o1,o2,rfl,hp,hk⟩
      refine Y1 rfl ?_
      show D.bl true=.bl (yK m none es)
      rw [hp,ve,List.drop_length]
      cases VR es es.length <;> rfl
  | _=>rfl
theorem zaW (T:Txt K mg ad):xk P w K mg base CX0 5 ad.f_are_ties ad.e_are_ties ["many","thing"] (@spD ⟨K⟩ 2 vq):=by
  letI:KK:=⟨K⟩
  have G_is_pair:=Ws (P:=P) (w:=w) (base:=base) T
  refine w8 (xU (N:=["many","thing","at","tie"]) (ps:=["many","thing"]) T.d_are_ties.fn Y0 (g:=vp) fun cdv A outer s H E hr=>?_) zaD
  unfold vp v5
  exact (zj (wx (vV (wR (zT .tuple rfl T.z_isinstance (zb 1 (pv 1)) (yN (v:=.ty "tuple") rfl T.z_tuple xv rfl)))) (zn (zO (Yd vM))) ya)
      (zj (Wn PassesOwn.never rfl (zal rfl T.z_enumerate Yl (za (zb 1 (pv 1)) zh)) (VX rfl (x8 (xn (zX (i:=2) Y0.nd rfl (Or.inl rfl))) (x8 (xn (zX (i:=3) Y0.nd rfl (Or.inl rfl))) XF))) (zj (wx (zep (zap (vV (wR (zu (G_is_pair.mono (by decide)) hr rfl T.d_is_pair.at_ T.d_is_pair.kp T.d_is_pair.bd (za (zb 0 (pv 0)) (za (zb 3 (pv 3)) zh))))) (XJ (yA zfw xP (zS _) (yo (zb 3 (pv 3)) (zi zg) (fun _ _=>rfl)) (yo (zb 3 (pv 3)) (zi zg) (fun _ _=>rfl)))))) (zn (zO (Yd vM))) ya)
      (zn (wx (zep (zcG (yA zfw xP (zS _) (zb 2 (pv 2)) (zi zg)) (zau (yA (zje hr.units0) zgo (zS _) (zb 3 (pv 3)) (yo (zb 1 (pv 1)) (VG (zb 2 (pv 2)) (zi zg)) (fun _ _=>rfl)))))) (zn (zO (Yd vM))) ya))))
      (zn (zO (Yd vM)))))
noncomputable def Yr:SE→Ctl :=
  (zK (sIf (wQ (zY (tOf (eUn (zR .tuple) (zf 0)))) (tOf (zm neD (eFn x4 (zc (zf 0) zw)) (eC (.int 2))))) (yC (eC (.bl false))) zH)
    (yC (wa (zq 1 yQ (zc (zm ixD (zf 0) (eC (.int 0))) zw)) (zq 2 vq (zc (zm ixD (zf 0) (eC (.int 0))) (zc (zm ixD (zf 0) (eC (.int 1))) zw))))))
noncomputable def Xf:List D→Option D:=fnD 1 Yr
noncomputable def Zh:List D→Option D
  | [d]=>if noS d=true then some (.bl (YE d)) else none
  | _=>none
theorem zdi {x y:D}:YE (.tup [x,y])=(y8 x 1 8&&match x with | .int m=>Yw m y | _=>false):=by
  cases x <;> rfl
theorem zdg:∀ ds d,ds.length=1→Zh ds=some d→Xf ds=some d:=by
  intro ds d hl h
  obtain ⟨a,rfl⟩:=ziZ hl
  obtain ⟨hn,rfl⟩:=ifS h
  clear h hl
  cases a with
  | scr _=>cases hn
  | tup es =>
    by_cases hl:es.length=2
    · obtain ⟨x,y,rfl⟩:=zer hl
      have hx:noS x=true:=vK (ds:=[x,y]) (i:=0) hn rfl
      have hy:noS y=true:=vK (ds:=[x,y]) (i:=1) hn rfl
      have ec:yQ [x]=some (.bl (y8 x 1 8)):=by simp [yQ,hx]
      rw [zdi]
      by_cases ix:∃ i,x=.int i
      · obtain ⟨i,rfl⟩:=ix
        have et:vq [.int i,y]=some (.bl (Yw i y)):=by simp [vq,hy]
        cases hc:y8 (.int i) 1 8 <;> rw [hc] at ec <;> simp [Xf,Yr,fnD,zK,yC,yX,sIf,yG,wI,sNo,zH,vY,wn,wl,vZ,wJ,vEv,visF,visG,Sl.f,Sl.g,zf,eC,zm,wa,eOr,vF,eIf,eUn,vw,xO,xr,zU,zc,zw,zq,eFn,fFn,tOf,yr,wQ,zY,asB,asI,zt,wW,x9,zV,yH,vi,yB,ltD,leD,gtD,geD,vn,zx,zE,zv,zD,vo,zz,ixD,x4,zR,isT,eSl,yl,yi,zP,yj,iOf,wA,yn,wX,wc,wv,zL,yO,fLC,yb,zF,ym,zW,vb,yf,vk,b1,b2,ec,et,atI,ixN]
      · have n2:y8 x 1 8=false:=zgR fun j hj=>ix ⟨j,hj⟩
        rw [n2] at ec ⊢
        simp [Xf,Yr,fnD,zK,yC,yX,sIf,yG,wI,sNo,zH,vY,wn,wl,vZ,wJ,vEv,visF,visG,Sl.f,Sl.g,zf,eC,zm,wa,eOr,vF,eIf,eUn,vw,xO,xr,zU,zc,zw,zq,eFn,fFn,tOf,yr,wQ,zY,asB,asI,zt,wW,x9,zV,yH,vi,yB,ltD,leD,gtD,geD,vn,zx,zE,zv,zD,vo,zz,ixD,x4,zR,isT,eSl,yl,yi,zP,yj,iOf,wA,yn,wX,wc,wv,zL,yO,fLC,yb,zF,ym,zW,vb,yf,vk,b1,b2,ec,atI,ixN]
    · have e:YE (.tup es)=false:=zgF fun m ties h _=>by
        unfold yy at h
        injection h with h
        rw [h] at hl
        exact hl rfl
      rw [e]
      have:¬ (es.length:Int)=2:=by omega
      simp [Xf,Yr,fnD,zK,yC,yX,sIf,yG,wI,sNo,zH,vY,wn,wl,vZ,wJ,vEv,visF,visG,Sl.f,Sl.g,zf,eC,zm,wa,eOr,vF,eIf,eUn,vw,xO,xr,zU,zc,zw,zq,eFn,fFn,tOf,yr,wQ,zY,asB,asI,zt,wW,x9,zV,yH,vi,yB,ltD,leD,gtD,geD,vn,zx,zE,zv,zD,vo,zz,ixD,x4,zR,isT,eSl,yl,yi,zP,yj,iOf,wA,yn,wX,wc,wv,zL,yO,fLC,yb,zF,ym,zW,vb,yf,vk,b1,b2,this]
  | _=>rfl
theorem zdS (T:Txt K mg ad):xk P w K mg base CX0 6 ad.f_is_web ad.e_is_web ["thing"] (@spD ⟨K⟩ 1 Zh):=by
  letI:KK:=⟨K⟩
  have G_is_place_count:=Zu (P:=P) (w:=w) (base:=base) T
  have G_are_ties:=zaW (P:=P) (w:=w) (base:=base) T
  refine w8 (xU (N:=["thing"]) (ps:=["thing"]) T.d_is_web.fn zeo (g:=Yr) fun cdv A outer s H E hr=>?_) zdg
  unfold Yr
  exact (zj (wx (zep (zap (vV (wR (zT .tuple rfl T.z_isinstance (zb 0 (pv 0)) (yN (v:=.ty "tuple") rfl T.z_tuple xv rfl)))) (XJ (yA WA ZN (zS _) (yL yd vf rfl T.z_len YJ (za (zb 0 (pv 0)) zh)) (zi zg))))) (zn (zO (Yd vM))) ya)
      (zn (zO (vU (zu (G_is_place_count.mono (by decide)) hr rfl T.d_is_place_count.at_ T.d_is_place_count.kp T.d_is_place_count.bd (za (yo (zb 0 (pv 0)) (zi zg) (fun _ _=>rfl)) zh)) (YI (zu (G_are_ties.mono (by decide)) hr rfl T.d_are_ties.at_ T.d_are_ties.kp T.d_are_ties.bd (za (yo (zb 0 (pv 0)) (zi zg) (fun _ _=>rfl)) (za (yo (zb 0 (pv 0)) (zi zg) (fun _ _=>rfl)) zh))))))))
theorem zgi (m:Int)(ts:List Tie):noS (yy m ts)=true:=by
  have:∀ ts:List Tie,zet (ts.map zd)=true:=by
    intro ts
    induction ts with
    | nil=>rfl
    | cons t ts ih=>show (noS (zd t)&&zet (ts.map zd))=true;rw [ih];rfl
  show (noS (.int m)&&(noS (.tup (ts.map zd))&&true))=true
  rw [show noS (.tup (ts.map zd))=zet (ts.map zd) from rfl,this ts]
  rfl
noncomputable def wF:SE→Ctl :=
  (sIf (zY (tOf (zq 1 Zh (zc (zf 0) zw)))) sNo zH)
noncomputable def Zn:List D→Option D:=fnD 1 wF
noncomputable def xf:List D→Option D
  | [d]=>if YE d=true then some .non else none
  | _=>none
theorem XY:∀ ds d,ds.length=1→xf ds=some d→Zn ds=some d:=by
  intro ds d hl h
  obtain ⟨a,rfl⟩:=ziZ hl
  obtain ⟨hw,rfl⟩:=ifS h
  obtain ⟨m,ts,rfl,_⟩:=(ZJ a).mp hw
  have e:Zh [yy m ts]=some (.bl true):=by simp [Zh,zgi m ts,hw]
  simp [Zn,wF,fnD,zK,yC,yX,sIf,yG,wI,sNo,zH,vY,wn,wl,vZ,wJ,vEv,visF,visG,Sl.f,Sl.g,zf,eC,zm,wa,eOr,vF,eIf,eUn,vw,xO,xr,zU,zc,zw,zq,eFn,fFn,tOf,yr,wQ,zY,asB,asI,zt,wW,x9,zV,yH,vi,yB,ltD,leD,gtD,geD,vn,zx,zE,zv,zD,vo,zz,ixD,x4,zR,isT,eSl,yl,yi,zP,yj,iOf,wA,yn,wX,wc,wv,zL,yO,fLC,yb,zF,ym,zW,vb,yf,vk,b1,b2,e]
theorem YG (T:Txt K mg ad):xk P w K mg base CX0 7 ad.f_must_be_web ad.e_must_be_web ["thing"] (@spD ⟨K⟩ 1 xf):=by
  letI:KK:=⟨K⟩
  have G_is_web:=zdS (P:=P) (w:=w) (base:=base) T
  refine w8 (xU (N:=["thing"]) (ps:=["thing"]) T.d_must_be_web.fn X2 (g:=wF) fun cdv A outer s H E hr=>?_) XY
  unfold wF
  exact (zn (wx (vV (wR (zu (G_is_web.mono (by decide)) hr rfl T.d_is_web.at_ T.d_is_web.kp T.d_is_web.bd (za (zb 0 (pv 0)) zh)))) (zn zbA) ya))
end
section
variable {P:Program}{w:World}{K:PySem.W.Frag}{mg:Str→Option Value}{base:Heap}{ad:Adr}
noncomputable def xR:D→Bool
  | .int i=>decide (0≤i)
  | _=>false
noncomputable def zjL:D→Int
  | .int i=>i
  | _=>0
noncomputable def xK (m:Int):D→Bool
  | .tup ds=>decide ((ds.length:Int)=m)&&ds.all xR
  | _=>false
theorem zeL {α:Type}(f:α→Bool)(l:List α):zi0 [.lst (l.map fun x=>.bl (f x))]=some (.bl (l.all f)):=by
  have:zgK (l.map fun x=>D.bl (f x))=some (l.map f):=by
    have:=zeJ (l.map f)
    rwa [List.map_map] at this
  show ((zgK (l.map fun x=>D.bl (f x))).bind fun bs=>some (D.bl (bs.all id)))=_
  rw [this]
  show some (D.bl ((l.map f).all id))=_
  rw [List.all_map]
  rfl
theorem zaF {ds:List D}(h:ds.all xR=true):∃ ns:List Int,ds=ns.map .int∧∀ n∈ns,0≤n:=by
  induction ds with
  | nil=>exact ⟨[],rfl,by simp⟩
  | cons d ds ih =>
    rw [List.all_cons,Bool.and_eq_true] at h
    obtain ⟨ns,rfl,hn⟩:=ih h.2
    cases d with
    | int i=>exact ⟨i::ns,rfl,fun n hm=>by
        rcases List.mem_cons.mp hm with rfl | hm
        · exact of_decide_eq_true h.1
        · exact hn n hm⟩
    | _=>exact absurd h.1 Bool.false_ne_true
theorem zcy {ns:List Int}(h:∀ n∈ns,0≤n):(ns.map D.int).all xR=true:=by
  rw [List.all_map,List.all_eq_true]
  exact fun n hn=>decide_eq_true (h n hn)
theorem zdP (ns:List Int):zjA [.tup (ns.map .int)]=some (.int ns.sum):=by
  show ((zgY (ns.map .int)).bind fun ns=>some (D.int ns.sum))=_
  rw [zex]
  rfl
noncomputable def xF:SE→Ctl :=
  (zK (sIf (wQ (zY (tOf (eUn (zR .tuple) (zf 1)))) (tOf (zm neD (eFn x4 (zc (zf 1) zw)) (zf 0)))) (yC (eC (.bl false))) zH)
    (yC (eFn zi0 (zc (xr (fLC (iOf (zf 1)) b1 yb (wa (zq 1 yt (zc (zf 0) zw)) (zm geD (zf 0) (eC (.int 0)))))) zw))))
noncomputable def ZQ:List D→Option D:=fnD 2 xF
noncomputable def wf:List D→Option D
  | [.int m,d]=>if (noS d&&decide (m≤1000))=true then some (.bl (xK m d)) else none
  | _=>none
theorem zhM {d:D}(hn:noS d=true):((yt [d]).bind asB).bind (fun c=>if c=true then geD d (.int 0) else some (.bl false))=some (.bl (xR d)):=by
  cases d with
  | scr _=>cases hn
  | tup _=>simp [yt,hn,Zq,asB,xR]
  | lst _=>simp [yt,hn,Zq,asB,xR]
  | _=>rfl
theorem WW:∀ ds d,ds.length=2→wf ds=some d→ZQ ds=some d:=by
  intro ds d hl h
  obtain ⟨a,b,rfl⟩:=zer hl
  cases a <;> try cases h
  rename_i m
  obtain ⟨hn,rfl⟩:=ifS h
  clear h hl
  rw [Bool.and_eq_true,decide_eq_true_eq] at hn
  obtain ⟨hn,hm⟩:=hn
  cases b with
  | scr _=>cases hn
  | tup es =>
    by_cases hl:(es.length:Int)=m
    · have e:fLC (iOf (zf 1)) b1 yb (wa (zq 1 yt (zc (zf 0) zw)) (zm geD (zf 0) (eC (.int 0)))) [some (.int m),some (.tup es)]=some (es.map fun d=>.bl (xR d)):=by
        unfold fLC
        show (if lim es.length=true then _ else none)=_
        rw [if_pos (vB (by omega))]
        have:=WU (b:=b1) (t:=yb) (f:=wa (zq 1 yt (zc (zf 0) zw)) (zm geD (zf 0) (eC (.int 0)))) (ρ:=[some (.int m),some (.tup es)]) id (fun d=>.bl (xR d)) es
          (fun d hd=>⟨[some d],rfl,rfl,zhM (by obtain ⟨j,hj,rfl⟩:=List.getElem_of_mem hd;exact vK (i:=j) hn (by simp [hj]))⟩)
        rwa [List.map_id] at this
      show fnD 2 xF _=_
      refine Vh rfl ?_
      unfold xF
      refine xt (Zs (c:=false) (by simp [fnD,zK,yC,yX,sIf,yG,wI,sNo,zH,vY,wn,wl,vZ,wJ,vEv,visF,visG,Sl.f,Sl.g,zf,eC,zm,wa,eOr,vF,eIf,eUn,vw,xO,xr,zU,zc,zw,zq,eFn,fFn,tOf,yr,wQ,zY,asB,asI,zt,wW,x9,zV,yH,vi,yB,ltD,leD,gtD,geD,vn,zx,zE,zv,zD,vo,zz,ixD,x4,zR,isT,eSl,yl,yi,zP,yj,iOf,wA,yn,wX,wc,wv,zL,yO,fLC,yb,zF,ym,zW,vb,yf,vk,b1,b2,hl]) (fun z=>by cases z) fun _=>Yv rfl (Y1 (d:=.bl (es.all xR)) ?_ ?_))
      · show (match (((fLC (iOf (zf 1)) b1 yb (wa (zq 1 yt (zc (zf 0) zw)) (zm geD (zf 0) (eC (.int 0)))) [some (.int m),some (.tup es)]).map D.lst).bind fun d=>(some []:Option (List D)).map (d::·)).bind zi0 with | some d=>Ctl.rt d | none=>Ctl.no)=_
        rw [e]
        show (match zi0 [.lst (es.map fun d=>.bl (xR d))] with | some d=>Ctl.rt d | none=>Ctl.no)=_
        rw [zeL]
      · show D.bl (es.all xR)=.bl (decide ((es.length:Int)=m)&&es.all xR)
        rw [decide_eq_true hl,Bool.true_and]
    · have e:xK m (.tup es)=false:=by
        show (decide ((es.length:Int)=m)&&es.all xR)=false
        rw [decide_eq_false hl,Bool.false_and]
      rw [e]
      simp [ZQ,xF,fnD,zK,yC,yX,sIf,yG,wI,sNo,zH,vY,wn,wl,vZ,wJ,vEv,visF,visG,Sl.f,Sl.g,zf,eC,zm,wa,eOr,vF,eIf,eUn,vw,xO,xr,zU,zc,zw,zq,eFn,fFn,tOf,yr,wQ,zY,asB,asI,zt,wW,x9,zV,yH,vi,yB,ltD,leD,gtD,geD,vn,zx,zE,zv,zD,vo,zz,ixD,x4,zR,isT,eSl,yl,yi,zP,yj,iOf,wA,yn,wX,wc,wv,zL,yO,fLC,yb,zF,ym,zW,vb,yf,vk,b1,b2,hl]
  | _=>rfl
theorem WL (T:Txt K mg ad):xk P w K mg base CX0 2 ad.f_are_counts ad.e_are_counts ["many","thing"] (@spD ⟨K⟩ 2 wf):=by
  letI:KK:=⟨K⟩
  have G_is_whole:=Xx (P:=P) (w:=w) (base:=base) T
  refine w8 (xU (N:=["many","thing"]) (ps:=["many","thing"]) T.d_are_counts.fn Vf (g:=xF) fun cdv A outer s H E hr=>?_) WW
  unfold xF
  exact (zj (wx (zep (zap (vV (wR (zT .tuple rfl T.z_isinstance (zb 1 (pv 1)) (yN (v:=.ty "tuple") rfl T.z_tuple xv rfl)))) (XJ (yA WA ZN (zS _) (yL yd vf rfl T.z_len YJ (za (zb 1 (pv 1)) zh)) (zb 0 (pv 0)))))) (zn (zO (Yd vM))) ya)
      (zn (zO (yL (zdO rfl) zgk rfl T.z_all zh6 (za (YZ (zcu (L:=["part"]) (M:=["many","thing"]) rfl (Xo (by rfl) (by rfl) (by rfl) (by with_unfolding_all rfl) (by rfl) (by rfl) (by kernel_rfl) YV) (Z2 (zb 1 (pv 1))) gs1 rb1 (fun _ _ _ _=>(zX (i:=0) zjR rfl (Or.inl rfl) (.inr rfl))) (fun _ _ _ _=>(vU (zu (G_is_whole.mono (by decide)) hr rfl T.d_is_whole.at_ T.d_is_whole.kp T.d_is_whole.bd (za (zb 0 (pv 0)) zh)) (YI (ZP zjO xP (zS _) (zb 0 (pv 0)) (zi zg))))))) zh)))))
noncomputable def YM (m:Int):D→Bool
  | .tup ds=>xK m (.tup ds)&&decide ((ds.map zjL).sum≤300)
  | _=>false
theorem Wl (ns:List Int):(ns.map D.int).map zjL=ns:=by rw [List.map_map];exact (List.map_congr_left fun _ _=>rfl).trans (List.map_id _)
noncomputable def wb:SE→Ctl :=
  (yC (wa (zq 2 wf (zc (zm ixD (zf 0) (eC (.int 0))) (zc (zf 1) zw))) (zm leD (eFn zjA (zc (zf 1) zw)) (eC (.int 300)))))
noncomputable def Yk:List D→Option D:=fnD 2 wb
noncomputable def xy:List D→Option D
  | [.tup [.int m,_],d]=>if (noS d&&decide (m≤1000))=true then some (.bl (YM m d)) else none
  | _=>none
theorem WQ:∀ ds d,ds.length=2→xy ds=some d→Yk ds=some d:=by
  intro ds d hl h
  obtain ⟨a,b,rfl⟩:=zer hl
  unfold xy at h
  split at h
  · rename_i m t b' e
    injection e with e1 e2
    injection e2 with e2 _
    subst e1 e2
    obtain ⟨hn,rfl⟩:=ifS h
    have ec:wf [.int m,b]=some (.bl (xK m b)):=by simp only [wf];rw [if_pos hn]
    cases hc:xK m b with
    | false =>
      rw [hc] at ec
      have e3:YM m b=false:=by
        cases b <;> try rfl
        show (xK m _&&_)=false
        rw [hc]
        rfl
      rw [e3]
      simp [Yk,wb,fnD,zK,yC,yX,sIf,yG,wI,sNo,zH,vY,wn,wl,vZ,wJ,vEv,visF,visG,Sl.f,Sl.g,zf,eC,zm,wa,eOr,vF,eIf,eUn,vw,xO,xr,zU,zc,zw,zq,eFn,fFn,tOf,yr,wQ,zY,asB,asI,zt,wW,x9,zV,yH,vi,yB,ltD,leD,gtD,geD,vn,zx,zE,zv,zD,vo,zz,ixD,x4,zR,isT,eSl,yl,yi,zP,yj,iOf,wA,yn,wX,wc,wv,zL,yO,fLC,yb,zF,ym,zW,vb,yf,vk,b1,b2,ec,atI,ixN]
    | true =>
      rw [hc] at ec
      cases b with
      | tup es =>
        have h2:es.all xR=true:=by
          unfold xK at hc
          rw [Bool.and_eq_true] at hc
          exact hc.2
        obtain ⟨ns,rfl,hns⟩:=zaF h2
        have e3:YM m (.tup (ns.map .int))=decide (ns.sum≤300):=by
          show (xK m _&&decide (((ns.map D.int).map zjL).sum≤300))=_
          rw [hc,Wl,Bool.true_and]
        rw [e3]
        simp [Yk,wb,fnD,zK,yC,yX,sIf,yG,wI,sNo,zH,vY,wn,wl,vZ,wJ,vEv,visF,visG,Sl.f,Sl.g,zf,eC,zm,wa,eOr,vF,eIf,eUn,vw,xO,xr,zU,zc,zw,zq,eFn,fFn,tOf,yr,wQ,zY,asB,asI,zt,wW,x9,zV,yH,vi,yB,ltD,leD,gtD,geD,vn,zx,zE,zv,zD,vo,zz,ixD,x4,zR,isT,eSl,yl,yi,zP,yj,iOf,wA,yn,wX,wc,wv,zL,yO,fLC,yb,zF,ym,zW,vb,yf,vk,b1,b2,ec,zdP,atI,ixN]
      | _=>cases hc
  · cases h
theorem W2 (T:Txt K mg ad):xk P w K mg base CX0 3 ad.f_are_stones ad.e_are_stones ["web","thing"] (@spD ⟨K⟩ 2 xy):=by
  letI:KK:=⟨K⟩
  have G_are_counts:=WL (P:=P) (w:=w) (base:=base) T
  refine w8 (xU (N:=["web","thing"]) (ps:=["web","thing"]) T.d_are_stones.fn W1 (g:=wb) fun cdv A outer s H E hr=>?_) WQ
  unfold wb
  exact (zn (zO (vU (zu (G_are_counts.mono (by decide)) hr rfl T.d_are_counts.at_ T.d_are_counts.kp T.d_are_counts.bd (za (yo (zb 0 (pv 0)) (zi zg) (fun _ _=>rfl)) (za (zb 1 (pv 1)) zh))) (YI (ZP zcB xP (zS _) (yL (zcI rfl) zhi rfl T.z_sum ziv (za (zb 1 (pv 1)) zh)) (zi (xw (v:=.int 300) rfl T.g_MOST_STONES ⟨_,rfl⟩)))))))
end
section
variable {P:Program}{w:World}{K:PySem.W.Frag}{mg:Str→Option Value}{base:Heap}{ad:Adr}
noncomputable def x5:SE→Ctl :=
  (sIf (zY (tOf (zq 2 xy (zc (zf 0) (zc (zf 1) zw))))) sNo zH)
noncomputable def YF:List D→Option D:=fnD 2 x5
noncomputable def yV:List D→Option D
  | [.tup [.int m,_],d]=>if (noS d&&decide (m≤1000)&&YM m d)=true then some .non else none
  | _=>none
theorem XB:∀ ds d,ds.length=2→yV ds=some d→YF ds=some d:=by
  intro ds d hl h
  obtain ⟨a,b,rfl⟩:=zer hl
  unfold yV at h
  split at h
  · rename_i m t b' e
    injection e with e1 e2
    injection e2 with e2 _
    subst e1 e2
    obtain ⟨hn,rfl⟩:=ifS h
    rw [Bool.and_eq_true] at hn
    have ec:xy [.tup [.int m,t],b]=some (.bl true):=by simp only [xy];rw [if_pos hn.1,hn.2]
    simp [YF,x5,fnD,zK,yC,yX,sIf,yG,wI,sNo,zH,vY,wn,wl,vZ,wJ,vEv,visF,visG,Sl.f,Sl.g,zf,eC,zm,wa,eOr,vF,eIf,eUn,vw,xO,xr,zU,zc,zw,zq,eFn,fFn,tOf,yr,wQ,zY,asB,asI,zt,wW,x9,zV,yH,vi,yB,ltD,leD,gtD,geD,vn,zx,zE,zv,zD,vo,zz,ixD,x4,zR,isT,eSl,yl,yi,zP,yj,iOf,wA,yn,wX,wc,wv,zL,yO,fLC,yb,zF,ym,zW,vb,yf,vk,b1,b2,ec]
  · cases h
theorem Yc (T:Txt K mg ad):xk P w K mg base CX0 4 ad.f_must_be_heap ad.e_must_be_heap ["web","thing"] (@spD ⟨K⟩ 2 yV):=by
  letI:KK:=⟨K⟩
  have G_are_stones:=W2 (P:=P) (w:=w) (base:=base) T
  refine w8 (xU (N:=["web","thing"]) (ps:=["web","thing"]) T.d_must_be_heap.fn XW (g:=x5) fun cdv A outer s H E hr=>?_) XB
  unfold x5
  exact (zn (wx (vV (wR (zu (G_are_stones.mono (by decide)) hr rfl T.d_are_stones.at_ T.d_are_stones.kp T.d_are_stones.bd (za (zb 0 (pv 0)) (za (zb 1 (pv 1)) zh))))) (zn zbA) ya))
theorem zcJ {m:Int}{ts:List Tie}(h:wV m ts):decide (m≤1000)=true:=decide_eq_true (by have:=h.hi;omega)
noncomputable def VU (a b:Int):Tie:=(if b < a then b else a,if b > a then b else a)
noncomputable def vG:SE→Ctl :=
  (yC (xO (zc (eFn zfk (zc (zf 0) (zc (zf 1) zw))) (zc (eFn zh2 (zc (zf 0) (zc (zf 1) zw))) zw))))
noncomputable def Vg:List D→Option D:=fnD 2 vG
noncomputable def xc:List D→Option D
  | [.int a,.int b]=>some (zd (VU a b))
  | _=>none
theorem XZ:∀ ds d,ds.length=2→xc ds=some d→Vg ds=some d:=by
  intro ds d hl h
  obtain ⟨a,b,rfl⟩:=zer hl
  cases a <;> try cases h
  cases b <;> try cases h
  rfl
theorem X4 (T:Txt K mg ad):xk P w K mg base CX0 1 ad.f_tie_between ad.e_tie_between ["one","other"] (@spD ⟨K⟩ 2 xc):=by
  letI:KK:=⟨K⟩
  refine w8 (xU (N:=["one","other"]) (ps:=["one","other"]) T.d_tie_between.fn X1 (g:=vG) fun cdv A outer s H E hr=>?_) XZ
  unfold vG
  exact (zn (zO (we (za (yL (Vm rfl) za5 rfl T.z_min zf4 (za (zb 0 (pv 0)) (za (zb 1 (pv 1)) zh))) (za (yL (zcS rfl) zfb rfl T.z_max ziB (za (zb 0 (pv 0)) (za (zb 1 (pv 1)) zh))) zh)))))
theorem zdy (ts:List Tie):(ts.map zd).all (okE 20)=true:=by
  rw [List.all_map,List.all_eq_true]
  exact fun t _=>rfl
theorem zby (s t:Tie):eqN 20 (zd s) (zd t)=decide (s=t):=by
  have:eqN 20 (zd s) (zd t)=((s.1 == t.1)&&((s.2 == t.2)&&true)&&true):=rfl
  rw [this,Bool.and_true,Bool.and_true]
  by_cases h:s=t
  · subst h
    simp
  · rw [decide_eq_false h,Bool.and_eq_false_iff]
    by_cases h1:s.1=t.1
    · exact .inr (beq_eq_false_iff_ne.mpr fun h2=>h (Prod.ext h1 h2))
    · exact .inl (beq_eq_false_iff_ne.mpr h1)
theorem za3 (t:Tie)(ts:List Tie):inD (zd t) (.tup (ts.map zd))=some (.bl (decide (t∈ts))):=by
  show (zfr (zd t) (ts.map zd)).map D.bl=_
  unfold zfr
  rw [if_pos ⟨rfl,zdy ts⟩]
  show some (D.bl ((ts.map zd).any fun e=>eqN 20 e (zd t)))=_
  rw [List.any_map]
  congr 2
  rw [Bool.eq_iff_iff,List.any_eq_true,decide_eq_true_eq]
  constructor
  · rintro ⟨s,hs,h⟩
    have h:eqN 20 (zd s) (zd t)=true:=h
    rw [zby,decide_eq_true_eq] at h
    subst h
    exact hs
  · exact fun h=>⟨t,h,by show eqN 20 (zd t) (zd t)=true;rw [zby];exact decide_eq_true rfl⟩
end
section
variable {P:Program}{w:World}{K:PySem.W.Frag}{mg:Str→Option Value}{base:Heap}{ad:Adr}
noncomputable def nbN (m:Int)(ts:List Tie)(p:Int):List Nat:=(List.range m.toNat).filter fun k:Nat=>decide (VU p k∈ts)
end
theorem zdq {m:Nat}{g:SE→Ctl}{ds:List D}{R:D→Prop}{ρ:SE}(e:ds.map .v++List.replicate (m - ds.length) .no=ρ)(q:(g ρ).w (fun _=>R .non) noP noP R):∃ d,fnD m g ds=some d∧R d:=by
  unfold fnD
  rw [e]
  cases hg:g ρ with
  | nx ρ'=>rw [hg] at q;exact ⟨_,rfl,q.nxi⟩
  | rt d'=>rw [hg] at q;exact ⟨_,rfl,q.rti⟩
  | bk _=>rw [hg] at q;exact q.bki.elim
  | ct _=>rw [hg] at q;exact q.cti.elim
  | no=>rw [hg] at q;exact q.noi.elim
section
variable {P:Program}{w:World}{K:PySem.W.Frag}{mg:Str→Option Value}{base:Heap}{ad:Adr}
noncomputable def vQ:SE→Ctl :=
  (zK (yG false 2 (zm yH (zm x9 (zm wC (zm wC (zm yH (zf 0) (eC (.int 2147483647))) (zm x9 (eC (.int 977)) (zf 1))) (eC (.int 1))) (eC (.int 48271))) (eC (.int 2147483647))))
    (zK (yG false 2 (zm yH (zm x9 (zf 2) (zf 2)) (eC (.int 2147483629))))
    (zK (yG false 2 (zm yH (zm x9 (zm wC (zf 2) (zm x9 (eC (.int 40692)) (zm wC (zf 1) (eC (.int 3))))) (eC (.int 69621))) (eC (.int 2147483647))))
    (yC (zm zV (zf 2) (eC (.int 8)))))))
noncomputable def zaG:List D→Option D:=fnD 3 vQ
noncomputable def zI:List D→Option D
  | [.int c,.int k]=>some (.int (Wu c k))
  | _=>none
theorem zat {i j:Int}(h1:-(2 ^ 64) < i)(h2:i < 2 ^ 64):XC i j=true:=decide_eq_true (.inl ⟨h1,h2⟩)
theorem zam {i j:Int}(h1:-(2 ^ 64) < j)(h2:j < 2 ^ 64):XC i j=true:=decide_eq_true (.inr ⟨h1,h2⟩)
theorem Zw {i j:Int}(h:XC i j=true):x9 (.int i) (.int j)=some (.int (i*j)):=by
  show (if XC i j=true then _ else none)=_
  rw [if_pos h]
theorem xm {i j:Int}(h:0 < j):yH (.int i) (.int j)=some (.int (i % j)):=by
  show (if decide (0 < j)=true then _ else none)=_
  rw [if_pos (decide_eq_true h)]
theorem Z8 {i j:Int}(h:0 < j)(h2:j < 1606938044258990275541962092341162602522202993782792835301376):zV (.int i) (.int j)=some (.int (i / j)):=by
  show (if decide (0 < j∧j < 1606938044258990275541962092341162602522202993782792835301376)=true then _ else none)=_
  rw [if_pos (decide_eq_true ⟨h,h2⟩)]
theorem Vt:∀ ds d,ds.length=2→zI ds=some d→zaG ds=some d:=by
  intro ds d hl h
  obtain ⟨a,b,rfl⟩:=zer hl
  cases a <;> try cases h
  cases b <;> try cases h
  rename_i c k
  have h1:=Int.emod_nonneg ((c % 2147483647+977*k+1)*48271) (show (2147483647:Int)≠0 by decide)
  have h2:=Int.emod_lt_of_pos ((c % 2147483647+977*k+1)*48271) (show (0:Int) < 2147483647 by decide)
  have m1:XC 977 k=true:=zat (by decide) (by decide)
  have m2:XC (c % 2147483647+977*k+1) 48271=true:=zam (by decide) (by decide)
  obtain ⟨x,hx⟩:∃ x,(c % 2147483647+977*k+1)*48271 % 2147483647=x:=⟨_,rfl⟩
  rw [hx] at h1 h2
  have m3:XC x x=true:=zat (Int.lt_of_lt_of_le (by decide) h1) (Int.lt_trans h2 (by decide))
  have m4:XC 40692 (k+3)=true:=zat (by decide) (by decide)
  have m5:∀ x,XC x 69621=true:=fun x=>zam (by decide) (by decide)
  obtain ⟨y,hy⟩:∃ y,x*x % 2147483629=y:=⟨_,rfl⟩
  obtain ⟨z,hz⟩:∃ z,(y+40692*(k+3))*69621 % 2147483647=z:=⟨_,rfl⟩
  have hst:Wu c k=z / 8:=by
    show ((((c % 2147483647+977*k+1)*48271 % 2147483647)*((c % 2147483647+977*k+1)*48271 % 2147483647) % 2147483629+40692*(k+3))*69621 % 2147483647 / 8)=_
    rw [hx,hy,hz]
  rw [hst]
  refine Vh (ρ:=[.v (.int c),.v (.int k),.no]) rfl ?_
  unfold vQ
  refine zB (ρ':=[.v (.int c),.v (.int k),.v (.int x)]) (YW ?_) ?_
  · show (((((yH (.int c) (.int 2147483647)).bind fun a=>(x9 (.int 977) (.int k)).bind fun b=>wC a b).bind fun a=>wC a (.int 1)).bind fun a=>x9 a (.int 48271)).bind fun a=>yH a (.int 2147483647))=_
    rw [xm (by decide),Zw m1]
    show ((x9 (.int (c % 2147483647+977*k+1)) (.int 48271)).bind fun a=>yH a (.int 2147483647))=_
    rw [Zw m2,← hx]
    exact xm (by decide)
  refine zB (ρ':=[.v (.int c),.v (.int k),.v (.int y)]) (YW ?_) ?_
  · show ((x9 (.int x) (.int x)).bind fun a=>yH a (.int 2147483629))=_
    rw [Zw m3,← hy]
    exact xm (by decide)
  refine zB (ρ':=[.v (.int c),.v (.int k),.v (.int z)]) (YW ?_) ?_
  · show ((((x9 (.int 40692) (.int (k+3))).bind fun b=>wC (.int y) b).bind fun a=>x9 a (.int 69621)).bind fun a=>yH a (.int 2147483647))=_
    rw [Zw m4]
    show ((x9 (.int (y+40692*(k+3))) (.int 69621)).bind fun a=>yH a (.int 2147483647))=_
    rw [Zw (m5 _),← hz]
    exact xm (by decide)
  exact Y1 (YX (show zV (.int z) (.int 8)=_ from Z8 (by decide) (by decide))) rfl
theorem wm (T:Txt K mg ad):xk P w K mg base CX0 1 ad.f__law_stir ad.e__law_stir ["cell","k"] (@spD ⟨K⟩ 2 zI):=by
  letI:KK:=⟨K⟩
  refine w8 (xU (N:=["cell","k","number"]) (ps:=["cell","k"]) T.d__law_stir.fn wY (g:=vQ) fun cdv A outer s H E hr=>?_) Vt
  unfold vQ
  exact (zj (yp (m:=false) (i:=2) wY.nd rfl (Or.inl rfl) (xB (Wk (yS (yS (xB (zb 0 (pv 0)) (zi zg)) (Wk (zi zg) (zb 1 (pv 1)))) (zi zg)) (zi zg)) (zi zg)))
      (zj (yp (m:=false) (i:=2) wY.nd rfl (Or.inl rfl) (xB (Wk (zb 2 (pv 2)) (zb 2 (pv 2))) (zi zg)))
      (zj (yp (m:=false) (i:=2) wY.nd rfl (Or.inl rfl) (xB (Wk (yS (zb 2 (pv 2)) (Wk (zi zg) (yS (zb 1 (pv 1)) (zi zg)))) (zi zg)) (zi zg)))
      (zn (zO (YY (zb 2 (pv 2)) (zi zg)))))))
theorem zbI {i j:Int}(h1:0≤i)(h2:i≤1000)(h3:0≤j)(h4:j≤1000):wv [.int i,.int j]=some (Z3 i (j - i).toNat):=by
  show (if zeq i=true∧zeq j=true then some (Z3 i (j - i).toNat) else none)=_
  rw [if_pos ⟨yx.mpr ⟨by (clear h4 h3 h2;omega),by (clear h4 h3;omega)⟩,yx.mpr ⟨by omega,by omega⟩⟩]
theorem Yy {j:Int}(h3:0≤j)(h4:j≤1000000):wc [.int j]=some (Z3 0 j.toNat):=by
  show (if zeq j=true then some (Z3 0 j.toNat) else none)=_
  rw [if_pos (yx.mpr ⟨by omega,by omega⟩)]
end
section
variable {P:Program}{w:World}{K:PySem.W.Frag}{mg:Str→Option Value}{base:Heap}{ad:Adr}
theorem zbR {m:Int}{ns:List Int}(h1:(ns.length:Int)=m)(h2:∀ n∈ns,0≤n)(h3:ns.sum≤300):YM m (.tup (ns.map .int))=true:=by
  unfold YM xK
  rw [Bool.and_eq_true,Bool.and_eq_true,decide_eq_true_eq,decide_eq_true_eq,Wl,List.length_map]
  exact ⟨⟨h1,zcy h2⟩,h3⟩
theorem zff (ns:List Int):noS (.tup (ns.map .int))=true:=by
  show zet (ns.map .int)=true
  induction ns with
  | nil=>rfl
  | cons n ns ih=>show (noS (.int n)&&zet (ns.map .int))=true;rw [ih];rfl
noncomputable def vAt (ns:List Int)(i:Int):Int:=ns.getD i.toNat 0
theorem Yu {ns:List Int}{i:Int}(h0:0≤i)(h1:i < ns.length):atI (ns.map D.int) i=some (.int (vAt ns i)):=by
  unfold vAt
  obtain ⟨k,hk⟩:∃ k:Nat,i=k:=⟨i.toNat,by omega⟩
  subst hk
  refine zem ?_
  rw [Int.toNat_natCast,List.getElem?_map,List.getElem?_eq_getElem (by omega),List.getD_eq_getElem?_getD,List.getElem?_eq_getElem (by omega)]
  rfl
end
section
variable {P:Program}{w:World}{K:PySem.W.Frag}{mg:Str→Option Value}{base:Heap}{ad:Adr}
noncomputable def vh:SE→Ctl :=
  (yG false 1 (zm wC (zf 1) (xr (fLC (wX wv (zc (zm wC (zf 2) (eC (.int 1))) (zc (zf 0) zw))) b1 yb (xO (zc (zf 3) (zc (zf 0) zw)))))))
noncomputable def wZ:SE→Ctl :=
  (zK (yG false 1 (xr (zU zw)))
    (zK (yn wc (zc (zf 0) zw) (zW 2) vh)
    (yC (zf 1))))
noncomputable def VO:List D→Option D:=fnD 3 wZ
noncomputable def y0:List D→Option D
  | [.int n]=>if decide (0≤n∧n≤8)=true then some (.lst ((xo n.toNat).map zd)) else none
  | _=>none
theorem WH:∀ ds d,ds.length=1→y0 ds=some d→VO ds=some d:=by
  intro ds d hl h
  obtain ⟨a,rfl⟩:=ziZ hl
  cases a <;> try cases h
  rename_i n
  obtain ⟨hn,rfl⟩:=ifS h
  have hn:0≤n∧n≤8:=of_decide_eq_true hn
  clear h hl
  obtain ⟨k,hk⟩:∃ k:Nat,n.toNat=k:=⟨_,rfl⟩
  have hk8:k≤8:=by omega
  have hkn:n=(k:Int):=by omega
  rw [hk]
  have hr:wc [.int n]=some (Z3 0 k):=by rw [Yy hn.1 (by omega),hk]
  clear hk
  refine Vh (ρ:=[.v (.int n),.no,.no]) rfl ?_
  unfold wZ
  have e0:yG false 1 (xr (zU zw)) [.v (.int n),.no,.no]=.nx [.v (.int n),.v (.lst []),.no]:=rfl
  refine zB e0 (xt (zbs (lo:=0) (c:=k) (fun i ρ=>∃ o2,ρ=[.v (.int n),.v (.lst ((xW k i).map zd)),o2]) hr ⟨.no,rfl⟩ ?_ ?_))
  · rintro i ρ hi ⟨o2,rfl⟩
    refine ⟨_,rfl,?_⟩
    obtain ⟨x,hx⟩:∃ x:Int,(0:Int)+(i:Int)=x:=⟨_,rfl⟩
    rw [hx]
    unfold vh
    refine Yv (ρ':=[.v (.int n),.v (.lst ((xW k (i+1)).map zd)),.v (.int x)]) (YW (d:=.lst ((xW k (i+1)).map zd)) ?_) ⟨_,rfl⟩
    have e:fLC (wX wv (zc (zm wC (zf 2) (eC (.int 1))) (zc (zf 0) zw))) b1 yb (xO (zc (zf 3) (zc (zf 0) zw))) [some (.int n),some (.lst ((xW k i).map zd)),some (.int x)]=some ((zaZ i (k - (i+1))).map zd):=by
      have e1:wv [.int (x+1),.int n]=some (Z3 (x+1) (k - (i+1))):=by
        rw [zbI (by omega) (by omega) (by omega) (by omega)]
        have et:(n - (x+1)).toNat=k - (i+1):=by omega
        rw [et]
      unfold fLC
      show (wv [.int (x+1),.int n]).bind _=_
      rw [e1]
      show (if lim (Z3 (x+1) (k - (i+1))).length=true then _ else none)=_
      rw [if_pos (vB (by rw [zag];omega))]
      unfold zaZ
      rw [List.map_map]
      refine WU (fun j:Nat=>D.int (x+1+(j:Int))) _ (List.range (k - (i+1))) fun j _=>⟨[some (.int (x+1+(j:Int)))],rfl,rfl,?_⟩
      show some (D.tup [.int x,.int (x+1+(j:Int))])=some (D.tup [.int (i:Int),.int ((i:Int)+1+(j:Int))])
      rw [←hx,Int.zero_add]
    show (((fLC (wX wv (zc (zm wC (zf 2) (eC (.int 1))) (zc (zf 0) zw))) b1 yb (xO (zc (zf 3) (zc (zf 0) zw))) [some (.int n),some (.lst ((xW k i).map zd)),some (.int x)]).map D.lst).bind fun y=>wC (.lst ((xW k i).map zd)) y)=_
    rw [e]
    show wC (.lst ((xW k i).map zd)) (.lst ((zaZ i (k - (i+1))).map zd))=_
    rw [zfs (by rw [List.length_map,List.length_map,ZZ];have:=zch k hk8 i;omega),ZT,List.map_append]
  · rintro ρ ⟨o2,rfl⟩
    refine Y1 rfl ?_
    rw [zdu]
theorem Zg (T:Txt K mg ad):xk P w K mg base CX0 1 ad.f__law_pairs ad.e__law_pairs ["many"] (@spD ⟨K⟩ 1 y0):=by
  letI:KK:=⟨K⟩
  refine w8 (xU (N:=["many","found","a"]) (ps:=["many"]) T.d__law_pairs.fn wE (g:=wZ) fun cdv A outer s H E hr=>?_) WH
  unfold wZ vh
  exact (zj (yp (m:=false) (i:=1) wE.nd rfl (Or.inl rfl) (YZ (vE zh)))
      (zj (Vd PassesOwn.never rfl rfl T.z_range (za (zb 0 (pv 0)) zh) (xn (zX (i:=2) wE.nd rfl (Or.inr rfl))) (zn (yp (m:=false) (i:=1) wE.nd rfl (Or.inl rfl) (yS (zb 1 (pv 1)) (YZ (zcu (L:=["b"]) (M:=["many","found","a"]) rfl (Xo (by rfl) (by rfl) (by rfl) (by with_unfolding_all rfl) (by rfl) (by rfl) (by kernel_rfl) (all_cons rfl YV)) (zdE rfl T.z_range (za (yS (zb 2 (pv 2)) (zi zg)) (za (zb 0 (pv 0)) zh))) gs1 rb1 (fun _ _ _ _=>(zX (i:=0) zkc rfl (Or.inl rfl) (.inr rfl))) (fun _ _ _ _=>(we (za (zb 3 (pv 3)) (za (zb 0 (pv 0)) zh))))))))))
      (zn (zO (zb 1 (pv 1))))))
noncomputable def xN:SE→Ctl :=
  (zK (sIf (yr (tOf (zm ZF (zm yH (zf 1) (eC (.int 2))) (eC (.int 0)))) (tOf (zm ZF (zm yH (zm zhu (zm zV (zf 1) (eC (.int 2))) (zf 3)) (eC (.int 2))) (eC (.int 1))))) (wl false 2 (zf 4)) zH)
    (sIf (yr (tOf (zm ZF (zm yH (zf 1) (eC (.int 2))) (eC (.int 1)))) (tOf (zm ltD (zm yH (zq 2 zI (zc (zf 1) (zc (zf 3) zw))) (eC (.int 5))) (zm wC (eC (.int 2)) (zm yH (zm zV (zf 1) (eC (.int 2))) (eC (.int 2))))))) (wl false 2 (zf 4)) zH))
noncomputable def xI:SE→Ctl :=
  (zK (wn 2 (zU zw))
    (zK (wA (zL (zc (zq 1 y0 (zc (zf 0) zw)) zw)) (vb 2 (yf (zW 3) (yf (zW 4) vk))) xN)
    (sFz 2 (yC (xO (zc (zf 0) (zc (eFn zF (zc (zf 2) zw)) zw)))))))
noncomputable def wD:List D→Option D:=fnD 5 xI
theorem zg4 {a k:Int}(h:0≤k):zhu (.int a) (.int k)=some (.int (a / 2 ^ k.toNat)):=by
  show (if decide (0≤k)=true then some (D.int (a / 2 ^ k.toNat)) else none)=_
  rw [if_pos (decide_eq_true h)]
theorem zis {ρ:Ev}{c x:Int}(h1:ρ[1]?=some (some (.int c)))(h3:ρ[3]?=some (some (.int x)))(hx:0≤x) :
    (∃ b,yr (tOf (zm ZF (zm yH (zf 1) (eC (.int 2))) (eC (.int 0)))) (tOf (zm ZF (zm yH (zm zhu (zm zV (zf 1) (eC (.int 2))) (zf 3)) (eC (.int 2))) (eC (.int 1)))) ρ=some (decide (c % 2=0)&&b)) ∧
    ∃ b,yr (tOf (zm ZF (zm yH (zf 1) (eC (.int 2))) (eC (.int 1)))) (tOf (zm ltD (zm yH (zq 2 zI (zc (zf 1) (zc (zf 3) zw))) (eC (.int 5))) (zm wC (eC (.int 2)) (zm yH (zm zV (zf 1) (eC (.int 2))) (eC (.int 2)))))) ρ=some (decide (c % 2=1)&&b):=by
  have v1:zf 1 ρ=some (.int c):=by unfold zf;rw [h1];rfl
  have v3:zf 3 ρ=some (.int x):=by unfold zf;rw [h3];rfl
  have f2:zV (.int c) (.int 2)=some (.int (c / 2)):=Z8 (by decide) (by decide)
  have m0:∀ k:Int,tOf (zm ZF (zm yH (zf 1) (eC (.int 2))) (eC (.int k))) ρ=some (decide (c % 2=k)):=fun k=>by
    show (((zf 1 ρ).bind fun a=>yH a (.int 2)).bind fun y=>ZF y (.int k)).bind asB=_
    rw [v1,Option.bind_some,xm (by decide)]
    rfl
  constructor
  · refine ⟨decide (c / 2 / 2 ^ x.toNat % 2=1),?_⟩
    have m2:tOf (zm ZF (zm yH (zm zhu (zm zV (zf 1) (eC (.int 2))) (zf 3)) (eC (.int 2))) (eC (.int 1))) ρ=some (decide (c / 2 / 2 ^ x.toNat % 2=1)):=by
      show (((((zf 1 ρ).bind fun a=>zV a (.int 2)).bind fun a=>(zf 3 ρ).bind fun b=>zhu a b).bind fun a=>yH a (.int 2)).bind fun y=>ZF y (.int 1)).bind asB=_
      rw [v1,v3,Option.bind_some,f2,Option.bind_some,Option.bind_some,zg4 hx,Option.bind_some,xm (by decide)]
      rfl
    unfold yr
    rw [m0,Option.bind_some,m2]
    cases decide (c % 2=0) <;> rfl
  · refine ⟨decide (Wu c x % 5 < 2+c / 2 % 2),?_⟩
    have es:zq 2 zI (zc (zf 1) (zc (zf 3) zw)) ρ=some (.int (Wu c x)):=by
      unfold zq zc
      rw [v1,v3]
      rfl
    have m2:tOf (zm ltD (zm yH (zq 2 zI (zc (zf 1) (zc (zf 3) zw))) (eC (.int 5))) (zm wC (eC (.int 2)) (zm yH (zm zV (zf 1) (eC (.int 2))) (eC (.int 2))))) ρ=some (decide (Wu c x % 5 < 2+c / 2 % 2)):=by
      show ((((zq 2 zI (zc (zf 1) (zc (zf 3) zw)) ρ).bind fun a=>yH a (.int 5)).bind fun a=>((((zf 1 ρ).bind fun a=>zV a (.int 2)).bind fun a=>yH a (.int 2)).bind fun y=>wC (.int 2) y).bind fun b=>ltD a b)).bind asB=_
      rw [es,v1,Option.bind_some,Option.bind_some,xm (by decide),f2,Option.bind_some,Option.bind_some,xm (by decide)]
      rfl
    unfold yr
    rw [m0,Option.bind_some,m2]
    cases decide (c % 2=1) <;> rfl
theorem zj4 {n c x:Int}{ts:List Tie}{t:Tie}{N B C:SE→Prop}{R:D→Prop}(hx:0≤x)(hl:(ts.map zd).length≤1000)
    (q1:N [.v (.int n),.v (.int c),.o (ts.map zd),.v (.int x),.v (zd t)]) (q2:N [.v (.int n),.v (.int c),.o ((ts++[t]).map zd),.v (.int x),.v (zd t)]) :
    (xN [.v (.int n),.v (.int c),.o (ts.map zd),.v (.int x),.v (zd t)]).w N B C R:=by
  rw [List.map_append] at q2
  unfold xN
  obtain ⟨⟨b1,e1⟩,b2,e2⟩:=zis (ρ:=visG [.v (.int n),.v (.int c),.o (ts.map zd),.v (.int x),.v (zd t)]) (c:=c) (x:=x) rfl rfl hx
  obtain ⟨_,b3,e3⟩:=zis (ρ:=visG [.v (.int n),.v (.int c),.o (ts.map zd++[zd t]),.v (.int x),.v (zd t)]) (c:=c) (x:=x) rfl rfl hx
  have ap:=Z0 (m:=false) (i:=2) (f:=zf 4) (ρ:=[.v (.int n),.v (.int c),.o (ts.map zd),.v (.int x),.v (zd t)]) (ds:=ts.map zd) (d:=zd t) rfl rfl hl
  refine xt (Zs e1 (fun k=>Yv ap ?_) (fun _=>Yv rfl (Zs e2 (fun _=>Yv ap q2) (fun _=>Yv rfl q1))))
  refine Zs e3 (fun k3=>?_) (fun _=>Yv rfl q2)
  have h0:c % 2=0:=of_decide_eq_true (Bool.and_eq_true_iff.mp k).1
  have h1:c % 2=1:=of_decide_eq_true (Bool.and_eq_true_iff.mp k3).1
  exact absurd (h0.symm.trans h1) (by decide)
theorem zdd {n c:Int}(h1:1≤n)(h8:n≤8):∃ ts,wD [.int n,.int c]=some (yy n ts)∧ts.Sublist (xo n.toNat):=by
  have key:=zdq (m:=5) (g:=xI) (ds:=[.int n,.int c]) (R:=fun d=>∃ ts:List Tie,d=yy n ts∧ts.Sublist (xo n.toNat)) rfl ?_
  · obtain ⟨d,e,ts,rfl,hs⟩:=key
    exact ⟨ts,e,hs⟩
  unfold xI
  refine zB rfl ?_
  have ep:y0 [.int n]=some (.lst ((xo n.toNat).map zd)):=by
    show (if decide (0≤n∧n≤8)=true then some (D.lst ((xo n.toNat).map zd)) else none)=_
    rw [if_pos (decide_eq_true ⟨by omega,by omega⟩)]
  have h28:=(Y8 n.toNat (by omega)).2.2
  refine xt (V7 (ds:=Xj 0 ((xo n.toNat).map zd)) (fun i ρ=>∃ ts o3 o4,ρ=[.v (.int n),.v (.int c),.o (ts.map zd),o3,o4]∧ts.Sublist ((xo n.toNat).take i)) ?_ ⟨[],.no,.no,rfl,List.nil_sublist _⟩ ?_ ?_)
  · show ((y0 [.int n]).bind fun d=>(some []:Option (List D)).map (d::·)).bind _=_
    rw [ep]
    rfl
  · rintro i d ρ hd ⟨ts,o3,o4,rfl,hs⟩
    rw [v8] at hd
    obtain ⟨dx,hdx,rfl⟩:=Option.map_eq_some_iff.mp hd
    rw [List.getElem?_map] at hdx
    obtain ⟨t,ht,rfl⟩:=Option.map_eq_some_iff.mp hdx
    rw [Nat.zero_add]
    have htake:(xo n.toNat).take (i+1)=(xo n.toNat).take i++[t]:=by rw [List.take_succ,ht];rfl
    have hlen:ts.length≤28:=Nat.le_trans hs.length_le (Nat.le_trans (List.length_take_le _ _) (by have:=(List.getElem?_eq_some_iff.mp ht).1;omega))
    refine ⟨_,rfl,zj4 (Int.natCast_nonneg i) (by rw [List.length_map];omega) ⟨ts,_,_,rfl,?_⟩ ⟨ts++[t],_,_,rfl,?_⟩⟩
    · rw [htake];exact hs.trans (List.sublist_append_left _ _)
    · rw [htake];exact hs.append (List.Sublist.refl _)
  · rintro ρ ⟨ts,o3,o4,rfl,hs⟩
    exact zf3 rfl (Y1 rfl ⟨ts,rfl,hs.trans (List.take_sublist _ _)⟩)
theorem X0 (T:Txt K mg ad):xk P w K mg base CX0 2 ad.f__law_web_by ad.e__law_web_by ["many","cell"] (@spD ⟨K⟩ 2 wD):=by
  letI:KK:=⟨K⟩
  have G__law_stir:=wm (P:=P) (w:=w) (base:=base) T
  have G__law_pairs:=Zg (P:=P) (w:=w) (base:=base) T
  refine xU (N:=["many","cell","ties","k","tie"]) (ps:=["many","cell"]) T.d__law_web_by.fn x6 (g:=xI) fun cdv A outer s H E hr=>?_
  unfold xI xN
  exact (zj (ZM (i:=2) x6.nd rfl (Or.inl rfl) (vE zh))
      (zj (Wn PassesOwn.never rfl (zal rfl T.z_enumerate Yl (za (zu (G__law_pairs.mono (by decide)) hr rfl T.d__law_pairs.at_ T.d__law_pairs.kp T.d__law_pairs.bd (za (zb 0 (pv 0)) zh)) zh)) (VX rfl (x8 (xn (zX (i:=3) x6.nd rfl (Or.inl rfl))) (x8 (xn (zX (i:=4) x6.nd rfl (Or.inl rfl))) XF))) (zj (wx (zep (zcG (yA (YH hr) vm (zS _) (xB (zb 1 (pv 1)) (zi zg)) (zi zg)) (zau (yA (YH hr) vm (zS _) (xB (zim (YY (zb 1 (pv 1)) (zi zg)) (zb 3 (pv 3))) (zi zg)) (zi zg))))) (zn (Zc (m:=false) (pv 2) (zb 4 (pv 4)) (fun a b=>XX PySem.F.plainAttrs_list PySem.F.slot_list_append PySem.F.type_list_append xL a b))) ya)
      (zn (wx (zep (zcG (yA (YH hr) vm (zS _) (xB (zb 1 (pv 1)) (zi zg)) (zi zg)) (zau (yA zho xP (zS _) (xB (zu (G__law_stir.mono (by decide)) hr rfl T.d__law_stir.at_ T.d__law_stir.kp T.d__law_stir.bd (za (zb 1 (pv 1)) (za (zb 3 (pv 3)) zh))) (zi zg)) (yS (zi zg) (xB (YY (zb 1 (pv 1)) (zi zg)) (zi zg))))))) (zn (Zc (m:=false) (pv 2) (zb 4 (pv 4)) (fun a b=>XX PySem.F.plainAttrs_list PySem.F.slot_list_append PySem.F.type_list_append xL a b))) ya))))
      (ZV 2 (zn (zO (we (za (zb 0 (pv 0)) (za (vz xi vD rfl T.z_tuple xv (za (zb 2 (pv 2)) zh)) zh))))))))
end
section
variable {P:Program}{w:World}{K:PySem.W.Frag}{mg:Str→Option Value}{base:Heap}{ad:Adr}
noncomputable def wG (r:List D→Option D):SE→Ctl :=
  (sIf (zY (tOf (zq 2 r (zc (zf 2) (zc (zf 3) zw))))) (yC (eC (.bl false))) zH)
noncomputable def yz (r:List D→Option D):SE→Ctl :=
  (zK (sIf (tOf (zm vo (zf 1) (eC .non))) (yC (zm vo (zf 0) (eC .non))) zH)
    (zK (sIf (tOf (eUn (zR .bool) (zf 1))) (yC (wa (eUn (zR .bool) (zf 0)) (zm ZF (zf 0) (zf 1)))) zH)
    (zK (sIf (tOf (eUn (zR .int) (zf 1))) (yC (wa (eUn (zR .int) (zf 0)) (wa (vF (eUn (zR .bool) (zf 0))) (zm ZF (zf 0) (zf 1))))) zH)
    (zK (sIf (tOf (eUn (zR .str) (zf 1))) (yC (wa (eUn (zR .str) (zf 0)) (zm ZF (zf 0) (zf 1)))) zH)
    (zK (sIf (wQ (tOf (zm neD (eUn (zR .list) (zf 1)) (eUn (zR .list) (zf 0)))) (tOf (zm neD (eUn (zR .tuple) (zf 1)) (eUn (zR .tuple) (zf 0))))) (yC (eC (.bl false))) zH)
    (zK (sIf (tOf (zm neD (eFn x4 (zc (zf 0) zw)) (eFn x4 (zc (zf 1) zw)))) (yC (eC (.bl false))) zH)
    (zK (wA (yO (zc (zf 0) (zc (zf 1) zw))) (vb 2 (yf (zW 2) (yf (zW 3) vk))) (wG r))
    (yC (eC (.bl true))))))))))
noncomputable def vR:List D→Option D:=zi3 4 yz 6
theorem VJ (ds:List D):zba ds ds=ds.map fun d=>.tup [d,d]:=by
  induction ds with
  | nil=>rfl
  | cons d ds ih=>show D.tup [d,d]::zba ds ds=_;rw [ih];rfl
theorem VN {r:List D→Option D}{d:D}(hr:∀ es,(d=.tup es∨d=.lst es)→∀ e∈es,r [e,e]=some (.bl true))(hn:∀ ns,d≠.scr ns)(hd:∀ z t ks vs,d≠.dct z t ks vs):fnD 4 (yz r) [d,d]=some (.bl true):=by
  cases d with
  | scr ns=>exact absurd rfl (hn ns)
  | dct z t ks vs=>exact absurd rfl (hd z t ks vs)
  | non=>rfl
  | bl b=>cases b <;> rfl
  | int i=>simp [yz,fnD,zK,yC,yX,sIf,yG,wI,sNo,zH,vY,wn,wl,vZ,wJ,vEv,visF,visG,Sl.f,Sl.g,zf,eC,zm,wa,eOr,vF,eIf,eUn,vw,xO,xr,zU,zc,zw,zq,eFn,fFn,tOf,yr,wQ,zY,asB,asI,zt,wW,x9,zV,yH,vi,yB,ltD,leD,gtD,geD,vn,zx,zE,zv,zD,vo,zz,ixD,x4,zR,isT,eSl,yl,yi,zP,yj,iOf,wA,yn,wX,wc,wv,zL,yO,fLC,yb,zF,ym,zW,vb,yf,vk,b1,b2]
  | str x=>simp [yz,fnD,zK,yC,yX,sIf,yG,wI,sNo,zH,vY,wn,wl,vZ,wJ,vEv,visF,visG,Sl.f,Sl.g,zf,eC,zm,wa,eOr,vF,eIf,eUn,vw,xO,xr,zU,zc,zw,zq,eFn,fFn,tOf,yr,wQ,zY,asB,asI,zt,wW,x9,zV,yH,vi,yB,ltD,leD,gtD,geD,vn,zx,zE,zv,zD,vo,zz,ixD,x4,zR,isT,eSl,yl,yi,zP,yj,iOf,wA,yn,wX,wc,wv,zL,yO,fLC,yb,zF,ym,zW,vb,yf,vk,b1,b2]
  | tup es =>
    refine Vh (ρ:=[.v (.tup es),.v (.tup es),.no,.no]) rfl ?_
    unfold yz
    refine zB rfl (zB rfl (zB rfl (zB rfl (zB rfl (xt (Zs (c:=false) (by simp [fnD,zK,yC,yX,sIf,yG,wI,sNo,zH,vY,wn,wl,vZ,wJ,vEv,visF,visG,Sl.f,Sl.g,zf,eC,zm,wa,eOr,vF,eIf,eUn,vw,xO,xr,zU,zc,zw,zq,eFn,fFn,tOf,yr,wQ,zY,asB,asI,zt,wW,x9,zV,yH,vi,yB,ltD,leD,gtD,geD,vn,zx,zE,zv,zD,vo,zz,ixD,x4,zR,isT,eSl,yl,yi,zP,yj,iOf,wA,yn,wX,wc,wv,zL,yO,fLC,yb,zF,ym,zW,vb,yf,vk,b1,b2]) (fun z=>by cases z) fun _=>Yv rfl ?_))))))
    refine xt (V7 (ds:=zba es es) (fun i ρ=>∃ o1 o2,ρ=[.v (.tup es),.v (.tup es),o1,o2]) (by simp [fnD,zK,yC,yX,sIf,yG,wI,sNo,zH,vY,wn,wl,vZ,wJ,vEv,visF,visG,Sl.f,Sl.g,zf,eC,zm,wa,eOr,vF,eIf,eUn,vw,xO,xr,zU,zc,zw,zq,eFn,fFn,tOf,yr,wQ,zY,asB,asI,zt,wW,x9,zV,yH,vi,yB,ltD,leD,gtD,geD,vn,zx,zE,zv,zD,vo,zz,ixD,x4,zR,isT,eSl,yl,yi,zP,yj,iOf,wA,yn,wX,wc,wv,zL,yO,fLC,yb,zF,ym,zW,vb,yf,vk,b1,b2]) ⟨_,_,rfl⟩ ?_ ?_)
    · rintro i d ρ hd ⟨o1,o2,rfl⟩
      rw [VJ,List.getElem?_map] at hd
      obtain ⟨e,he,rfl⟩:=Option.map_eq_some_iff.mp hd
      have hre:=hr es (.inl rfl) e (List.mem_of_getElem? he)
      refine ⟨_,rfl,?_⟩
      unfold wG
      refine Zs (c:=false) (by simp [fnD,zK,yC,yX,sIf,yG,wI,sNo,zH,vY,wn,wl,vZ,wJ,vEv,visF,visG,Sl.f,Sl.g,zf,eC,zm,wa,eOr,vF,eIf,eUn,vw,xO,xr,zU,zc,zw,zq,eFn,fFn,tOf,yr,wQ,zY,asB,asI,zt,wW,x9,zV,yH,vi,yB,ltD,leD,gtD,geD,vn,zx,zE,zv,zD,vo,zz,ixD,x4,zR,isT,eSl,yl,yi,zP,yj,iOf,wA,yn,wX,wc,wv,zL,yO,fLC,yb,zF,ym,zW,vb,yf,vk,b1,b2,hre]) (fun z=>by cases z) fun _=>Yv rfl ⟨_,_,rfl⟩
    · rintro ρ ⟨o1,o2,rfl⟩
      exact Y1 rfl rfl
  | lst es =>
    refine Vh (ρ:=[.v (.lst es),.v (.lst es),.no,.no]) rfl ?_
    unfold yz
    refine zB rfl (zB rfl (zB rfl (zB rfl (zB rfl (xt (Zs (c:=false) (by simp [fnD,zK,yC,yX,sIf,yG,wI,sNo,zH,vY,wn,wl,vZ,wJ,vEv,visF,visG,Sl.f,Sl.g,zf,eC,zm,wa,eOr,vF,eIf,eUn,vw,xO,xr,zU,zc,zw,zq,eFn,fFn,tOf,yr,wQ,zY,asB,asI,zt,wW,x9,zV,yH,vi,yB,ltD,leD,gtD,geD,vn,zx,zE,zv,zD,vo,zz,ixD,x4,zR,isT,eSl,yl,yi,zP,yj,iOf,wA,yn,wX,wc,wv,zL,yO,fLC,yb,zF,ym,zW,vb,yf,vk,b1,b2]) (fun z=>by cases z) fun _=>Yv rfl ?_))))))
    refine xt (V7 (ds:=zba es es) (fun i ρ=>∃ o1 o2,ρ=[.v (.lst es),.v (.lst es),o1,o2]) (by simp [fnD,zK,yC,yX,sIf,yG,wI,sNo,zH,vY,wn,wl,vZ,wJ,vEv,visF,visG,Sl.f,Sl.g,zf,eC,zm,wa,eOr,vF,eIf,eUn,vw,xO,xr,zU,zc,zw,zq,eFn,fFn,tOf,yr,wQ,zY,asB,asI,zt,wW,x9,zV,yH,vi,yB,ltD,leD,gtD,geD,vn,zx,zE,zv,zD,vo,zz,ixD,x4,zR,isT,eSl,yl,yi,zP,yj,iOf,wA,yn,wX,wc,wv,zL,yO,fLC,yb,zF,ym,zW,vb,yf,vk,b1,b2]) ⟨_,_,rfl⟩ ?_ ?_)
    · rintro i d ρ hd ⟨o1,o2,rfl⟩
      rw [VJ,List.getElem?_map] at hd
      obtain ⟨e,he,rfl⟩:=Option.map_eq_some_iff.mp hd
      have hre:=hr es (.inr rfl) e (List.mem_of_getElem? he)
      refine ⟨_,rfl,?_⟩
      unfold wG
      refine Zs (c:=false) (by simp [fnD,zK,yC,yX,sIf,yG,wI,sNo,zH,vY,wn,wl,vZ,wJ,vEv,visF,visG,Sl.f,Sl.g,zf,eC,zm,wa,eOr,vF,eIf,eUn,vw,xO,xr,zU,zc,zw,zq,eFn,fFn,tOf,yr,wQ,zY,asB,asI,zt,wW,x9,zV,yH,vi,yB,ltD,leD,gtD,geD,vn,zx,zE,zv,zD,vo,zz,ixD,x4,zR,isT,eSl,yl,yi,zP,yj,iOf,wA,yn,wX,wc,wv,zL,yO,fLC,yb,zF,ym,zW,vb,yf,vk,b1,b2,hre]) (fun z=>by cases z) fun _=>Yv rfl ⟨_,_,rfl⟩
    · rintro ρ ⟨o1,o2,rfl⟩
      exact Y1 rfl rfl
theorem zed:∀ (n:Nat) {d:D},okE n d=true→zi3 4 yz (n+1) [d,d]=some (.bl true):=by
  intro n
  induction n with
  | zero =>
    intro d h
    refine VN (fun es he=>?_) (fun ns e=>by subst e;cases h) (fun _ _ _ _ e=>by subst e;cases h)
    rcases he with rfl | rfl <;> cases h
  | succ n ih =>
    intro d h
    refine VN (fun es he e hm=>?_) (fun ns e=>by subst e;cases h) (fun _ _ _ _ e=>by subst e;cases h)
    rcases he with rfl | rfl
    · exact ih (List.all_eq_true.mp h e hm)
    · exact ih (List.all_eq_true.mp h e hm)
theorem zfX {d:D}(h:okE 5 d=true):vR [d,d]=some (.bl true):=zed 5 h
theorem Vu (T:Txt K mg ad):xk P w K mg base CX0 7 ad.f__law_same ad.e__law_same ["found","due"] (@spD ⟨K⟩ 2 vR):=by
  letI:KK:=⟨K⟩
  have R:∀ n,xk P w K mg base CX0 (1+n) ad.f__law_same ad.e__law_same ["found","due"] (spD 2 (zi3 4 yz n)):=by
    refine zhO (P:=P) (w:=w) (mg:=mg) (base:=base) (k0:=1) (g:=yz) T.d__law_same.fn Ya fun k r hrec cdv A outer s H E hr=>?_
    unfold yz wG
    exact (zj (wx (yA zf0 zea (zS _) (zb 1 (pv 1)) (XM ZU)) (zn (zO (ZP zf0 zea (zS _) (zb 0 (pv 0)) (XM ZU)))) ya)
      (zj (wx (wR (zT .bool rfl T.z_isinstance (zb 1 (pv 1)) (yN (v:=.ty "bool") rfl T.z_bool W4 rfl))) (zn (zO (vU (zT .bool rfl T.z_isinstance (zb 0 (pv 0)) (yN (v:=.ty "bool") rfl T.z_bool W4 rfl)) (YI (ZP (YH hr) vm (zS _) (zb 0 (pv 0)) (zb 1 (pv 1))))))) ya)
      (zj (wx (wR (zT .int rfl T.z_isinstance (zb 1 (pv 1)) (yN (v:=.ty "int") rfl T.z_int zdb rfl))) (zn (zO (vU (zT .int rfl T.z_isinstance (zb 0 (pv 0)) (yN (v:=.ty "int") rfl T.z_int zdb rfl)) (vU (zf2 (zT .bool rfl T.z_isinstance (zb 0 (pv 0)) (yN (v:=.ty "bool") rfl T.z_bool W4 rfl))) (YI (ZP (YH hr) vm (zS _) (zb 0 (pv 0)) (zb 1 (pv 1)))))))) ya)
      (zj (wx (wR (zT .str rfl T.z_isinstance (zb 1 (pv 1)) (yN (v:=.ty "str") rfl T.z_str zfL rfl))) (zn (zO (vU (zT .str rfl T.z_isinstance (zb 0 (pv 0)) (yN (v:=.ty "str") rfl T.z_str zfL rfl)) (YI (ZP (YH hr) vm (zS _) (zb 0 (pv 0)) (zb 1 (pv 1))))))) ya)
      (zj (wx (zep (zap (yA WA ZN (zS _) (zT .list rfl T.z_isinstance (zb 1 (pv 1)) (yN (v:=.ty "list") rfl T.z_list WB rfl)) (zT .list rfl T.z_isinstance (zb 0 (pv 0)) (yN (v:=.ty "list") rfl T.z_list WB rfl))) (XJ (yA WA ZN (zS _) (zT .tuple rfl T.z_isinstance (zb 1 (pv 1)) (yN (v:=.ty "tuple") rfl T.z_tuple xv rfl)) (zT .tuple rfl T.z_isinstance (zb 0 (pv 0)) (yN (v:=.ty "tuple") rfl T.z_tuple xv rfl)))))) (zn (zO (Yd vM))) ya)
      (zj (wx (yA WA ZN (zS _) (yL yd vf rfl T.z_len YJ (za (zb 0 (pv 0)) zh)) (yL yd vf rfl T.z_len YJ (za (zb 1 (pv 1)) zh))) (zn (zO (Yd vM))) ya)
      (zj (Wn PassesOwn.never rfl (ziE rfl T.z_zip (za (zb 0 (pv 0)) (za (zb 1 (pv 1)) zh))) (VX rfl (x8 (xn (zX (i:=2) Ya.nd rfl (Or.inl rfl))) (x8 (xn (zX (i:=3) Ya.nd rfl (Or.inl rfl))) XF))) (zn (wx (vV (wR (zu hrec hr rfl T.d__law_same.at_ T.d__law_same.kp T.d__law_same.bd (za (zb 2 (pv 2)) (za (zb 3 (pv 3)) zh))))) (zn (zO (Yd vM))) ya)))
      (zn (zO (Yd vM))))))))))
  exact R 6
end
section
variable {P:Program}{w:World}{K:PySem.W.Frag}{mg:Str→Option Value}{base:Heap}{ad:Adr}
theorem zaO (T:Txt K mg ad):xk P w K mg base CX0 1 ad.i_NoSteps ad.j_NoSteps ["self","at"] (spI K 1 ["at"] (gI1 "at")):=by
  refine T.fi_NoSteps.ok zad (fun vs H Q E h=>zgz vs H Q E h) fun cdv A outer s H vs Q E hr hsp=>?_
  exact ⟨_,(vI (zjI (pv 0) (pv 1) rfl)),(zgV hsp)⟩
noncomputable def wu:SE→Ctl :=
  (zK (yG false 7 (zm yH (zq 2 zI (zc (zf 1) (zc (zm wC (eC (.int 60)) (zf 6)) zw))) (zm wC (zf 3) (eC (.int 1)))))
    (zK (sIf (tOf (zm ZF (zm yH (zf 1) (eC (.int 2))) (eC (.int 0)))) (zK (yG false 7 (eFn zfk (zc (zf 3) (zc (zm yH (zf 5) (zm wC (zf 2) (eC (.int 1)))) zw))))
    (yG false 5 (zm zV (zf 5) (zm wC (zf 2) (eC (.int 1)))))) zH)
    (zK (wl false 4 (zf 7))
    (yG false 3 (zm wW (zf 3) (zf 7))))))
noncomputable def xq:SE→Ctl :=
  (zK (yG false 3 (zf 2))
    (zK (wn 4 (zU zw))
    (zK (yG false 5 (zm zV (zf 1) (eC (.int 2))))
    (zK (yn wc (zc (zf 0) zw) (zW 6) wu)
    (sFz 4 (yC (eFn zF (zc (zf 4) zw))))))))
noncomputable def vj:List D→Option D:=fnD 8 xq
theorem zbK {n c mo:Int}(h0:0≤n)(h8:n≤8)(hm0:0≤mo)(hm:mo≤1000):∃ ns:List Int,vj [.int n,.int c,.int mo]=some (.tup (ns.map .int))∧(ns.length:Int)=n∧(∀ x∈ns,0≤x)∧ns.sum≤mo:=by
  have key:=zdq (m:=8) (g:=xq) (ds:=[.int n,.int c,.int mo]) (R:=fun d=>∃ ns:List Int,d=.tup (ns.map .int)∧(ns.length:Int)=n∧(∀ x∈ns,0≤x)∧ns.sum≤mo) (ρ:=[.v (.int n),.v (.int c),.v (.int mo),.no,.no,.no,.no,.no]) rfl ?_
  · obtain ⟨d,e,ns,rfl,h⟩:=key
    exact ⟨ns,e,h⟩
  unfold xq
  refine zB rfl (zB (ρ':=[.v (.int n),.v (.int c),.v (.int mo),.v (.int mo),.o [],.no,.no,.no]) (by simp [fnD,zK,yC,yX,sIf,yG,wI,sNo,zH,vY,wn,wl,vZ,wJ,vEv,visF,visG,Sl.f,Sl.g,zf,eC,zm,wa,eOr,vF,eIf,eUn,vw,xO,xr,zU,zc,zw,zq,eFn,fFn,tOf,yr,wQ,zY,asB,asI,zt,wW,x9,zV,yH,vi,yB,ltD,leD,gtD,geD,vn,zx,zE,zv,zD,vo,zz,ixD,x4,zR,isT,eSl,yl,yi,zP,yj,iOf,wA,yn,wX,wc,wv,zL,yO,fLC,yb,zF,ym,zW,vb,yf,vk,b1,b2,vB]) (zB (ρ':=[.v (.int n),.v (.int c),.v (.int mo),.v (.int mo),.o [],.v (.int (c / 2)),.no,.no]) (by simp [fnD,zK,yC,yX,sIf,yG,wI,sNo,zH,vY,wn,wl,vZ,wJ,vEv,visF,visG,Sl.f,Sl.g,zf,eC,zm,wa,eOr,vF,eIf,eUn,vw,xO,xr,zU,zc,zw,zq,eFn,fFn,tOf,yr,wQ,zY,asB,asI,zt,wW,x9,zV,yH,vi,yB,ltD,leD,gtD,geD,vn,zx,zE,zv,zD,vo,zz,ixD,x4,zR,isT,eSl,yl,yi,zP,yj,iOf,wA,yn,wX,wc,wv,zL,yO,fLC,yb,zF,ym,zW,vb,yf,vk,b1,b2]) ?_))
  refine xt (zbs (lo:=0) (c:=n.toNat) (fun i ρ=>∃ (le dg:Int) (ns:List Int) (o1 o2:Sl),ρ=[.v (.int n),.v (.int c),.v (.int mo),.v (.int le),.o (ns.map .int),.v (.int dg),o1,o2]∧ns.length=i∧(∀ x∈ns,0≤x)∧0≤le∧ns.sum+le=mo) (Yy h0 (by omega)) ⟨mo,c / 2,[],.no,.no,rfl,rfl,by simp,hm0,by simp⟩ ?_ ?_)
  · rintro i ρ hi ⟨le,dg,ns,o1,o2,rfl,hl,hnn,hle,hs⟩
    obtain ⟨x,hx⟩:∃ x:Int,(0:Int)+(i:Int)=x:=⟨_,rfl⟩
    rw [hx]
    refine ⟨_,rfl,?_⟩
    unfold wu
    obtain ⟨st,hst⟩:∃ st:Int,Wu c (60+x)=st:=⟨_,rfl⟩
    have hlo:0≤st % (le+1):=Int.emod_nonneg _ (by omega)
    have hhi:st % (le+1) < le+1:=Int.emod_lt_of_pos _ (by omega)
    have es:zI [.int c,.int (60+x)]=some (.int st):=by rw [←hst];rfl
    have hz:decide ((ns.map D.int).length < sizeLine)=true:=decide_eq_true (vC (by rw [List.length_map];omega))
    have fin:∀ (s2 dg2:Int),0≤s2→s2≤le→(zK (wl false 4 (zf 7)) (yG false 3 (zm wW (zf 3) (zf 7))) [.v (.int n),.v (.int c),.v (.int mo),.v (.int le),.o (ns.map .int),.v (.int dg2),.v (.int x),.v (.int s2)]).w
        (fun ρ=>∃ (le dg:Int) (ns:List Int) (o1 o2:Sl),ρ=[.v (.int n),.v (.int c),.v (.int mo),.v (.int le),.o (ns.map .int),.v (.int dg),o1,o2]∧ns.length=i+1∧(∀ x∈ns,0≤x)∧0≤le∧ns.sum+le=mo)
        (fun ρ'=>(sFz 4 (yC (eFn zF (zc (zf 4) zw))) ρ').w (fun _=>∃ ns:List Int,D.non=.tup (ns.map .int)∧(ns.length:Int)=n∧(∀ x∈ns,0≤x)∧ns.sum≤mo) noP noP fun d=>∃ ns:List Int,d=.tup (ns.map .int)∧(ns.length:Int)=n∧(∀ x∈ns,0≤x)∧ns.sum≤mo)
        (fun ρ=>∃ (le dg:Int) (ns:List Int) (o1 o2:Sl),ρ=[.v (.int n),.v (.int c),.v (.int mo),.v (.int le),.o (ns.map .int),.v (.int dg),o1,o2]∧ns.length=i+1∧(∀ x∈ns,0≤x)∧0≤le∧ns.sum+le=mo)
        (fun d=>∃ ns:List Int,d=.tup (ns.map .int)∧(ns.length:Int)=n∧(∀ x∈ns,0≤x)∧ns.sum≤mo):=fun s2 dg2 g1 g2=>by
      refine zB (ρ':=[.v (.int n),.v (.int c),.v (.int mo),.v (.int le),.o ((ns++[s2]).map .int),.v (.int dg2),.v (.int x),.v (.int s2)]) ?_ (Yv rfl ⟨le - s2,dg2,ns++[s2],_,_,rfl,?_,?_,by omega,?_⟩)
      · show (match (if decide ((ns.map D.int).length < sizeLine)=true then some ([.v (.int n),.v (.int c),.v (.int mo),.v (.int le),.o (ns.map .int++[.int s2]),.v (.int dg2),.v (.int x),.v (.int s2)]:SE) else none) with | some ρ'=>Ctl.nx ρ' | none=>Ctl.no)=_
        rw [if_pos hz,List.map_append]
        rfl
      · rw [List.length_append,hl];rfl
      · intro y hy
        rcases List.mem_append.mp hy with hy | hy
        · exact hnn y hy
        · rw [List.mem_singleton.mp hy];exact g1
      · rw [List.sum_append]
        simp
        omega
    have hm1:(0:Int) < le+1:=by omega
    refine zB (ρ':=[.v (.int n),.v (.int c),.v (.int mo),.v (.int le),.o (ns.map .int),.v (.int dg),.v (.int x),.v (.int (st % (le+1)))]) (by simp [fnD,zK,yC,yX,sIf,yG,wI,sNo,zH,vY,wn,wl,vZ,wJ,vEv,visF,visG,Sl.f,Sl.g,zf,eC,zm,wa,eOr,vF,eIf,eUn,vw,xO,xr,zU,zc,zw,zq,eFn,fFn,tOf,yr,wQ,zY,asB,asI,zt,wW,x9,zV,yH,vi,yB,ltD,leD,gtD,geD,vn,zx,zE,zv,zD,vo,zz,ixD,x4,zR,isT,eSl,yl,yi,zP,yj,iOf,wA,yn,wX,wc,wv,zL,yO,fLC,yb,zF,ym,zW,vb,yf,vk,b1,b2,es,hm1]) ?_
    by_cases hc:c % 2=0
    · have hm2:(0:Int) < mo+1:=by omega
      have hm3:mo+1 < 1606938044258990275541962092341162602522202993782792835301376:=by omega
      refine xt (Zs (c:=true) (by simp [fnD,zK,yC,yX,sIf,yG,wI,sNo,zH,vY,wn,wl,vZ,wJ,vEv,visF,visG,Sl.f,Sl.g,zf,eC,zm,wa,eOr,vF,eIf,eUn,vw,xO,xr,zU,zc,zw,zq,eFn,fFn,tOf,yr,wQ,zY,asB,asI,zt,wW,x9,zV,yH,vi,yB,ltD,leD,gtD,geD,vn,zx,zE,zv,zD,vo,zz,ixD,x4,zR,isT,eSl,yl,yi,zP,yj,iOf,wA,yn,wX,wc,wv,zL,yO,fLC,yb,zF,ym,zW,vb,yf,vk,b1,b2,hc]) (fun _=>?_) (fun z=>by cases z))
      refine zB (ρ':=[.v (.int n),.v (.int c),.v (.int mo),.v (.int le),.o (ns.map .int),.v (.int dg),.v (.int x),.v (.int (if dg % (mo+1) < le then dg % (mo+1) else le))]) (by simp [fnD,zK,yC,yX,sIf,yG,wI,sNo,zH,vY,wn,wl,vZ,wJ,vEv,visF,visG,Sl.f,Sl.g,zf,eC,zm,wa,eOr,vF,eIf,eUn,vw,xO,xr,zU,zc,zw,zq,eFn,fFn,tOf,yr,wQ,zY,asB,asI,zt,wW,x9,zV,yH,vi,yB,ltD,leD,gtD,geD,vn,zx,zE,zv,zD,vo,zz,ixD,x4,zR,isT,eSl,yl,yi,zP,yj,iOf,wA,yn,wX,wc,wv,zL,yO,fLC,yb,zF,ym,zW,vb,yf,vk,b1,b2,hm2,zfk]) (Yv (ρ':=[.v (.int n),.v (.int c),.v (.int mo),.v (.int le),.o (ns.map .int),.v (.int (dg / (mo+1))),.v (.int x),.v (.int (if dg % (mo+1) < le then dg % (mo+1) else le))]) (by simp [fnD,zK,yC,yX,sIf,yG,wI,sNo,zH,vY,wn,wl,vZ,wJ,vEv,visF,visG,Sl.f,Sl.g,zf,eC,zm,wa,eOr,vF,eIf,eUn,vw,xO,xr,zU,zc,zw,zq,eFn,fFn,tOf,yr,wQ,zY,asB,asI,zt,wW,x9,zV,yH,vi,yB,ltD,leD,gtD,geD,vn,zx,zE,zv,zD,vo,zz,ixD,x4,zR,isT,eSl,yl,yi,zP,yj,iOf,wA,yn,wX,wc,wv,zL,yO,fLC,yb,zF,ym,zW,vb,yf,vk,b1,b2,hm2,hm3]) ?_)
      have p1:0≤dg % (mo+1):=Int.emod_nonneg _ (by omega)
      exact fin _ _ (by split <;> omega) (by split <;> omega)
    · refine xt (Zs (c:=false) (by simp [fnD,zK,yC,yX,sIf,yG,wI,sNo,zH,vY,wn,wl,vZ,wJ,vEv,visF,visG,Sl.f,Sl.g,zf,eC,zm,wa,eOr,vF,eIf,eUn,vw,xO,xr,zU,zc,zw,zq,eFn,fFn,tOf,yr,wQ,zY,asB,asI,zt,wW,x9,zV,yH,vi,yB,ltD,leD,gtD,geD,vn,zx,zE,zv,zD,vo,zz,ixD,x4,zR,isT,eSl,yl,yi,zP,yj,iOf,wA,yn,wX,wc,wv,zL,yO,fLC,yb,zF,ym,zW,vb,yf,vk,b1,b2,hc]) (fun z=>by cases z) (fun _=>Yv rfl ?_))
      exact fin _ _ hlo (by omega)
  · rintro ρ ⟨le,dg,ns,o1,o2,rfl,hl,hnn,hle,hs⟩
    refine zf3 rfl (Y1 rfl ⟨ns,rfl,by omega,hnn,by omega⟩)
theorem Xw (T:Txt K mg ad):xk P w K mg base CX0 2 ad.f__law_heap_by ad.e__law_heap_by ["many","cell","most"] (@spD ⟨K⟩ 3 vj):=by
  letI:KK:=⟨K⟩
  have G__law_stir:=wm (P:=P) (w:=w) (base:=base) T
  refine xU (N:=["many","cell","most","left","heap","digits","k","stones"]) (ps:=["many","cell","most"]) T.d__law_heap_by.fn zQ (g:=xq) fun cdv A outer s H E hr=>?_
  unfold xq wu
  exact (zj (yp (m:=false) (i:=3) zQ.nd rfl (Or.inl rfl) (zb 2 (pv 2)))
      (zj (ZM (i:=4) zQ.nd rfl (Or.inl rfl) (vE zh))
      (zj (yp (m:=false) (i:=5) zQ.nd rfl (Or.inl rfl) (YY (zb 1 (pv 1)) (zi zg)))
      (zj (Vd PassesOwn.never rfl rfl T.z_range (za (zb 0 (pv 0)) zh) (xn (zX (i:=6) zQ.nd rfl (Or.inl rfl))) (zj (yp (m:=false) (i:=7) zQ.nd rfl (Or.inl rfl) (xB (zu (G__law_stir.mono (by decide)) hr rfl T.d__law_stir.at_ T.d__law_stir.kp T.d__law_stir.bd (za (zb 1 (pv 1)) (za (yS (zi zg) (zb 6 (pv 6))) zh))) (yS (zb 3 (pv 3)) (zi zg))))
      (zj (wx (yA (YH hr) vm (zS _) (xB (zb 1 (pv 1)) (zi zg)) (zi zg)) (zj (yp (m:=false) (i:=7) zQ.nd rfl (Or.inl rfl) (yL (Vm rfl) za5 rfl T.z_min zf4 (za (zb 3 (pv 3)) (za (xB (zb 5 (pv 5)) (yS (zb 2 (pv 2)) (zi zg))) zh))))
      (zn (yp (m:=false) (i:=5) zQ.nd rfl (Or.inl rfl) (YY (zb 5 (pv 5)) (yS (zb 2 (pv 2)) (zi zg)))))) ya)
      (zj (Zc (m:=false) (pv 4) (zb 7 (pv 7)) (fun a b=>XX PySem.F.plainAttrs_list PySem.F.slot_list_append PySem.F.type_list_append xL a b))
      (zn (yp (m:=false) (i:=3) zQ.nd rfl (Or.inl rfl) (VG (zb 3 (pv 3)) (zb 7 (pv 7)))))))))
      (ZV 4 (zn (zO (vz xi vD rfl T.z_tuple xv (za (zb 4 (pv 4)) zh)))))))))
theorem Wo {ts:List Tie}(h:ts.length < 64):Vp [.lst (ts.map zd)]=some ((Zp ts).map zd):=by
  show (if (ts.map zd).length < 64 then _ else none)=_
  rw [if_pos (by rw [List.length_map];exact h),show zaq (ts.map zd)=some ts from zd5 ts]
  rfl
set_option genInjectivity false in
set_option genSizeOf false in
set_option genCtorIdx false in
structure zfM (n:Int) (i:Nat) (ts:List Tie):Prop where
  rng:∀ t∈ts,0≤t.1∧t.1 < t.2∧t.2 < n
  nd:ts.Nodup
  has:∀ k:Int,1≤k→k≤(i:Int)→∃ t∈ts,t.2=k
  len:ts.length≤28+i
theorem zfM.yes {n x:Int}{i:Nat}{ts:List Tie}(h:zfM n i ts)(hx:x=1+(i:Int)){t:Tie}(ht:t∈ts)(e:t.2=x):zfM n (i+1) ts :=
  ⟨h.rng,h.nd,fun k k1 k2=>by
    by_cases c:k=x
    · exact ⟨t,ht,by rw [e,c]⟩
    · exact h.has k k1 (by omega),Nat.le_succ_of_le h.len⟩
theorem zfM.add {n x j:Int}{i:Nat}{ts:List Tie}(h:zfM n i ts)(hx:x=1+(i:Int))(hn:x < n)(j0:0≤j)(j1:j < x)(hno:∀ t∈ts,t.2≠x):zfM n (i+1) (ts++[(j,x)]):=by
  refine ⟨fun t ht=>?_,?_,fun k k1 k2=>?_,?_⟩
  · rcases List.mem_append.mp ht with ht | ht
    · exact h.rng t ht
    · cases List.mem_singleton.mp ht;exact ⟨j0,j1,hn⟩
  · refine List.nodup_append.mpr ⟨h.nd,List.nodup_cons.mpr ⟨List.not_mem_nil,List.nodup_nil⟩,fun a ha b hb e=>?_⟩
    cases List.mem_singleton.mp hb
    exact hno a ha (by rw [e])
  · by_cases c:k=x
    · exact ⟨(j,x),List.mem_append.mpr (.inr (List.mem_singleton.mpr rfl)),c.symm⟩
    · obtain ⟨t,ht,e⟩:=h.has k k1 (by omega)
      exact ⟨t,List.mem_append.mpr (.inl ht),e⟩
  · rw [List.length_append]
    exact Nat.succ_le_succ h.len
theorem zhY {ρ:Ev}{ts:List Tie}{x:Int}(h2:ρ[2]?=some (some (.lst (ts.map zd))))(h3:ρ[3]?=some (some (.int x)))(hl:ts.length≤1000):fLC (iOf (zf 2)) b1 (tOf (zm ZF (zm ixD (zf 0) (eC (.int 1))) (zf 4))) (zf 0) ρ=some ((ts.filter fun t=>decide (t.2=x)).map zd):=by
  have e2:zf 2 ρ=some (.lst (ts.map zd)):=by unfold zf;rw [h2];rfl
  unfold fLC
  show (((zf 2 ρ).bind yj).bind fun ds=>if lim ds.length=true then _ else none)=_
  rw [e2]
  show (if lim (ts.map zd).length=true then _ else none)=_
  rw [if_pos (vB (by rw [List.length_map];exact hl))]
  refine Zy zd (fun t=>decide (t.2=x)) zd ts fun t _=>⟨[some (zd t)],rfl,?_,fun _=>rfl⟩
  have e3:zf 4 ([some (zd t)]++ρ)=some (.int x):=by
    unfold zf
    rw [show ([some (zd t)]++ρ)[4]?=ρ[3]? from rfl,h3]
    rfl
  show ((some (D.int t.2)).bind fun a=>(zf 4 ([some (zd t)]++ρ)).bind fun b=>ZF a b).bind asB=_
  rw [e3]
  rfl
noncomputable def xJ:SE→Ctl :=
  (zK (yG false 4 (xO (zc (zm yH (zq 2 zI (zc (zf 1) (zc (zm wC (eC (.int 50)) (zf 3)) zw))) (zf 3)) (zc (zf 3) zw))))
    (sIf (tOf (zm ZF (eFn x4 (zc (xr (fLC (iOf (zf 2)) b1 (tOf (zm ZF (zm ixD (zf 0) (eC (.int 1))) (zf 4))) (zf 0))) zw)) (eC (.int 0)))) (wl false 2 (zf 4)) zH))
noncomputable def yR:SE→Ctl :=
  (zK (wn 2 (fFn ym (zc (zm ixD (zq 2 wD (zc (zf 0) (zc (zf 1) zw))) (eC (.int 1))) zw)))
    (zK (yn wv (zc (eC (.int 1)) (zc (zf 0) zw)) (zW 3) xJ)
    (sFz 2 (yC (xO (zc (zf 0) (zc (eFn zF (zc (xr (fFn Vp (zc (zf 2) zw))) zw)) zw)))))))
noncomputable def wq:List D→Option D:=fnD 5 yR
theorem V8 {n c:Int}(h1:1≤n)(h8:n≤8):∃ ts,wq [.int n,.int c]=some (yy n ts)∧wV n ts∧(∀ x:Int,1≤x→x < n→∃ t∈ts,t.2=x):=by
  obtain ⟨ts0,ew,hsub⟩:=zdd (n:=n) (c:=c) h1 h8
  obtain ⟨k,hk⟩:∃ k:Nat,n=((k+1:Nat):Int):=⟨(n - 1).toNat,by omega⟩
  have hk7:k≤7:=by omega
  obtain ⟨q1,q2,q3⟩:=Y8 n.toNat (by omega)
  have key:=zdq (m:=5) (g:=yR) (ds:=[.int n,.int c]) (R:=fun d=>∃ ts:List Tie,d=yy n (Zp ts)∧zfM n k ts) (ρ:=[.v (.int n),.v (.int c),.no,.no,.no]) rfl ?_
  · obtain ⟨d,e,ts,rfl,hj⟩:=key
    have hp:=ZE ts
    have hr:∀ t∈Zp ts,0≤t.1∧t.1 < t.2∧t.2 < n:=fun t ht=>hj.rng t (hp.mem_iff.mp ht)
    refine ⟨_,e,⟨h1,h8,hr,Vn hj.nd⟩,fun x x1 x2=>?_⟩
    obtain ⟨t,ht,e2⟩:=hj.has x x1 (by omega)
    exact ⟨t,hp.mem_iff.mpr ht,e2⟩
  unfold yR
  refine zB (ρ':=[.v (.int n),.v (.int c),.o (ts0.map zd),.no,.no]) (zhb (ds:=ts0.map zd) ?_) ?_
  · show (((wD [.int n,.int c]).bind fun x=>ixD x (.int 1)).bind fun d=>(some []).map (d::·)).bind ym=_
    rw [ew]
    rfl
  have hrng:wv [.int 1,.int n]=some (Z3 1 k):=zhJ hk hk7
  refine xt (zbs (lo:=1) (c:=k) (fun i ρ=>∃ (ts:List Tie) (o3 o4:Sl),ρ=[.v (.int n),.v (.int c),.o (ts.map zd),o3,o4]∧zfM n i ts) hrng ⟨ts0,_,_,rfl,⟨fun t ht=>?_,(q1.sublist hsub).imp fun {a b} h e=>by subst e;exact absurd (XI.mpr h) (by unfold leP;simp),fun k k1 k2=>absurd (Int.le_trans k1 k2) (by decide),Nat.le_trans hsub.length_le q3⟩⟩ ?_ ?_)
  · have:=q2 t (hsub.subset ht)
    omega
  · rintro i ρ hi ⟨ts,o3,o4,rfl,hj⟩
    obtain ⟨x,hx⟩:∃ x:Int,x=(1:Int)+(i:Int):=⟨_,rfl⟩
    rw [←hx]
    refine ⟨[.v (.int n),.v (.int c),.o (ts.map zd),.v (.int x),o4],rfl,?_⟩
    unfold xJ
    obtain ⟨j,hjj⟩:∃ j:Int,Wu c (50+x) % x=j:=⟨_,rfl⟩
    have xp:0 < x:=by omega
    obtain ⟨j0,j1⟩:=vH xp hjj
    have hl:=hj.len
    refine zB (ρ':=[.v (.int n),.v (.int c),.o (ts.map zd),.v (.int x),.v (zd (j,x))]) (YW (d:=zd (j,x)) ?_) ?_
    · have m1:yH (.int (Wu c (50+x))) (.int x)=some (.int j):=by rw [xm xp,hjj]
      show ((yH (.int (Wu c (50+x))) (.int x)).bind fun d=>(some [D.int x]).map (d::·)).bind _=_
      rw [m1]
      rfl
    refine Zs (c:=decide ((((ts.filter fun t=>decide (t.2=x)).map zd).length:Int)=0)) ?_ (fun c0=>?_) (fun c0=>?_)
    · have el':=zhY (ρ:=visG [.v (.int n),.v (.int c),.o (ts.map zd),.v (.int x),.v (zd (j,x))]) (ts:=ts) (x:=x) rfl rfl (by omega)
      show (((((fLC (iOf (zf 2)) b1 (tOf (zm ZF (zm ixD (zf 0) (eC (.int 1))) (zf 4))) (zf 0) _).map D.lst).bind fun d=>(some []).map (d::·)).bind x4).bind fun a=>ZF a (.int 0)).bind asB=_
      rw [el']
      rfl
    · refine Yv (Z0 (ds:=ts.map zd) (d:=zd (j,x)) rfl rfl (by rw [List.length_map];omega)) ⟨ts++[(j,x)],.v (.int x),.v (zd (j,x)),?_,hj.add hx (by omega) j0 j1 fun t ht e=>?_⟩
      · rw [List.map_append];rfl
      · have h0:=of_decide_eq_true c0
        have:t∈ts.filter fun t=>decide (t.2=x):=List.mem_filter.mpr ⟨ht,decide_eq_true e⟩
        rw [List.length_map] at h0
        rw [List.length_eq_zero_iff.mp (Int.ofNat.inj h0)] at this
        cases this
    · obtain ⟨t,ht⟩:∃ t,t∈ts.filter fun t=>decide (t.2=x):=by
        rcases hf:ts.filter fun t=>decide (t.2=x) with _ | ⟨t,r⟩
        · rw [hf] at c0;cases c0
        · exact ⟨t,by rw [hf];exact List.mem_cons_self⟩
      obtain ⟨t1,t2⟩:=List.mem_filter.mp ht
      exact Yv rfl ⟨ts,_,_,rfl,hj.yes hx t1 (of_decide_eq_true t2)⟩
  · rintro ρ ⟨ts,o3,o4,rfl,hj⟩
    have hl:=hj.len
    have e5:=Wo (ts:=ts) (by omega)
    refine zf3 (ρ':=[.v (.int n),.v (.int c),.v (.lst (ts.map zd)),o3,o4]) rfl ?_
    refine Y1 (YX (d:=yy n (Zp ts)) ?_) ⟨ts,rfl,hj⟩
    show ((((((Vp [.lst (ts.map zd)]).map D.lst).bind fun d=>(some []).map (d::·)).bind zF).bind fun d=>(some []).map (d::·)).map (D.int n::·)).bind _=_
    rw [e5]
    rfl
theorem ZC (T:Txt K mg ad):xk P w K mg base CX0 3 ad.f__law_joined_by ad.e__law_joined_by ["many","cell"] (@spD ⟨K⟩ 2 wq):=by
  letI:KK:=⟨K⟩
  have G__law_stir:=wm (P:=P) (w:=w) (base:=base) T
  have G__law_web_by:=X0 (P:=P) (w:=w) (base:=base) T
  refine xU (N:=["many","cell","ties","k","tie"]) (ps:=["many","cell"]) T.d__law_joined_by.fn xh (g:=yR) fun cdv A outer s H E hr=>?_
  unfold yR xJ
  exact (zj (ZM (i:=2) xh.nd rfl (Or.inl rfl) (XA rfl T.z_list (za (yo (zu (G__law_web_by.mono (by decide)) hr rfl T.d__law_web_by.at_ T.d__law_web_by.kp T.d__law_web_by.bd (za (zb 0 (pv 0)) (za (zb 1 (pv 1)) zh))) (zi zg) (fun _ _=>rfl)) zh)))
      (zj (zeG PassesOwn.never rfl rfl T.z_range (za (zi zg) (za (zb 0 (pv 0)) zh)) (xn (zX (i:=3) xh.nd rfl (Or.inr rfl))) (zj (yp (m:=false) (i:=4) xh.nd rfl (Or.inl rfl) (we (za (xB (zu (G__law_stir.mono (by decide)) hr rfl T.d__law_stir.at_ T.d__law_stir.kp T.d__law_stir.bd (za (zb 1 (pv 1)) (za (yS (zi zg) (zb 3 (pv 3))) zh))) (zb 3 (pv 3))) (za (zb 3 (pv 3)) zh))))
      (zn (wx (yA (YH hr) vm (zS _) (yL yd vf rfl T.z_len YJ (za (YZ (zir (L:=["other"]) (M:=["many","cell","ties","k","tie"]) rfl (Xo (by rfl) (by rfl) (by rfl) (by with_unfolding_all rfl) (by rfl) (by rfl) (by kernel_rfl) (all_cons rfl YV)) (Z2 (zb 2 (pv 2))) gs1 rb1 (fun _ _ _ _=>(zX (i:=0) zjJ rfl (Or.inl rfl) (.inr rfl))) (fun _ _ _ _=>(yA (YH hr) vm (zS _) (yo (zb 0 (pv 0)) (zi zg) (fun _ _=>rfl)) (zb 4 (pv 4)))) (fun _ _ _ _=>(zb 0 (pv 0))))) zh)) (zi zg)) (zn (Zc (m:=false) (pv 2) (zb 4 (pv 4)) (fun a b=>XX PySem.F.plainAttrs_list PySem.F.slot_list_append PySem.F.type_list_append xL a b))) ya))))
      (ZV 2 (zn (zO (we (za (zb 0 (pv 0)) (za (vz xi vD rfl T.z_tuple xv (za (YZ (Vj rfl rfl T.z_sorted (za (zb 2 (pv 2)) zh))) zh)) zh))))))))
theorem Yg {gx hx:SE→Option Nat}{g:SE→Ctl}{ρ ρ':SE}{j:Nat}(e:gx ρ=none)(e2:g ρ=.nx ρ')(e3:hx ρ'=some j):zfR gx g hx ρ=some j:=by
  unfold zfR
  rw [e,e2]
  exact e3
theorem zeP {gx:SE→Option Nat}{g:SE→Ctl}{h:Nat→Option D}{ρ:SE}{j:Nat}{d:D}(e:gx ρ=some j)(e2:h j=some d):ziD gx g h ρ=.rt d:=by
  unfold ziD
  rw [e]
  show (match h j with | some d=>Ctl.rt d | none=>.no)=_
  rw [e2]
theorem zdz {t:Ev→Option Bool}{g h:SE→Option Nat}{ρ:SE}{j:Nat}(e:t (visG ρ)=some true)(e2:g ρ=some j):xIf t g h ρ=some j:=by
  unfold xIf
  rw [e]
  exact e2
theorem zdM {t:Ev→Option Bool}{g:SE→Ctl}{ρ:SE}(e:t (visG ρ)=some false):sIf t g zH ρ=.nx ρ:=by
  unfold sIf
  rw [e]
  rfl
theorem WE {m:Int}{ts:List Tie}{a b:Int}(ok:wV m ts)(h:VU a b∈ts):(0≤a∧a < m)∧(0≤b∧b < m)∧a≠b:=by
  have:=ok.rng _ h
  unfold VU at this
  dsimp only at this
  split at this <;> split at this <;> omega
noncomputable def Y4:SE→Ctl :=
  (yC (wa (zq 2 y6 (zc (zm ixD (zf 0) (eC (.int 0))) (zc (zf 1) zw))) (zm inD (zq 2 xc (zc (zm ixD (zf 1) (eC (.int 0))) (zc (zm ixD (zf 1) (eC (.int 1))) zw))) (zm ixD (zf 0) (eC (.int 1))))))
noncomputable def Zd:List D→Option D:=fnD 2 Y4
theorem zck {m:Int}{ts:List Tie}(ok:wV m ts)(a b:Int):Zd [yy m ts,.tup [.int a,.int b]]=some (.bl (decide (VU a b∈ts))):=by
  have ep:y6 [.int m,.tup [.int a,.int b]]=some (.bl (inR m a&&inR m b&&!decide (a=b))):=rfl
  have et:xc [.int a,.int b]=some (zd (VU a b)):=rfl
  have ei:=za3 (VU a b) ts
  have em:ixD (yy m ts) (.int 0)=some (.int m):=rfl
  have e1:ixD (yy m ts) (.int 1)=some (.tup (ts.map zd)):=rfl
  have ea:ixD (.tup [.int a,.int b]) (.int 0)=some (.int a):=rfl
  have eb:ixD (.tup [.int a,.int b]) (.int 1)=some (.int b):=rfl
  refine Vh (ρ:=[.v (yy m ts),.v (.tup [.int a,.int b])]) rfl ?_
  unfold Y4
  refine Y1 (YX ?_) rfl
  cases hp:inR m a&&inR m b&&!decide (a=b) with
  | true =>
    rw [hp] at ep
    show (((y6 [.int m,.tup [.int a,.int b]]).bind asB).bind fun c=>if c=true then ((xc [.int a,.int b]).bind fun t=>inD t (.tup (ts.map zd))) else some (D.bl false))=_
    rw [ep,et]
    exact ei
  | false =>
    have:¬ VU a b∈ts:=fun h=>by
      obtain ⟨h1,h2,h3⟩:=WE ok h
      have:(inR m a&&inR m b&&!decide (a=b))=true:=by
        unfold inR
        simp only [Bool.and_eq_true,decide_eq_true_eq,Bool.not_eq_true',decide_eq_false_iff_not]
        omega
      rw [this] at hp
      cases hp
    rw [decide_eq_false this]
    rw [hp] at ep
    show (((y6 [.int m,.tup [.int a,.int b]]).bind asB).bind fun c=>if c=true then ((xc [.int a,.int b]).bind fun t=>inD t (.tup (ts.map zd))) else some (D.bl false))=_
    rw [ep]
    rfl
theorem zci (T:Txt K mg ad):xk P w K mg base CX0 5 ad.f_is_step ad.e_is_step ["web","thing"] (@spD ⟨K⟩ 2 Zd):=by
  letI:KK:=⟨K⟩
  have G_is_pair:=Ws (P:=P) (w:=w) (base:=base) T
  have G_tie_between:=X4 (P:=P) (w:=w) (base:=base) T
  refine xU (N:=["web","thing"]) (ps:=["web","thing"]) T.d_is_step.fn zbG (g:=Y4) fun cdv A outer s H E hr=>?_
  unfold Y4
  exact (zn (zO (vU (zu (G_is_pair.mono (by decide)) hr rfl T.d_is_pair.at_ T.d_is_pair.kp T.d_is_pair.bd (za (yo (zb 0 (pv 0)) (zi zg) (fun _ _=>rfl)) (za (zb 1 (pv 1)) zh))) (YI (ZP (zhD hr) zio (by with_unfolding_all rfl) (zu (G_tie_between.mono (by decide)) hr rfl T.d_tie_between.at_ T.d_tie_between.kp T.d_tie_between.bd (za (yo (zb 1 (pv 1)) (zi zg) (fun _ _=>rfl)) (za (yo (zb 1 (pv 1)) (zi zg) (fun _ _=>rfl)) zh))) (yo (zb 0 (pv 0)) (zi zg) (fun _ _=>rfl)))))))
noncomputable abbrev Hl:=List Int
noncomputable def hD (h:Hl):D:=.tup (h.map .int)
noncomputable def zes (h:Hl)(i x:Int):Hl:=h.set i.toNat x
noncomputable def wH (h:Hl)(s:Tie):Hl:=zes (zes h s.1 (vAt h s.1 - 2)) s.2 (vAt (zes h s.1 (vAt h s.1 - 2)) s.2+1)
theorem W3 (h:Hl)(i x:Int):(zes h i x).length=h.length:=by unfold zes;exact List.length_set
theorem Xu (h:Hl)(s:Tie):(wH h s).length=h.length:=by unfold wH;rw [W3,W3]
set_option genInjectivity false in
set_option genSizeOf false in
set_option genCtorIdx false in
structure zbj (n:Nat) (s:Tie):Prop where
  a0:0≤s.1
  a1:s.1 < (n:Int)
  b0:0≤s.2
  b1:s.2 < (n:Int)
  ne:s.1≠s.2
noncomputable def gMv:SE→Ctl :=
  (zK (wn 2 (fFn ym (zc (zf 0) zw)))
    (zK (wJ true 2 (zm ixD (zf 1) (eC (.int 0))) (zm wW (zm ixD (zf 2) (zm ixD (zf 1) (eC (.int 0)))) (eC (.int 2))))
    (zK (wJ true 2 (zm ixD (zf 1) (eC (.int 1))) (zm wC (zm ixD (zf 2) (zm ixD (zf 1) (eC (.int 1)))) (eC (.int 1))))
    (sFz 2 (yC (eFn zF (zc (zf 2) zw)))))))
theorem zhK {h:Hl}{s:Tie}(hs:zbj h.length s):fnD 3 gMv [hD h,zd s]=some (hD (wH h s)):=by
  obtain ⟨a,b⟩:=s
  obtain ⟨a0,a1,b0,b1,ne⟩:=hs
  dsimp only at a0 a1 b0 b1 ne
  refine Vh (ρ:=[.v (hD h),.v (zd (a,b)),.no]) rfl ?_
  unfold gMv
  refine zB (ρ':=[.v (hD h),.v (zd (a,b)),.o (h.map .int)]) rfl ?_
  have ea:=Yu (ns:=h) a0 a1
  obtain ⟨g,hg⟩:∃ g,zes h a (vAt h a - 2)=g:=⟨_,rfl⟩
  have gl:g.length=h.length:=by rw [←hg,W3]
  have eb:=Yu (ns:=g) b0 (by rw [gl];exact b1)
  have hm:wH h (a,b)=zes g b (vAt g b+1):=by unfold wH;rw [hg]
  rw [hm]
  refine xt (ziw (h.map .int) (.int (vAt h a - 2)) a ?_ rfl rfl a0 (by rw [List.length_map];exact a1) ?_)
  · show (Option.bind ((atI (h.map D.int) a).bind fun x=>wW x (.int 2)) fun d=>if noL d=true then some d else none)=_
    rw [ea]
    rfl
  rw [show (h.map D.int).set a.toNat (.int (vAt h a - 2))=g.map .int by rw [←hg];unfold zes;rw [List.map_set]]
  refine xt (ziw (g.map .int) (.int (vAt g b+1)) b ?_ rfl rfl b0 (by rw [List.length_map,gl];exact b1) ?_)
  · show (Option.bind ((atI (g.map D.int) b).bind fun x=>wC x (.int 1)) fun d=>if noL d=true then some d else none)=_
    rw [eb]
    rfl
  rw [show (g.map D.int).set b.toNat (.int (vAt g b+1))=(zes g b (vAt g b+1)).map .int by unfold zes;rw [List.map_set]]
  exact zf3 rfl (Y1 rfl rfl)
noncomputable def Xv:SE→Ctl :=
  (zK (wn 2 (fFn ym (zc (zf 0) zw)))
    (zK (wJ true 2 (zm ixD (zf 1) (eC (.int 0))) (zm wW (zm ixD (zf 2) (zm ixD (zf 1) (eC (.int 0)))) (eC (.int 2))))
    (zK (wJ true 2 (zm ixD (zf 1) (eC (.int 1))) (zm wC (zm ixD (zf 2) (zm ixD (zf 1) (eC (.int 1)))) (eC (.int 1))))
    (sFz 2 (yC (eFn zF (zc (zf 2) zw)))))))
noncomputable def XO:List D→Option D:=fnD 3 Xv
theorem zca {h:Hl}{s:Tie}(hs:zbj h.length s):XO [hD h,zd s]=some (hD (wH h s)):=zhK hs
theorem zbV (T:Txt K mg ad):xk P w K mg base CX0 1 ad.f_stepped ad.e_stepped ["heap","step"] (@spD ⟨K⟩ 2 XO):=by
  letI:KK:=⟨K⟩
  refine xU (N:=["heap","step","stones"]) (ps:=["heap","step"]) T.d_stepped.fn X9 (g:=Xv) fun cdv A outer s H E hr=>?_
  unfold Xv
  exact (zj (ZM (i:=2) X9.nd rfl (Or.inl rfl) (XA rfl T.z_list (za (zb 0 (pv 0)) zh)))
      (zj (za9 (m:=true) (VG (yo (zb 2 (pv 2)) (yo (zb 1 (pv 1)) (zi zg) (fun _ _=>rfl)) (fun _ _=>rfl)) (zi zg)) (pv 2) (yo (zb 1 (pv 1)) (zi zg) (fun _ _=>rfl)))
      (zj (za9 (m:=true) (yS (yo (zb 2 (pv 2)) (yo (zb 1 (pv 1)) (zi zg) (fun _ _=>rfl)) (fun _ _=>rfl)) (zi zg)) (pv 2) (yo (zb 1 (pv 1)) (zi zg) (fun _ _=>rfl)))
      (ZV 2 (zn (zO (vz xi vD rfl T.z_tuple xv (za (zb 2 (pv 2)) zh))))))))
noncomputable def v6:SE→Ctl :=
  (zK (wn 2 (fFn ym (zc (zf 0) zw)))
    (zK (wJ true 2 (zm ixD (zf 1) (eC (.int 0))) (zm wW (zm ixD (zf 2) (zm ixD (zf 1) (eC (.int 0)))) (eC (.int 2))))
    (zK (wJ true 2 (zm ixD (zf 1) (eC (.int 1))) (zm wC (zm ixD (zf 2) (zm ixD (zf 1) (eC (.int 1)))) (eC (.int 1))))
    (sFz 2 (yC (eFn zF (zc (zf 2) zw)))))))
noncomputable def w6:List D→Option D:=fnD 3 v6
theorem ZR {h:Hl}{s:Tie}(hs:zbj h.length s):w6 [hD h,zd s]=some (hD (wH h s)):=zhK hs
theorem Y3 (T:Txt K mg ad):xk P w K mg base CX0 1 ad.f__law_moved ad.e__law_moved ["heap","step"] (@spD ⟨K⟩ 2 w6):=by
  letI:KK:=⟨K⟩
  refine xU (N:=["heap","step","found"]) (ps:=["heap","step"]) T.d__law_moved.fn Zo (g:=v6) fun cdv A outer s H E hr=>?_
  unfold v6
  exact (zj (ZM (i:=2) Zo.nd rfl (Or.inl rfl) (XA rfl T.z_list (za (zb 0 (pv 0)) zh)))
      (zj (za9 (m:=true) (VG (yo (zb 2 (pv 2)) (yo (zb 1 (pv 1)) (zi zg) (fun _ _=>rfl)) (fun _ _=>rfl)) (zi zg)) (pv 2) (yo (zb 1 (pv 1)) (zi zg) (fun _ _=>rfl)))
      (zj (za9 (m:=true) (yS (yo (zb 2 (pv 2)) (yo (zb 1 (pv 1)) (zi zg) (fun _ _=>rfl)) (fun _ _=>rfl)) (zi zg)) (pv 2) (yo (zb 1 (pv 1)) (zi zg) (fun _ _=>rfl)))
      (ZV 2 (zn (zO (vz xi vD rfl T.z_tuple xv (za (zb 2 (pv 2)) zh))))))))
inductive VF:D→Prop
  | pair (a b:Int):VF (.tup [.int a,.int b])
  | lst:VF (.lst [.int 0,.int 1])
  | tru:VF (.tup [.bl true,.int 0])
  | fal:VF (.tup [.int 0,.bl false])
  | non:VF .non
  | text (s:String):VF (.str s)
  | three:VF (.tup [.int 0,.int 1,.int 1])
  | one:VF (.tup [.int 0])
  | num (n:Int):VF (.int n)
noncomputable def YD (ts:List Tie):D→Option Tie
  | .tup [.int a,.int b]=>if decide (VU a b∈ts)=true then some (a,b) else none
  | _=>none
theorem Yp (ts:List Tie)(a b:Int):YD ts (.tup [.int a,.int b])=if decide (VU a b∈ts)=true then some (a,b) else none:=rfl
theorem zcj {m:Int}{ts:List Tie}{d:D}(ok:wV m ts)(h:VF d):Zd [yy m ts,d]=some (.bl (YD ts d).isSome):=by
  cases h with
  | pair a b =>
    rw [zck ok,Yp]
    cases decide (VU a b∈ts) <;> rfl
  | _=>rfl
theorem Xh {m:Int}{ts:List Tie}{d:D}{s:Tie}(ok:wV m ts)(h:VF d)(e:YD ts d=some s):d=zd s∧(0≤s.1∧s.1 < m)∧(0≤s.2∧s.2 < m)∧s.1≠s.2:=by
  cases h with
  | pair a b =>
    rw [Yp] at e
    by_cases h1:decide (VU a b∈ts)=true
    · rw [if_pos h1] at e
      cases e
      exact ⟨rfl,WE ok (of_decide_eq_true h1)⟩
    · rw [if_neg h1] at e
      cases e
  | _=>cases e
theorem zaV {m:Int}{h:Hl}{s:Tie}(hl:(h.length:Int)=m)(r:(0≤s.1∧s.1 < m)∧(0≤s.2∧s.2 < m)∧s.1≠s.2):zbj h.length s:=by
  obtain ⟨⟨a,b⟩,⟨c,d⟩,e⟩:=r
  exact ⟨a,by omega,c,by omega,e⟩
noncomputable def yu (ts:List Tie):Hl→Nat→List D→D
  | _,_,[]=>.non
  | h,k,d::es=>match YD ts d with
    | none=>.tup [.str "form",.int (k:Int)]
    | some s=>if decide (vAt h s.1 < 2)=true then .tup [.str "bare",.int (k:Int)] else yu ts (wH h s) (k+1) es
noncomputable def wd (ts:List Tie):Hl→List D→List Hl
  | _,[]=>[]
  | h,d::es=>match YD ts d with
    | none=>[]
    | some s=>if decide (vAt h s.1 < 2)=true then [] else wH h s::wd ts (wH h s) es
noncomputable def Vi (ts:List Tie):Hl→List D→Hl
  | h,[]=>h
  | h,d::es=>match YD ts d with
    | none=>h
    | some s=>if decide (vAt h s.1 < 2)=true then h else Vi ts (wH h s) es
theorem YS {ts:List Tie} {h:Hl} {k:Nat} {d:D} {es:List D} (e:YD ts d=none):yu ts h k (d::es)=.tup [.str "form",.int (k:Int)]:=by
  show (match YD ts d with | none=>_ | some s=>_)=_
  rw [e]
theorem YT {ts:List Tie} {h:Hl} {k:Nat} {d:D} {s:Tie} {es:List D} (e:YD ts d=some s) (c:vAt h s.1 < 2):yu ts h k (d::es)=.tup [.str "bare",.int (k:Int)]:=by
  show (match YD ts d with | none=>_ | some s=>_)=_
  rw [e]
  show (if decide (vAt h s.1 < 2)=true then _ else _)=_
  rw [if_pos (decide_eq_true c)]
theorem Yi {ts:List Tie}{h:Hl}{k:Nat}{d:D}{s:Tie}{es:List D}(e:YD ts d=some s)(c:¬ vAt h s.1 < 2):yu ts h k (d::es)=yu ts (wH h s) (k+1) es:=by
  show (match YD ts d with | none=>_ | some s=>_)=_
  rw [e]
  show (if decide (vAt h s.1 < 2)=true then _ else _)=_
  rw [if_neg (by rw [decide_eq_false c];exact Bool.false_ne_true)]
theorem Xk {ts:List Tie}{h:Hl}{d:D}{es:List D}(e:YD ts d=none):wd ts h (d::es)=[]:=by
  show (match YD ts d with | none=>_ | some s=>_)=_
  rw [e]
theorem Xp {ts:List Tie}{h:Hl}{d:D}{s:Tie}{es:List D}(e:YD ts d=some s)(c:vAt h s.1 < 2):wd ts h (d::es)=[]:=by
  show (match YD ts d with | none=>_ | some s=>_)=_
  rw [e]
  show (if decide (vAt h s.1 < 2)=true then _ else _)=_
  rw [if_pos (decide_eq_true c)]
theorem v4 {ts:List Tie}{h:Hl}{d:D}{s:Tie}{es:List D}(e:YD ts d=some s)(c:¬ vAt h s.1 < 2):wd ts h (d::es)=wH h s::wd ts (wH h s) es:=by
  show (match YD ts d with | none=>_ | some s=>_)=_
  rw [e]
  show (if decide (vAt h s.1 < 2)=true then _ else _)=_
  rw [if_neg (by rw [decide_eq_false c];exact Bool.false_ne_true)]
theorem v0 {ts:List Tie}{h:Hl}{d:D}{s:Tie}{es:List D}(e:YD ts d=some s)(c:¬ vAt h s.1 < 2):Vi ts h (d::es)=Vi ts (wH h s) es:=by
  show (match YD ts d with | none=>_ | some s=>_)=_
  rw [e]
  show (if decide (vAt h s.1 < 2)=true then _ else _)=_
  rw [if_neg (by rw [decide_eq_false c];exact Bool.false_ne_true)]
theorem zb4 (ts:List Tie):∀ (es:List D) (h:Hl),(wd ts h es).length≤es.length:=by
  intro es
  induction es with
  | nil=>intro h;exact Nat.le_refl _
  | cons d es ih =>
    intro h
    cases e:YD ts d with
    | none=>rw [Xk e];exact Nat.zero_le _
    | some s =>
      by_cases c:vAt h s.1 < 2
      · rw [Xp e c];exact Nat.zero_le _
      · rw [v4 e c,List.length_cons,List.length_cons]
        exact Nat.succ_le_succ (ih _)
theorem zej {es:List D}{i:Nat}{d:D}(h:es[i]?=some d):es.drop i=d::es.drop (i+1):=by
  obtain ⟨h1,h2⟩:=List.getElem?_eq_some_iff.mp h
  rw [List.drop_eq_getElem_cons h1,h2]
noncomputable def W6:SE→Ctl :=
  (zK (sIf (zY (tOf (zq 2 Zd (zc (zf 0) (zc (zf 6) zw))))) (zaM 3 (xO (zc (eC (.str "form")) (zc (zf 5) zw)))) zH)
    (zK (sIf (tOf (zm ltD (zm ixD (zf 4) (zm ixD (zf 6) (eC (.int 0)))) (eC (.int 2)))) (zaM 3 (xO (zc (eC (.str "bare")) (zc (zf 5) zw)))) zH)
    (zK (yG false 4 (zq 2 XO (zc (zf 4) (zc (zf 6) zw))))
    (wl false 3 (zf 4)))))
noncomputable def Wc:SE→Ctl :=
  (zK (sIf (zY (tOf (eUn (zR .list) (zf 2)))) (zgA (zU zw) (xO (zc (eC (.str "list")) (zc (eC (.int 0)) zw)))) zH)
    (zK (wn 3 (zU zw))
    (zK (yG false 4 (zf 1))
    (zK (wA (zL (zc (zf 2) zw)) (vb 2 (yf (zW 5) (yf (zW 6) vk))) W6)
    (zaM 3 (eC .non))))))
noncomputable def ZY:List D→Option D:=fnD 7 Wc
theorem zc1 {m:Int}{ts:List Tie}{h:Hl}{es:List D}(ok:wV m ts)(hl:(h.length:Int)=m)(he:∀ e∈es,VF e)(hn:es.length≤900):ZY [yy m ts,hD h,.lst es]=some (.tup [.lst ((wd ts h es).map hD),yu ts h 0 es]):=by
  refine Vh (ρ:=[.v (yy m ts),.v (hD h),.v (.lst es),.no,.no,.no,.no]) rfl ?_
  unfold Wc
  refine xt (Zs (c:=false) rfl (fun z=>by cases z) (fun _=>Yv rfl ?_))
  refine zB (ρ':=[.v (yy m ts),.v (hD h),.v (.lst es),.o [],.no,.no,.no]) rfl ?_
  refine zB (ρ':=[.v (yy m ts),.v (hD h),.v (.lst es),.o [],.v (hD h),.no,.no]) rfl ?_
  refine xt (V7 (ds:=Xj 0 es) (fun i ρ=>∃ (g:Hl) (gs:List Hl) (o5 o6:Sl),ρ=[.v (yy m ts),.v (hD h),.v (.lst es),.o (gs.map hD),.v (hD g),o5,o6]∧(g.length:Int)=m∧yu ts h 0 es=yu ts g i (es.drop i)∧wd ts h es=gs++wd ts g (es.drop i)) rfl ⟨h,[],_,_,rfl,hl,rfl,rfl⟩ ?_ ?_)
  · rintro i d ρ hd ⟨g,gs,o5,o6,rfl,gl,ew,eh⟩
    rw [v8,Nat.zero_add] at hd
    obtain ⟨x,hx,rfl⟩:=Option.map_eq_some_iff.mp hd
    have hst:=he x (List.mem_of_getElem? hx)
    have e1:=zcj ok hst
    have hgs:gs.length≤900:=by
      have:=zb4 ts es h
      rw [eh,List.length_append] at this
      omega
    rw [zej hx] at ew eh
    refine ⟨[.v (yy m ts),.v (hD h),.v (.lst es),.o (gs.map hD),.v (hD g),.v (.int (i:Int)),.v x],rfl,?_⟩
    unfold W6
    cases e:YD ts x with
    | none =>
      rw [e] at e1
      rw [ew,YS e,eh,Xk e,List.append_nil]
      exact xt (Zs (c:=true) (V5 (b:=false) (YU (xx (ds:=[_,_]) rfl e1))) (fun _=>Y1 rfl rfl) (fun z=>by cases z))
    | some s =>
      rw [e] at e1
      obtain ⟨rfl,r⟩:=Xh ok hst e
      have hs:=zaV gl r
      refine xt (Zs (c:=false) (V5 (b:=true) (YU (xx (ds:=[_,_]) rfl e1))) (fun z=>by cases z) (fun _=>Yv rfl ?_))
      have ea:=Yu (ns:=g) hs.a0 hs.a1
      refine xt (Zs (c:=decide (vAt g s.1 < 2)) (YU (zN (x:=.int (vAt g s.1)) (y:=.int 2) (zN (x:=hD g) (y:=.int s.1) rfl rfl ea) rfl rfl)) (fun c=>?_) (fun c=>Yv rfl ?_))
      · have c:=of_decide_eq_true c
        rw [ew,YT e c,eh,Xp e c,List.append_nil]
        exact Y1 rfl rfl
      · have c:=of_decide_eq_false c
        rw [Yi e c] at ew
        rw [v4 e c] at eh
        have es':=zca hs
        refine zB (ρ':=[.v (yy m ts),.v (hD h),.v (.lst es),.o (gs.map hD),.v (hD (wH g s)),.v (.int (i:Int)),.v (zd s)]) (wg (ds:=[_,_]) rfl es') ?_
        refine Yv (Z0 (ds:=gs.map hD) (d:=hD (wH g s)) rfl rfl (by rw [List.length_map];omega)) ⟨wH g s,gs++[wH g s],.v (.int (i:Int)),.v (zd s),?_,by rw [Xu];exact gl,ew,?_⟩
        · rw [List.map_append];rfl
        · rw [eh,List.append_assoc];rfl
  · rintro ρ ⟨g,gs,o5,o6,rfl,gl,ew,eh⟩
    rw [ve,List.drop_length] at ew eh
    rw [ew,eh,show wd ts g []=[] from rfl,List.append_nil]
    first | exact zf3 rfl (Y1 rfl rfl) | exact Y1 rfl rfl
theorem zgr {w h d:D} (hd:zR .list d=some (.bl false)):ZY [w,h,d]=some (.tup [.lst [],.tup [.str "list",.int 0]]):=by
  refine Vh (ρ:=[.v w,.v h,.v d,.no,.no,.no,.no]) rfl ?_
  unfold Wc
  exact xt (Zs (c:=true) (V5 (b:=false) (YU (zjE (x:=d) rfl hd))) (fun _=>Y1 rfl rfl) (fun z=>by cases z))
theorem WJ (T:Txt K mg ad):xk P w K mg base CX0 6 ad.f_walk ad.e_walk ["web","heap","thing"] (@zjr ⟨K⟩ false 3 ZY):=by
  letI:KK:=⟨K⟩
  have G_is_step:=zci (P:=P) (w:=w) (base:=base) T
  have G_stepped:=zbV (P:=P) (w:=w) (base:=base) T
  refine ziF (k:=false) (N:=["web","heap","thing","heaps","now","at","step"]) (ps:=["web","heap","thing"]) T.d_walk.fn ZL (g:=Wc) (fun cdv A outer s H E hr=>?_) (by unfold Wc;exact (W5 (W5 (W5 (W5 zeK)))))
  unfold Wc W6
  exact (wP (zcU (vV (wR (zT .list rfl T.z_isinstance (zb 2 (pv 2)) (yN (v:=.ty "list") rfl T.z_list WB rfl)))) (Zm (zeW (vE zh) (we (za (Wd Ww) (za (zi zg) zh))))) WI)
      (wP (zbk (ZM (i:=3) ZL.nd rfl (Or.inl rfl) (vE zh)) zhd)
      (wP (zbk (yp (m:=false) (i:=4) ZL.nd rfl (Or.inl rfl) (zb 1 (pv 1))) zd1)
      (wP (zgp PassesOwn.never rfl (zal rfl T.z_enumerate Yl (za (zb 2 (pv 2)) zh)) (VX rfl (x8 (xn (zX (i:=5) ZL.nd rfl (Or.inl rfl))) (x8 (xn (zX (i:=6) ZL.nd rfl (Or.inl rfl))) XF))) (wP (zcU (vV (wR (zu (G_is_step.mono (by decide)) hr rfl T.d_is_step.at_ T.d_is_step.kp T.d_is_step.bd (za (zb 0 (pv 0)) (za (zb 6 (pv 6)) zh))))) (Zm (WN (pv 3) (we (za (Wd Ww) (za (zb 5 (pv 5)) zh))))) WI)
      (wP (zcU (yA zho xP (zS _) (yo (zb 4 (pv 4)) (yo (zb 6 (pv 6)) (zi zg) (fun _ _=>rfl)) (fun _ _=>rfl)) (zi zg)) (Zm (WN (pv 3) (we (za (Wd Ww) (za (zb 5 (pv 5)) zh))))) WI)
      (wP (zbk (yp (m:=false) (i:=4) ZL.nd rfl (Or.inl rfl) (zu (G_stepped.mono (by decide)) hr rfl T.d_stepped.at_ T.d_stepped.kp T.d_stepped.bd (za (zb 4 (pv 4)) (za (zb 6 (pv 6)) zh)))) zd1)
      (Zm (zbk (Zc (m:=false) (pv 3) (zb 4 (pv 4)) (fun a b=>XX PySem.F.plainAttrs_list PySem.F.slot_list_append PySem.F.type_list_append xL a b)) zhf))))))
      (Zm (WN (pv 3) (XM ZU)))))))
theorem zc3 (T:Txt K mg ad):xk P w K mg base CX0 6 ad.f_walk ad.e_walk ["web","heap","thing"] (@spD ⟨K⟩ 3 ZY):=by
  letI:KK:=⟨K⟩
  exact ziW (WJ (P:=P) (w:=w) (base:=base) T)
theorem xC {ts:List Tie}{h:Hl}{k:Nat}{d:D}{es:List D}(e:yu ts h k (d::es)=.non):∃ s,YD ts d=some s∧¬ vAt h s.1 < 2∧yu ts (wH h s) (k+1) es=.non:=by
  cases e1:YD ts d with
  | none=>rw [YS e1] at e;cases e
  | some s =>
    by_cases c:vAt h s.1 < 2
    · rw [YT e1 c] at e;cases e
    · exact ⟨s,rfl,c,by rw [←Yi e1 c];exact e⟩
theorem We {m:Int}{ts:List Tie}(ok:wV m ts):∀ (es:List D) (h:Hl) (k:Nat),(∀ e∈es,VF e)→yu ts h k es=.non→(Vi ts h es).length=h.length:=by
  intro es
  induction es with
  | nil=>intro h k _ _;rfl
  | cons d es ih =>
    intro h k he e
    obtain ⟨s,e1,c,e2⟩:=xC e
    rw [v0 e1 c,ih _ _ (fun x hx=>he x (List.mem_cons_of_mem _ hx)) e2,Xu]
noncomputable def Yf:SE→Ctl :=
  (yG false 2 (zq 2 w6 (zc (zf 2) (zc (zf 3) zw))))
noncomputable def Yt:SE→Ctl :=
  (zK (yG false 2 (zf 0))
    (zK (wA (iOf (zf 1)) (zW 3) Yf)
    (yC (zf 2))))
noncomputable def wM:List D→Option D:=fnD 4 Yt
theorem X8 {m:Int}{ts:List Tie}{h:Hl}{es:List D}(ok:wV m ts)(hl:(h.length:Int)=m)(he:∀ e∈es,VF e)(hw:yu ts h 0 es=.non):wM [hD h,.lst es]=some (hD (Vi ts h es)):=by
  refine Vh (ρ:=[.v (hD h),.v (.lst es),.no,.no]) rfl ?_
  unfold Yt
  refine zB (ρ':=[.v (hD h),.v (.lst es),.v (hD h),.no]) rfl ?_
  refine xt (V7 (ds:=es) (fun i ρ=>∃ (g:Hl) (o3:Sl),ρ=[.v (hD h),.v (.lst es),.v (hD g),o3]∧(g.length:Int)=m∧yu ts g i (es.drop i)=.non∧Vi ts h es=Vi ts g (es.drop i)) rfl ⟨h,_,rfl,hl,hw,rfl⟩ ?_ ?_)
  · rintro i x ρ hx ⟨g,o3,rfl,gl,ew,ee⟩
    have hst:=he x (List.mem_of_getElem? hx)
    rw [zej hx] at ew ee
    obtain ⟨s,e1,c,e2⟩:=xC ew
    rw [v0 e1 c] at ee
    obtain ⟨rfl,r⟩:=Xh ok hst e1
    have hs:=zaV gl r
    refine ⟨[.v (hD h),.v (.lst es),.v (hD g),.v (zd s)],rfl,?_⟩
    unfold Yf
    exact Yv (ρ':=[.v (hD h),.v (.lst es),.v (hD (wH g s)),.v (zd s)]) (wg (ds:=[_,_]) rfl (ZR hs)) ⟨wH g s,_,rfl,by rw [Xu];exact gl,e2,ee⟩
  · rintro ρ ⟨g,o3,rfl,gl,ew,ee⟩
    rw [List.drop_length] at ee
    rw [ee]
    exact Y1 rfl rfl
theorem zaN (T:Txt K mg ad):xk P w K mg base CX0 2 ad.f__law_end ad.e__law_end ["heap","steps"] (@spD ⟨K⟩ 2 wM):=by
  letI:KK:=⟨K⟩
  have G__law_moved:=Y3 (P:=P) (w:=w) (base:=base) T
  refine xU (N:=["heap","steps","here","step"]) (ps:=["heap","steps"]) T.d__law_end.fn vS (g:=Yt) fun cdv A outer s H E hr=>?_
  unfold Yt Yf
  exact (zj (yp (m:=false) (i:=2) vS.nd rfl (Or.inl rfl) (zb 0 (pv 0)))
      (zj (Wn PassesOwn.never rfl (Z2 (zb 1 (pv 1))) (xn (zX (i:=3) vS.nd rfl (Or.inl rfl))) (zn (yp (m:=false) (i:=2) vS.nd rfl (Or.inl rfl) (zu (G__law_moved.mono (by decide)) hr rfl T.d__law_moved.at_ T.d__law_moved.kp T.d__law_moved.bd (za (zb 2 (pv 2)) (za (zb 3 (pv 3)) zh))))))
      (zn (zO (zb 2 (pv 2))))))
noncomputable def zcp (ns:List Int)(t:Tie):List Tie:=(if decide (1 < vAt ns t.1)=true then [t] else [])++(if decide (1 < vAt ns t.2)=true then [(t.2,t.1)] else [])
noncomputable def zaa (ns:List Int)(ts:List Tie):List Tie:=ts.flatMap (zcp ns)
theorem zfF {ns:List Int}{t s:Tie}:s∈zcp ns t↔(s=t∧1 < vAt ns t.1)∨(s=(t.2,t.1)∧1 < vAt ns t.2):=by
  unfold zcp
  rw [List.mem_append]
  by_cases h1:1 < vAt ns t.1 <;> by_cases h2:1 < vAt ns t.2 <;> simp [h1,h2,and_comm]
theorem YN (ns:List Int):∀ ts:List Tie,(zaa ns ts).length≤2*ts.length
  | []=>by simp [zaa]
  | t::ts=>by
    have ih:=YN ns ts
    show (zcp ns t++zaa ns ts).length≤_
    have:(zcp ns t).length≤2:=by
      unfold zcp
      rw [List.length_append]
      split <;> split <;> simp
    rw [List.length_append,List.length_cons]
    omega
theorem zcE (ns:List Int)(ts:List Tie)(t:Tie):zaa ns (ts++[t])=zaa ns ts++zcp ns t:=by
  unfold zaa
  rw [List.flatMap_append]
  simp
noncomputable def v9:SE→Ctl :=
  (zK (sIf (tOf (zm gtD (zm ixD (zf 1) (zf 3)) (eC (.int 1)))) (wl false 2 (xO (zc (zf 3) (zc (zf 4) zw)))) zH)
    (sIf (tOf (zm gtD (zm ixD (zf 1) (zf 4)) (eC (.int 1)))) (wl false 2 (xO (zc (zf 4) (zc (zf 3) zw)))) zH))
noncomputable def Yz:SE→Ctl :=
  (zK (wn 2 (zU zw))
    (zK (wA (iOf (zm ixD (zf 0) (eC (.int 1)))) (vb 2 (yf (zW 3) (yf (zW 4) vk))) v9)
    (sFz 2 (yC (xr (fFn Vp (zc (zf 2) zw)))))))
noncomputable def ZI:List D→Option D:=fnD 5 Yz
theorem zb9 {m:Int}{ts:List Tie}{ns:List Int}(ok:wV m ts)(h28:ts.length≤28)(hl:(ns.length:Int)=m):ZI [yy m ts,.tup (ns.map .int)]=some (.lst ((Zp (zaa ns ts)).map zd)):=by
  refine Vh (ρ:=[.v (yy m ts),.v (.tup (ns.map .int)),.no,.no,.no]) rfl ?_
  unfold Yz
  refine zB (ρ':=[.v (yy m ts),.v (.tup (ns.map .int)),.o [],.no,.no]) (by simp [fnD,zK,yC,yX,sIf,yG,wI,sNo,zH,vY,wn,wl,vZ,wJ,vEv,visF,visG,Sl.f,Sl.g,zf,eC,zm,wa,eOr,vF,eIf,eUn,vw,xO,xr,zU,zc,zw,zq,eFn,fFn,tOf,yr,wQ,zY,asB,asI,zt,wW,x9,zV,yH,vi,yB,ltD,leD,gtD,geD,vn,zx,zE,zv,zD,vo,zz,ixD,x4,zR,isT,eSl,yl,yi,zP,yj,iOf,wA,yn,wX,wc,wv,zL,yO,fLC,yb,zF,ym,zW,vb,yf,vk,b1,b2,vB]) ?_
  refine xt (V7 (ds:=ts.map zd) (fun i ρ=>∃ o1 o2,ρ=[.v (yy m ts),.v (.tup (ns.map .int)),.o ((zaa ns (ts.take i)).map zd),o1,o2]) rfl ⟨_,_,rfl⟩ ?_ ?_)
  · rintro i d ρ hd ⟨o1,o2,rfl⟩
    rw [List.getElem?_map] at hd
    obtain ⟨t,ht,rfl⟩:=Option.map_eq_some_iff.mp hd
    have hr:=ok.rng t (List.mem_of_getElem? ht)
    refine ⟨_,rfl,?_⟩
    have htake:ts.take (i+1)=ts.take i++[t]:=by rw [List.take_succ,ht];rfl
    have ea:=Yu (ns:=ns) (i:=t.1) hr.1 (by omega)
    have eb:=Yu (ns:=ns) (i:=t.2) (by omega) (by omega)
    have hlen:∀ X:List Tie,X.length≤2→((zaa ns (ts.take i)++X).map zd).length≤1000:=fun X hX=>by
      rw [List.length_map,List.length_append]
      have:=YN ns (ts.take i)
      rw [List.length_take] at this
      omega
    obtain ⟨A,hA⟩:∃ A,zaa ns (ts.take i)=A:=⟨_,rfl⟩
    rw [hA] at hlen ⊢
    have l0:=hlen [] (by simp)
    have l1:=hlen [t] (by simp)
    rw [List.append_nil] at l0
    unfold v9
    have stepE:∀ (B:List Tie),A++zcp ns t=B→∃ o1 o2,([.v (yy m ts),.v (.tup (ns.map .int)),.o (B.map zd),.v (.int t.1),.v (.int t.2)]:SE)=[.v (yy m ts),.v (.tup (ns.map .int)),.o ((zaa ns (ts.take (i+1))).map zd),o1,o2]:=fun B hB=>by
      rw [htake,zcE,hA,hB]
      exact ⟨_,_,rfl⟩
    by_cases c1:1 < vAt ns t.1
    · refine xt (Zs (c:=true) (by simp [fnD,zK,yC,yX,sIf,yG,wI,sNo,zH,vY,wn,wl,vZ,wJ,vEv,visF,visG,Sl.f,Sl.g,zf,eC,zm,wa,eOr,vF,eIf,eUn,vw,xO,xr,zU,zc,zw,zq,eFn,fFn,tOf,yr,wQ,zY,asB,asI,zt,wW,x9,zV,yH,vi,yB,ltD,leD,gtD,geD,vn,zx,zE,zv,zD,vo,zz,ixD,x4,zR,isT,eSl,yl,yi,zP,yj,iOf,wA,yn,wX,wc,wv,zL,yO,fLC,yb,zF,ym,zW,vb,yf,vk,b1,b2,ea,c1]) (fun _=>Yv (ρ':=[.v (yy m ts),.v (.tup (ns.map .int)),.o ((A++[t]).map zd),.v (.int t.1),.v (.int t.2)]) ?_ ?_) (fun z=>by cases z))
      · rw [Z0 (ds:=A.map zd) (d:=zd t) (by simp [fnD,zK,yC,yX,sIf,yG,wI,sNo,zH,vY,wn,wl,vZ,wJ,vEv,visF,visG,Sl.f,Sl.g,zf,eC,zm,wa,eOr,vF,eIf,eUn,vw,xO,xr,zU,zc,zw,zq,eFn,fFn,tOf,yr,wQ,zY,asB,asI,zt,wW,x9,zV,yH,vi,yB,ltD,leD,gtD,geD,vn,zx,zE,zv,zD,vo,zz,ixD,x4,zR,isT,eSl,yl,yi,zP,yj,iOf,wA,yn,wX,wc,wv,zL,yO,fLC,yb,zF,ym,zW,vb,yf,vk,b1,b2,vB,zd]) rfl l0]
        simp [zd]
      · by_cases c2:1 < vAt ns t.2
        · refine Zs (c:=true) (by simp [fnD,zK,yC,yX,sIf,yG,wI,sNo,zH,vY,wn,wl,vZ,wJ,vEv,visF,visG,Sl.f,Sl.g,zf,eC,zm,wa,eOr,vF,eIf,eUn,vw,xO,xr,zU,zc,zw,zq,eFn,fFn,tOf,yr,wQ,zY,asB,asI,zt,wW,x9,zV,yH,vi,yB,ltD,leD,gtD,geD,vn,zx,zE,zv,zD,vo,zz,ixD,x4,zR,isT,eSl,yl,yi,zP,yj,iOf,wA,yn,wX,wc,wv,zL,yO,fLC,yb,zF,ym,zW,vb,yf,vk,b1,b2,eb,c2]) (fun _=>Yv (ρ':=[.v (yy m ts),.v (.tup (ns.map .int)),.o ((A++[t]++[(t.2,t.1)]).map zd),.v (.int t.1),.v (.int t.2)]) ?_ (stepE _ ?_)) (fun z=>by cases z)
          · rw [Z0 (ds:=(A++[t]).map zd) (d:=zd (t.2,t.1)) (by simp [fnD,zK,yC,yX,sIf,yG,wI,sNo,zH,vY,wn,wl,vZ,wJ,vEv,visF,visG,Sl.f,Sl.g,zf,eC,zm,wa,eOr,vF,eIf,eUn,vw,xO,xr,zU,zc,zw,zq,eFn,fFn,tOf,yr,wQ,zY,asB,asI,zt,wW,x9,zV,yH,vi,yB,ltD,leD,gtD,geD,vn,zx,zE,zv,zD,vo,zz,ixD,x4,zR,isT,eSl,yl,yi,zP,yj,iOf,wA,yn,wX,wc,wv,zL,yO,fLC,yb,zF,ym,zW,vb,yf,vk,b1,b2,vB,zd]) rfl l1]
            simp [zd]
          · unfold zcp
            rw [if_pos (decide_eq_true c1),if_pos (decide_eq_true c2),List.append_assoc]
        · refine Zs (c:=false) (by simp [fnD,zK,yC,yX,sIf,yG,wI,sNo,zH,vY,wn,wl,vZ,wJ,vEv,visF,visG,Sl.f,Sl.g,zf,eC,zm,wa,eOr,vF,eIf,eUn,vw,xO,xr,zU,zc,zw,zq,eFn,fFn,tOf,yr,wQ,zY,asB,asI,zt,wW,x9,zV,yH,vi,yB,ltD,leD,gtD,geD,vn,zx,zE,zv,zD,vo,zz,ixD,x4,zR,isT,eSl,yl,yi,zP,yj,iOf,wA,yn,wX,wc,wv,zL,yO,fLC,yb,zF,ym,zW,vb,yf,vk,b1,b2,eb,c2]) (fun z=>by cases z) (fun _=>Yv rfl (stepE _ ?_))
          unfold zcp
          rw [if_pos (decide_eq_true c1),if_neg (by simpa using c2),List.append_nil]
    · refine xt (Zs (c:=false) (by simp [fnD,zK,yC,yX,sIf,yG,wI,sNo,zH,vY,wn,wl,vZ,wJ,vEv,visF,visG,Sl.f,Sl.g,zf,eC,zm,wa,eOr,vF,eIf,eUn,vw,xO,xr,zU,zc,zw,zq,eFn,fFn,tOf,yr,wQ,zY,asB,asI,zt,wW,x9,zV,yH,vi,yB,ltD,leD,gtD,geD,vn,zx,zE,zv,zD,vo,zz,ixD,x4,zR,isT,eSl,yl,yi,zP,yj,iOf,wA,yn,wX,wc,wv,zL,yO,fLC,yb,zF,ym,zW,vb,yf,vk,b1,b2,ea,c1]) (fun z=>by cases z) (fun _=>Yv rfl ?_))
      by_cases c2:1 < vAt ns t.2
      · refine Zs (c:=true) (by simp [fnD,zK,yC,yX,sIf,yG,wI,sNo,zH,vY,wn,wl,vZ,wJ,vEv,visF,visG,Sl.f,Sl.g,zf,eC,zm,wa,eOr,vF,eIf,eUn,vw,xO,xr,zU,zc,zw,zq,eFn,fFn,tOf,yr,wQ,zY,asB,asI,zt,wW,x9,zV,yH,vi,yB,ltD,leD,gtD,geD,vn,zx,zE,zv,zD,vo,zz,ixD,x4,zR,isT,eSl,yl,yi,zP,yj,iOf,wA,yn,wX,wc,wv,zL,yO,fLC,yb,zF,ym,zW,vb,yf,vk,b1,b2,eb,c2]) (fun _=>Yv (ρ':=[.v (yy m ts),.v (.tup (ns.map .int)),.o ((A++[(t.2,t.1)]).map zd),.v (.int t.1),.v (.int t.2)]) ?_ (stepE _ ?_)) (fun z=>by cases z)
        · rw [Z0 (ds:=A.map zd) (d:=zd (t.2,t.1)) (by simp [fnD,zK,yC,yX,sIf,yG,wI,sNo,zH,vY,wn,wl,vZ,wJ,vEv,visF,visG,Sl.f,Sl.g,zf,eC,zm,wa,eOr,vF,eIf,eUn,vw,xO,xr,zU,zc,zw,zq,eFn,fFn,tOf,yr,wQ,zY,asB,asI,zt,wW,x9,zV,yH,vi,yB,ltD,leD,gtD,geD,vn,zx,zE,zv,zD,vo,zz,ixD,x4,zR,isT,eSl,yl,yi,zP,yj,iOf,wA,yn,wX,wc,wv,zL,yO,fLC,yb,zF,ym,zW,vb,yf,vk,b1,b2,vB,zd]) rfl l0]
          simp [zd]
        · unfold zcp
          rw [if_neg (by simpa using c1),if_pos (decide_eq_true c2),List.nil_append]
      · refine Zs (c:=false) (by simp [fnD,zK,yC,yX,sIf,yG,wI,sNo,zH,vY,wn,wl,vZ,wJ,vEv,visF,visG,Sl.f,Sl.g,zf,eC,zm,wa,eOr,vF,eIf,eUn,vw,xO,xr,zU,zc,zw,zq,eFn,fFn,tOf,yr,wQ,zY,asB,asI,zt,wW,x9,zV,yH,vi,yB,ltD,leD,gtD,geD,vn,zx,zE,zv,zD,vo,zz,ixD,x4,zR,isT,eSl,yl,yi,zP,yj,iOf,wA,yn,wX,wc,wv,zL,yO,fLC,yb,zF,ym,zW,vb,yf,vk,b1,b2,eb,c2]) (fun z=>by cases z) (fun _=>Yv rfl (stepE _ ?_))
        unfold zcp
        rw [if_neg (by simpa using c1),if_neg (by simpa using c2),List.append_nil,List.append_nil]
  · rintro ρ ⟨o1,o2,rfl⟩
    rw [List.length_map,List.take_length]
    refine zf3 rfl (Y1 (d:=.lst ((Zp (zaa ns ts)).map zd)) ?_ rfl)
    have es:=Wo (ts:=zaa ns ts) (by have:=YN ns ts;omega)
    simp [fnD,zK,yC,yX,sIf,yG,wI,sNo,zH,vY,wn,wl,vZ,wJ,vEv,visF,visG,Sl.f,Sl.g,zf,eC,zm,wa,eOr,vF,eIf,eUn,vw,xO,xr,zU,zc,zw,zq,eFn,fFn,tOf,yr,wQ,zY,asB,asI,zt,wW,x9,zV,yH,vi,yB,ltD,leD,gtD,geD,vn,zx,zE,zv,zD,vo,zz,ixD,x4,zR,isT,eSl,yl,yi,zP,yj,iOf,wA,yn,wX,wc,wv,zL,yO,fLC,yb,zF,ym,zW,vb,yf,vk,b1,b2,ziA,Sl.fz,es]
theorem zao (T:Txt K mg ad):xk P w K mg base CX0 1 ad.f__law_may ad.e__law_may ["web","heap"] (@spD ⟨K⟩ 2 ZI):=by
  letI:KK:=⟨K⟩
  refine xU (N:=["web","heap","found","a","b"]) (ps:=["web","heap"]) T.d__law_may.fn vT (g:=Yz) fun cdv A outer s H E hr=>?_
  unfold Yz v9
  exact (zj (ZM (i:=2) vT.nd rfl (Or.inl rfl) (vE zh))
      (zj (Wn PassesOwn.never rfl (Z2 (yo (zb 0 (pv 0)) (zi zg) (fun _ _=>rfl))) (VX rfl (x8 (xn (zX (i:=3) vT.nd rfl (Or.inl rfl))) (x8 (xn (zX (i:=4) vT.nd rfl (Or.inl rfl))) XF))) (zj (wx (yA zfw xP (zS _) (yo (zb 1 (pv 1)) (zb 3 (pv 3)) (fun _ _=>rfl)) (zi zg)) (zn (Zc (m:=false) (pv 2) (we (za (zb 3 (pv 3)) (za (zb 4 (pv 4)) zh))) (fun a b=>XX PySem.F.plainAttrs_list PySem.F.slot_list_append PySem.F.type_list_append xL a b))) ya)
      (zn (wx (yA zfw xP (zS _) (yo (zb 1 (pv 1)) (zb 4 (pv 4)) (fun _ _=>rfl)) (zi zg)) (zn (Zc (m:=false) (pv 2) (we (za (zb 4 (pv 4)) (za (zb 3 (pv 3)) zh))) (fun a b=>XX PySem.F.plainAttrs_list PySem.F.slot_list_append PySem.F.type_list_append xL a b))) ya))))
      (ZV 2 (zn (zO (YZ (Vj rfl rfl T.z_sorted (za (zb 2 (pv 2)) zh))))))))
theorem zeQ {α β:Type}(f:α→β)(xs:List α)(lo hi:Option Int):Xc (xs.map f) lo hi=(Xc xs lo hi).map f:=by
  unfold Xc
  rw [List.length_map,← List.map_drop,← List.map_take]
theorem zct {a b:List D}(h:a.length+b.length≤1000):wC (.lst a) (.lst b)=some (.lst (a++b)):=by
  show (if lim (a.length+b.length)=true then _ else none)=_
  rw [if_pos (vB h)]
theorem ziT {g:D→Option Int→Option Int→Option D}{f:Ev→Option D}{l h:Ev→Option (Option Int)}{ρ:Ev}{x z:D}{lo hi:Option Int}(h1:f ρ=some x)(h2:l ρ=some lo)(h3:h ρ=some hi)(h4:g x lo hi=some z):eSl g f l h ρ=some z:=by
  unfold eSl
  rw [h1,h2,h3]
  exact h4
theorem W0 {P:D→Prop}{ds:List D}{j:Int}(h:∀ d∈ds,P d)(h0:0≤j)(h1:j < ds.length):∃ d,L2.atI ds j=some d∧P d:=by
  have hj:j.toNat < ds.length:=by omega
  exact ⟨ds[j.toNat],zfT h0 (List.getElem?_eq_getElem hj),h _ (List.getElem_mem hj)⟩
theorem ziR {a b:Tie}(h:ltP a b):a≠b:=fun e=>by
  subst e
  unfold ltP at h
  omega
theorem zb0 {n:Nat}{t:Tie}(h:0≤t.1∧t.1 < t.2∧t.2 < (n:Int)):t∈xo n:=by
  unfold xo
  rw [List.mem_flatMap]
  refine ⟨t.1.toNat,List.mem_range.mpr (by omega),List.mem_map.mpr ⟨(t.2 - t.1 - 1).toNat,List.mem_range.mpr (by omega),Prod.ext ?_ ?_⟩⟩
  · show ((t.1.toNat:Nat):Int)=t.1
    omega
  · show ((t.1.toNat:Nat):Int)+1+(((t.2 - t.1 - 1).toNat:Nat):Int)=t.2
    omega
theorem zhU {m:Int}{ts:List Tie}(ok:wV m ts):ts.length≤28:=by
  have hm1:=ok.lo
  have hm8:=ok.hi
  have nd:ts.Nodup:=ok.srt.imp ziR
  refine Nat.le_trans (nd.length_le_of_subset (l₂:=xo m.toNat) fun t ht=>zb0 ?_) (Y8 m.toNat (by omega)).2.2
  have:=ok.rng t ht
  omega
noncomputable def swP (t:Tie):Tie:=(t.2,t.1)
theorem zah (t:Tie)(ts:List Tie):zbi (zd t) (.tup (ts.map zd))=some (.bl (!decide (t∈ts))):=by
  have e:=za3 t ts
  show (zfr (zd t) (ts.map zd)).map (fun b=>D.bl (!b))=_
  have e2:(zfr (zd t) (ts.map zd)).map D.bl=some (.bl (decide (t∈ts))):=e
  obtain ⟨b,h1,h2⟩:=Option.map_eq_some_iff.mp e2
  injection h2 with h2
  rw [h1,← h2]
  rfl
theorem zcY {m:Int}{ts:List Tie}(ok:wV m ts):xf [yy m ts]=some .non:=by
  have hw:YE (yy m ts)=true:=(ZJ _).mpr ⟨_,_,rfl,ok⟩
  simp only [xf]
  rw [if_pos hw]
set_option genInjectivity false in
set_option genSizeOf false in
set_option genCtorIdx false in
structure ziH (m:Int) (h:Hl):Prop where
  len:(h.length:Int)=m
  nn:∀ v∈h,0≤v
  sum:h.sum≤300
theorem zae {m:Int}{ts:List Tie}{h:Hl}(ok:wV m ts)(hp:ziH m h):yV [yy m ts,hD h]=some .non:=by
  show (if (noS (.tup (h.map .int))&&decide (m≤1000)&&YM m (.tup (h.map .int)))=true then some D.non else none)=_
  rw [zff,zcJ ok,zbR hp.len hp.nn hp.sum]
  rfl
theorem Wb {ts:List Tie}{d:D}{rest:List D}:∀ (es:List D) (h:Hl) (k:Nat),yu ts h k es=.non→yu ts h k (es++d::rest)=yu ts (Vi ts h es) (k+es.length) (d::rest):=by
  intro es
  induction es with
  | nil=>intro h k _;rfl
  | cons x es ih =>
    intro h k e
    obtain ⟨s,e1,c,e2⟩:=xC e
    rw [List.cons_append,Yi e1 c,v0 e1 c,ih _ _ e2,List.length_cons]
    congr 1
    omega
theorem zeZ {ts:List Tie}{d:D}{s:Tie}(e:YD ts d=some s):∀ (es:List D) (h:Hl) (k:Nat),yu ts h k es=.non→¬ vAt (Vi ts h es) s.1 < 2→Vi ts h (es++[d])=wH (Vi ts h es) s:=by
  intro es
  induction es with
  | nil=>intro h k _ c;exact v0 e c
  | cons x es ih =>
    intro h k ew c
    obtain ⟨u,e1,c1,e2⟩:=xC ew
    rw [List.cons_append,v0 e1 c1]
    rw [v0 e1 c1] at c ⊢
    exact ih _ _ e2 c
theorem Xy {ts:List Tie}:∀ (n:Nat) (es:List D) (h:Hl) (k:Nat),yu ts h k es=.non→yu ts h k (es.take n)=.non:=by
  intro n
  induction n with
  | zero=>intro es h k _;rfl
  | succ n ih =>
    intro es h k e
    cases es with
    | nil=>rfl
    | cons x es =>
      obtain ⟨s,e1,c,e2⟩:=xC e
      rw [List.take_succ_cons,Yi e1 c]
      exact ih _ _ _ e2
theorem Wg {ts:List Tie}:∀ (i:Nat) (es:List D) (h:Hl) (k:Nat),yu ts h k es=.non→i < es.length→(wd ts h es)[i]?=some (Vi ts h (es.take (i+1))):=by
  intro i
  induction i with
  | zero =>
    intro es h k e hi
    cases es with
    | nil=>cases hi
    | cons x es =>
      obtain ⟨s,e1,c,e2⟩:=xC e
      rw [v4 e1 c,List.take_succ_cons,v0 e1 c]
      rfl
  | succ i ih =>
    intro es h k e hi
    cases es with
    | nil=>cases hi
    | cons x es =>
      obtain ⟨s,e1,c,e2⟩:=xC e
      rw [v4 e1 c,List.take_succ_cons,v0 e1 c]
      exact ih es _ _ e2 (Nat.lt_of_succ_lt_succ hi)
theorem Xi {ts:List Tie}:∀ (es:List D) (h:Hl) (k:Nat),yu ts h k es=.non→(wd ts h es).length=es.length:=by
  intro es
  induction es with
  | nil=>intro h k _;rfl
  | cons x es ih =>
    intro h k e
    obtain ⟨s,e1,c,e2⟩:=xC e
    rw [v4 e1 c,List.length_cons,List.length_cons,ih _ _ e2]
noncomputable def Z7:SE→Ctl :=
  (zK (wI (zq 1 xf (zc (zf 0) zw)))
    (zK (wI (zq 2 yV (zc (zf 0) (zc (zf 1) zw))))
    (zeB 3 4 (zq 3 ZY (zc (zf 0) (zc (zf 1) (zc (zf 2) zw)))))))
noncomputable def Yx:List D→Option D:=fnD 5 Z7
section
variable {m:Int}{ts:List Tie}{h:Hl}{es:List D}{d:D}
theorem zei (ok:wV m ts)(hp:ziH m h)(he:∀ e∈es,VF e)(hn:es.length≤900)(hw:yu ts h 0 es=.non):Yx [yy m ts,hD h,.lst es]=some (.lst ((wd ts h es).map hD)):=by
  have ew:=zc1 ok hp.len he hn
  rw [hw] at ew
  refine Vh (ρ:=[.v (yy m ts),.v (hD h),.v (.lst es),.no,.no]) rfl ?_
  unfold Z7
  refine zB (ZG (d:=.non) (zcY ok)) (zB (ZG (d:=.non) (zae ok hp)) ?_)
  refine Y1 (d:=.lst ((wd ts h es).map hD)) ?_ rfl
  unfold zeB
  rw [if_pos (show (decide (3 < [Sl.v (yy m ts),.v (hD h),.v (.lst es),.no,.no].length)&&decide (4 < [Sl.v (yy m ts),.v (hD h),.v (.lst es),.no,.no].length))=true from rfl)]
  rw [show zq 3 ZY (zc (zf 0) (zc (zf 1) (zc (zf 2) zw))) (visF [.v (yy m ts),.v (hD h),.v (.lst es),.no,.no])=some (.tup [.lst ((wd ts h es).map hD),.non]) from xx (ds:=[_,_,_]) rfl ew]
end
theorem ZH (T:Txt K mg ad):xk P w K mg base CX0 8 ad.f_walked ad.e_walked ["web","heap","steps"] (@zjv ⟨K⟩ 3 Yx):=by
  letI:KK:=⟨K⟩
  have G_must_be_web:=YG (P:=P) (w:=w) (base:=base) T
  have G_must_be_heap:=Yc (P:=P) (w:=w) (base:=base) T
  have G_walk:=zc3 (P:=P) (w:=w) (base:=base) T
  have T_walk:=WJ (P:=P) (w:=w) (base:=base) T
  refine zh8 (N:=["web","heap","steps","told","wrong"]) (ps:=["web","heap","steps"]) T.d_walked.fn vA (g:=Z7) fun cdv A outer s H E hr=>?_
  unfold Z7
  exact (Vz (zf1 (XU (zu (G_must_be_web.mono (by decide)) hr rfl T.d_must_be_web.at_ T.d_must_be_web.kp T.d_must_be_web.bd (za (zb 0 (pv 0)) zh))) zdj)
      (Vz (zf1 (XU (zu (G_must_be_heap.mono (by decide)) hr rfl T.d_must_be_heap.at_ T.d_must_be_heap.kp T.d_must_be_heap.bd (za (zb 0 (pv 0)) (za (zb 1 (pv 1)) zh)))) zdj)
      (zc5 (by decide) (zi7 (i:=3) vA.nd rfl (Or.inl rfl) (zhn (T_walk.mono (by decide)) hr rfl T.d_walk.at_ T.d_walk.kp T.d_walk.bd (za (zb 0 (pv 0)) (za (zb 1 (pv 1)) (za (zb 2 (pv 2)) zh))))) (Zl (i:=4) vA.nd rfl (Or.inl rfl) (zha zcx (pv 3) zg (fun _ _=>rfl))) (zbS (WF Vs (pv 4) ZU (zS _)) zhA Xs) zc7 (ZX (zha zcx (pv 3) zg (fun _ _=>rfl))))))
theorem VT (T:Txt K mg ad):xk P w K mg base CX0 8 ad.f_walked ad.e_walked ["web","heap","steps"] (@spD ⟨K⟩ 3 Yx):=by
  letI:KK:=⟨K⟩
  exact zhB (ZH (P:=P) (w:=w) (base:=base) T)
noncomputable def wT:SE→Option Nat :=
  (zfR xNo (wI (zq 1 xf (zc (zf 0) zw)))
    (zfR xNo (wI (zq 2 yV (zc (zf 0) (zc (zf 1) zw))))
    (zfR xNo (yG false 3 (zq 3 ZY (zc (zf 0) (zc (zf 1) (zc (zf 2) zw)))))
    (zfR xNo (yG false 4 (zm ixD (zf 3) (eC (.int 1))))
    (xIf (tOf (zm zz (zf 4) (eC .non))) (xRI (zjD 10 1) (zc (eIf (tOf (zm ZF (zm ixD (zf 4) (eC (.int 0))) (eC (.str "list")))) (eUn vw (eC (.int 1))) (zm ixD (zf 4) (eC (.int 1)))) zw)) xNo)))))
noncomputable def Ye:List D→Option Nat:=fnX 5 wT
section
variable {m:Int}{ts:List Tie}{h:Hl}{es:List D}{d a:D}
theorem zeT {s:Str} {k:Nat} (ok:wV m ts) (hp:ziH m h) (hs:(s == "list")=false) (hw:ZY [yy m ts,hD h,d]=some (.tup [a,.tup [.str s,.int (k:Int)]])):Ye [yy m ts,hD h,d]=some (26+64*(k+1)):=by
  show wT [.v (yy m ts),.v (hD h),.v d,.no,.no]=_
  unfold wT
  refine Yg rfl (ZG (d:=.non) (zcY ok)) (Yg rfl (ZG (d:=.non) (zae ok hp)) ?_)
  refine Yg (ρ':=[.v (yy m ts),.v (hD h),.v d,.v (.tup [a,.tup [.str s,.int (k:Int)]]),.no]) rfl (XL (xx (ds:=[_,_,_]) rfl hw)) ?_
  refine Yg (ρ':=[.v (yy m ts),.v (hD h),.v d,.v (.tup [a,.tup [.str s,.int (k:Int)]]),.v (.tup [.str s,.int (k:Int)])]) rfl (XL (zN (x:=.tup [a,.tup [.str s,.int (k:Int)]]) (y:=.int 1) rfl rfl rfl)) ?_
  refine zdz (YU (zN (x:=.tup [.str s,.int (k:Int)]) (y:=.non) rfl rfl rfl)) ?_
  have et:tOf (zm ZF (zm ixD (zf 4) (eC (.int 0))) (eC (.str "list"))) (visG [.v (yy m ts),.v (hD h),.v d,.v (.tup [a,.tup [.str s,.int (k:Int)]]),.v (.tup [.str s,.int (k:Int)])])=some false :=
    YU (zN (x:=.str s) (y:=.str "list") (zN (x:=.tup [.str s,.int (k:Int)]) (y:=.int 0) rfl rfl rfl) rfl (by rw [zv,decide_eq_false (beq_eq_false_iff_ne.mp hs)]))
  have ea:zc (eIf (tOf (zm ZF (zm ixD (zf 4) (eC (.int 0))) (eC (.str "list")))) (eUn vw (eC (.int 1))) (zm ixD (zf 4) (eC (.int 1)))) zw (visG [.v (yy m ts),.v (hD h),.v d,.v (.tup [a,.tup [.str s,.int (k:Int)]]),.v (.tup [.str s,.int (k:Int)])])=some [.int (k:Int)]:=by
    refine zJ ?_ wB
    unfold eIf
    rw [et]
    rfl
  unfold xRI
  rw [ea,Option.bind_some]
  show (if -1≤(k:Int) then some (10+16*1+64*((k:Int)+1).toNat) else none)=_
  rw [if_pos (by omega)]
  congr 1
theorem zfn (ok:wV m ts)(hp:ziH m h)(hd:zR .list d=some (.bl false)):Ye [yy m ts,hD h,d]=some 26:=by
  have hw:=zgr (w:=yy m ts) (h:=hD h) hd
  show wT [.v (yy m ts),.v (hD h),.v d,.no,.no]=_
  unfold wT
  refine Yg rfl (ZG (d:=.non) (zcY ok)) (Yg rfl (ZG (d:=.non) (zae ok hp)) ?_)
  refine Yg (ρ':=[.v (yy m ts),.v (hD h),.v d,.v (.tup [.lst [],.tup [.str "list",.int 0]]),.no]) rfl (XL (xx (ds:=[_,_,_]) rfl hw)) ?_
  refine Yg (ρ':=[.v (yy m ts),.v (hD h),.v d,.v (.tup [.lst [],.tup [.str "list",.int 0]]),.v (.tup [.str "list",.int 0])]) rfl (XL (zN (x:=.tup [.lst [],.tup [.str "list",.int 0]]) (y:=.int 1) rfl rfl rfl)) ?_
  refine zdz (YU (zN (x:=.tup [.str "list",.int 0]) (y:=.non) rfl rfl rfl)) ?_
  rfl
end
theorem Wm (T:Txt K mg ad):xk P w K mg base (Air P w) 8 ad.f_walked ad.e_walked ["web","heap","steps"] (@spX ⟨K⟩ (clT ad) 3 Ye):=by
  letI:KK:=⟨K⟩
  have G_must_be_web:=YG (P:=P) (w:=w) (base:=base) T
  have G_must_be_heap:=Yc (P:=P) (w:=w) (base:=base) T
  have G_walk:=zc3 (P:=P) (w:=w) (base:=base) T
  have T_walk:=WJ (P:=P) (w:=w) (base:=base) T
  refine zh7 (cl:=clT ad) (N:=["web","heap","steps","told","wrong"]) (ps:=["web","heap","steps"]) T.d_walked.fn vA (gx:=wT) fun cdv A outer s H E hr=>?_
  unfold wT
  exact (Xe Z5 (SD.nox (XU (zu (G_must_be_web.mono (by decide)) hr rfl T.d_must_be_web.at_ T.d_must_be_web.kp T.d_must_be_web.bd (za (zb 0 (pv 0)) zh))))
      (Xe Z5 (SD.nox (XU (zu (G_must_be_heap.mono (by decide)) hr rfl T.d_must_be_heap.at_ T.d_must_be_heap.kp T.d_must_be_heap.bd (za (zb 0 (pv 0)) (za (zb 1 (pv 1)) zh)))))
      (Xe Z5 (SD.nox (yp (m:=false) (i:=3) vA.nd rfl (Or.inl rfl) (zu (G_walk.mono (by decide)) hr rfl T.d_walk.at_ T.d_walk.kp T.d_walk.bd (za (zb 0 (pv 0)) (za (zb 1 (pv 1)) (za (zb 2 (pv 2)) zh))))))
      (Xe Z5 (SD.nox (yp (m:=false) (i:=4) vA.nd rfl (Or.inl rfl) (yo (zb 3 (pv 3)) (zi zg) (fun _ _=>rfl))))
      (zcL (zjN (yA Vs zb6 (zS _) (zb 4 (pv 4)) (XM ZU)) (zdp (zcX (cl:=clT ad) ⟨T.g_NoSteps,T.ei_NoSteps,T.ea_NoSteps,zdQ T.na_NoSteps⟩ (zaO (P:=P) (w:=w) (base:=base) T) T.bi_NoSteps (zg8 (zjq ad) (show 10 < 16 by decide)) (hr.mono (by decide)) rfl (za (zjT (yA (YH hr) vm (zS _) (yo (zb 4 (pv 4)) (zi zg) (fun _ _=>rfl)) (Wd Ww)) (zfH (zi zg)) (yo (zb 4 (pv 4)) (zi zg) (fun _ _=>rfl))) zh))) zek))))))
theorem W8:bootBuiltins "ValueError"=some (.type "ValueError"):=by decide +kernel
theorem zfo {n:Nat}(h:n≤13):n≤sizeLine:=by rw [sizeLine_eq];omega
theorem X3 (T:Txt K mg ad):zdo P w K mg base 1 ad.f__law_kinds ad.e__law_kinds ["e"] (zcH (clT ad) (fun j=>j < 13∧zbd K (zjo ad) ad.x_StoneError (clT ad j) j)):=by
  letI:KK:=⟨K⟩
  refine zgh (N:=["e","found"]) (ps:=["e"]) T.d__law_kinds.fn xQ (fun vs H Q E h=>by obtain ⟨a,j,od,rfl,_⟩:=h;rfl) fun cdv A outer s H vs Q E ev hr hsp=>?_
  obtain ⟨a,j,od,rfl,hH,⟨hj,kj⟩,q⟩:=hsp
  refine ⟨_,(yZ (Zl (i:=1) xQ.nd rfl (Or.inl rfl) (V1 (zr (yw yY rfl T.z_isinstance zC (zr (pv 0) (zr (xw (v:=.ref ad.x_NoWeb) rfl T.g_NoWeb rfl) yI))) (zr (yw yY rfl T.z_isinstance zC (zr (pv 0) (zr (xw (v:=.ref ad.x_NoKind) rfl T.g_NoKind rfl) yI))) (zr (yw yY rfl T.z_isinstance zC (zr (pv 0) (zr (xw (v:=.ref ad.x_NoHeap) rfl T.g_NoHeap rfl) yI))) (zr (yw yY rfl T.z_isinstance zC (zr (pv 0) (zr (xw (v:=.ref ad.x_NoPlace) rfl T.g_NoPlace rfl) yI))) yI))))))
      (yZ (Zl (i:=1) xQ.nd rfl (Or.inl rfl) (zeV zbu (pv 1) (V1 (zr (yw yY rfl T.z_isinstance zC (zr (pv 0) (zr (xw (v:=.ref ad.x_NoNumber) rfl T.g_NoNumber rfl) yI))) (zr (yw yY rfl T.z_isinstance zC (zr (pv 0) (zr (xw (v:=.ref ad.x_NoTally) rfl T.g_NoTally rfl) yI))) (zr (yw yY rfl T.z_isinstance zC (zr (pv 0) (zr (xw (v:=.ref ad.x_NotTree) rfl T.g_NotTree rfl) yI))) (zr (yw yY rfl T.z_isinstance zC (zr (pv 0) (zr (xw (v:=.ref ad.x_NotJoined) rfl T.g_NotJoined rfl) yI))) yI)))))))
      (yZ (Zl (i:=1) xQ.nd rfl (Or.inl rfl) (zeV zbu (pv 1) (V1 (zr (yw yY rfl T.z_isinstance zC (zr (pv 0) (zr (xw (v:=.ref ad.x_NoWeights) rfl T.g_NoWeights rfl) yI))) (zr (yw yY rfl T.z_isinstance zC (zr (pv 0) (zr (xw (v:=.ref ad.x_NoRow) rfl T.g_NoRow rfl) yI))) (zr (yw yY rfl T.z_isinstance zC (zr (pv 0) (zr (xw (v:=.ref ad.x_NoSteps) rfl T.g_NoSteps rfl) yI))) (zr (yw yY rfl T.z_isinstance zC (zr (pv 0) (zr (xw (v:=.ref ad.x_NoText) rfl T.g_NoText rfl) yI))) yI)))))))
      (yZ (Zl (i:=1) xQ.nd rfl (Or.inl rfl) (zeV zbu (pv 1) (V1 (zr (yw yY rfl T.z_isinstance zC (zr (pv 0) (zr (xw (v:=.ref ad.x_TooGreat) rfl T.g_TooGreat rfl) yI))) yI))))
      (yZ (zbS (PW.pt (zii (zfO (zfW (yw yY rfl T.z_isinstance zC (zr (pv 0) (zr (yN (v:=.ty "ValueError") rfl T.z_ValueError W8 rfl) yI))))) (zgc (WF WA (XX PySem.F.plainAttrs_list PySem.F.slot_list_count PySem.F.type_list_count zdn (pv 1) (zr vM yI)) zg (zS _))))) (vI (ZX (zhe zee zg))) Xs) (vI (ZX (XX PySem.F.plainAttrs_list PySem.F.slot_list_index PySem.F.type_list_index zdA (pv 1) (zr vM yI))))))))),?_⟩
  refine zdH (cs:=[ad.x_NoWeb,ad.x_NoKind,ad.x_NoHeap,ad.x_NoPlace]) (bs:=[0 == j,1 == j,2 == j,3 == j]) kj.look (congrArg (fun l=>(l.drop 0).take 4) kj.hot) (zfo (n:=4) (by decide)) rfl rfl hH fun σ1 H1 S1=>?_
  refine Va (cs:=[ad.x_NoNumber,ad.x_NoTally,ad.x_NotTree,ad.x_NotJoined]) (bs:=[4 == j,5 == j,6 == j,7 == j]) kj.look (congrArg (fun l=>(l.drop 4).take 4) kj.hot) (by exact zfo (n:=8) (by decide)) S1 fun σ2 H2 S2=>?_
  refine Va (cs:=[ad.x_NoWeights,ad.x_NoRow,ad.x_NoSteps,ad.x_NoText]) (bs:=[8 == j,9 == j,10 == j,11 == j]) kj.look (congrArg (fun l=>(l.drop 8).take 4) kj.hot) (by exact zfo (n:=12) (by decide)) S2 fun σ3 H3 S3=>?_
  refine Va (cs:=[ad.x_TooGreat]) (bs:=[12 == j]) kj.look (congrArg (fun l=>(l.drop 12).take 1) kj.hot) (by exact zfo (n:=13) (by decide)) S3 fun σ4 H4 S4=>?_
  exact zgy kj.val kj.look hj S4 (q _ S4.same)
theorem zgT {m:Int}{ts:List Tie}{g:Hl}{s:Tie}(ok:wV m ts)(h:s∈Zp (zaa g ts)):((0≤s.1∧s.1 < m)∧(0≤s.2∧s.2 < m)∧s.1≠s.2)∧YD ts (zd s)=some s∧¬ vAt g s.1 < 2:=by
  have h:=(ZE _).mem_iff.mp h
  unfold zaa at h
  obtain ⟨t,ht,hs⟩:=List.mem_flatMap.mp h
  have r:=ok.rng t ht
  have key:∀ a b:Int,VU a b=t→YD ts (zd (a,b))=some (a,b):=fun a b e=>by
    show YD ts (.tup [.int a,.int b])=_
    rw [Yp,e,if_pos (decide_eq_true ht)]
  obtain ⟨x,y⟩:=t
  dsimp only at r
  rcases zfF.mp hs with ⟨rfl,hv⟩ | ⟨rfl,hv⟩
  · refine ⟨by dsimp only;omega,key x y ?_,by dsimp only at hv ⊢;omega⟩
    unfold VU
    rw [if_neg (by omega),if_pos (by omega)]
  · refine ⟨by dsimp only;omega,key y x ?_,by dsimp only at hv ⊢;omega⟩
    unfold VU
    rw [if_pos (by omega),if_neg (by omega)]
theorem zdX (l:List Tie):okE 20 (.lst (l.map zd))=true:=by
  show (l.map zd).all (okE 19)=true
  rw [List.all_map,List.all_eq_true]
  exact fun t _=>rfl
theorem zig (l:List Tie):zgq (.lst (l.map zd)) (.lst [])=some (.bl (!decide (l=[]))):=by
  show (if (okE 20 (.lst (l.map zd))&&true)=true then _ else none)=_
  rw [zdX,if_pos (show (true&&true)=true from rfl)]
  cases l <;> rfl
theorem zdC (es:List D):x4 [.lst es]=some (.int (es.length:Int)):=rfl
theorem XQ {S:List Tie}:∀ e∈S.map zd,VF e:=fun e he=>by obtain ⟨t,-,rfl⟩:=List.mem_map.mp he;exact .pair _ _
noncomputable def vg:SE→Ctl :=
  (zK (yG false 6 (zq 2 ZI (zc (zf 0) (zc (zf 4) zw))))
    (sIf (tOf (zm zgq (zf 6) (xr (zU zw)))) (zK (yG false 7 (zm ixD (zf 6) (zm yH (zq 2 zI (zc (zf 2) (zc (zm wC (eC (.int 201)) (zf 5)) zw))) (eFn x4 (zc (zf 6) zw)))))
    (zK (wl false 3 (zf 7))
    (yG false 4 (zq 2 w6 (zc (zf 4) (zc (zf 7) zw)))))) zH))
noncomputable def wk:SE→Ctl :=
  (zK (wn 3 (zU zw))
    (zK (yG false 4 (zf 1))
    (zK (yn wc (zc (zm yH (zq 2 zI (zc (zf 2) (zc (eC (.int 200)) zw))) (eC (.int 21))) zw) (zW 5) vg)
    (sFz 3 (yC (zf 3))))))
noncomputable def Ym:List D→Option D:=fnD 8 wk
theorem VD {m:Int}{ts:List Tie}{h:Hl}{c:Int}(ok:wV m ts)(hl:(h.length:Int)=m):∃ S:List Tie,Ym [yy m ts,hD h,.int c]=some (.lst (S.map zd))∧S.length≤20∧yu ts h 0 (S.map zd)=.non:=by
  obtain ⟨q,hq⟩:∃ q:Int,Wu c 200 % 21=q:=⟨_,rfl⟩
  obtain ⟨q0,q1⟩:=vH (by decide) hq
  obtain ⟨k,hk⟩:∃ k:Nat,q.toNat=k:=⟨_,rfl⟩
  have hr:wc [.int q]=some (Z3 0 k):=by rw [Yy q0 (by omega),hk]
  have key:=zdq (m:=8) (g:=wk) (ds:=[yy m ts,hD h,.int c]) (R:=fun d=>∃ S:List Tie,d=.lst (S.map zd)∧S.length≤k∧yu ts h 0 (S.map zd)=.non) (ρ:=[.v (yy m ts),.v (hD h),.v (.int c),.no,.no,.no,.no,.no]) rfl ?_
  · obtain ⟨d,e,S,rfl,hS,hw⟩:=key
    exact ⟨S,e,by omega,hw⟩
  unfold wk
  refine zB (ρ':=[.v (yy m ts),.v (hD h),.v (.int c),.o [],.no,.no,.no,.no]) rfl ?_
  refine zB (ρ':=[.v (yy m ts),.v (hD h),.v (.int c),.o [],.v (hD h),.no,.no,.no]) rfl ?_
  refine xt (zbs (lo:=0) (c:=k) (fun i ρ=>∃ (S:List Tie) (o5 o6 o7:Sl),ρ=[.v (yy m ts),.v (hD h),.v (.int c),.o (S.map zd),.v (hD (Vi ts h (S.map zd))),o5,o6,o7]∧S.length≤i∧yu ts h 0 (S.map zd)=.non) ?_ ⟨[],_,_,_,rfl,Nat.le_refl _,rfl⟩ ?_ ?_)
  · have e:zc (zm yH (zq 2 zI (zc (zf 2) (zc (eC (.int 200)) zw))) (eC (.int 21))) zw (visG [.v (yy m ts),.v (hD h),.v (.int c),.o [],.v (hD h),.no,.no,.no])=some [.int q]:=by
      refine zJ (zN (x:=.int (Wu c 200)) (y:=.int 21) rfl rfl ?_) wB
      rw [xm (by decide),hq]
    exact (congrArg (·.bind wc) e).trans hr
  · rintro i ρ hi ⟨S,o5,o6,o7,rfl,hS,hw⟩
    have hlg:=We ok (S.map zd) h 0 XQ hw
    obtain ⟨g,hg⟩:∃ g,Vi ts h (S.map zd)=g:=⟨_,rfl⟩
    have hgl:(g.length:Int)=m:=by rw [←hg,hlg];exact hl
    rw [hg]
    refine ⟨[.v (yy m ts),.v (hD h),.v (.int c),.o (S.map zd),.v (hD g),.v (.int ((0:Int)+(i:Int))),o6,o7],rfl,?_⟩
    unfold vg
    obtain ⟨M,hM⟩:∃ M,Zp (zaa g ts)=M:=⟨_,rfl⟩
    have em:=zb9 ok (zhU ok) hgl
    rw [hM] at em
    refine zB (ρ':=[.v (yy m ts),.v (hD h),.v (.int c),.o (S.map zd),.v (hD g),.v (.int ((0:Int)+(i:Int))),.v (.lst (M.map zd)),o7]) (wg (ds:=[_,_]) rfl em) ?_
    refine Zs (c:=!decide (M=[])) (YU (zN (x:=.lst (M.map zd)) (y:=.lst []) rfl rfl (zig M))) (fun z=>?_) (fun _=>Yv rfl ⟨S,_,_,_,by rw [hg],by omega,hw⟩)
    have hne:M≠[]:=by
      intro e
      rw [decide_eq_true e] at z
      cases z
    have hpos:0 < M.length:=List.length_pos_iff.mpr hne
    obtain ⟨j,hj⟩:∃ j:Int,Wu c (201+(0+(i:Int))) % (M.length:Int)=j:=⟨_,rfl⟩
    obtain ⟨j0,j1⟩:=vH (by omega) hj
    have hjl:j.toNat < M.length:=by omega
    obtain ⟨s,hs⟩:∃ s,M[j.toNat]?=some s:=⟨_,List.getElem?_eq_getElem hjl⟩
    obtain ⟨hrg,hst,hv⟩:=zgT (g:=g) ok (by rw [hM];exact List.mem_of_getElem? hs)
    have hin:=zaV hgl hrg
    have ei:L2.atI (M.map zd) j=some (zd s):=zfT j0 (by rw [List.getElem?_map,hs];rfl)
    refine zB (ρ':=[.v (yy m ts),.v (hD h),.v (.int c),.o (S.map zd),.v (hD g),.v (.int ((0:Int)+(i:Int))),.v (.lst (M.map zd)),.v (zd s)]) (XL (zN (x:=.lst (M.map zd)) (y:=.int j) rfl (zN (x:=.int (Wu c (201+(0+(i:Int))))) (y:=.int (M.length:Int)) rfl ?_ ?_) ei)) ?_
    · refine zc2 (ds:=[.lst (M.map zd)]) rfl ?_
      rw [zdC,List.length_map]
    · rw [xm (by omega),hj]
    refine zB (Z0 (ds:=S.map zd) (d:=zd s) rfl rfl (by rw [List.length_map];omega)) ?_
    have hend:=zeZ hst (S.map zd) h 0 hw (by rw [hg];exact hv)
    rw [hg] at hend
    have hap:S.map zd++[zd s]=(S++[s]).map zd:=by rw [List.map_append];rfl
    refine Yv (ρ':=[.v (yy m ts),.v (hD h),.v (.int c),.o (S.map zd++[zd s]),.v (hD (wH g s)),.v (.int ((0:Int)+(i:Int))),.v (.lst (M.map zd)),.v (zd s)]) (wg (ds:=[hD g,zd s]) rfl (ZR hin)) ⟨S++[s],_,_,_,by rw [←hap,hend],by rw [List.length_append];show S.length+1≤_;omega,?_⟩
    rw [←hap,Wb _ _ _ hw,hg,Yi hst hv]
    rfl
  · rintro ρ ⟨S,o5,o6,o7,rfl,hS,hw⟩
    exact zf3 rfl (Y1 rfl ⟨S,rfl,hS,hw⟩)
theorem WG (T:Txt K mg ad):xk P w K mg base CX0 2 ad.f__law_steps ad.e__law_steps ["web","heap","cell"] (@spD ⟨K⟩ 3 Ym):=by
  letI:KK:=⟨K⟩
  have G__law_stir:=wm (P:=P) (w:=w) (base:=base) T
  have G__law_may:=zao (P:=P) (w:=w) (base:=base) T
  have G__law_moved:=Y3 (P:=P) (w:=w) (base:=base) T
  refine xU (N:=["web","heap","cell","found","here","k","may","step"]) (ps:=["web","heap","cell"]) T.d__law_steps.fn yJ (g:=wk) fun cdv A outer s H E hr=>?_
  unfold wk vg
  exact (zj (ZM (i:=3) yJ.nd rfl (Or.inl rfl) (vE zh))
      (zj (yp (m:=false) (i:=4) yJ.nd rfl (Or.inl rfl) (zb 1 (pv 1)))
      (zj (Vd PassesOwn.never rfl rfl T.z_range (za (xB (zu (G__law_stir.mono (by decide)) hr rfl T.d__law_stir.at_ T.d__law_stir.kp T.d__law_stir.bd (za (zb 2 (pv 2)) (za (zi zg) zh))) (zi zg)) zh) (xn (zX (i:=5) yJ.nd rfl (Or.inl rfl))) (zj (yp (m:=false) (i:=6) yJ.nd rfl (Or.inl rfl) (zu (G__law_may.mono (by decide)) hr rfl T.d__law_may.at_ T.d__law_may.kp T.d__law_may.bd (za (zb 0 (pv 0)) (za (zb 4 (pv 4)) zh))))
      (zn (wx (yA (zcv hr) zaR (zS _) (zb 6 (pv 6)) (YZ (vE zh))) (zj (yp (m:=false) (i:=7) yJ.nd rfl (Or.inl rfl) (yo (zb 6 (pv 6)) (xB (zu (G__law_stir.mono (by decide)) hr rfl T.d__law_stir.at_ T.d__law_stir.kp T.d__law_stir.bd (za (zb 2 (pv 2)) (za (yS (zi zg) (zb 5 (pv 5))) zh))) (yL yd vf rfl T.z_len YJ (za (zb 6 (pv 6)) zh))) (fun _ _=>rfl)))
      (zj (Zc (m:=false) (pv 3) (zb 7 (pv 7)) (fun a b=>XX PySem.F.plainAttrs_list PySem.F.slot_list_append PySem.F.type_list_append xL a b))
      (zn (yp (m:=false) (i:=4) yJ.nd rfl (Or.inl rfl) (zu (G__law_moved.mono (by decide)) hr rfl T.d__law_moved.at_ T.d__law_moved.kp T.d__law_moved.bd (za (zb 4 (pv 4)) (za (zb 7 (pv 7)) zh))))))) ya))))
      (ZV 3 (zn (zO (zb 3 (pv 3))))))))
theorem zfK {it:Ev→Option (List D)}{b:D→Option (List (Option D))}{t:Ev→Option Bool}{f:Ev→Option D}{ρ:Ev}{α:Type}{c:α→D}{p:α→Bool}{y:α→D}{xs:List α}(h1:it ρ=some (xs.map c))(hl:xs.length≤1000)(h:∀ x∈xs,∃ own,b (c x)=some own∧t (own++ρ)=some (p x)∧(p x=true→f (own++ρ)=some (y x))):fLC it b t f ρ=some ((xs.filter p).map y):=by
  unfold fLC
  rw [h1,Option.bind_some,if_pos (vB (by rw [List.length_map];exact hl))]
  exact Zy c p y xs h
theorem zf7 {it:Ev→Option (List D)}{b:D→Option (List (Option D))}{t:Ev→Option Bool}{f:Ev→Option D}{ρ:Ev}{α:Type}{c y:α→D}{xs:List α}(h1:it ρ=some (xs.map c))(hl:xs.length≤1000)(h:∀ x∈xs,∃ own,b (c x)=some own∧t (own++ρ)=some true∧f (own++ρ)=some (y x)):fLC it b t f ρ=some (xs.map y):=by
  unfold fLC
  rw [h1,Option.bind_some,if_pos (vB (by rw [List.length_map];exact hl))]
  exact WU c y xs h
noncomputable def vJ:SE→Ctl :=
  (zK (ziD (xEx (zik 3 Ye (zc (zf 0) (zc (zf 1) (zc (zf 2) zw))))) (wI (zq 3 Yx (zc (zf 0) (zc (zf 1) (zc (zf 2) zw))))) (zhc [10] (ze4 (fK [10]) 10 (fA "at" [10]) (fun _=>some (.int (-2))))))
    (yC (eC .non)))
noncomputable def vO:List D→Option D:=fnD 4 vJ
theorem zcQ {W Hd L:D}{n:Nat}(h:Ye [W,Hd,L]=some (26+64*n)):vO [W,Hd,L]=some (.int ((n:Int) - 1)):=by
  refine Vh (ρ:=[.v W,.v Hd,.v L,.no]) rfl ?_
  unfold vJ
  refine xt (Y1 (zeP (j:=26+64*n) (d:=.int ((n:Int) - 1)) h ?_) rfl)
  have m16:(26+64*n) % 16=10:=by omega
  have k1:(26+64*n) / 16 % 4=1:=by omega
  have k2:(26+64*n) / 64=n:=by omega
  unfold zhc ze4 fK fA
  rw [m16]
  show (pay (26+64*n)).bind _=_
  unfold pay
  rw [k1,k2]
  rfl
theorem VY (T:Txt K mg ad):xk P w K mg base CX0 9 ad.f__law_came ad.e__law_came ["web","heap","steps"] (@spD ⟨K⟩ 3 vO):=by
  letI:KK:=⟨K⟩
  have G_walked:=VT (P:=P) (w:=w) (base:=base) T
  have X_walked:=Wm (P:=P) (w:=w) (base:=base) T
  have N_walked:=ZH (P:=P) (w:=w) (base:=base) T
  have H_kinds:=X3 (P:=P) (w:=w) (base:=base) T
  have okj:∀ j,j∈[10]→j < 13∧zbd K (zjo ad) ad.x_StoneError (clT ad j) j:=by
    intro j hj
    simp only [List.mem_cons,List.not_mem_nil,or_false] at hj
    rcases hj with rfl
    · exact ⟨by decide,.of T.y_NoSteps⟩
  have exj:∀ (h:Nat→Option D) j d,zhc [10] h j=some d→PySem.W.exmOne K (.ref (clT ad j)) (.ref ad.x_StoneError)=some true:=fun h j d e=>by rw [zjq ad j];exact (okj _ (zgX e)).2.exm
  have xat_at:∀ j,j % 16∈[10]→vW K (clT ad j)∧Wq K (clT ad j) "at":=by
    intro j hj
    rw [zjq ad j]
    generalize j % 16=m at hj ⊢
    simp only [List.mem_cons,List.not_mem_nil,or_false] at hj
    rcases hj with rfl
    · exact ⟨.of T.ea_NoSteps,zdQ T.na_NoSteps _ (by decide)⟩
  refine xU (N:=["web","heap","steps","e"]) (ps:=["web","heap","steps"]) T.d__law_came.fn Z1 (g:=vJ) fun cdv A outer s H E hr=>?_
  unfold vJ
  exact (zj (ziL (i:=3) rfl rfl rfl Z1.nd rfl rfl rfl T.g_StoneError (fun ps W E0 hx=>(zdp (zhr (zgP (X_walked.mono (by decide)) hx hr rfl T.d_walked.at_ T.d_walked.kp T.d_walked.bd (za (zb 0 (pv 0)) (za (zb 1 (pv 1)) (za (zb 2 (pv 2)) zh))))))) (fun ps W=>(zn (XU (zu (G_walked.mono (by decide)) hr rfl T.d_walked.at_ T.d_walked.kp T.d_walked.bd (za (zb 0 (pv 0)) (za (zb 1 (pv 1)) (za (zb 2 (pv 2)) zh))))))) (exj _) (fun ok ea=>(yZ (zbS (WF zhP (zeX (E:=fun _ _ _=>False) H_kinds (hr.mono (by decide)) rfl T.d__law_kinds.at_ T.d__law_kinds.kp T.d__law_kinds.bd ok (zr (pv 3) yI)) zg (zS _)) (vI (ZX (zjU (pv 3) rfl))) Xs) (vI (ZX (zhe zee zg))))) (zjd (zjF (zfu (ok:=_) (zjq ad) okj) (zf5 (zhs xat_at)) (zf5 zh3))))
      (zn (zO (XM ZU))))
noncomputable def Yq:SE→Ctl :=
  (zK (yG false 3 (xr (fLC (iOf (zm wC (xr (fFn ym (zc (zm ixD (zf 0) (eC (.int 1))) zw))) (xr (fLC (iOf (zm ixD (zf 0) (eC (.int 1)))) b2 yb (xO (zc (zf 1) (zc (zf 0) zw))))))) b2 (tOf (zm ltD (zm ixD (zf 3) (zf 0)) (eC (.int 2)))) (xO (zc (zf 0) (zc (zf 1) zw))))))
    (zK (yG false 4 (xr (fLC (iOf (zq 1 y0 (zc (zm ixD (zf 0) (eC (.int 0))) zw))) b1 (tOf (zm zbi (zf 0) (zm ixD (zf 1) (eC (.int 1))))) (zf 0))))
    (zK (yG false 5 (zm wC (zm wC (zf 3) (zf 4)) (xr (zU (zc (xO (zc (eC (.int 0)) (zc (eC (.int 0)) zw))) (zc (xO (zc (eC (.int 0)) (zc (zm ixD (zf 0) (eC (.int 0))) zw))) (zc (xr (zU (zc (eC (.int 0)) (zc (eC (.int 1)) zw)))) (zc (xO (zc (eC (.bl true)) (zc (eC (.int 0)) zw))) (zc (xO (zc (eC (.int 0)) (zc (eC (.bl false)) zw))) (zc (eC .non) (zc (eC (.str "01")) (zc (xO (zc (eC (.int 0)) (zc (eC (.int 1)) (zc (eC (.int 1)) zw)))) (zc (eC (.int 7)) zw)))))))))))))
    (yC (zm ixD (zf 5) (zm yH (zf 2) (eFn x4 (zc (zf 5) zw))))))))
noncomputable def Zz:List D→Option D:=fnD 6 Yq
noncomputable def zhj (ts:List Tie)(g:Hl)(d:D):Prop:=VF d∧(YD ts d=none∨∃ s,YD ts d=some s∧vAt g s.1 < 2)
theorem zcl {m n:Int}{ts:List Tie}{g:Hl}(ok:wV m ts)(hg:(g.length:Int)=m):∃ d,Zz [yy m ts,hD g,.int n]=some d∧zhj ts g d:=by
  have hm:=ok.lo
  have hm8:=ok.hi
  have h28:=zhU ok
  refine zdq (ρ:=[.v (yy m ts),.v (hD g),.v (.int n),.no,.no,.no]) rfl ?_
  unfold Yq
  have e0:∀ ρ:Ev,zf 0 ρ=some (yy m ts)→zm ixD (zf 0) (eC (.int 1)) ρ=some (.tup (ts.map zd)):=fun ρ h0=>zN (x:=yy m ts) (y:=.int 1) h0 rfl rfl
  obtain ⟨A,hA⟩:∃ A,(ts++ts.map swP).filter (fun t=>decide (vAt g t.1 < 2))=A:=⟨_,rfl⟩
  have hAl:A.length≤56:=by
    rw [←hA]
    refine Nat.le_trans (List.length_filter_le _ _) ?_
    rw [List.length_append,List.length_map]
    omega
  have hrng:∀ t∈ts++ts.map swP,0≤t.1∧t.1 < m:=fun t ht=>by
    rcases List.mem_append.mp ht with ht | ht
    · have:=ok.rng t ht
      omega
    · obtain ⟨u,hu,rfl⟩:=List.mem_map.mp ht
      have:=ok.rng u hu
      show 0≤u.2∧u.2 < m
      omega
  have eA:fLC (iOf (zm wC (xr (fFn ym (zc (zm ixD (zf 0) (eC (.int 1))) zw))) (xr (fLC (iOf (zm ixD (zf 0) (eC (.int 1)))) b2 yb (xO (zc (zf 1) (zc (zf 0) zw))))))) b2 (tOf (zm ltD (zm ixD (zf 3) (zf 0)) (eC (.int 2)))) (xO (zc (zf 0) (zc (zf 1) zw))) (visF [.v (yy m ts),.v (hD g),.v (.int n),.no,.no,.no])=some (A.map zd):=by
    rw [←hA]
    refine zfK (c:=zd) ?_ (by rw [List.length_append,List.length_map];omega) ?_
    · refine zbg (d:=.lst ((ts++ts.map swP).map zd)) (zN (x:=.lst (ts.map zd)) (y:=.lst ((ts.map swP).map zd)) (XH (ziN (ds:=[.tup (ts.map zd)]) (zJ (e0 _ rfl) wB) rfl)) (XH ?_) ?_) rfl
      · rw [List.map_map]
        exact zf7 (c:=zd) (y:=zd ∘ swP) (zbg (e0 _ rfl) rfl) (by omega) fun t _=>⟨[some (.int t.1),some (.int t.2)],rfl,rfl,rfl⟩
      · rw [zct (by rw [List.length_map,List.length_map,List.length_map];omega),← List.map_append]
    · intro t ht
      have hr:=hrng t ht
      refine ⟨[some (.int t.1),some (.int t.2)],rfl,YU (zN (x:=.int (vAt g t.1)) (y:=.int 2) (zN (x:=hD g) (y:=.int t.1) rfl rfl (Yu (ns:=g) hr.1 (by omega))) rfl rfl),fun _=>rfl⟩
  refine zB (ρ':=[.v (yy m ts),.v (hD g),.v (.int n),.v (.lst (A.map zd)),.no,.no]) (XL (XH eA)) ?_
  obtain ⟨B,hB⟩:∃ B,(xo m.toNat).filter (fun t=>!decide (t∈ts))=B:=⟨_,rfl⟩
  have hpl:=Y8 m.toNat (by omega)
  have hBl:B.length≤28:=by
    rw [←hB]
    exact Nat.le_trans (List.length_filter_le _ _) hpl.2.2
  have eB:fLC (iOf (zq 1 y0 (zc (zm ixD (zf 0) (eC (.int 0))) zw))) b1 (tOf (zm zbi (zf 0) (zm ixD (zf 1) (eC (.int 1))))) (zf 0) (visF [.v (yy m ts),.v (hD g),.v (.int n),.v (.lst (A.map zd)),.no,.no])=some (B.map zd):=by
    rw [←hB]
    refine zfK (c:=zd) ?_ (by have:=hpl.2.2;omega) ?_
    · refine zbg (d:=.lst ((xo m.toNat).map zd)) (xx (ds:=[.int m]) (zJ (zN (x:=yy m ts) (y:=.int 0) rfl rfl rfl) wB) ?_) rfl
      show (if decide (0≤m∧m≤8)=true then _ else none)=_
      rw [if_pos (decide_eq_true ⟨by omega,hm8⟩)]
    · intro t _
      exact ⟨[some (zd t)],rfl,YU (zN (x:=zd t) (y:=.tup (ts.map zd)) rfl (zN (x:=yy m ts) (y:=.int 1) rfl rfl rfl) (zah t ts)),fun _=>rfl⟩
  refine zB (ρ':=[.v (yy m ts),.v (hD g),.v (.int n),.v (.lst (A.map zd)),.v (.lst (B.map zd)),.no]) (XL (XH eB)) ?_
  obtain ⟨L,hL⟩:∃ L,A.map zd++B.map zd++[D.tup [.int 0,.int 0],.tup [.int 0,.int m],.lst [.int 0,.int 1],.tup [.bl true,.int 0],.tup [.int 0,.bl false],.non,.str "01",.tup [.int 0,.int 1,.int 1],.int 7]=L:=⟨_,rfl⟩
  refine zB (ρ':=[.v (yy m ts),.v (hD g),.v (.int n),.v (.lst (A.map zd)),.v (.lst (B.map zd)),.v (.lst L)]) (XL (zN (x:=.lst (A.map zd++B.map zd)) (y:=.lst [D.tup [.int 0,.int 0],.tup [.int 0,.int m],.lst [.int 0,.int 1],.tup [.bl true,.int 0],.tup [.int 0,.bl false],.non,.str "01",.tup [.int 0,.int 1,.int 1],.int 7]) (zN (x:=.lst (A.map zd)) (y:=.lst (B.map zd)) rfl rfl (zct (by rw [List.length_map,List.length_map];omega))) rfl ?_)) ?_
  · rw [zct (by rw [List.length_append,List.length_map,List.length_map];show _+9≤1000;omega),hL]
  have hLl:0 < L.length:=by rw [←hL,List.length_append];show 0 < _+9;omega
  obtain ⟨j,hj⟩:∃ j:Int,n % (L.length:Int)=j:=⟨_,rfl⟩
  obtain ⟨j0,j1⟩:=vH (by omega) hj
  have hall:∀ x∈L,zhj ts g x:=by
    intro x hx
    rw [←hL] at hx
    rcases List.mem_append.mp hx with hx | hx
    · rcases List.mem_append.mp hx with hx | hx
      · obtain ⟨t,ht,rfl⟩:=List.mem_map.mp hx
        rw [←hA] at ht
        obtain ⟨ht,hv⟩:=List.mem_filter.mp ht
        refine ⟨.pair _ _,?_⟩
        cases e:YD ts (zd t) with
        | none=>exact .inl rfl
        | some s =>
          refine .inr ⟨s,rfl,?_⟩
          obtain ⟨e2,-⟩:=Xh ok (.pair _ _) e
          have e3:t=s:=by
            have:=D.tup.inj e2
            obtain ⟨a1,a2⟩:=List.cons.inj this
            obtain ⟨a2,_⟩:=List.cons.inj a2
            exact Prod.ext (D.int.inj a1) (D.int.inj a2)
          rw [←e3]
          exact of_decide_eq_true hv
      · obtain ⟨t,ht,rfl⟩:=List.mem_map.mp hx
        rw [←hB] at ht
        obtain ⟨ht,hv⟩:=List.mem_filter.mp ht
        have hn:t∉ts:=by simpa using hv
        have hr:=hpl.2.1 t ht
        refine ⟨.pair _ _,.inl ?_⟩
        obtain ⟨a,b⟩:=t
        show YD ts (.tup [.int a,.int b])=none
        have:VU a b=(a,b):=by unfold VU;dsimp only at hr;rw [if_neg (by omega),if_pos (by omega)]
        rw [Yp,this,if_neg (by rw [decide_eq_false hn];exact Bool.false_ne_true)]
    · have n00:∀ a b:Int,¬ ((0≤a∧a < m)∧(0≤b∧b < m)∧a≠b)→YD ts (.tup [.int a,.int b])=none:=fun a b hn=>by
        rw [Yp,if_neg]
        intro z
        exact hn (WE ok (of_decide_eq_true z))
      simp only [List.mem_cons,List.not_mem_nil,or_false] at hx
      rcases hx with rfl | rfl | rfl | rfl | rfl | rfl | rfl | rfl | rfl
      · exact ⟨.pair _ _,.inl (n00 0 0 (by omega))⟩
      · exact ⟨.pair _ _,.inl (n00 0 m (by omega))⟩
      · exact ⟨.lst,.inl rfl⟩
      · exact ⟨.tru,.inl rfl⟩
      · exact ⟨.fal,.inl rfl⟩
      · exact ⟨.non,.inl rfl⟩
      · exact ⟨.text _,.inl rfl⟩
      · exact ⟨.three,.inl rfl⟩
      · exact ⟨.num _,.inl rfl⟩
  obtain ⟨d,ed,hd⟩:=W0 hall j0 j1
  refine Y1 (YX (zN (x:=.lst L) (y:=.int j) rfl (zN (x:=.int n) (y:=.int (L.length:Int)) rfl (zc2 (ds:=[.lst L]) rfl rfl) (by rw [xm (by omega),hj])) ed)) hd
theorem zaw (T:Txt K mg ad):xk P w K mg base CX0 2 ad.f__law_bad ad.e__law_bad ["web","here","number"] (@spD ⟨K⟩ 3 Zz):=by
  letI:KK:=⟨K⟩
  have G__law_pairs:=Zg (P:=P) (w:=w) (base:=base) T
  refine xU (N:=["web","here","number","bare","apart","some"]) (ps:=["web","here","number"]) T.d__law_bad.fn vP (g:=Yq) fun cdv A outer s H E hr=>?_
  unfold Yq
  exact (zj (zaj (m:=false) (i:=3) (zcR (L:=["a","b"]) (M:=["web","here","number","bare","apart","some"]) vP.nd rfl (Or.inl rfl) rfl (Xo (by rfl) (by rfl) (by rfl) (by with_unfolding_all rfl) (by rfl) (by rfl) (by kernel_rfl) (all_cons rfl YV)) (Z2 (yS (YZ (XA rfl T.z_list (za (yo (zb 0 (pv 0)) (zi zg) (fun _ _=>rfl)) zh))) (YZ (zcu (L:=["a","b"]) (M:=["web","here","number","bare","apart","some"]) rfl (Xo (by rfl) (by rfl) (by rfl) (by with_unfolding_all rfl) (by rfl) (by rfl) (by kernel_rfl) YV) (Z2 (yo (zb 0 (pv 0)) (zi zg) (fun _ _=>rfl))) gs2 rb2 (fun _ _ _ _=>(zcw rfl (Zk (zX (i:=0) zfj rfl (Or.inl rfl) (.inr rfl)) (Zk (zX (i:=1) zfj rfl (Or.inl rfl) (.inr rfl)) zaS)))) (fun _ _ _ _=>(we (za (zb 1 (pv 1)) (za (zb 0 (pv 0)) zh)))))))) gs2 rb2 (fun _ _ _ _=>(zcw rfl (Zk (zX (i:=0) zfj rfl (Or.inl rfl) (.inr rfl)) (Zk (zX (i:=1) zfj rfl (Or.inl rfl) (.inr rfl)) zaS)))) (fun _ _ _ _=>(yA zho xP (zS _) (yo (zb 3 (pv 3)) (zb 0 (pv 0)) (fun _ _=>rfl)) (zi zg))) (fun _ _ _ _=>(we (za (zb 0 (pv 0)) (za (zb 1 (pv 1)) zh))))))
      (zj (zaj (m:=false) (i:=4) (zcR (L:=["tie"]) (M:=["web","here","number","bare","apart","some"]) vP.nd rfl (Or.inl rfl) rfl (Xo (by rfl) (by rfl) (by rfl) (by with_unfolding_all rfl) (by rfl) (by rfl) (by kernel_rfl) (all_cons rfl YV)) (Z2 (zu (G__law_pairs.mono (by decide)) hr rfl T.d__law_pairs.at_ T.d__law_pairs.kp T.d__law_pairs.bd (za (yo (zb 0 (pv 0)) (zi zg) (fun _ _=>rfl)) zh))) gs1 rb1 (fun _ _ _ _=>(zX (i:=0) zj8 rfl (Or.inl rfl) (.inr rfl))) (fun _ _ _ _=>(yA (zcM hr) zdm (by with_unfolding_all rfl) (zb 0 (pv 0)) (yo (zb 1 (pv 1)) (zi zg) (fun _ _=>rfl)))) (fun _ _ _ _=>(zb 0 (pv 0)))))
      (zj (yp (m:=false) (i:=5) vP.nd rfl (Or.inl rfl) (yS (yS (zb 3 (pv 3)) (zb 4 (pv 4))) (YZ (vE (za (we (za (zi zg) (za (zi zg) zh))) (za (we (za (zi zg) (za (yo (zb 0 (pv 0)) (zi zg) (fun _ _=>rfl)) zh))) (za (YZ (vE (za (zi zg) (za (zi zg) zh)))) (za (we (za (Yd vM) (za (zi zg) zh))) (za (we (za (zi zg) (za (Yd vM) zh))) (za (XM ZU) (za (Wd Ww) (za (we (za (zi zg) (za (zi zg) (za (zi zg) zh)))) (za (zi zg) zh)))))))))))))
      (zn (zO (yo (zb 5 (pv 5)) (xB (zb 2 (pv 2)) (yL yd vf rfl T.z_len YJ (za (zb 5 (pv 5)) zh))) (fun _ _=>rfl)))))))
noncomputable def WY:SE→Ctl :=
  (zK (yG false 2 (zm wC (eC (.int 2)) (zm yH (zm zV (zf 1) (eC (.int 64))) (eC (.int 7)))))
    (zK (yG false 3 (zq 2 wq (zc (zf 2) (zc (zm zV (zf 1) (eC (.int 448))) zw))))
    (zK (yG false 4 (zq 3 vj (zc (zf 2) (zc (zm wC (zm x9 (zq 2 zI (zc (zf 1) (zc (eC (.int 9)) zw))) (eC (.int 2))) (zm yH (zf 1) (eC (.int 2)))) (zc (eC (.int 40)) zw)))))
    (zK (yG false 5 (zq 3 Ym (zc (zf 3) (zc (zf 4) (zc (zf 1) zw)))))
    (zK (yG false 6 (xr (fLC (wX wc (zc (eFn x4 (zc (zf 5) zw)) zw)) b1 yb (zq 2 wM (zc (zf 5) (zc (eSl slD (zf 6) yl (yi (zm wC (zf 0) (eC (.int 1))))) zw))))))
    (zK (yG false 7 (xr (fFn ym (zc (zf 5) zw))))
    (zK (zhS 8 (zq 3 Yx (zc (zf 3) (zc (zf 4) (zc (zf 7) zw)))))
    (zK (sIf (wQ (zY (tOf (zq 2 vR (zc (zf 8) (zc (zf 6) zw))))) (tOf (zm zgq (zf 7) (zf 5)))) (yC (eC (.bl false))) zH)
    (zK (wl false 8 (eC (.int 0)))
    (sFz 8 (zK (yG false 9 (zm yH (zq 2 zI (zc (zf 1) (zc (eC (.int 240)) zw))) (zm wC (eFn x4 (zc (zf 5) zw)) (eC (.int 1)))))
    (zK (yG false 10 (zq 3 Zz (zc (zf 3) (zc (zq 2 wM (zc (zf 4) (zc (eSl slD (zf 5) yl (yi (zf 9))) zw))) (zc (zq 2 zI (zc (zf 1) (zc (eC (.int 241)) zw))) zw)))))
    (zK (sIf (zY (tOf (zq 2 vR (zc (zq 3 vO (zc (zf 3) (zc (zf 4) (zc (zm wC (zm wC (eSl slD (zf 5) yl (yi (zf 9))) (xr (zU (zc (zf 10) zw)))) (eSl slD (zf 5) (yi (zf 9)) yl)) zw)))) (zc (zf 9) zw))))) (yC (eC (.bl false))) zH)
    (sIf (wQ (tOf (zm neD (zq 3 vO (zc (zf 3) (zc (zf 4) (zc (zm ixD (xr (zU (zc (eFn zF (zc (zf 5) zw)) (zc (eC .non) (zc (eC (.str "")) (zc (eC (.dct false false [] [])) zw)))))) (zm yH (zf 1) (eC (.int 4)))) zw)))) (eUn vw (eC (.int 1))))) (tOf (zm zgq (zq 3 Yx (zc (zf 3) (zc (zf 4) (zc (zf 5) zw)))) (zf 6)))) (yC (eC (.bl false))) zH))))))))))))))
noncomputable def zfe:SE→Ctl :=
  (zK (wA (iOf (zm wC (eSl slD (zf 0) yl (yi (eC (.int 10)))) (xr (zU (zc (eC (.int 0)) (zc (eC (.int 7)) (zc (eC (.int 14)) zw))))))) (zW 1) WY)
    (yC (eC (.bl true))))
noncomputable def zif:List D→Option D:=fnD 11 zfe
theorem zak {S:List Tie}{a:Int}(h0:0≤a)(h1:a≤S.length):Xc (S.map zd) none (some a)=(S.take a.toNat).map zd:=by
  unfold Xc
  obtain ⟨k,rfl⟩:=Int.eq_ofNat_of_zero_le h0
  rw [HT.sIx_none,List.drop_zero,Nat.sub_zero,HT.sIx_nat,List.length_map,Nat.min_eq_left (by omega),List.map_take]
  rfl
theorem zeN {S:List Tie}{a:Int}:∃ rest:List Tie,Xc (S.map zd) (some a) none=rest.map zd∧rest.length≤S.length:=⟨Xc S (some a) none,by rw [zeQ],zbq S (some a) none⟩
theorem zbe {l:List D}(h:okE 20 (.lst l)=true):zgq (.lst l) (.lst l)=some (.bl false):=by
  show (if (okE 20 (.lst l)&&okE 20 (.lst l))=true then some (D.bl (!eqN 20 (.lst l) (.lst l))) else none)=_
  rw [h,if_pos (show (true&&true)=true from rfl),zbn 20 h]
  rfl
theorem zfJ (n:Nat)(hs:List Hl):okE (n+3) (.lst (hs.map hD))=true:=by
  show (hs.map hD).all (okE (n+2))=true
  rw [List.all_map,List.all_eq_true]
  intro h _
  show (h.map D.int).all (okE (n+1))=true
  rw [List.all_map,List.all_eq_true]
  exact fun t _=>rfl
theorem zhR {ts:List Tie} {g:Hl} {d:D} {k:Nat} {rest:List D} (h:zhj ts g d):∃ s:Str,(s == "list")=false∧yu ts g k (d::rest)=.tup [.str s,.int (k:Int)]:=by
  rcases h.2 with e | ⟨s,e,c⟩
  · exact ⟨_,rfl,YS e⟩
  · exact ⟨_,rfl,YT e c⟩
theorem zj7 (S:List D):∀ x∈[D.tup S,.non,.str "",.dct false false [] []],zR .list x=some (.bl false):=by
  intro x hx
  simp only [List.mem_cons,List.not_mem_nil,or_false] at hx
  rcases hx with rfl | rfl | rfl | rfl <;> rfl
theorem ziO {m:Int}{ts S:List Tie}{h:Hl}{i:Nat}{ρ:Ev}(ok:wV m ts)(hl:(h.length:Int)=m)(hw:yu ts h 0 (S.map zd)=.non)(hi:i < S.length)(h5:zf 5 ρ=some (hD h))(h6:zf 6 ρ=some (.lst (S.map zd)))(h0:zf 0 ρ=some (.int (0+(i:Int)))):zq 2 wM (zc (zf 5) (zc (eSl slD (zf 6) yl (yi (zm wC (zf 0) (eC (.int 1))))) zw)) ρ=some (hD (Vi ts h ((S.map zd).take (i+1)))):=by
  refine xx (ds:=[hD h,.lst ((S.map zd).take (i+1))]) (zJ h5 (zJ ?_ wB)) (X8 ok hl (fun e he=>XQ e (List.mem_of_mem_take he)) (Xy _ _ _ _ hw))
  have e0:zm wC (zf 0) (eC (.int 1)) ρ=some (.int ((i:Int)+1)):=zN (x:=.int (0+(i:Int))) (y:=.int 1) h0 rfl (by rw [zt,Int.zero_add])
  refine ziT (x:=.lst (S.map zd)) (lo:=none) (hi:=some ((i:Int)+1)) h6 rfl (by unfold yi;rw [e0];rfl) ?_
  show some (D.lst (Xc (S.map zd) none (some ((i:Int)+1))))=_
  rw [zak (by omega) (by omega),List.map_take,show ((i:Int)+1).toNat=i+1 by omega]
theorem zgB {m:Int}{ts S:List Tie}{h:Hl}{hs:List Hl}{ρ:Ev}(ok:wV m ts)(hl:(h.length:Int)=m)(hw:yu ts h 0 (S.map zd)=.non)(hS:S.length≤900)(hhs:wd ts h (S.map zd)=hs)(h4:zf 4 ρ=some (hD h))(h5:zf 5 ρ=some (.lst (S.map zd))):fLC (wX wc (zc (eFn x4 (zc (zf 5) zw)) zw)) b1 yb (zq 2 wM (zc (zf 5) (zc (eSl slD (zf 6) yl (yi (zm wC (zf 0) (eC (.int 1))))) zw))) ρ=some (hs.map hD):=by
  have hfull:=Xi (S.map zd) h 0 hw
  rw [List.length_map,hhs] at hfull
  have ey:hs.map hD=(List.range S.length).map fun i=>hD (Vi ts h ((S.map zd).take (i+1))):=by
    refine List.ext_getElem? fun i=>?_
    rw [List.getElem?_map,List.getElem?_map]
    by_cases hi:i < S.length
    · rw [←hhs,Wg i (S.map zd) h 0 hw (by rw [List.length_map];exact hi),List.getElem?_range hi,Option.map_some,Option.map_some]
    · rw [List.getElem?_eq_none (by omega),List.getElem?_eq_none (by rw [List.length_range];omega),Option.map_none,Option.map_none]
  rw [ey]
  have e:zc (eFn x4 (zc (zf 5) zw)) zw ρ=some [.int (S.length:Int)]:=by
    refine zJ (zc2 (ds:=[.lst (S.map zd)]) (zJ h5 wB) ?_) wB
    rw [zdC,List.length_map]
  have e1:wX wc (zc (eFn x4 (zc (zf 5) zw)) zw) ρ=some ((List.range S.length).map fun i:Nat=>D.int (0+(i:Int))):=by
    refine (congrArg (·.bind wc) e).trans ?_
    rw [Option.bind_some,Yy (by omega) (by omega),Int.toNat_natCast]
    rfl
  exact zf7 (c:=fun i:Nat=>D.int (0+(i:Int))) (y:=fun i:Nat=>hD (Vi ts h ((S.map zd).take (i+1)))) e1 (by rw [List.length_range];omega) fun i hi=>⟨[some (.int (0+(i:Int)))],rfl,rfl,ziO ok hl hw (List.mem_range.mp hi) h4 h5 rfl⟩
theorem zgE (s:D)(z:Int)(o2 o3 o4 o5 o6 o7 o8 o9 o10:Sl)(n b:SE→Prop)(r:D→Prop)(I:SE→Prop)(hI:∀ o2 o3 o4 o5 o6 o7 o8 o9 o10,I [.v s,.v (.int z),o2,o3,o4,o5,o6,o7,o8,o9,o10]):(WY [.v s,.v (.int z),o2,o3,o4,o5,o6,o7,o8,o9,o10]).w I b n r:=by
  obtain ⟨q,hq⟩:∃ q:Int,z / 64 % 7=q:=⟨_,rfl⟩
  obtain ⟨q0,q1⟩:=vH (by decide) hq
  obtain ⟨m,hm⟩:∃ m:Int,2+q=m:=⟨_,rfl⟩
  have hm8:1≤m∧m≤8:=by omega
  obtain ⟨ts,ew,ok,-⟩:=V8 (n:=m) (c:=z / 448) hm8.1 hm8.2
  obtain ⟨cc,hcc⟩:∃ cc:Int,Wu z 9*2+z % 2=cc:=⟨_,rfl⟩
  obtain ⟨h,eh,hl,hnn,hsum⟩:=zbK (n:=m) (c:=cc) (mo:=40) (by omega) hm8.2 (by decide) (by decide)
  have hp:ziH m h:=⟨hl,hnn,by omega⟩
  obtain ⟨S,eS,hS,hw⟩:=VD (c:=z) ok hl
  have e1:=zei ok hp (es:=S.map zd) XQ (by rw [List.length_map];omega) hw
  obtain ⟨hs,hhs⟩:∃ hs,wd ts h (S.map zd)=hs:=⟨_,rfl⟩
  have hfull:=Xi (S.map zd) h 0 hw
  have hget:=fun i=>Wg i (S.map zd) h 0 hw
  rw [hhs] at e1 hfull
  simp only [hhs] at hget
  rw [List.length_map] at hfull
  unfold WY
  refine zB (ρ':=[.v s,.v (.int z),.v (.int m),o3,o4,o5,o6,o7,o8,o9,o10]) (XL (zN (x:=.int 2) (y:=.int q) rfl (zN (x:=.int (z / 64)) (y:=.int 7) (zN (x:=.int z) (y:=.int 64) rfl rfl (Z8 (by decide) (by decide))) rfl (by rw [xm (by decide),hq])) (by rw [zt,hm]))) ?_
  refine zB (ρ':=[.v s,.v (.int z),.v (.int m),.v (yy m ts),o4,o5,o6,o7,o8,o9,o10]) (wg (ds:=[.int m,.int (z / 448)]) (zJ rfl (zJ (zN (x:=.int z) (y:=.int 448) rfl rfl (Z8 (by decide) (by decide))) wB)) ew) ?_
  refine zB (ρ':=[.v s,.v (.int z),.v (.int m),.v (yy m ts),.v (hD h),o5,o6,o7,o8,o9,o10]) (wg (ds:=[.int m,.int cc,.int 40]) (zJ rfl (zJ (zN (x:=.int (Wu z 9*2)) (y:=.int (z % 2)) (zN (x:=.int (Wu z 9)) (y:=.int 2) rfl rfl (Zw (zam (by decide) (by decide)))) (zN (x:=.int z) (y:=.int 2) rfl rfl (xm (by decide))) (by rw [zt,hcc])) (zJ rfl wB))) eh) ?_
  refine zB (ρ':=[.v s,.v (.int z),.v (.int m),.v (yy m ts),.v (hD h),.v (.lst (S.map zd)),o6,o7,o8,o9,o10]) (wg (ds:=[_,_,_]) rfl eS) ?_
  refine zB (ρ':=[.v s,.v (.int z),.v (.int m),.v (yy m ts),.v (hD h),.v (.lst (S.map zd)),.v (.lst (hs.map hD)),o7,o8,o9,o10]) (XL (XH (zgB ok hl hw (by omega) hhs rfl rfl))) ?_
  refine zB (ρ':=[.v s,.v (.int z),.v (.int m),.v (yy m ts),.v (hD h),.v (.lst (S.map zd)),.v (.lst (hs.map hD)),.v (.lst (S.map zd)),o8,o9,o10]) rfl ?_
  refine zB (ρ':=[.v s,.v (.int z),.v (.int m),.v (yy m ts),.v (hD h),.v (.lst (S.map zd)),.v (.lst (hs.map hD)),.v (.lst (S.map zd)),.o (hs.map hD),o9,o10]) (zgI (xx (ds:=[_,_,_]) rfl e1)) ?_
  refine zB (zdM (ziX (b:=false) (c:=false) (V5 (b:=true) (YU (xx (ds:=[.lst (hs.map hD),.lst (hs.map hD)]) rfl (zfX (zfJ 2 hs))))) (YU (zN (x:=.lst (S.map zd)) (y:=.lst (S.map zd)) rfl rfl (zbe (zdX S)))))) ?_
  refine zB (ρ':=[.v s,.v (.int z),.v (.int m),.v (yy m ts),.v (hD h),.v (.lst (S.map zd)),.v (.lst (hs.map hD)),.v (.lst (S.map zd)),.o (hs.map hD++[.int 0]),o9,o10]) (Z0 (ds:=hs.map hD) (d:=.int 0) rfl rfl (by rw [List.length_map];omega)) ?_
  refine zf3 (ρ':=[.v s,.v (.int z),.v (.int m),.v (yy m ts),.v (hD h),.v (.lst (S.map zd)),.v (.lst (hs.map hD)),.v (.lst (S.map zd)),.v (.lst (hs.map hD++[.int 0])),o9,o10]) rfl ?_
  obtain ⟨a,ha⟩:∃ a:Int,Wu z 240 % ((S.length:Int)+1)=a:=⟨_,rfl⟩
  obtain ⟨a0,a1⟩:=vH (by omega) ha
  generalize (Sl.v (.lst (hs.map hD++[.int 0])))=o8
  refine zB (ρ':=[.v s,.v (.int z),.v (.int m),.v (yy m ts),.v (hD h),.v (.lst (S.map zd)),.v (.lst (hs.map hD)),.v (.lst (S.map zd)),o8,.v (.int a),o10]) (XL (zN (x:=.int (Wu z 240)) (y:=.int ((S.length:Int)+1)) rfl (zN (x:=.int (S.length:Int)) (y:=.int 1) (zc2 (ds:=[.lst (S.map zd)]) rfl (by rw [zdC,List.length_map])) rfl rfl) (by rw [xm (by omega),ha]))) ?_
  have hTl:(S.take a.toNat).length=a.toNat:=by rw [List.length_take];omega
  have hwT:yu ts h 0 ((S.take a.toNat).map zd)=.non:=by rw [List.map_take];exact Xy _ _ _ _ hw
  obtain ⟨g,hg⟩:∃ g,Vi ts h ((S.take a.toNat).map zd)=g:=⟨_,rfl⟩
  have eend:=X8 ok hl (XQ (S:=S.take a.toNat)) hwT
  have hgl:=We ok _ h 0 (XQ (S:=S.take a.toNat)) hwT
  rw [hg] at eend hgl
  obtain ⟨bd,eb,hb⟩:=zcl (n:=Wu z 241) (g:=g) ok (by omega)
  refine zB (ρ':=[.v s,.v (.int z),.v (.int m),.v (yy m ts),.v (hD h),.v (.lst (S.map zd)),.v (.lst (hs.map hD)),.v (.lst (S.map zd)),o8,.v (.int a),.v bd]) (wg (ds:=[yy m ts,hD g,.int (Wu z 241)]) (zJ rfl (zJ (xx (ds:=[hD h,.lst ((S.take a.toNat).map zd)]) (zJ rfl (zJ (ziT (x:=.lst (S.map zd)) (lo:=none) (hi:=some a) rfl rfl rfl ?_) wB)) eend) (zJ rfl wB))) eb) ?_
  · show some (D.lst (Xc (S.map zd) none (some a)))=_
    rw [zak a0 (by omega)]
  obtain ⟨rs,ers,hrs⟩:=zeN (S:=S) (a:=a)
  have el:zm wC (zm wC (eSl slD (zf 5) yl (yi (zf 9))) (xr (zU (zc (zf 10) zw)))) (eSl slD (zf 5) (yi (zf 9)) yl) (visG [.v s,.v (.int z),.v (.int m),.v (yy m ts),.v (hD h),.v (.lst (S.map zd)),.v (.lst (hs.map hD)),.v (.lst (S.map zd)),o8,.v (.int a),.v bd])=some (.lst ((S.take a.toNat).map zd++bd::rs.map zd)):=by
    refine zN (x:=.lst ((S.take a.toNat).map zd++[bd])) (y:=.lst (rs.map zd)) (zN (x:=.lst ((S.take a.toNat).map zd)) (y:=.lst [bd]) ?_ (XH (zdU (zJ rfl wB) (by show 1≤1000;decide))) (zct (by rw [List.length_map,hTl];show _+1≤_;omega))) ?_ ?_
    · show some (D.lst (Xc (S.map zd) none (some a)))=_
      rw [zak a0 (by omega)]
    · show some (D.lst (Xc (S.map zd) (some a) none))=_
      rw [ers]
    · rw [zct (by rw [List.length_append,List.length_map,List.length_map,hTl];show _+1+_≤_;omega),List.append_assoc]
      rfl
  have ew2:=zc1 (es:=(S.take a.toNat).map zd++bd::rs.map zd) ok hl (fun e he=>by
    rcases List.mem_append.mp he with he | he
    · exact XQ e he
    · rcases List.mem_cons.mp he with rfl | he
      · exact hb.1
      · exact XQ e he) (by rw [List.length_append,List.length_cons,List.length_map,List.length_map,hTl];omega)
  obtain ⟨t,ht,ewr⟩:=zhR (k:=0+((S.take a.toNat).map zd).length) (rest:=rs.map zd) hb
  rw [Wb _ _ _ hwT,hg,ewr] at ew2
  have ec:=zcQ (zeT ok hp ht ew2)
  rw [List.length_map,hTl,show ((0+a.toNat+1:Nat):Int) - 1=a by omega] at ec
  refine zB (zdM (V5 (b:=true) (YU (xx (ds:=[.int a,.int a]) (zJ (xx (ds:=[yy m ts,hD h,.lst ((S.take a.toNat).map zd++bd::rs.map zd)]) (zJ rfl (zJ rfl (zJ el wB))) ec) (zJ rfl wB)) (zfX rfl))))) ?_
  obtain ⟨k,hk⟩:∃ k:Int,z % 4=k:=⟨_,rfl⟩
  obtain ⟨k0,k1⟩:=vH (by decide) hk
  obtain ⟨L,eL,hL⟩:=W0 (zj7 (S.map zd)) k0 k1
  have ec2:=zcQ (n:=0) (zfn ok hp hL)
  refine Yv (zdM (ziX (b:=false) (c:=false) (YU (zN (x:=.int (-1)) (y:=.int (-1)) (xx (ds:=[yy m ts,hD h,L]) (zJ rfl (zJ rfl (zJ (zN (x:=.lst [D.tup (S.map zd),.non,.str "",.dct false false [] []]) (y:=.int k) (XH (zdU (zJ (zc2 (ds:=[.lst (S.map zd)]) rfl rfl) (zJ rfl (zJ rfl (zJ rfl wB)))) (by show 4≤1000;decide))) (zN (x:=.int z) (y:=.int 4) rfl rfl (by rw [xm (by decide),hk])) eL) wB))) ec2) rfl rfl)) (YU (zN (x:=.lst (hs.map hD)) (y:=.lst (hs.map hD)) (xx (ds:=[_,_,_]) rfl e1) rfl (zbe (zfJ 17 hs)))))) (hI _ _ _ _ _ _ _ _ _)
theorem zeH (ns:List Int)(h:ns.length≤63):zif [.scr ns]=some (.bl true):=by
  refine Vh (ρ:=[.v (.scr ns),.no,.no,.no,.no,.no,.no,.no,.no,.no,.no]) rfl ?_
  unfold zfe
  obtain ⟨xs,hxs⟩:∃ xs:List Int,(Xc ns none (some 10))++[0,7,14]=xs:=⟨_,rfl⟩
  have hl:((Xc ns none (some 10)).map D.int).length+3≤1000:=by rw [List.length_map];have:=zbq ns none (some 10);omega
  refine xt (V7 (ds:=xs.map .int) (fun i ρ=>∃ o1 o2 o3 o4 o5 o6 o7 o8 o9 o10,ρ=[.v (.scr ns),o1,o2,o3,o4,o5,o6,o7,o8,o9,o10]) ?_ ⟨_,_,_,_,_,_,_,_,_,_,rfl⟩ ?_ ?_)
  · refine zbg (d:=.lst (xs.map .int)) (zN (x:=.lst ((Xc ns none (some 10)).map D.int)) (y:=.lst [.int 0,.int 7,.int 14]) rfl rfl ?_) rfl
    rw [zct hl,← hxs,List.map_append]
    rfl
  · rintro i d ρ hd ⟨o1,o2,o3,o4,o5,o6,o7,o8,o9,o10,rfl⟩
    rw [List.getElem?_map] at hd
    obtain ⟨z,hz,rfl⟩:=Option.map_eq_some_iff.mp hd
    exact ⟨_,rfl,zgE _ _ _ _ _ _ _ _ _ _ _ _ _ _ _ fun _ _ _ _ _ _ _ _ _=>⟨_,_,_,_,_,_,_,_,_,_,rfl⟩⟩
  · rintro ρ ⟨o1,o2,o3,o4,o5,o6,o7,o8,o9,o10,rfl⟩
    exact Y1 rfl rfl
theorem zhW (T:Txt K mg ad):xk P w K mg base CX0 20 ad.f_law ad.e_law ["script"] (zc6 K):=by
  letI:KK:=⟨K⟩
  have G_walked:=VT (P:=P) (w:=w) (base:=base) T
  have X_walked:=Wm (P:=P) (w:=w) (base:=base) T
  have N_walked:=ZH (P:=P) (w:=w) (base:=base) T
  have G__law_stir:=wm (P:=P) (w:=w) (base:=base) T
  have G__law_joined_by:=ZC (P:=P) (w:=w) (base:=base) T
  have G__law_heap_by:=Xw (P:=P) (w:=w) (base:=base) T
  have G__law_end:=zaN (P:=P) (w:=w) (base:=base) T
  have G__law_same:=Vu (P:=P) (w:=w) (base:=base) T
  have G__law_steps:=WG (P:=P) (w:=w) (base:=base) T
  have G__law_came:=VY (P:=P) (w:=w) (base:=base) T
  have G__law_bad:=zaw (P:=P) (w:=w) (base:=base) T
  refine (zhx (p:=zif) (xU (N:=["script","cell","many","web","heap","steps","due","handed","found","at","bad"]) (ps:=["script"]) T.d_law.fn Yh (g:=zfe) fun cdv A outer s H E hr=>?_) zeH).mono (j:=10) (by decide)
  unfold zfe WY
  exact (zj (Wn PassesOwn.never rfl (Z2 (yS (Y7 (zb 0 (pv 0)) XR (XG (zi zg))) (YZ (vE (za (zi zg) (za (zi zg) (za (zi zg) zh))))))) (xn (zX (i:=1) Yh.nd rfl (Or.inl rfl))) (zj (yp (m:=false) (i:=2) Yh.nd rfl (Or.inl rfl) (yS (zi zg) (xB (YY (zb 1 (pv 1)) (zi zg)) (zi zg))))
      (zj (yp (m:=false) (i:=3) Yh.nd rfl (Or.inl rfl) (zu (G__law_joined_by.mono (by decide)) hr rfl T.d__law_joined_by.at_ T.d__law_joined_by.kp T.d__law_joined_by.bd (za (zb 2 (pv 2)) (za (YY (zb 1 (pv 1)) (zi zg)) zh))))
      (zj (yp (m:=false) (i:=4) Yh.nd rfl (Or.inr rfl) (zu (G__law_heap_by.mono (by decide)) hr rfl T.d__law_heap_by.at_ T.d__law_heap_by.kp T.d__law_heap_by.bd (za (zb 2 (pv 2)) (za (yS (Wk (zu (G__law_stir.mono (by decide)) hr rfl T.d__law_stir.at_ T.d__law_stir.kp T.d__law_stir.bd (za (zb 1 (pv 1)) (za (zi zg) zh))) (zi zg)) (xB (zb 1 (pv 1)) (zi zg))) (za (zi zg) zh)))))
      (zj (yp (m:=false) (i:=5) Yh.nd rfl (Or.inr rfl) (zu (G__law_steps.mono (by decide)) hr rfl T.d__law_steps.at_ T.d__law_steps.kp T.d__law_steps.bd (za (zb 3 (pv 3)) (za (zb 4 (pv 4)) (za (zb 1 (pv 1)) zh)))))
      (zj (zaj (m:=false) (i:=6) (zgU (L:=["k"]) (M:=["script","cell","many","web","heap","steps","due","handed","found","at","bad"]) Yh.nd rfl (Or.inl rfl) rfl (Xo (by rfl) (by rfl) (by rfl) (by with_unfolding_all rfl) (by rfl) (by rfl) (by kernel_rfl) (all_cons rfl (all_cons rfl YV))) (zdc rfl T.z_range (za (yL yd vf rfl T.z_len YJ (za (zb 5 (pv 5)) zh)) zh)) gs1 rb1 (fun _ _ _ _=>(zX (i:=0) zjW rfl (Or.inl rfl) (.inr rfl))) (fun _ _ _ _=>(zu (G__law_end.mono (by decide)) hr rfl T.d__law_end.at_ T.d__law_end.kp T.d__law_end.bd (za (zb 5 (pv 5)) (za (Y7 (zb 6 (pv 6)) XR (XG (yS (zb 0 (pv 0)) (zi zg)))) zh))))))
      (zj (yp (m:=false) (i:=7) Yh.nd rfl (Or.inl rfl) (YZ (XA rfl T.z_list (za (zb 5 (pv 5)) zh))))
      (zj (zhN (i:=8) Yh.nd rfl (Or.inl rfl) (zgl (N_walked.mono (by decide)) hr rfl T.d_walked.at_ T.d_walked.kp T.d_walked.bd (za (zb 3 (pv 3)) (za (zb 4 (pv 4)) (za (zb 7 (pv 7)) zh)))))
      (zj (wx (zep (zap (vV (wR (zu (G__law_same.mono (by decide)) hr rfl T.d__law_same.at_ T.d__law_same.kp T.d__law_same.bd (za (zb 8 (pv 8)) (za (zb 6 (pv 6)) zh))))) (XJ (yA (zcv hr) zaR (zS _) (zb 7 (pv 7)) (zb 5 (pv 5)))))) (zn (zO (Yd vM))) ya)
      (zj (Zc (m:=false) (pv 8) (zi zg) (fun a b=>XX PySem.F.plainAttrs_list PySem.F.slot_list_append PySem.F.type_list_append xL a b))
      (ZV 8 (zj (yp (m:=false) (i:=9) Yh.nd rfl (Or.inl rfl) (xB (zu (G__law_stir.mono (by decide)) hr rfl T.d__law_stir.at_ T.d__law_stir.kp T.d__law_stir.bd (za (zb 1 (pv 1)) (za (zi zg) zh))) (yS (yL yd vf rfl T.z_len YJ (za (zb 5 (pv 5)) zh)) (zi zg))))
      (zj (yp (m:=false) (i:=10) Yh.nd rfl (Or.inl rfl) (zu (G__law_bad.mono (by decide)) hr rfl T.d__law_bad.at_ T.d__law_bad.kp T.d__law_bad.bd (za (zb 3 (pv 3)) (za (zu (G__law_end.mono (by decide)) hr rfl T.d__law_end.at_ T.d__law_end.kp T.d__law_end.bd (za (zb 4 (pv 4)) (za (Y7 (zb 5 (pv 5)) XR (XG (zb 9 (pv 9)))) zh))) (za (zu (G__law_stir.mono (by decide)) hr rfl T.d__law_stir.at_ T.d__law_stir.kp T.d__law_stir.bd (za (zb 1 (pv 1)) (za (zi zg) zh))) zh)))))
      (zj (wx (vV (wR (zu (G__law_same.mono (by decide)) hr rfl T.d__law_same.at_ T.d__law_same.kp T.d__law_same.bd (za (zu (G__law_came.mono (by decide)) hr rfl T.d__law_came.at_ T.d__law_came.kp T.d__law_came.bd (za (zb 3 (pv 3)) (za (zb 4 (pv 4)) (za (yS (yS (Y7 (zb 5 (pv 5)) XR (XG (zb 9 (pv 9)))) (YZ (vE (za (zb 10 (pv 10)) zh)))) (Y7 (zb 5 (pv 5)) (XG (zb 9 (pv 9))) XR)) zh)))) (za (zb 9 (pv 9)) zh))))) (zn (zO (Yd vM))) ya)
      (zn (wx (zep (zap (yA WA ZN (zS _) (zu (G__law_came.mono (by decide)) hr rfl T.d__law_came.at_ T.d__law_came.kp T.d__law_came.bd (za (zb 3 (pv 3)) (za (zb 4 (pv 4)) (za (yo (YZ (vE (za (vz xi vD rfl T.z_tuple xv (za (zb 5 (pv 5)) zh)) (za (XM ZU) (za (Wd Ww) (za zgj zh)))))) (xB (zb 1 (pv 1)) (zi zg)) (fun _ _=>rfl)) zh)))) (zfH (zi zg))) (XJ (yA (zcv hr) zaR (zS _) (zu (G_walked.mono (by decide)) hr rfl T.d_walked.at_ T.d_walked.kp T.d_walked.bd (za (zb 3 (pv 3)) (za (zb 4 (pv 4)) (za (zb 5 (pv 5)) zh)))) (zb 6 (pv 6)))))) (zn (zO (Yd vM))) ya))))))))))))))))
      (zn (zO (Yd vM))))
end
theorem zaY {us:List Value}(h:us.length=1):∃ x0,us=[x0]:=by
  cases us with
  | nil=>cases h
  | cons x0 us =>
    cases us with
    | nil=>exact ⟨x0,rfl⟩
    | cons _ _=>cases h
theorem v7 {us:List Value}(h:us.length=2):∃ x0 x1,us=[x0,x1]:=by
  cases us with
  | nil=>cases h
  | cons x0 us =>
    cases us with
    | nil=>cases h
    | cons x1 us =>
      cases us with
      | nil=>exact ⟨x0,x1,rfl⟩
      | cons _ _=>cases h
theorem zaz {us:List Value}(h:us.length=3):∃ x0 x1 x2,us=[x0,x1,x2]:=by
  cases us with
  | nil=>cases h
  | cons x0 us =>
    cases us with
    | nil=>cases h
    | cons x1 us =>
      cases us with
      | nil=>cases h
      | cons x2 us =>
        cases us with
        | nil=>exact ⟨x0,x1,x2,rfl⟩
        | cons _ _=>cases h
theorem all_mk {l:PySem.W.OpenLaw} {w:World} {K:PySem.W.Frag} {h:Heap} {mg:Str→Option Value} {fa f0 f1 f2 f3 f4 f5 f6 f7 f8 f9 f10 f11 f12 f13 f14 f15 f16 f17 f18 f19 f20 f21 f22 f23 f24 f25 f26 f27 f28 f29:Addr} (X:K.In h) (G:h.Ns mainGlobals mg) (hfa:mg "law"=some (.ref fa))
    {od0 an0 od1 an1 od2 an2 od3 an3 od4 an4 od5 an5 od6 an6 od7 an7 od8 an8 od9 an9 od10 an10 od11 an11 od12 an12 od13 an13 od14 an14 od15 an15 od16 an16 od17 an17 od18 an18 od19 an19 od20 an20 od21 an21 od22 an22 od23 an23 od24 an24 od25 an25 od26 an26 od27 an27 od28 an28 od29 an29:Option Addr} {sl0 sl1 sl2 sl3 sl4 sl5 sl6 sl7 sl8 sl9 sl10 sl11 sl12 sl13 sl14 sl15 sl16 sl17 sl18 sl19 sl20 sl21 sl22 sl23 sl24 sl25 sl26 sl27 sl28 sl29:Array (Option Value)} {oc0 kV0 dc0 pm0 cd0 ct0 oc1 kV1 dc1 pm1 cd1 ct1 oc2 kV2 dc2 pm2 cd2 ct2 oc3 kV3 dc3 pm3 cd3 ct3 oc4 kV4 dc4 pm4 cd4 ct4 oc5 kV5 dc5 pm5 cd5 ct5 oc6 kV6 dc6 pm6 cd6 ct6 oc7 kV7 dc7 pm7 cd7 ct7 oc8 kV8 dc8 pm8 cd8 ct8 oc9 kV9 dc9 pm9 cd9 ct9 oc10 kV10 dc10 pm10 cd10 ct10 oc11 kV11 dc11 pm11 cd11 ct11 oc12 kV12 dc12 pm12 cd12 ct12 oc13 kV13 dc13 pm13 cd13 ct13 oc14 kV14 dc14 pm14 cd14 ct14 oc15 kV15 dc15 pm15 cd15 ct15 oc16 kV16 dc16 pm16 cd16 ct16 oc17 kV17 dc17 pm17 cd17 ct17 oc18 kV18 dc18 pm18 cd18 ct18 oc19 kV19 dc19 pm19 cd19 ct19 oc20 kV20 dc20 pm20 cd20 ct20 oc21 kV21 dc21 pm21 cd21 ct21 oc22 kV22 dc22 pm22 cd22 ct22 oc23 kV23 dc23 pm23 cd23 ct23 oc24 kV24 dc24 pm24 cd24 ct24 oc25 kV25 dc25 pm25 cd25 ct25 oc26 kV26 dc26 pm26 cd26 ct26 oc27 kV27 dc27 pm27 cd27 ct27 oc28 kV28 dc28 pm28 cd28 ct28 oc29 kV29 dc29 pm29 cd29 ct29:Value} {tk0:Tok} {tk1:Tok}
    (a0:PySem.W.nsIn K mainGlobals "is_whole"=some (some (.ref f0))) (l0:K.lookup f0=some ⟨oc0,od0,.func (PySem.W.fnOf "is_whole" "is_whole" (zG x3) (zy x3) (ze x3) .none kV0 dc0 pm0 an0 cd0 ct0),sl0⟩) (c0:PySem.W.codeIn K cd0 "is_whole"=true) (k0:PySem.W.keepIn K (.ref f0)=true)
    (a1:PySem.W.nsIn K mainGlobals "is_whole_within"=some (some (.ref f1))) (l1:K.lookup f1=some ⟨oc1,od1,.func (PySem.W.fnOf "is_whole_within" "is_whole_within" (zG zZ) (zy zZ) (ze zZ) .none kV1 dc1 pm1 an1 cd1 ct1),sl1⟩) (c1:PySem.W.codeIn K cd1 "is_whole_within"=true) (k1:PySem.W.keepIn K (.ref f1)=true)
    (a2:PySem.W.nsIn K mainGlobals "is_place_count"=some (some (.ref f2))) (l2:K.lookup f2=some ⟨oc2,od2,.func (PySem.W.fnOf "is_place_count" "is_place_count" (zG yg) (zy yg) (ze yg) .none kV2 dc2 pm2 an2 cd2 ct2),sl2⟩) (c2:PySem.W.codeIn K cd2 "is_place_count"=true) (k2:PySem.W.keepIn K (.ref f2)=true)
    (a3:PySem.W.nsIn K mainGlobals "is_place"=some (some (.ref f3))) (l3:K.lookup f3=some ⟨oc3,od3,.func (PySem.W.fnOf "is_place" "is_place" (zG xT) (zy xT) (ze xT) .none kV3 dc3 pm3 an3 cd3 ct3),sl3⟩) (c3:PySem.W.codeIn K cd3 "is_place"=true) (k3:PySem.W.keepIn K (.ref f3)=true)
    (a4:PySem.W.nsIn K mainGlobals "are_counts"=some (some (.ref f4))) (l4:K.lookup f4=some ⟨oc4,od4,.func (PySem.W.fnOf "are_counts" "are_counts" (zG xa) (zy xa) (ze xa) .none kV4 dc4 pm4 an4 cd4 ct4),sl4⟩) (c4:PySem.W.codeIn K cd4 "are_counts"=true) (k4:PySem.W.keepIn K (.ref f4)=true)
    (a5:PySem.W.nsIn K mainGlobals "is_pair"=some (some (.ref f5))) (l5:K.lookup f5=some ⟨oc5,od5,.func (PySem.W.fnOf "is_pair" "is_pair" (zG wN) (zy wN) (ze wN) .none kV5 dc5 pm5 an5 cd5 ct5),sl5⟩) (c5:PySem.W.codeIn K cd5 "is_pair"=true) (k5:PySem.W.keepIn K (.ref f5)=true)
    (a6:PySem.W.nsIn K mainGlobals "are_ties"=some (some (.ref f6))) (l6:K.lookup f6=some ⟨oc6,od6,.func (PySem.W.fnOf "are_ties" "are_ties" (zG xZ) (zy xZ) (ze xZ) .none kV6 dc6 pm6 an6 cd6 ct6),sl6⟩) (c6:PySem.W.codeIn K cd6 "are_ties"=true) (k6:PySem.W.keepIn K (.ref f6)=true)
    (a7:PySem.W.nsIn K mainGlobals "is_web"=some (some (.ref f7))) (l7:K.lookup f7=some ⟨oc7,od7,.func (PySem.W.fnOf "is_web" "is_web" (zG vy) (zy vy) (ze vy) .none kV7 dc7 pm7 an7 cd7 ct7),sl7⟩) (c7:PySem.W.codeIn K cd7 "is_web"=true) (k7:PySem.W.keepIn K (.ref f7)=true)
    (a8:PySem.W.nsIn K mainGlobals "must_be_web"=some (some (.ref f8))) (l8:K.lookup f8=some ⟨oc8,od8,.func (PySem.W.fnOf "must_be_web" "must_be_web" (zG yW) (zy yW) (ze yW) .none kV8 dc8 pm8 an8 cd8 ct8),sl8⟩) (c8:PySem.W.codeIn K cd8 "must_be_web"=true) (k8:PySem.W.keepIn K (.ref f8)=true)
    (a9:PySem.W.nsIn K mainGlobals "tie_between"=some (some (.ref f9))) (l9:K.lookup f9=some ⟨oc9,od9,.func (PySem.W.fnOf "tie_between" "tie_between" (zG yT) (zy yT) (ze yT) .none kV9 dc9 pm9 an9 cd9 ct9),sl9⟩) (c9:PySem.W.codeIn K cd9 "tie_between"=true) (k9:PySem.W.keepIn K (.ref f9)=true)
    (a10:PySem.W.nsIn K mainGlobals "are_stones"=some (some (.ref f10))) (l10:K.lookup f10=some ⟨oc10,od10,.func (PySem.W.fnOf "are_stones" "are_stones" (zG y9) (zy y9) (ze y9) .none kV10 dc10 pm10 an10 cd10 ct10),sl10⟩) (c10:PySem.W.codeIn K cd10 "are_stones"=true) (k10:PySem.W.keepIn K (.ref f10)=true)
    (a11:PySem.W.nsIn K mainGlobals "must_be_heap"=some (some (.ref f11))) (l11:K.lookup f11=some ⟨oc11,od11,.func (PySem.W.fnOf "must_be_heap" "must_be_heap" (zG yD) (zy yD) (ze yD) .none kV11 dc11 pm11 an11 cd11 ct11),sl11⟩) (c11:PySem.W.codeIn K cd11 "must_be_heap"=true) (k11:PySem.W.keepIn K (.ref f11)=true)
    (a12:PySem.W.nsIn K mainGlobals "is_step"=some (some (.ref f12))) (l12:K.lookup f12=some ⟨oc12,od12,.func (PySem.W.fnOf "is_step" "is_step" (zG wK) (zy wK) (ze wK) .none kV12 dc12 pm12 an12 cd12 ct12),sl12⟩) (c12:PySem.W.codeIn K cd12 "is_step"=true) (k12:PySem.W.keepIn K (.ref f12)=true)
    (a13:PySem.W.nsIn K mainGlobals "stepped"=some (some (.ref f13))) (l13:K.lookup f13=some ⟨oc13,od13,.func (PySem.W.fnOf "stepped" "stepped" (zG wO) (zy wO) (ze wO) .none kV13 dc13 pm13 an13 cd13 ct13),sl13⟩) (c13:PySem.W.codeIn K cd13 "stepped"=true) (k13:PySem.W.keepIn K (.ref f13)=true)
    (a14:PySem.W.nsIn K mainGlobals "walk"=some (some (.ref f14))) (l14:K.lookup f14=some ⟨oc14,od14,.func (PySem.W.fnOf "walk" "walk" (zG ZB) (zy ZB) (ze ZB) .none kV14 dc14 pm14 an14 cd14 ct14),sl14⟩) (c14:PySem.W.codeIn K cd14 "walk"=true) (k14:PySem.W.keepIn K (.ref f14)=true)
    (a15:PySem.W.nsIn K mainGlobals "walked"=some (some (.ref f15))) (l15:K.lookup f15=some ⟨oc15,od15,.func (PySem.W.fnOf "walked" "walked" (zG vv) (zy vv) (ze vv) .none kV15 dc15 pm15 an15 cd15 ct15),sl15⟩) (c15:PySem.W.codeIn K cd15 "walked"=true) (k15:PySem.W.keepIn K (.ref f15)=true)
    (a16:PySem.W.nsIn K mainGlobals "_law_stir"=some (some (.ref f16))) (l16:K.lookup f16=some ⟨oc16,od16,.func (PySem.W.fnOf "_law_stir" "_law_stir" (zG xz) (zy xz) (ze xz) .none kV16 dc16 pm16 an16 cd16 ct16),sl16⟩) (c16:PySem.W.codeIn K cd16 "_law_stir"=true) (k16:PySem.W.keepIn K (.ref f16)=true)
    (a17:PySem.W.nsIn K mainGlobals "_law_may"=some (some (.ref f17))) (l17:K.lookup f17=some ⟨oc17,od17,.func (PySem.W.fnOf "_law_may" "_law_may" (zG xX) (zy xX) (ze xX) .none kV17 dc17 pm17 an17 cd17 ct17),sl17⟩) (c17:PySem.W.codeIn K cd17 "_law_may"=true) (k17:PySem.W.keepIn K (.ref f17)=true)
    (a18:PySem.W.nsIn K mainGlobals "_law_moved"=some (some (.ref f18))) (l18:K.lookup f18=some ⟨oc18,od18,.func (PySem.W.fnOf "_law_moved" "_law_moved" (zG xb) (zy xb) (ze xb) .none kV18 dc18 pm18 an18 cd18 ct18),sl18⟩) (c18:PySem.W.codeIn K cd18 "_law_moved"=true) (k18:PySem.W.keepIn K (.ref f18)=true)
    (a19:PySem.W.nsIn K mainGlobals "_law_kinds"=some (some (.ref f19))) (l19:K.lookup f19=some ⟨oc19,od19,.func (PySem.W.fnOf "_law_kinds" "_law_kinds" (zG xj) (zy xj) (ze xj) .none kV19 dc19 pm19 an19 cd19 ct19),sl19⟩) (c19:PySem.W.codeIn K cd19 "_law_kinds"=true) (k19:PySem.W.keepIn K (.ref f19)=true)
    (a20:PySem.W.nsIn K mainGlobals "_law_pairs"=some (some (.ref f20))) (l20:K.lookup f20=some ⟨oc20,od20,.func (PySem.W.fnOf "_law_pairs" "_law_pairs" (zG xg) (zy xg) (ze xg) .none kV20 dc20 pm20 an20 cd20 ct20),sl20⟩) (c20:PySem.W.codeIn K cd20 "_law_pairs"=true) (k20:PySem.W.keepIn K (.ref f20)=true)
    (a21:PySem.W.nsIn K mainGlobals "_law_web_by"=some (some (.ref f21))) (l21:K.lookup f21=some ⟨oc21,od21,.func (PySem.W.fnOf "_law_web_by" "_law_web_by" (zG yU) (zy yU) (ze yU) .none kV21 dc21 pm21 an21 cd21 ct21),sl21⟩) (c21:PySem.W.codeIn K cd21 "_law_web_by"=true) (k21:PySem.W.keepIn K (.ref f21)=true)
    (a22:PySem.W.nsIn K mainGlobals "_law_joined_by"=some (some (.ref f22))) (l22:K.lookup f22=some ⟨oc22,od22,.func (PySem.W.fnOf "_law_joined_by" "_law_joined_by" (zG yh) (zy yh) (ze yh) .none kV22 dc22 pm22 an22 cd22 ct22),sl22⟩) (c22:PySem.W.codeIn K cd22 "_law_joined_by"=true) (k22:PySem.W.keepIn K (.ref f22)=true)
    (a23:PySem.W.nsIn K mainGlobals "_law_heap_by"=some (some (.ref f23))) (l23:K.lookup f23=some ⟨oc23,od23,.func (PySem.W.fnOf "_law_heap_by" "_law_heap_by" (zG yF) (zy yF) (ze yF) .none kV23 dc23 pm23 an23 cd23 ct23),sl23⟩) (c23:PySem.W.codeIn K cd23 "_law_heap_by"=true) (k23:PySem.W.keepIn K (.ref f23)=true)
    (a24:PySem.W.nsIn K mainGlobals "_law_end"=some (some (.ref f24))) (l24:K.lookup f24=some ⟨oc24,od24,.func (PySem.W.fnOf "_law_end" "_law_end" (zG xY) (zy xY) (ze xY) .none kV24 dc24 pm24 an24 cd24 ct24),sl24⟩) (c24:PySem.W.codeIn K cd24 "_law_end"=true) (k24:PySem.W.keepIn K (.ref f24)=true)
    (a25:PySem.W.nsIn K mainGlobals "_law_same"=some (some (.ref f25))) (l25:K.lookup f25=some ⟨oc25,od25,.func (PySem.W.fnOf "_law_same" "_law_same" (zG xD) (zy xD) (ze xD) .none kV25 dc25 pm25 an25 cd25 ct25),sl25⟩) (c25:PySem.W.codeIn K cd25 "_law_same"=true) (k25:PySem.W.keepIn K (.ref f25)=true)
    (a26:PySem.W.nsIn K mainGlobals "_law_steps"=some (some (.ref f26))) (l26:K.lookup f26=some ⟨oc26,od26,.func (PySem.W.fnOf "_law_steps" "_law_steps" (zG xl) (zy xl) (ze xl) .none kV26 dc26 pm26 an26 cd26 ct26),sl26⟩) (c26:PySem.W.codeIn K cd26 "_law_steps"=true) (k26:PySem.W.keepIn K (.ref f26)=true)
    (a27:PySem.W.nsIn K mainGlobals "_law_came"=some (some (.ref f27))) (l27:K.lookup f27=some ⟨oc27,od27,.func (PySem.W.fnOf "_law_came" "_law_came" (zG xG) (zy xG) (ze xG) .none kV27 dc27 pm27 an27 cd27 ct27),sl27⟩) (c27:PySem.W.codeIn K cd27 "_law_came"=true) (k27:PySem.W.keepIn K (.ref f27)=true)
    (a28:PySem.W.nsIn K mainGlobals "_law_bad"=some (some (.ref f28))) (l28:K.lookup f28=some ⟨oc28,od28,.func (PySem.W.fnOf "_law_bad" "_law_bad" (zG xV) (zy xV) (ze xV) .none kV28 dc28 pm28 an28 cd28 ct28),sl28⟩) (c28:PySem.W.codeIn K cd28 "_law_bad"=true) (k28:PySem.W.keepIn K (.ref f28)=true)
    (a29:PySem.W.nsIn K mainGlobals "law"=some (some (.ref f29))) (l29:K.lookup f29=some ⟨oc29,od29,.func (PySem.W.fnOf "law" "law" (zG Wa) (zy Wa) (ze Wa) .none kV29 dc29 pm29 an29 cd29 ct29),sl29⟩) (c29:PySem.W.codeIn K cd29 "law"=true) (k29:PySem.W.keepIn K (.ref f29)=true)
    (gg0:PySem.W.nsIn K mainGlobals "MOST_PLACES"=some (some (.int 8 tk0)))
    (gg1:PySem.W.nsIn K mainGlobals "MOST_STONES"=some (some (.int 300 tk1)))
    {xx0 xx1 xx2 xx3 xx4 xx5 xx6 xx7 xx8 xx9 xx10 xx11 xx12 xx13:Addr}
    (xa0:PySem.W.nsIn K mainGlobals "NoWeb"=some (some (.ref xx0)))
    (xa1:PySem.W.nsIn K mainGlobals "NoKind"=some (some (.ref xx1)))
    (xa2:PySem.W.nsIn K mainGlobals "NoHeap"=some (some (.ref xx2)))
    (xa3:PySem.W.nsIn K mainGlobals "NoPlace"=some (some (.ref xx3)))
    (xa4:PySem.W.nsIn K mainGlobals "NoNumber"=some (some (.ref xx4)))
    (xa5:PySem.W.nsIn K mainGlobals "NoTally"=some (some (.ref xx5)))
    (xa6:PySem.W.nsIn K mainGlobals "NotTree"=some (some (.ref xx6)))
    (xa7:PySem.W.nsIn K mainGlobals "NotJoined"=some (some (.ref xx7)))
    (xa8:PySem.W.nsIn K mainGlobals "NoWeights"=some (some (.ref xx8)))
    (xa9:PySem.W.nsIn K mainGlobals "NoRow"=some (some (.ref xx9)))
    (xa10:PySem.W.nsIn K mainGlobals "NoSteps"=some (some (.ref xx10)))
    (xa11:PySem.W.nsIn K mainGlobals "NoText"=some (some (.ref xx11)))
    (xa12:PySem.W.nsIn K mainGlobals "TooGreat"=some (some (.ref xx12)))
    (xa13:PySem.W.nsIn K mainGlobals "StoneError"=some (some (.ref xx13)))
    (xc10:zbl K [xx0,xx1,xx2,xx3,xx4,xx5,xx6,xx7,xx8,xx9,xx10,xx11,xx12] xx13 xx10 10=true)
    {yi10:Addr} {yod10 yan10:Option Addr} {ysl10:Array (Option Value)} {yoc10 ykV10 ydc10 ypm10 ycd10 yct10:Value}
    (ya10:PySem.W.findIn K (.ref xx10) "__init__"=some (some (.ref yi10))) (yl10:K.lookup yi10=some ⟨yoc10,yod10,.func (PySem.W.fnOf "__init__" "NoSteps.__init__" (zG wL) (zy wL) (ze wL) .none ykV10 ydc10 ypm10 yan10 ycd10 yct10),ysl10⟩) (yc10:PySem.W.codeIn K ycd10 "NoSteps.__init__"=true) (yk10:PySem.W.keepIn K (.ref yi10)=true)
    (ye10:zh1 K xx10 yi10=true) (yf10:V4 K xx10=true) (yg10:zjB K xx10 ["at"]=true)
    (z0:PySem.W.nsIn K mainGlobals "ValueError"=some none)
    (z1:PySem.W.nsIn K mainGlobals "all"=some none)
    (z2:PySem.W.nsIn K mainGlobals "bool"=some none)
    (z3:PySem.W.nsIn K mainGlobals "enumerate"=some none)
    (z4:PySem.W.nsIn K mainGlobals "int"=some none)
    (z5:PySem.W.nsIn K mainGlobals "isinstance"=some none)
    (z6:PySem.W.nsIn K mainGlobals "len"=some none)
    (z7:PySem.W.nsIn K mainGlobals "list"=some none)
    (z8:PySem.W.nsIn K mainGlobals "max"=some none)
    (z9:PySem.W.nsIn K mainGlobals "min"=some none)
    (z10:PySem.W.nsIn K mainGlobals "range"=some none)
    (z11:PySem.W.nsIn K mainGlobals "sorted"=some none)
    (z12:PySem.W.nsIn K mainGlobals "str"=some none)
    (z13:PySem.W.nsIn K mainGlobals "sum"=some none)
    (z14:PySem.W.nsIn K mainGlobals "tuple"=some none)
    (z15:PySem.W.nsIn K mainGlobals "zip"=some none)
    : ∃ fd:FuncData,(∀ (s:Shared) (v:Value),BindsTo s fd ⟨[v],[]⟩ [("script",v)])∧∀ base:Heap,K.In base→base.Ns mainGlobals mg→xk l.prog w K mg base CX0 20 fa fd ["script"] (zc6 K):=by
  have e:=hfa.symm.trans (PySem.W.mg_of X G a29)
  cases e
  have F0:=yk (st:=x3) l0 c0 k0
  have F1:=yk (st:=zZ) l1 c1 k1
  have F2:=yk (st:=yg) l2 c2 k2
  have F3:=yk (st:=xT) l3 c3 k3
  have F4:=yk (st:=xa) l4 c4 k4
  have F5:=yk (st:=wN) l5 c5 k5
  have F6:=yk (st:=xZ) l6 c6 k6
  have F7:=yk (st:=vy) l7 c7 k7
  have F8:=yk (st:=yW) l8 c8 k8
  have F9:=yk (st:=yT) l9 c9 k9
  have F10:=yk (st:=y9) l10 c10 k10
  have F11:=yk (st:=yD) l11 c11 k11
  have F12:=yk (st:=wK) l12 c12 k12
  have F13:=yk (st:=wO) l13 c13 k13
  have F14:=yk (st:=ZB) l14 c14 k14
  have F15:=yk (st:=vv) l15 c15 k15
  have F16:=yk (st:=xz) l16 c16 k16
  have F17:=yk (st:=xX) l17 c17 k17
  have F18:=yk (st:=xb) l18 c18 k18
  have F19:=yk (st:=xj) l19 c19 k19
  have F20:=yk (st:=xg) l20 c20 k20
  have F21:=yk (st:=yU) l21 c21 k21
  have F22:=yk (st:=yh) l22 c22 k22
  have F23:=yk (st:=yF) l23 c23 k23
  have F24:=yk (st:=xY) l24 c24 k24
  have F25:=yk (st:=xD) l25 c25 k25
  have F26:=yk (st:=xl) l26 c26 k26
  have F27:=yk (st:=xG) l27 c27 k27
  have F28:=yk (st:=xV) l28 c28 k28
  have F29:=yk (st:=Wa) l29 c29 k29
  have FY10:=yk (st:=wL) yl10 yc10 yk10
  have T:Txt K mg ⟨_,_,_,_,_,_,_,_,_,_,_,_,_,_,_,_,_,_,_,_,_,_,_,_,_,_,_,_,_,_,_,_,_,_,_,_,_,_,_,_,_,_,_,_,_,_,_,_,_,_,_,_,_,_,_,_,_,_,_,_,tk0,tk1,xx0,xx1,xx2,xx3,xx4,xx5,xx6,xx7,xx8,xx9,xx10,xx11,xx12,xx13,_,_⟩:=⟨
    ⟨F0,F0.binds (ps:=["thing"]) (fun _ _ _ _ _ _ us hl=>by obtain ⟨_,rfl⟩:=zaY hl;rfl),PySem.W.mg_of X G a0⟩,
    ⟨F1,F1.binds (ps:=["thing","least","most"]) (fun _ _ _ _ _ _ us hl=>by obtain ⟨_,_,_,rfl⟩:=zaz hl;rfl),PySem.W.mg_of X G a1⟩,
    ⟨F2,F2.binds (ps:=["thing"]) (fun _ _ _ _ _ _ us hl=>by obtain ⟨_,rfl⟩:=zaY hl;rfl),PySem.W.mg_of X G a2⟩,
    ⟨F3,F3.binds (ps:=["many","thing"]) (fun _ _ _ _ _ _ us hl=>by obtain ⟨_,_,rfl⟩:=v7 hl;rfl),PySem.W.mg_of X G a3⟩,
    ⟨F4,F4.binds (ps:=["many","thing"]) (fun _ _ _ _ _ _ us hl=>by obtain ⟨_,_,rfl⟩:=v7 hl;rfl),PySem.W.mg_of X G a4⟩,
    ⟨F5,F5.binds (ps:=["many","thing"]) (fun _ _ _ _ _ _ us hl=>by obtain ⟨_,_,rfl⟩:=v7 hl;rfl),PySem.W.mg_of X G a5⟩,
    ⟨F6,F6.binds (ps:=["many","thing"]) (fun _ _ _ _ _ _ us hl=>by obtain ⟨_,_,rfl⟩:=v7 hl;rfl),PySem.W.mg_of X G a6⟩,
    ⟨F7,F7.binds (ps:=["thing"]) (fun _ _ _ _ _ _ us hl=>by obtain ⟨_,rfl⟩:=zaY hl;rfl),PySem.W.mg_of X G a7⟩,
    ⟨F8,F8.binds (ps:=["thing"]) (fun _ _ _ _ _ _ us hl=>by obtain ⟨_,rfl⟩:=zaY hl;rfl),PySem.W.mg_of X G a8⟩,
    ⟨F9,F9.binds (ps:=["one","other"]) (fun _ _ _ _ _ _ us hl=>by obtain ⟨_,_,rfl⟩:=v7 hl;rfl),PySem.W.mg_of X G a9⟩,
    ⟨F10,F10.binds (ps:=["web","thing"]) (fun _ _ _ _ _ _ us hl=>by obtain ⟨_,_,rfl⟩:=v7 hl;rfl),PySem.W.mg_of X G a10⟩,
    ⟨F11,F11.binds (ps:=["web","thing"]) (fun _ _ _ _ _ _ us hl=>by obtain ⟨_,_,rfl⟩:=v7 hl;rfl),PySem.W.mg_of X G a11⟩,
    ⟨F12,F12.binds (ps:=["web","thing"]) (fun _ _ _ _ _ _ us hl=>by obtain ⟨_,_,rfl⟩:=v7 hl;rfl),PySem.W.mg_of X G a12⟩,
    ⟨F13,F13.binds (ps:=["heap","step"]) (fun _ _ _ _ _ _ us hl=>by obtain ⟨_,_,rfl⟩:=v7 hl;rfl),PySem.W.mg_of X G a13⟩,
    ⟨F14,F14.binds (ps:=["web","heap","thing"]) (fun _ _ _ _ _ _ us hl=>by obtain ⟨_,_,_,rfl⟩:=zaz hl;rfl),PySem.W.mg_of X G a14⟩,
    ⟨F15,F15.binds (ps:=["web","heap","steps"]) (fun _ _ _ _ _ _ us hl=>by obtain ⟨_,_,_,rfl⟩:=zaz hl;rfl),PySem.W.mg_of X G a15⟩,
    ⟨F16,F16.binds (ps:=["cell","k"]) (fun _ _ _ _ _ _ us hl=>by obtain ⟨_,_,rfl⟩:=v7 hl;rfl),PySem.W.mg_of X G a16⟩,
    ⟨F17,F17.binds (ps:=["web","heap"]) (fun _ _ _ _ _ _ us hl=>by obtain ⟨_,_,rfl⟩:=v7 hl;rfl),PySem.W.mg_of X G a17⟩,
    ⟨F18,F18.binds (ps:=["heap","step"]) (fun _ _ _ _ _ _ us hl=>by obtain ⟨_,_,rfl⟩:=v7 hl;rfl),PySem.W.mg_of X G a18⟩,
    ⟨F19,F19.binds (ps:=["e"]) (fun _ _ _ _ _ _ us hl=>by obtain ⟨_,rfl⟩:=zaY hl;rfl),PySem.W.mg_of X G a19⟩,
    ⟨F20,F20.binds (ps:=["many"]) (fun _ _ _ _ _ _ us hl=>by obtain ⟨_,rfl⟩:=zaY hl;rfl),PySem.W.mg_of X G a20⟩,
    ⟨F21,F21.binds (ps:=["many","cell"]) (fun _ _ _ _ _ _ us hl=>by obtain ⟨_,_,rfl⟩:=v7 hl;rfl),PySem.W.mg_of X G a21⟩,
    ⟨F22,F22.binds (ps:=["many","cell"]) (fun _ _ _ _ _ _ us hl=>by obtain ⟨_,_,rfl⟩:=v7 hl;rfl),PySem.W.mg_of X G a22⟩,
    ⟨F23,F23.binds (ps:=["many","cell","most"]) (fun _ _ _ _ _ _ us hl=>by obtain ⟨_,_,_,rfl⟩:=zaz hl;rfl),PySem.W.mg_of X G a23⟩,
    ⟨F24,F24.binds (ps:=["heap","steps"]) (fun _ _ _ _ _ _ us hl=>by obtain ⟨_,_,rfl⟩:=v7 hl;rfl),PySem.W.mg_of X G a24⟩,
    ⟨F25,F25.binds (ps:=["found","due"]) (fun _ _ _ _ _ _ us hl=>by obtain ⟨_,_,rfl⟩:=v7 hl;rfl),PySem.W.mg_of X G a25⟩,
    ⟨F26,F26.binds (ps:=["web","heap","cell"]) (fun _ _ _ _ _ _ us hl=>by obtain ⟨_,_,_,rfl⟩:=zaz hl;rfl),PySem.W.mg_of X G a26⟩,
    ⟨F27,F27.binds (ps:=["web","heap","steps"]) (fun _ _ _ _ _ _ us hl=>by obtain ⟨_,_,_,rfl⟩:=zaz hl;rfl),PySem.W.mg_of X G a27⟩,
    ⟨F28,F28.binds (ps:=["web","here","number"]) (fun _ _ _ _ _ _ us hl=>by obtain ⟨_,_,_,rfl⟩:=zaz hl;rfl),PySem.W.mg_of X G a28⟩,
    ⟨F29,F29.binds (ps:=["script"]) (fun _ _ _ _ _ _ us hl=>by obtain ⟨_,rfl⟩:=zaY hl;rfl),PySem.W.mg_of X G a29⟩,
    PySem.W.mg_of X G gg0,
    PySem.W.mg_of X G gg1,
    PySem.W.mg_none_of X G z0,
    PySem.W.mg_none_of X G z1,
    PySem.W.mg_none_of X G z2,
    PySem.W.mg_none_of X G z3,
    PySem.W.mg_none_of X G z4,
    PySem.W.mg_none_of X G z5,
    PySem.W.mg_none_of X G z6,
    PySem.W.mg_none_of X G z7,
    PySem.W.mg_none_of X G z8,
    PySem.W.mg_none_of X G z9,
    PySem.W.mg_none_of X G z10,
    PySem.W.mg_none_of X G z11,
    PySem.W.mg_none_of X G z12,
    PySem.W.mg_none_of X G z13,
    PySem.W.mg_none_of X G z14,
    PySem.W.mg_none_of X G z15,
    PySem.W.mg_of X G xa0,
    PySem.W.mg_of X G xa1,
    PySem.W.mg_of X G xa2,
    PySem.W.mg_of X G xa3,
    PySem.W.mg_of X G xa4,
    PySem.W.mg_of X G xa5,
    PySem.W.mg_of X G xa6,
    PySem.W.mg_of X G xa7,
    PySem.W.mg_of X G xa8,
    PySem.W.mg_of X G xa9,
    PySem.W.mg_of X G xa10,
    PySem.W.mg_of X G xa11,
    PySem.W.mg_of X G xa12,
    PySem.W.mg_of X G xa13,
    xc10,
    FY10,
    FY10.binds (ps:=["self","at"]) (fun _ _ _ _ _ _ us hl=>by obtain ⟨_,_,rfl⟩:=v7 hl;rfl),
    ye10,
    yf10,
    yg10⟩
  exact ⟨_,fun s v=>.of_eq rfl,fun base _ _=>zhW T⟩
theorem walk {l:PySem.W.OpenLaw}{q:Program}{loose:List Str}{XP:(Str→Option Value)→Heap→Prop}{YP:World→Heap→Prop}{d:DefRec}{K:Params→PySem.W.Frag}(hn:l.most=some 63)(hdf:d.params.defaults=[])
    (hY:∀ (w:World) (h:Heap),YP w h→(K w.params).In h)
    (F:∀ (w:World) (mg:Str→Option Value) (fa:Addr) (h:Heap),(K w.params).In h→h.Ns mainGlobals mg→mg d.name=some (.ref fa) →
      ∃ fd:FuncData,(∀ (s:Shared) (u:Value),BindsTo s fd ⟨[u],[]⟩ [("script",u)])∧∀ base:Heap,(K w.params).In base→base.Ns mainGlobals mg→xk l.prog w (K w.params) mg base CX0 20 fa fd ["script"] (zc6 (K w.params))) :
    PySem.W.WalkO q loose XP YP l.row.toRowW d [] (fun f vs=>PySem.call f vs) :=
  L2.walk_of (n:=63) (k:=20) (x:="script") (CX:=fun _=>CX0) (sp:=fun w=>zc6 (K w.params)) hn (by decide) hdf ⟨rfl,by decide,by decide⟩ hY F (fun _ _ a ns hl _ hS=>⟨a,ns,rfl,hS,hl,fun _=>rfl⟩) fun _ _ _ _ _ z=>z
end Mz
open PySem PySem.W PyProof.Rows
theorem PySem.W.Fast.tw7927656869975923515 : True := trivial
theorem PySem.W.Fast.tw9719750632475595707 : True := trivial
theorem PySem.W.Fast.tw5166147205412552282 : True := trivial
theorem PySem.W.Fast.tw12857568159376458250 : True := trivial
theorem PySem.W.Fast.tw15844052472459921902 : True := trivial
theorem PySem.W.Fast.tw12304544138925374087 : True := trivial
theorem PySem.W.Fast.tw6526970750908330524 : True := trivial
theorem PySem.W.Fast.tw13382918357707232303 : True := trivial
theorem PySem.W.Fast.tw3347644092232034584 : True := trivial
theorem PySem.W.Fast.tw7280166115805708564 : True := trivial
theorem PySem.W.Fast.tw16866972177363632175 : True := trivial
theorem PySem.W.Fast.tw14532317374322378124 : True := trivial
theorem PySem.W.Fast.tw4447988948938107263 : True := trivial
theorem PySem.W.Fast.tw10019325735798474416 : True := trivial
theorem PySem.W.Fast.tw18428910496908870283 : True := trivial
theorem PySem.W.Fast.tw16055949212404709928 : True := trivial
theorem PySem.W.Fast.tw15094504801750973063 : True := trivial
theorem PySem.W.Fast.tw2142991838089115093 : True := trivial
theorem PySem.W.Fast.tw17089753112738645972 : True := trivial
theorem PySem.W.Fast.tw14947759792956321557 : True := trivial
theorem PySem.W.Fast.tw14684403185755400652 : True := trivial
theorem PySem.W.Fast.tw6233660678058800601 : True := trivial
theorem PySem.W.Fast.tw18179364130472566423 : True := trivial
theorem PySem.W.Fast.tw4033900658053884414 : True := trivial
theorem PySem.W.Fast.tw3377780595696381104 : True := trivial
theorem PySem.W.Fast.tw14263637667712253069 : True := trivial
theorem PySem.W.Fast.tw6919010424451087931 : True := trivial
theorem PySem.W.Fast.tw4378145123997125852 : True := trivial
theorem PySem.W.Fast.tw5346042226892595028 : True := trivial
theorem PySem.W.Fast.tw1140583857261921724 : True := trivial
theorem PySem.W.Fast.tw11365797840566203750 : True := trivial
theorem PySem.W.Fast.tw11476921895078218958 : True := trivial
theorem PySem.W.Fast.tw3899294097615539049 : True := trivial
theorem PySem.W.Fast.tw16957656337564981943 : True := trivial
theorem PySem.W.Fast.tw4986781491740645556 : True := trivial
theorem PySem.W.Fast.tw4876228312184906987 : True := trivial
set_option maxRecDepth 100000 in
set_option maxHeartbeats 0 in
theorem PySem.Challenge.cw_twoforone_k11_walked_holds : PySem.Challenge.rw_twoforone_k11_walked.Holds := by
  w_on;o_law;k_head;(case hw=>w_witness2)
  k_fill
  refine Mz.walk (l:=PySem.Challenge.rw_twoforone_k11_walked) rfl rfl (fun w h Y=>PySem.W.kIn_of Y) ?F
  case F =>
    intro w mg fa h KX G hmg
    refine' Mz.all_mk KX G hmg ?a0 ?l0 ?c0 ?k0 ?a1 ?l1 ?c1 ?k1 ?a2 ?l2 ?c2 ?k2 ?a3 ?l3 ?c3 ?k3 ?a4 ?l4 ?c4 ?k4 ?a5 ?l5 ?c5 ?k5 ?a6 ?l6 ?c6 ?k6 ?a7 ?l7 ?c7 ?k7 ?a8 ?l8 ?c8 ?k8 ?a9 ?l9 ?c9 ?k9 ?a10 ?l10 ?c10 ?k10 ?a11 ?l11 ?c11 ?k11 ?a12 ?l12 ?c12 ?k12 ?a13 ?l13 ?c13 ?k13 ?a14 ?l14 ?c14 ?k14 ?a15 ?l15 ?c15 ?k15 ?a16 ?l16 ?c16 ?k16 ?a17 ?l17 ?c17 ?k17 ?a18 ?l18 ?c18 ?k18 ?a19 ?l19 ?c19 ?k19 ?a20 ?l20 ?c20 ?k20 ?a21 ?l21 ?c21 ?k21 ?a22 ?l22 ?c22 ?k22 ?a23 ?l23 ?c23 ?k23 ?a24 ?l24 ?c24 ?k24 ?a25 ?l25 ?c25 ?k25 ?a26 ?l26 ?c26 ?k26 ?a27 ?l27 ?c27 ?k27 ?a28 ?l28 ?c28 ?k28 ?a29 ?l29 ?c29 ?k29 ?gg0 ?gg1 ?xa0 ?xa1 ?xa2 ?xa3 ?xa4 ?xa5 ?xa6 ?xa7 ?xa8 ?xa9 ?xa10 ?xa11 ?xa12 ?xa13 ?xc10 ?ya10 ?yl10 ?yc10 ?yk10 ?ye10 ?yf10 ?yg10 ?z0 ?z1 ?z2 ?z3 ?z4 ?z5 ?z6 ?z7 ?z8 ?z9 ?z10 ?z11 ?z12 ?z13 ?z14 ?z15
    (case a0=>k_is)
    (case l0=>k_is)
    (case c0=>k_is)
    (case k0=>k_is)
    (case a1=>k_is)
    (case l1=>k_is)
    (case c1=>k_is)
    (case k1=>k_is)
    (case a2=>k_is)
    (case l2=>k_is)
    (case c2=>k_is)
    (case k2=>k_is)
    (case a3=>k_is)
    (case l3=>k_is)
    (case c3=>k_is)
    (case k3=>k_is)
    (case a4=>k_is)
    (case l4=>k_is)
    (case c4=>k_is)
    (case k4=>k_is)
    (case a5=>k_is)
    (case l5=>k_is)
    (case c5=>k_is)
    (case k5=>k_is)
    (case a6=>k_is)
    (case l6=>k_is)
    (case c6=>k_is)
    (case k6=>k_is)
    (case a7=>k_is)
    (case l7=>k_is)
    (case c7=>k_is)
    (case k7=>k_is)
    (case a8=>k_is)
    (case l8=>k_is)
    (case c8=>k_is)
    (case k8=>k_is)
    (case a9=>k_is)
    (case l9=>k_is)
    (case c9=>k_is)
    (case k9=>k_is)
    (case a10=>k_is)
    (case l10=>k_is)
    (case c10=>k_is)
    (case k10=>k_is)
    (case a11=>k_is)
    (case l11=>k_is)
    (case c11=>k_is)
    (case k11=>k_is)
    (case a12=>k_is)
    (case l12=>k_is)
    (case c12=>k_is)
    (case k12=>k_is)
    (case a13=>k_is)
    (case l13=>k_is)
    (case c13=>k_is)
    (case k13=>k_is)
    (case a14=>k_is)
    (case l14=>k_is)
    (case c14=>k_is)
    (case k14=>k_is)
    (case a15=>k_is)
    (case l15=>k_is)
    (case c15=>k_is)
    (case k15=>k_is)
    (case a16=>k_is)
    (case l16=>k_is)
    (case c16=>k_is)
    (case k16=>k_is)
    (case a17=>k_is)
    (case l17=>k_is)
    (case c17=>k_is)
    (case k17=>k_is)
    (case a18=>k_is)
    (case l18=>k_is)
    (case c18=>k_is)
    (case k18=>k_is)
    (case a19=>k_is)
    (case l19=>k_is)
    (case c19=>k_is)
    (case k19=>k_is)
    (case a20=>k_is)
    (case l20=>k_is)
    (case c20=>k_is)
    (case k20=>k_is)
    (case a21=>k_is)
    (case l21=>k_is)
    (case c21=>k_is)
    (case k21=>k_is)
    (case a22=>k_is)
    (case l22=>k_is)
    (case c22=>k_is)
    (case k22=>k_is)
    (case a23=>k_is)
    (case l23=>k_is)
    (case c23=>k_is)
    (case k23=>k_is)
    (case a24=>k_is)
    (case l24=>k_is)
    (case c24=>k_is)
    (case k24=>k_is)
    (case a25=>k_is)
    (case l25=>k_is)
    (case c25=>k_is)
    (case k25=>k_is)
    (case a26=>k_is)
    (case l26=>k_is)
    (case c26=>k_is)
    (case k26=>k_is)
    (case a27=>k_is)
    (case l27=>k_is)
    (case c27=>k_is)
    (case k27=>k_is)
    (case a28=>k_is)
    (case l28=>k_is)
    (case c28=>k_is)
    (case k28=>k_is)
    (case a29=>k_is)
    (case l29=>k_is)
    (case c29=>k_is)
    (case k29=>k_is)
    (case gg0=>k_is)
    (case gg1=>k_is)
    (case xa0=>k_is)
    (case xa1=>k_is)
    (case xa2=>k_is)
    (case xa3=>k_is)
    (case xa4=>k_is)
    (case xa5=>k_is)
    (case xa6=>k_is)
    (case xa7=>k_is)
    (case xa8=>k_is)
    (case xa9=>k_is)
    (case xa10=>k_is)
    (case xa11=>k_is)
    (case xa12=>k_is)
    (case xa13=>k_is)
    (case xc10=>kernel_rfl)
    (case ya10=>k_is)
    (case yl10=>k_is)
    (case yc10=>k_is)
    (case yk10=>k_is)
    (case ye10=>kernel_rfl)
    (case yf10=>kernel_rfl)
    (case yg10=>kernel_rfl)
    (case z0=>k_is)
    (case z1=>k_is)
    (case z2=>k_is)
    (case z3=>k_is)
    (case z4=>k_is)
    (case z5=>k_is)
    (case z6=>k_is)
    (case z7=>k_is)
    (case z8=>k_is)
    (case z9=>k_is)
    (case z10=>k_is)
    (case z11=>k_is)
    (case z12=>k_is)
    (case z13=>k_is)
    (case z14=>k_is)
    (case z15=>k_is)
