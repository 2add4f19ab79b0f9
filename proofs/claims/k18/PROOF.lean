import PyProof.Rows.All
import Wide.All
import OpenK.AllK
import Wide.FinOn
import Lean
import PyProof.EqAt
import PyProof.EqKinds
import PyProof.TupleCall
import PyProof.NeKinds
import PySem.Challenge.RW_twoforone_k18_whole_put_in_order
set_option Elab.async false
set_option linter.all false
set_option maxRecDepth 100000
set_option maxHeartbeats 4000000
namespace L2
open PySem PySem.Spec PyProof.Rows
abbrev Key:=Sum Int Str
def zkC:Key→Value→Bool
  | .inl k,v=>Value.isInt k v
  | .inr x,v=>Value.isStrOf x v
def keyH (w:World):Key→Int
  | .inl k=>hashInt k
  | .inr x=>hashStr w x
theorem yI:∀ {k:Key} {v:Value},zkC k v=true→(∃ i t,k=Sum.inl i∧v=Value.int i t)∨(∃ x t,k=Sum.inr x∧v=Value.str x t)
  | .inl i,v,h=>by
    obtain ⟨t,e⟩:=Value.isInt_shape (k:=i) (v:=v) h
    exact .inl ⟨i,t,rfl,e⟩
  | .inr x,v,h=>by
    obtain ⟨t,e⟩:=Value.isStrOf_shape (x:=x) (v:=v) h
    exact .inr ⟨x,t,rfl,e⟩
theorem zku (a b:Int):decide ((Sum.inl a:Key)=Sum.inl b)=(a == b):=by
  by_cases e:a=b
  · subst e;simp
  · have h:¬ (Sum.inl a:Key)=Sum.inl b:=fun q=>e (Sum.inl.inj q)
    rw [decide_eq_false h]
    exact (beq_eq_false_iff_ne.mpr e).symm
theorem zjP (a b:Str):decide ((Sum.inr a:Key)=Sum.inr b)=decide (a=b):=by
  by_cases e:a=b
  · subst e;simp
  · have h:¬ (Sum.inr a:Key)=Sum.inr b:=fun q=>e (Sum.inr.inj q)
    rw [decide_eq_false h,decide_eq_false e]
theorem zlc (a:Int)(b:Str):decide ((Sum.inl a:Key)=Sum.inr b)=false:=decide_eq_false (fun q=>nomatch q)
theorem zk2 (a:Str)(b:Int):decide ((Sum.inr a:Key)=Sum.inl b)=false:=decide_eq_false (fun q=>nomatch q)
def zef (prog:Program)(w:World):PySem.KeyKind prog w Key where
  is:=zkC
  hash:=keyH w
  inj:=fun v a b ha hb=>by
    rcases yI ha with ⟨i,t,rfl,rfl⟩ | ⟨x,t,rfl,rfl⟩
    · rcases yI hb with ⟨j,u,rfl,e⟩ | ⟨y,u,rfl,e⟩
      · injection e with e1 _;rw [e1]
      · exact nomatch e
    · rcases yI hb with ⟨j,u,rfl,e⟩ | ⟨y,u,rfl,e⟩
      · exact nomatch e
      · injection e with e1 _;rw [e1]
  byValue:=fun k v h=>by
    rcases yI h with ⟨i,t,rfl,rfl⟩ | ⟨x,t,rfl,rfl⟩ <;> rfl
  pyHash:=fun hv h=>by
    rcases yI hv with ⟨i,t,rfl,rfl⟩ | ⟨x,t,rfl,rfl⟩
    · exact wpAny_pyHash_int h
    · exact wpAny_pyHash_str h
  eqBool:=fun hu hv h=>by
    rcases yI hu with ⟨i,t,rfl,rfl⟩ | ⟨x,t,rfl,rfl⟩
    · rcases yI hv with ⟨j,u,rfl,rfl⟩ | ⟨y,u,rfl,rfl⟩
      · rw [zku] at h;exact wpAny_eqBool_int h
      · rw [zlc] at h;exact SeqAt.EqAt.int_str i t y u _ _ _ _ h
    · rcases yI hv with ⟨j,u,rfl,rfl⟩ | ⟨y,u,rfl,rfl⟩
      · rw [zk2] at h;exact SeqAt.EqAt.str_int x t j u _ _ _ _ h
      · rw [zjP] at h;exact wpAny_eqBool_str h
  «strs»:=fun k x t v h=>by
    rcases yI h with ⟨i,u,rfl,e⟩ | ⟨y,u,rfl,e⟩
    · exact nomatch e
    · injection e with e1 _
      subst e1
      cases v <;> rfl
end L2
namespace L2
open PySem PySem.Spec PyProof.Rows
inductive V where
  | non | bl (b:Bool) | int (i:Int) | str (x:Str) | byt (b:Array UInt8) | flt (b:UInt64) | ref (a:Addr) | ty (n:String)
  deriving DecidableEq
def xZ:V→Value→Prop
  | .non,u=>u=Value.none
  | .bl b,u=>u=Value.bool b
  | .int i,u=>∃ t,u=Value.int i t
  | .str x,u=>∃ t,u=Value.str x t
  | .byt b,u=>∃ t,u=Value.bytes b t
  | .flt b,u=>∃ t,u=Value.float b t
  | .ref a,u=>u=Value.ref a
  | .ty n,u=>u=Value.type n
abbrev yr:List V→List Value→Prop:=Paired xZ
theorem yr.length {xs:List V}{us:List Value}(r:yr xs us):xs.length=us.length:=Paired.length r
theorem yr.get:∀ {xs:List V} {us:List Value} {i:Nat} {x:V},yr xs us→xs[i]?=some x→∃ u,us[i]?=some u∧xZ x u
  | _,_,_,_,.nil,e=>by simp at e
  | _,_,0,_,.cons r _,e=>by simp at e;subst e;exact ⟨_,rfl,r⟩
  | _,_,i+1,x,.cons _ t,e=>by
    obtain ⟨u,h1,h2⟩:=yr.get (i:=i) (x:=x) t (by simpa using e)
    exact ⟨u,by simpa using h1,h2⟩
theorem yr.set {x:V}{u:Value}(r:xZ x u):∀ {xs:List V} {us:List Value} (i:Nat),yr xs us→yr (xs.set i x) (us.set i u)
  | _,_,_,.nil=>.nil
  | _,_,0,.cons _ t=>.cons r t
  | _,_,i+1,.cons q t=>.cons q (yr.set r i t)
theorem yr.append:∀ {xs ys:List V} {us ws:List Value},yr xs us→yr ys ws→yr (xs++ys) (us++ws):=by
  intro xs ys us ws h s
  induction h with
  | nil=>exact s
  | cons r t ih=>exact .cons r ih
theorem yr.take:∀ {xs:List V} {us:List Value} (n:Nat),yr xs us→yr (xs.take n) (us.take n)
  | _,_,0,_=>.nil
  | _,_,_+1,.nil=>.nil
  | _,_,n+1,.cons r t=>.cons r (yr.take n t)
theorem yr.drop:∀ {xs:List V} {us:List Value} (n:Nat),yr xs us→yr (xs.drop n) (us.drop n)
  | _,_,0,r=>r
  | _,_,_+1,.nil=>.nil
  | _,_,n+1,.cons _ t=>yr.drop n t
def zlP:Option V→Option Value→Prop
  | some v,some u=>xZ v u
  | none,none=>True
  | _,_=>False
def KV {κ:Type}:List (κ × V)→List (κ × Value)→Prop:=Paired fun (p:κ × V) (q:κ × Value)=>p.1=q.1∧xZ p.2 q.2
def kV:Key→V
  | .inl i=>.int i
  | .inr x=>.str x
inductive HO where
    | lst (xs:List V)
    | tup (xs:List V)
    | dK (kvs:List (Key × V)) | dT (kvs:List (List Key × V))
    | set (S:Int→Bool) (n:Nat)
    | ins (C dx:Addr) (fs:List (Str × V))
    | own (x:Addr)
    | xd (fs:List (Str × V))
    | met (f x:Addr)
    | rng (lo hi:Int)
    | frz (o:Obj) (u:HO)
    | tbl (ps:Array Value)
    | ext (φ:Heap→Prop)
abbrev Hp:=Addr→Option HO
def upd (H:Hp)(a:Addr)(o:HO):Hp:=fun b=>if b=a then some o else H b
theorem zu {H:Hp}{a:Addr}{o:HO}:upd H a o a=some o:=by unfold upd;rw [if_pos rfl]
theorem zr {H:Hp}{a b:Addr}{o:HO}(h:b≠a):upd H a o b=H b:=by unfold upd;rw [if_neg h]
theorem zex {H:Hp}{a:Addr}{o u:HO}:upd (upd H a o) a u=upd H a u:=by
  funext b;unfold upd;split <;> rfl
theorem zn {H:Hp}{a b:Addr}{o:HO}(h:H a=some o)(h':H b=none):a≠b:=by
  intro e;subst e;rw [h] at h';cases h'
section
variable (P:Program)(w:World)
def wu (H:Hp)(h:Heap)(a:Addr):HO→Prop
  | .lst xs=>xs.length≤sizeLine∧∃ (its:List Value) (n:Nat),yr xs its∧h.get? a=some { cls:=.type "list",data:=.seq its.toArray n }
  | .tup xs=>xs.length≤sizeLine∧∃ its:List Value,yr xs its∧IsTup h a its.toArray
  | .dK kvs=>kvs.length≤sizeLine∧(a == sysModules)=false∧∃ vs,KV kvs vs∧h.DictOf (zef P w) a vs
  | .dT kvs=>kvs.length≤sizeLine∧(a == sysModules)=false∧∃ xs:List (List Key × Addr × Value),
      Paired (fun (p:List Key × V) (q:List Key × Addr × Value)=>p.1=q.1∧H q.2.1=some (.tup (p.1.map kV))∧xZ p.2 q.2.2) kvs xs ∧
      ∃ o es ep,h.get? a=some o∧o.ExactDict∧o.data=.dict es ep∧es.toList=xs.map (entryOfKey (tupleKind (zef P w)))∧(xs.map (·.1)).Nodup
  | .set S n=>h.SetOf (intKind P w) a S n
  | .ins C dx fs=>H dx=some (.own a)∧fs.length≤1000∧dx≠a∧h.get? a=some (PySem.W.instObj C dx) ∧
      ∃ mA,h.Ns1 dx mA∧(∀ f,zlP (fs.lookup f) (mA f))∧PySem.Within mA (fs.map (·.1))
  | .own _=>∃ o,h.get? a=some o
  | .xd fs=>∃ mA,h.Ns1 a mA∧∀ f,zlP (fs.lookup f) (mA f)
  | .rng lo hi=>∃ t u v,h.get? a=some { cls:=.type "range",data:=.fields #[.int lo t,.int hi u,.int 1 v] }
  | .frz o u=>h.get? a=some o∧wu H h a u
  | .tbl ps=>h.get? a=some { cls:=.none,data:=.fields ps }
  | .met f x=>h.get? a=some (PySem.W.methodObj (.ref f) (.ref x))
  | .ext φ=>φ h∧(∃ o,h.get? a=some o)∧∀ h1 h2:Heap,φ h1→(∀ o,h1.get? a=some o→h2.get? a=some o)→φ h2
def HOk (H:Hp)(h:Heap):Prop:=∀ a o,H a=some o→wu P w H h a o
end
section
variable {P:Program}{w:World}{H H':Hp}{h h':Heap}{a:Addr}{o:HO}
theorem wu.lt (x:wu P w H h a o):a < h.objs.size:=by
  cases o with
  | lst xs=>obtain ⟨_,_,_,_,e⟩:=x;exact Heap.lt_size e
  | tup xs=>obtain ⟨_,_,_,p⟩:=x;exact p.lt
  | dK kvs=>obtain ⟨_,_,_,_,o,_,_,e,_⟩:=x;exact Heap.lt_size e
  | dT kvs=>obtain ⟨_,_,_,_,o,_,_,e,_⟩:=x;exact Heap.lt_size e
  | set S n=>obtain ⟨o,_,_,_,e,_⟩:=x;exact Heap.lt_size e
  | ins C dx fs=>obtain ⟨_,_,_,e,_⟩:=x;exact Heap.lt_size e
  | own y=>obtain ⟨_,e⟩:=x;exact Heap.lt_size e
  | xd fs=>obtain ⟨_,⟨_,_,_,e,_⟩,_⟩:=x;exact Heap.lt_size e
  | rng lo hi=>obtain ⟨_,_,_,e⟩:=x;exact Heap.lt_size e
  | frz ob u=>obtain ⟨e,_⟩:=x;exact Heap.lt_size e
  | tbl ps=>exact Heap.lt_size (show h.get? a=some _ from x)
  | met f y=>exact Heap.lt_size (show h.get? a=some _ from x)
  | ext φ=>obtain ⟨_,⟨_,e⟩,_⟩:=x;exact Heap.lt_size e
theorem Paired.mapP {α β:Type}{F G:α→β→Prop}:∀ {l₁:List α} {l₂:List β},Paired F l₁ l₂→(∀ a b,F a b→G a b)→Paired G l₁ l₂:=by
  intro l1 l2 h f
  induction h with
  | nil=>exact .nil
  | cons r t ih=>exact .cons (f _ _ r) ih
theorem wu.stay (x:wu P w H h a o)(k:∀ b u,(b=a∨H b=some (.own a))→h.get? b=some u→h'.get? b=some u)
    (ho:∀ b,H b=some (.own a)→H' b=some (.own a)) (ht:∀ b xs,H b=some (.tup xs)→H' b=some (.tup xs)):wu P w H' h' a o:=by
  induction o with
  | lst xs=>obtain ⟨z,its,n,r,e⟩:=x;exact ⟨z,its,n,r,k _ _ (.inl rfl) e⟩
  | tup xs=>obtain ⟨z,its,r,ob,e,c⟩:=x;exact ⟨z,its,r,ob,k _ _ (.inl rfl) e,c⟩
  | dK kvs=>obtain ⟨z,y,vs,r,ob,es,ep,e,c⟩:=x;exact ⟨z,y,vs,r,ob,es,ep,k _ _ (.inl rfl) e,c⟩
  | dT kvs =>
    obtain ⟨z,y,xs,r,ob,es,ep,e,c⟩:=x
    exact ⟨z,y,xs,Paired.mapP r fun p q z=>⟨z.1,ht _ _ z.2.1,z.2.2⟩,ob,es,ep,k _ _ (.inl rfl) e,c⟩
  | set S n=>obtain ⟨ob,es,ep,t,e,c⟩:=x;exact ⟨ob,es,ep,t,k _ _ (.inl rfl) e,c⟩
  | ins C dx fs =>
    obtain ⟨d,z,ne,e,mA,⟨od,es,ep,e2,c⟩,r⟩:=x
    exact ⟨ho _ d,z,ne,k _ _ (.inl rfl) e,mA,⟨od,es,ep,k _ _ (.inr d) e2,c⟩,r⟩
  | own y=>obtain ⟨ob,e⟩:=x;exact ⟨ob,k _ _ (.inl rfl) e⟩
  | xd fs=>obtain ⟨mA,⟨od,es,ep,e,c⟩,r⟩:=x;exact ⟨mA,⟨od,es,ep,k _ _ (.inl rfl) e,c⟩,r⟩
  | rng lo hi=>obtain ⟨t,u,v,e⟩:=x;exact ⟨t,u,v,k _ _ (.inl rfl) e⟩
  | frz ob u ih=>obtain ⟨e,q⟩:=x;exact ⟨k _ _ (.inl rfl) e,ih q⟩
  | tbl ps =>
    have e:h.get? a=some { cls:=.none,data:=.fields ps }:=x
    show h'.get? a=some { cls:=.none,data:=.fields ps }
    exact k a _ (.inl rfl) e
  | met f y =>
    have e:h.get? a=some (PySem.W.methodObj (.ref f) (.ref y)):=x
    show h'.get? a=some (PySem.W.methodObj (.ref f) (.ref y))
    exact k a _ (.inl rfl) e
  | ext φ=>obtain ⟨p,⟨o,e⟩,st⟩:=x;exact ⟨st _ _ p fun o q=>k _ _ (.inl rfl) q,⟨o,k _ _ (.inl rfl) e⟩,st⟩
theorem HOk.lt (x:HOk P w H h)(e:H a=some o):a < h.objs.size:=(x a o e).lt
theorem HOk.fresh (x:HOk P w H h)(e:h.objs.size≤a):H a=none:=by
  cases q:H a with
  | none=>rfl
  | some u=>exact absurd (Nat.lt_of_lt_of_le (x.lt q) e) (Nat.lt_irrefl _)
theorem HOk.kept (x:HOk P w H h)(k:∀ b u,h.get? b=some u→h'.get? b=some u):HOk P w H h':=fun a o e =>
  (x a o e).stay (fun b u _ q=>k b u q) (fun _ q=>q) fun _ _ q=>q
theorem HOk.laid (x:HOk P w H h)(k:∀ b u,h.get? b=some u→h'.get? b=some u)(hp:h.objs.size≤a)(new:wu P w (upd H a o) h' a o):HOk P w (upd H a o) h':=fun b u e=>by
  have hn:=x.fresh hp
  by_cases hb:b=a
  · subst hb;rw [zu] at e;cases e;exact new
  · rw [zr hb] at e
    exact (x b u e).stay (fun c v _ q=>k c v q) (fun c q=>by rw [zr (zn q hn)];exact q) fun c xs q=>by rw [zr (zn q hn)];exact q
end
def Rd (H:Hp)(a:Addr)(u:HO):Prop:=H a=some u∨∃ o,H a=some (.frz o u)
theorem Rd.ok {P:Program}{w:World}{H:Hp}{h:Heap}{a:Addr}{u:HO}(r:Rd H a u)(x:HOk P w H h):wu P w H h a u:=by
  rcases r with r | ⟨o,r⟩
  · exact x a u r
  · obtain ⟨_,q⟩:=x a _ r
    exact q
def Mut:Option HO→Prop
  | some (.lst _)=>True
  | some (.dK _)=>True
  | some (.dT _)=>True
  | some (.set _ _)=>True
  | some (.ins _ _ _)=>True
  | some (.ext _)=>True
  | _=>False
section
variable {P:Program}{w:World}{H:Hp}{h h':Heap}{x e:Addr}{o':HO}
theorem HOk.write (ok:HOk P w H h)(mu:Mut (H x))(he:e=x∨H e=some (.own x))(k:∀ b u,b≠e→h.get? b=some u→h'.get? b=some u)(heo:∃ u,h'.get? e=some u)
    (new:wu P w (upd H x o') h' x o'):HOk P w (upd H x o') h':=fun b u q=>by
  have nown:∀ c y,H c=some (.own y)→c≠x:=fun c y r z=>by subst z;rw [r] at mu;exact mu
  have ntup:∀ c xs,H c=some (.tup xs)→c≠x:=fun c xs r z=>by subst z;rw [r] at mu;exact mu
  by_cases hb:b=x
  · subst hb;rw [zu] at q;cases q;exact new
  · rw [zr hb] at q
    by_cases hbe:b=e
    · have q':H b=some (.own x):=by
        rcases he with z | z
        · exact absurd (hbe.trans z) hb
        · rw [hbe];exact z
      rw [q] at q';cases q'
      obtain ⟨v,hv⟩:=heo
      exact ⟨v,by rw [hbe];exact hv⟩
    · refine (ok b u q).stay (fun c v hc r=>k c v ?_ r) (fun c r=>by rw [zr (nown c b r)];exact r) fun c xs r=>by rw [zr (ntup c xs r)];exact r
      rcases hc with rfl | hc
      · exact hbe
      · rintro rfl
        rcases he with z | z
        · exact nown c b hc z
        · rw [hc] at z;cases z;exact hb rfl
end
set_option genInjectivity false in
set_option genSizeOf false in
set_option genCtorIdx false in
structure Un (fs ex:List Addr) (H H':Hp) (h h':Heap):Prop where
  keep:∀ b o,h.get? b=some o→H b=none→b∉fs→b∉ex→h'.get? b=some o
  slot:∀ b o,h.get? b=some o→H b=none→b∈fs→b∉ex→∃ sl,h'.get? b=some { o with slots:=sl }
  free:∀ b o,h.get? b=some o→H b=none→b∉ex→H' b=none
  there:∀ b o,h.get? b=some o→b∉ex→∃ o',h'.get? b=some o'
  tups:∀ b xs,H b=some (.tup xs)→H' b=some (.tup xs)
  frzs:∀ b o u,H b=some (.frz o u)→H' b=some (.frz o u)
  tbls:∀ b ps,H b=some (.tbl ps)→∃ more,H' b=some (.tbl (ps++more))
section
variable {fs fs' ex ex':List Addr}{H H1 H2:Hp}{h h1 h2 h':Heap}{a x e:Addr}{o:HO}
theorem Un.any (u:Un fs ex H H1 h h1){b:Addr}{ob:Obj}(q:h.get? b=some ob)(n:H b=none)(hx:b∉ex):∃ sl,h1.get? b=some { ob with slots:=sl }:=by
  by_cases hb:b∈fs
  · exact u.slot b ob q n hb hx
  · exact ⟨ob.slots,u.keep b ob q n hb hx⟩
theorem Un.kept (k:∀ b u,h.get? b=some u→h'.get? b=some u):Un fs ex H H h h' :=
  ⟨fun b ob q _ _ _=>k b ob q,fun b ob q _ _ _=>⟨ob.slots,k b ob q⟩,fun _ _ _ n _=>n,fun b ob q _=>⟨ob,k b ob q⟩,fun _ _ q=>q,fun _ _ _ q=>q,fun _ ps q=>⟨#[],by rw [q];simp⟩⟩
theorem Un.refl:Un fs ex H H h h:=Un.kept fun _ _ q=>q
theorem Un.laid (k:∀ b u,h.get? b=some u→h'.get? b=some u)(hp:h.objs.size≤a)(hn:H a=none):Un fs ex H (upd H a o) h h' where
  keep:=fun b u q _ _ _=>k b u q
  slot:=fun b u q _ _ _=>⟨u.slots,k b u q⟩
  free:=fun b u q n _=>by rw [zr (Nat.ne_of_lt (Nat.lt_of_lt_of_le (Heap.lt_size q) hp))];exact n
  there:=fun b u q _=>⟨u,k b u q⟩
  tups:=fun b xs q=>by rw [zr (zn q hn)];exact q
  frzs:=fun b u xs q=>by rw [zr (zn q hn)];exact q
  tbls:=fun b ps q=>⟨#[],by rw [zr (zn q hn),q];simp⟩
theorem Un.write (mu:Mut (H x))(he:e=x∨H e=some (.own x))(k:∀ b u,b≠e→h.get? b=some u→h'.get? b=some u)(heo:∃ u,h'.get? e=some u):Un fs ex H (upd H x o) h h':=by
  have hx:∀ b,H b=none→b≠x:=fun b n z=>by subst z;rw [n] at mu;exact mu
  have hb:∀ b,H b=none→b≠e:=fun b n z=>by
    subst z
    rcases he with r | r
    · exact hx b n r
    · rw [n] at r;cases r
  have hm:∀ b u,H b=some u→¬ Mut (some u)→b≠x:=fun b u q nm z=>by subst z;rw [q] at mu;exact nm mu
  refine ⟨fun b u q n _ _=>k b u (hb b n) q,fun b u q n _ _=>⟨u.slots,k b u (hb b n) q⟩,fun b u q n _=>by rw [zr (hx b n)];exact n,fun b u q _=>?_,
    fun b xs q=>by rw [zr (hm b _ q fun z=>z)];exact q,fun b u xs q=>by rw [zr (hm b _ q fun z=>z)];exact q,fun b ps q=>⟨#[],by rw [zr (hm b _ q fun z=>z),q];simp⟩⟩
  by_cases hbe:b=e
  · subst hbe;exact heo
  · exact ⟨u,k b u hbe q⟩
end
def trk (h:Heap)(H:Hp):List Addr:=(List.range h.objs.size).filter fun a=>(H a).isSome
def zhj (h:Heap)(H:Hp):Heap:=PySem.W.hideAll h (trk h H)
theorem zd9 (h:Heap)(H:Hp):(zhj h H).objs.size=h.objs.size:=PySem.W.hideAll_size _ _
theorem zg4 {h:Heap}{H:Hp}{b:Addr}{o:Obj}(e:h.get? b=some o)(n:H b=none):(zhj h H).get? b=some o :=
  PySem.W.hideAll_get _ e fun hm=>by
    have q:(H b).isSome=true:=(List.mem_filter.mp hm).2
    rw [n] at q;simp at q
theorem ziF {h:Heap}{H:Hp}{b:Addr}{o:Obj}(e:(zhj h H).get? b=some o):h.get? b=some o∧H b=none:=by
  have e':h.get? b=some o:=PySem.W.of_hideAll (trk h H) e
  refine ⟨e',?_⟩
  cases q:H b with
  | none=>rfl
  | some x =>
    have hm:b∈trk h H:=List.mem_filter.mpr ⟨List.mem_range.mpr (Heap.lt_size e'),by simp [q]⟩
    have z:(zhj h H).get? b=none:=PySem.W.hideAll_none (trk h H) hm
    rw [z] at e;cases e
def zjq (g h:Heap)(L:Addr):List (Addr × Obj):=(List.range h.objs.size).filterMap fun a=>if a=L∨(g.get? a).isSome=true then none else (h.get? a).map fun o=>(a,o)
def rest (g h:Heap)(L d:Addr):List (Addr × Obj):=(zjq g h L).filter fun p=>decide (p.1≠d)
end L2
namespace L2
open PySem PySem.Spec PyProof.Rows
structure Mod (K:PySem.W.Frag) (mg:Str→Option Value) (base:Heap):Prop where
  kin:K.In base
  glob:base.Ns mainGlobals mg
  blt:∃ mb,base.Ns builtinsNs mb∧∀ x:Str,x≠"__name__"→mb x=bootBuiltins x
  nolimit:base.NoLimit
structure Cx where
  prog:Program
  w:World
  K:PySem.W.Frag
  mg:Str→Option Value
  base:Heap
  A:Around
  N:List Str
  s₀:Shared
  H₀:Hp
  env:Env
  outer:List Env
  stack:List Env
  ex:List Addr
  fn:Str→Bool
  calm:Bool
  pn:List (Addr × Obj)
  xe:Value→Shared→Prop
def frs (l:List Env):List Addr:=l.filterMap (·.frame)
abbrev Cx.fs (X:Cx):List Addr:=frs X.outer
def Vis (sc:Scope)(x:Str):Prop:=sc.names.lookup x=some .local∨sc.names.lookup x=some .cell∨sc.names.lookup x=some .free
def Loc (sc:Scope)(x:Str):Prop:=sc.names.lookup x=some .local∨sc.names.lookup x=some .cell
def Look (env:Env)(h:Heap)(m:Str→Option Value)(x:Str)(u:Value):Prop :=
  (env.kindOf x=some .local∧m x=some u)∨((env.kindOf x=some .cell∨env.kindOf x=some .free)∧∃ c,env.cells.lookup x=some c∧h.IsCell c (some u))
set_option genInjectivity false in
set_option genSizeOf false in
set_option genCtorIdx false in
structure Cx.Ok (X:Cx):Prop where
  mod:Mod X.K X.mg X.base
  kind:X.env.scope.kind=.function
  glob:X.env.globals=mainGlobals
  blt:X.env.builtins=builtinsNs
  above:X.s₀.heap.objs.size≤X.env.locals
  inj:∀ x y c,X.env.cells.lookup x=some c→X.env.cells.lookup y=some c→x=y
  has:∀ x,(X.env.kindOf x=some .cell∨X.env.kindOf x=some .free)→∃ c,X.env.cells.lookup x=some c
  cab:∀ x c,X.fn x=true→X.env.cells.lookup x=some c→X.s₀.heap.objs.size≤c
  hd:X.calm=true→X.A.handled=none
  frames:X.A.frames=some X.stack
  stk:X.stack=X.outer∨(X.stack=X.env::X.outer∧X.env.frame=some X.env.locals)
  exf:∀ b∈X.ex,b≠X.env.locals∧∀ x c,X.env.cells.lookup x=some c→c≠b
  bs:∀ b o,X.base.get? b=some o→X.s₀.heap.get? b=some o∧X.H₀ b=none
  bsz:X.base.objs.size≤X.s₀.heap.objs.size
  noex:∀ b o,X.base.get? b=some o→b∉X.ex
  exfs:∀ b∈X.ex,b∉X.fs
  funs:X.s₀.heap.FunFrames X.base X.outer
  frf:∀ b∈X.fs,X.H₀ b=none
set_option genInjectivity false in
set_option genSizeOf false in
set_option genCtorIdx false in
structure Inv (X:Cx) (pins:List (Addr × Obj)) (σ:List (Option V)) (H:Hp) (s:Shared):Prop where
  ok:X.Ok
  os:s.os=X.s₀.os
  bare:AllBare s.gens
  base:Un X.fs X.ex X.H₀ H X.s₀.heap s.heap
  loc:∃ m,s.heap.Ns X.env.locals m∧∀ (i:Nat) (x:Str) (v:V),X.N[i]?=some x→σ[i]?=some (some v)→Vis X.env.scope x→∃ u,xZ v u∧Look X.env s.heap m x u
  cell:∀ x c,X.env.cells.lookup x=some c→∃ v,s.heap.IsCell c v
  free:H X.env.locals=none
  freeC:∀ x c,X.env.cells.lookup x=some c→H c=none
  pin:∀ p∈X.pn++pins,s.heap.get? p.1=some p.2∧H p.1=none∧p.1≠X.env.locals∧p.1∉X.fs∧∀ v,p.2.data≠.cell v
  hok:HOk X.prog X.w H s.heap
  len:σ.length=X.N.length
section
variable {X:Cx}{pins:List (Addr × Obj)}{σ:List (Option V)}{H H':Hp}{s:Shared}{h':Heap}
theorem Cx.Ok.nofr (ok:X.Ok){b:Addr}{o:Obj}(e:X.base.get? b=some o):b∉X.fs:=fun hb=>by
  have:=(ok.funs.mem hb).1
  rw [e] at this;cases this
theorem Inv.bs (I:Inv X pins σ H s):∀ b o,X.base.get? b=some o→s.heap.get? b=some o∧H b=none:=fun b o e =>
  ⟨I.base.keep b o (I.ok.bs b o e).1 (I.ok.bs b o e).2 (I.ok.nofr e) (I.ok.noex b o e),I.base.free b o (I.ok.bs b o e).1 (I.ok.bs b o e).2 (I.ok.noex b o e)⟩
theorem Inv.bk (I:Inv X pins σ H s):∀ b o,X.base.get? b=some o→s.heap.get? b=some o:=fun b o e=>(I.bs b o e).1
theorem Inv.mod (I:Inv X pins σ H s):Mod X.K X.mg X.base:=I.ok.mod
theorem Inv.kIn (I:Inv X pins σ H s):X.K.In s.heap:=I.ok.mod.kin.keeps I.bk
theorem Inv.fr (I:Inv X pins σ H s):∃ m,Fr X.base X.env.locals s.heap m :=
  let ⟨m,hn,_⟩:=I.loc
  ⟨m,hn,I.bk,Nat.le_trans I.ok.bsz I.ok.above⟩
theorem Inv.lt (I:Inv X pins σ H s):X.env.locals < s.heap.objs.size:=let ⟨_,hn,_⟩:=I.loc;hn.lt
theorem Inv.sz (I:Inv X pins σ H s):X.s₀.heap.objs.size≤s.heap.objs.size:=Nat.le_trans I.ok.above (Nat.le_of_lt I.lt)
theorem Inv.nofs (I:Inv X pins σ H s){a:Addr}(h:s.heap.objs.size≤a):a∉X.fs:=fun hb=>by
  obtain ⟨_,o,ho,_⟩:=I.ok.funs.mem hb
  exact absurd (Nat.lt_of_lt_of_le (Heap.lt_size ho) (Nat.le_trans I.sz h)) (Nat.lt_irrefl _)
theorem Inv.cne (I:Inv X pins σ H s):∀ x c,X.env.cells.lookup x=some c→c≠X.env.locals:=fun x c e z=>by
  obtain ⟨v,o,ho,hd⟩:=I.cell x c e
  obtain ⟨m,⟨o',es,ep,ho',hd',_⟩,_⟩:=I.loc
  rw [z,ho'] at ho;cases ho;rw [hd'] at hd;cases hd
theorem Inv.funs (I:Inv X pins σ H s):s.heap.FunFrames X.base X.outer:=by
  have all:∀ (l:List Env),(∀ b∈frs l,b∈X.fs)→X.s₀.heap.FunFrames X.base l→s.heap.FunFrames X.base l:=by
    intro l
    induction l with
    | nil=>intro _ _;trivial
    | cons env r ih =>
      intro hs hl
      obtain ⟨hk,⟨L,o,hf,hn,ho,hd⟩,hr⟩:=hl
      have hL:L∈X.fs:=hs L (by unfold frs;rw [List.filterMap_cons,hf];exact List.mem_cons_self)
      obtain ⟨sl,e⟩:=I.base.slot L o ho (I.ok.frf L hL) hL fun z=>I.ok.exfs L z hL
      exact ⟨hk,⟨L,_,hf,hn,e,hd⟩,ih (fun b hb=>hs b (by unfold frs;rw [List.filterMap_cons,hf];exact List.mem_cons_of_mem _ hb)) hr⟩
  exact all X.outer (fun _ hb=>hb) I.ok.funs
theorem Inv.stack (I:Inv X pins σ H s):s.heap.FunFrames X.base X.stack:=by
  rcases I.ok.stk with e | ⟨e,hf⟩
  · rw [e];exact I.funs
  · rw [e]
    obtain ⟨m,hn,_⟩:=I.loc
    refine .cons (by rw [I.ok.kind];decide) hf hn ?_ I.funs
    exact Heap.get?_none_of_le (Nat.le_trans I.ok.bsz I.ok.above)
theorem Inv.stkSub (I:Inv X pins σ H s):∀ b∈frs X.stack,b∈X.env.locals::X.fs:=fun b hb=>by
  rcases I.ok.stk with e | ⟨e,hf⟩
  · rw [e] at hb;exact List.mem_cons_of_mem _ hb
  · rw [e] at hb
    unfold frs at hb
    rw [List.filterMap_cons,hf] at hb
    exact hb
theorem Inv.stkFree (I:Inv X pins σ H s):∀ b∈frs X.stack,H b=none:=fun b hb=>by
  rcases List.mem_cons.mp (I.stkSub b hb) with e | hb
  · rw [e];exact I.free
  · obtain ⟨_,o,ho,_⟩:=I.ok.funs.mem hb
    exact I.base.free b o ho (I.ok.frf b hb) fun z=>I.ok.exfs b z hb
theorem Inv.step {g':Array GenState}{t':Nat}{d':Drawn}{ch:List Addr}(I:Inv X pins σ H s)
    (hch:∀ b∈ch,(b∈X.ex∨X.s₀.heap.objs.size≤b)∧b≠X.env.locals∧(∀ x c,X.env.cells.lookup x=some c→c≠b)∧∀ p∈X.pn++pins,p.1≠b)
    (keep:∀ b o,b≠X.env.locals→b∉X.fs→b∉ch→s.heap.get? b=some o→H b=none→h'.get? b=some o)
    (slot:∀ b o,b≠X.env.locals→b∈X.fs→b∉ch→s.heap.get? b=some o→H b=none→∃ sl,h'.get? b=some { o with slots:=sl }) (free:∀ b o,b∉ch→s.heap.get? b=some o→H b=none→H' b=none)
    (there:∀ b o,b∉ch→s.heap.get? b=some o→∃ o',h'.get? b=some o')
    (tups:∀ b xs,H b=some (.tup xs)→H' b=some (.tup xs)) (frzs:∀ b o u,H b=some (.frz o u)→H' b=some (.frz o u)) (tbls:∀ b ps,H b=some (.tbl ps)→∃ more,H' b=some (.tbl (ps++more)))
    (ns:∀ m,s.heap.Ns X.env.locals m→h'.Ns X.env.locals m) (hok:HOk X.prog X.w H' h') (hg:AllBare g') :
    Inv X pins σ H' { s with heap:=h',gens:=g',drawn:=d',toks:=t' }:=by
  have neL:∀ b o,X.s₀.heap.get? b=some o→b≠X.env.locals:=fun b o e=>Nat.ne_of_lt (Nat.lt_of_lt_of_le (Heap.lt_size e) I.ok.above)
  have neC:∀ b o,X.s₀.heap.get? b=some o→b∉X.ex→b∉ch:=fun b o e hx hb=>by
    rcases (hch b hb).1 with z | z
    · exact hx z
    · exact absurd (Nat.lt_of_lt_of_le (Heap.lt_size e) z) (Nat.lt_irrefl _)
  have cellK:∀ x c,X.env.cells.lookup x=some c→∀ v,s.heap.IsCell c v→h'.IsCell c v:=fun x c e v ⟨o,ho,hd⟩=>by
    have nch:c∉ch:=fun z=>(hch c z).2.2.1 x c e rfl
    by_cases hc:c∈X.fs
    · obtain ⟨sl,q⟩:=slot c o (I.cne x c e) hc nch ho (I.freeC x c e)
      exact ⟨_,q,hd⟩
    · exact ⟨o,keep c o (I.cne x c e) hc nch ho (I.freeC x c e),hd⟩
  refine ⟨I.ok,I.os,hg,⟨fun b o e n hb hx=>?_,fun b o e n hb hx=>?_,fun b o e n hx=>?_,fun b o e hx=>?_,fun b xs e=>tups b xs (I.base.tups b xs e),fun b o xs e=>frzs b o xs (I.base.frzs b o xs e),fun b ps e=>?_⟩,?_,fun x c e=>?_,?_,fun x c e=>?_,fun p hp=>?_,hok,I.len⟩
  · exact keep b o (neL b o e) hb (neC b o e hx) (I.base.keep b o e n hb hx) (I.base.free b o e n hx)
  · obtain ⟨sl,e1⟩:=I.base.slot b o e n hb hx
    obtain ⟨sl',e2⟩:=slot b _ (neL b o e) hb (neC b o e hx) e1 (I.base.free b o e n hx)
    exact ⟨sl',e2⟩
  · obtain ⟨o',e1⟩:=I.base.there b o e hx
    exact free b o' (neC b o e hx) e1 (I.base.free b o e n hx)
  · obtain ⟨o',e1⟩:=I.base.there b o e hx
    exact there b o' (neC b o e hx) e1
  · obtain ⟨m1,e1⟩:=I.base.tbls b ps e
    obtain ⟨m2,e2⟩:=tbls b _ e1
    exact ⟨m1++m2,by rw [e2,Array.append_assoc]⟩
  · obtain ⟨m,hn,hl⟩:=I.loc
    refine ⟨m,ns m hn,fun i x v e1 e2 e3=>?_⟩
    obtain ⟨u,r,l⟩:=hl i x v e1 e2 e3
    refine ⟨u,r,?_⟩
    rcases l with l | ⟨k,c,e,z⟩
    · exact .inl l
    · exact .inr ⟨k,c,e,cellK x c e _ z⟩
  · obtain ⟨v,z⟩:=I.cell x c e
    exact ⟨v,cellK x c e v z⟩
  · obtain ⟨m,⟨o,_,_,ho,_⟩,_⟩:=I.loc
    exact free _ o (fun z=>(hch _ z).2.1 rfl) ho I.free
  · obtain ⟨v,o,ho,hd⟩:=I.cell x c e
    exact free c o (fun z=>(hch c z).2.2.1 x c e rfl) ho (I.freeC x c e)
  · obtain ⟨e,n,ne,nf,d⟩:=I.pin p hp
    have nch:p.1∉ch:=fun z=>(hch p.1 z).2.2.2 p hp rfl
    exact ⟨keep p.1 p.2 ne nf nch e n,free p.1 p.2 nch e n,ne,nf,d⟩
theorem Inv.un {t':Nat}(I:Inv X pins σ H s)(u:Un X.fs [] H H' s.heap h')(hok:HOk X.prog X.w H' h'):Inv X pins σ H' { s with heap:=h',toks:=t' }:=by
  obtain ⟨m,⟨o,es,ep,ho,r⟩,_⟩:=id I.loc
  obtain ⟨sl,hL⟩:=u.any ho I.free (by simp)
  exact I.step (g':=s.gens) (d':=s.drawn) (ch:=[]) (fun _ z=>nomatch z) (fun b o _ hb _ e n=>u.keep b o e n hb (by simp)) (fun b o _ hb _ e n=>u.slot b o e n hb (by simp)) (fun b o _ e n=>u.free b o e n (by simp)) (fun b o _ e=>u.there b o e (by simp)) u.tups u.frzs u.tbls (fun m' hm=>by
    obtain ⟨o',es',ep',ho',r'⟩:=hm
    rw [ho] at ho';cases ho'
    exact ⟨_,es',ep',hL,r'⟩) hok I.bare
theorem Inv.call {g':Array GenState}{t':Nat}{d':Drawn}{ch:List Addr}(I:Inv X pins σ H s)(u:Un (frs X.stack) ch H H' s.heap h')(hok:HOk X.prog X.w H' h')(hg:AllBare g')
    (hch:∀ b∈ch,(b∈X.ex∨X.s₀.heap.objs.size≤b)∧b≠X.env.locals∧(∀ x c,X.env.cells.lookup x=some c→c≠b)∧∀ p∈X.pn++pins,p.1≠b) :
    Inv X pins σ H' { s with heap:=h',gens:=g',drawn:=d',toks:=t' }:=by
  obtain ⟨m,⟨o,es,ep,ho,r⟩,_⟩:=id I.loc
  obtain ⟨sl,hL⟩:=u.any ho I.free fun z=>(hch _ z).2.1 rfl
  exact I.step (ch:=ch) hch (fun b o hL hb hc e n=>u.keep b o e n (fun z=>(List.mem_cons.mp (I.stkSub b z)).elim hL hb) hc) (fun b o _ _ hc e n=>u.any e n hc) (fun b o hc e n=>u.free b o e n hc) (fun b o hc e=>u.there b o e hc) u.tups u.frzs u.tbls (fun m' hm=>by
    obtain ⟨o',es',ep',ho',r'⟩:=hm
    rw [ho] at ho';cases ho'
    exact ⟨_,es',ep',hL,r'⟩) hok hg
theorem Inv.turned {t':Nat}{it:Addr}(I:Inv X pins σ H s)(k:∀ b o,b≠it→s.heap.get? b=some o→h'.get? b=some o)(hn:H it=none)(hL:it≠X.env.locals)
    (h1:it∈X.ex∨X.s₀.heap.objs.size≤it) (h2:∀ x c,X.env.cells.lookup x=some c→c≠it) (h3:∀ p∈X.pn++pins,p.1≠it):Inv X pins σ H { s with heap:=h',toks:=t' }:=by
  have nit:∀ b u,H b=some u→b≠it:=fun b u e z=>by rw [z,hn] at e;cases e
  refine I.step (g':=s.gens) (d':=s.drawn) (ch:=[it]) (fun b hb=>?_) (fun b o _ _ hc e _=>k b o (fun z=>hc (by simp [z])) e) (fun b o _ _ hc e _=>⟨o.slots,k b o (fun z=>hc (by simp [z])) e⟩) (fun _ _ _ _ n=>n)
    (fun b o hc e=>⟨o,k b o (fun z=>hc (by simp [z])) e⟩) (fun _ _ e=>e) (fun _ _ _ e=>e) (fun b ps e=>⟨#[],by rw [e];simp⟩) (fun m hm=>?_) (fun b u e=>?_) I.bare
  · have e:b=it:=by simpa using hb
    subst e
    exact ⟨h1,hL,h2,h3⟩
  · obtain ⟨o,es,ep,ho,r⟩:=hm
    exact ⟨o,es,ep,k _ o (Ne.symm hL) ho,r⟩
  · refine (I.hok b u e).stay (fun c v hc q=>k c v ?_ q) (fun _ q=>q) fun _ _ q=>q
    rcases hc with z | z
    · rw [z];exact nit b u e
    · exact nit c _ z
theorem Inv.tok (I:Inv X pins σ H s)(t:Nat):Inv X pins σ H { s with toks:=t }:=I.un (h':=s.heap) (t':=t) Un.refl I.hok
theorem Inv.kept {t':Nat}(I:Inv X pins σ H s)(k:∀ b u,s.heap.get? b=some u→h'.get? b=some u):Inv X pins σ H { s with heap:=h',toks:=t' }:=I.un (Un.kept k) (I.hok.kept k)
theorem Inv.laid {a:Addr}{o:HO}{t':Nat}(I:Inv X pins σ H s)(k:∀ b u,s.heap.get? b=some u→h'.get? b=some u)(hp:s.heap.objs.size≤a)(new:wu X.prog X.w (upd H a o) h' a o) :
    Inv X pins σ (upd H a o) { s with heap:=h',toks:=t' }:=I.un (Un.laid k hp (I.hok.fresh hp)) (I.hok.laid k hp new)
theorem Inv.write {x e:Addr}{o:HO}{t':Nat}(I:Inv X pins σ H s)(mu:Mut (H x))(he:e=x∨H e=some (.own x))(k:∀ b u,b≠e→s.heap.get? b=some u→h'.get? b=some u)(heo:∃ u,h'.get? e=some u)
    (new:wu X.prog X.w (upd H x o) h' x o):Inv X pins σ (upd H x o) { s with heap:=h',toks:=t' }:=I.un (Un.write mu he k heo) (I.hok.write mu he k heo new)
theorem Inv.weak {σ':List (Option V)}(I:Inv X pins σ H s)(hl:σ'.length=σ.length)(w:∀ (i:Nat) v,σ'[i]?=some (some v)→σ[i]?=some (some v)):Inv X pins σ' H s :=
  ⟨I.ok,I.os,I.bare,I.base,let ⟨m,hn,hl'⟩:=I.loc;⟨m,hn,fun i x v e1 e2 e3=>hl' i x v e1 (w i v e2) e3⟩,I.cell,I.free,I.freeC,I.pin,I.hok,hl.trans I.len⟩
theorem Inv.pins_of {pins':List (Addr × Obj)}(I:Inv X pins σ H s)(h:∀ p∈pins',s.heap.get? p.1=some p.2∧H p.1=none∧p.1≠X.env.locals∧p.1∉X.fs∧∀ v,p.2.data≠.cell v):Inv X pins' σ H s :=
  ⟨I.ok,I.os,I.bare,I.base,I.loc,I.cell,I.free,I.freeC,fun p hp=>(List.mem_append.mp hp).elim (fun z=>I.pin p (List.mem_append_left _ z)) (h p),I.hok,I.len⟩
theorem zaK {N:List Str}(hN:N.Nodup){i j:Nat}{x:Str}(a:N[i]?=some x)(b:N[j]?=some x):i=j:=by
  obtain ⟨h1,e1⟩:=List.getElem?_eq_some_iff.mp a
  obtain ⟨h2,e2⟩:=List.getElem?_eq_some_iff.mp b
  exact (List.getElem_inj hN).mp (e1.trans e2.symm)
theorem zfj {M:Model}{A:Around}{E:Value→Shared→Prop}{i:Nat}{x:Str}{v:V}{u:Value}{Q:Unit→Shared→Prop}(I:Inv X pins σ H s)(hN:X.N.Nodup)(hi:X.N[i]?=some x)(hx:Loc X.env.scope x)(r:xZ v u)
    (h:∀ s',Inv X pins (σ.set i (some v)) H s'→(∃ a,Heap.SameBut a s.heap s'.heap∧(a=X.env.locals∨X.env.cells.lookup x=some a))→Q () s') (hf:X.fn x=true∨X.env.scope.names.lookup x=some .local:=by first | exact .inl rfl | exact .inr rfl | assumption):wpAny M A (storeName X.env x u) Q E s:=by
  obtain ⟨m,hn,hl⟩:=id I.loc
  have hcls:(X.env.scope.kind == .class||(X.env.scope.kind == .module&&X.env.locals != X.env.globals))=false:=by rw [I.ok.kind];rfl
  have hiσ:i < σ.length:=by rw [I.len];exact (List.getElem?_eq_some_iff.mp hi).1
  have cne:=I.cne
  have tracked:∀ {a:Addr} {h':Heap},(∃ o,s.heap.get? a=some o∧H a=none)→Heap.SameBut a s.heap h'→HOk X.prog X.w H h':=fun {a h'} ha hs b ob e=>by
    obtain ⟨_,_,hfree⟩:=ha
    refine (I.hok b ob e).stay (fun c w' hc q=>(hs.2 c ?_).trans q) (fun _ q=>q) fun _ _ q=>q
    rintro rfl
    rcases hc with rfl | hc
    · rw [hfree] at e;cases e
    · rw [hfree] at hc;cases hc
  rcases hx with hk | hk
  · refine wpAny_storeName_local hk hn (fun h' hn' hs=>?_) hcls
    obtain ⟨oL,_,_,hoL,_⟩:=id hn
    refine h _ ⟨I.ok,I.os,I.bare,⟨fun b o e n hb hx=>?_,fun b o e n hb hx=>?_,I.base.free,fun b o e hx=>?_,I.base.tups,I.base.frzs,I.base.tbls⟩,⟨_,hn',fun j y v' e1 e2 e3=>?_⟩,fun y c e=>?_,I.free,I.freeC,fun p hp=>?_,tracked ⟨oL,hoL,I.free⟩ hs,by simpa using I.len⟩ ⟨_,hs,.inl rfl⟩
    · exact (hs.2 b (Nat.ne_of_lt (Nat.lt_of_lt_of_le (Heap.lt_size e) I.ok.above))).trans (I.base.keep b o e n hb hx)
    · obtain ⟨sl,e1⟩:=I.base.slot b o e n hb hx
      exact ⟨sl,(hs.2 b (Nat.ne_of_lt (Nat.lt_of_lt_of_le (Heap.lt_size e) I.ok.above))).trans e1⟩
    · obtain ⟨o',e1⟩:=I.base.there b o e hx
      exact ⟨o',(hs.2 b (Nat.ne_of_lt (Nat.lt_of_lt_of_le (Heap.lt_size e) I.ok.above))).trans e1⟩
    · by_cases hj:j=i
      · subst hj
        rw [hi] at e1;cases e1
        rw [List.getElem?_set_self hiσ] at e2
        cases e2
        exact ⟨u,r,.inl ⟨hk,by simp⟩⟩
      · rw [List.getElem?_set_ne (Ne.symm hj)] at e2
        obtain ⟨u',r',q⟩:=hl j y v' e1 e2 e3
        refine ⟨u',r',?_⟩
        rcases q with ⟨k,e⟩ | ⟨k,c,e,z⟩
        · refine .inl ⟨k,?_⟩
          have:y≠x:=fun e=>hj (zaK hN e1 (e ▸ hi))
          simp [this,e]
        · exact .inr ⟨k,c,e,z.sameBut hs (cne y c e)⟩
    · obtain ⟨w',z⟩:=I.cell y c e
      exact ⟨w',z.sameBut hs (cne y c e)⟩
    · obtain ⟨e,n,ne,nf,d⟩:=I.pin p hp
      exact ⟨(hs.2 p.1 ne).trans e,n,ne,nf,d⟩
  · have hfn:X.fn x=true:=by
      rcases hf with z | z
      · exact z
      · rw [z] at hk;cases hk
    obtain ⟨c,hc⟩:=I.ok.has x (.inl hk)
    obtain ⟨w',z⟩:=I.cell x c hc
    refine wpAny_storeName_cell I.ok.kind hk hc z (fun h' hc' hs=>?_)
    obtain ⟨oc,hoc,hocd⟩:=id z
    refine h { s with heap:=h' } ⟨I.ok,I.os,I.bare,⟨fun b o e n hb hx=>?_,fun b o e n hb hx=>?_,I.base.free,fun b o e hx=>?_,I.base.tups,I.base.frzs,I.base.tbls⟩,⟨m,hn.sameBut hs (Ne.symm (cne x c hc)),fun j y v' e1 e2 e3=>?_⟩,fun y c' e=>?_,I.free,I.freeC,fun p hp=>?_,tracked ⟨oc,hoc,I.freeC x c hc⟩ hs,by simpa using I.len⟩ ⟨c,hs,.inr hc⟩
    · exact (hs.2 b (Nat.ne_of_lt (Nat.lt_of_lt_of_le (Heap.lt_size e) (I.ok.cab x c hfn hc)))).trans (I.base.keep b o e n hb hx)
    · obtain ⟨sl,e1⟩:=I.base.slot b o e n hb hx
      exact ⟨sl,(hs.2 b (Nat.ne_of_lt (Nat.lt_of_lt_of_le (Heap.lt_size e) (I.ok.cab x c hfn hc)))).trans e1⟩
    · obtain ⟨o',e1⟩:=I.base.there b o e hx
      exact ⟨o',(hs.2 b (Nat.ne_of_lt (Nat.lt_of_lt_of_le (Heap.lt_size e) (I.ok.cab x c hfn hc)))).trans e1⟩
    · by_cases hj:j=i
      · subst hj
        rw [hi] at e1;cases e1
        rw [List.getElem?_set_self hiσ] at e2
        cases e2
        exact ⟨u,r,.inr ⟨.inl hk,c,hc,hc'⟩⟩
      · rw [List.getElem?_set_ne (Ne.symm hj)] at e2
        obtain ⟨u',r',q⟩:=hl j y v' e1 e2 e3
        refine ⟨u',r',?_⟩
        rcases q with q | ⟨k,c',e,z'⟩
        · exact .inl q
        · refine .inr ⟨k,c',e,z'.sameBut hs ?_⟩
          rintro rfl
          exact hj (zaK hN e1 (I.ok.inj _ _ _ e hc ▸ hi))
    · by_cases hcc:c'=c
      · subst hcc;exact ⟨_,hc'⟩
      · obtain ⟨w2,z2⟩:=I.cell y c' e
        exact ⟨w2,z2.sameBut hs hcc⟩
    · obtain ⟨e,n,ne,nf,d⟩:=I.pin p hp
      refine ⟨(hs.2 p.1 ?_).trans e,n,ne,nf,d⟩
      intro q
      rw [q,hoc] at e
      have q':oc=p.2:=Option.some.inj e
      exact d w' (by rw [←q'];exact hocd)
theorem zan {M:Model}{A:Around}{E:Value→Shared→Prop}{i:Nat}{x:Str}{v:V}{u:Value}{Q:Unit→Shared→Prop}(I:Inv X pins σ H s)(hN:X.N.Nodup)(hi:X.N[i]?=some x)(hx:Loc X.env.scope x)(r:xZ v u)
    (h:∀ s',Inv X pins (σ.set i (some v)) H s'→Q () s') (hf:X.fn x=true∨X.env.scope.names.lookup x=some .local:=by first | exact .inl rfl | exact .inr rfl | assumption):wpAny M A (storeName X.env x u) Q E s :=
  zfj I hN hi hx r (fun s' I' _=>h s' I') hf
theorem Inv.call' {s':Shared}{ch:List Addr}(I:Inv X pins σ H s)(ho:s'.os=s.os)(u:Un (frs X.stack) ch H H' s.heap s'.heap)(hok:HOk X.prog X.w H' s'.heap)(hg:AllBare s'.gens)
    (hch:∀ b∈ch,(b∈X.ex∨X.s₀.heap.objs.size≤b)∧b≠X.env.locals∧(∀ x c,X.env.cells.lookup x=some c→c≠b)∧∀ p∈X.pn++pins,p.1≠b):Inv X pins σ H' s':=by
  obtain ⟨h',g',d',t',o'⟩:=s'
  have e:o'=s.os:=ho
  subst e
  exact I.call (g':=g') (t':=t') (d':=d') u hok hg hch
end
abbrev XK:=Value→Option Addr→Hp→Prop
abbrev St:=List (Option V)
abbrev VK:=V→Hp→Prop
abbrev TE:=St→Hp→VK→Prop
abbrev TT:=St→Hp→(Bool→Hp→Prop)→Prop
abbrev TA:=St→Hp→(List V→Hp→Prop)→Prop
structure zbe where
  nx:St→Hp→Prop
  rt:VK
  bk:St→Hp→Prop:=fun _ _=>False
  ct:St→Hp→Prop:=fun _ _=>False
abbrev TS:=zbe→St→Hp→Prop
def EP (X:Cx)(pins:List (Addr × Obj))(σ:St)(Q:VK)(u:Value)(s':Shared):Prop:=∃ v H',Inv X pins σ H' s'∧xZ v u∧Q v H'
def TP (X:Cx)(pins:List (Addr × Obj))(σ:St)(Q:Bool→Hp→Prop)(b:Bool)(s':Shared):Prop:=∃ H',Inv X pins σ H' s'∧Q b H'
def AP (X:Cx)(pins:List (Addr × Obj))(σ:St)(Q:List V→Hp→Prop)(us:List Value)(s':Shared):Prop:=∃ vs H',Inv X pins σ H' s'∧yr vs us∧Q vs H'
def SP (X:Cx)(pins:List (Addr × Obj))(D:zbe)(f:Flow)(s':Shared):Prop :=
  match f with
  | .next=>∃ σ' H',Inv X pins σ' H' s'∧D.nx σ' H'
  | .brk=>∃ σ' H',Inv X pins σ' H' s'∧D.bk σ' H'
  | .cont=>∃ σ' H',Inv X pins σ' H' s'∧D.ct σ' H'
  | .ret u=>∃ v σ' H',Inv X pins σ' H' s'∧xZ v u∧D.rt v H'
def PE (X:Cx)(e:Expr)(t:TE):Prop :=
  ∀ (pins:List (Addr × Obj)) (s:Shared) (σ:St) (H:Hp) (Q:VK),Inv X pins σ H s→t σ H Q→wpAny (model X.prog X.w) X.A (eval e X.env) (EP X pins σ Q) X.xe s
def PT (X:Cx)(e:Expr)(t:TT):Prop :=
  ∀ (pins:List (Addr × Obj)) (s:Shared) (σ:St) (H:Hp) (Q:Bool→Hp→Prop),Inv X pins σ H s→t σ H Q→wpAny (model X.prog X.w) X.A (isTrue e X.env (eval e X.env)) (TP X pins σ Q) X.xe s
def PW (X:Cx)(e:Expr)(t:TT):Prop :=
  ∀ (whole:Sem Value) (pins:List (Addr × Obj)) (s:Shared) (σ:St) (H:Hp) (Q:Bool→Hp→Prop),Inv X pins σ H s→t σ H Q→wpAny (model X.prog X.w) X.A (isTrue e X.env whole) (TP X pins σ Q) X.xe s
theorem PW.pt {X:Cx}{e:Expr}{t:TT}(h:PW X e t):PT X e t:=h _
def PA (X:Cx)(es:List Expr)(t:TA):Prop :=
  ∀ (pos:Pos) (pins:List (Addr × Obj)) (s:Shared) (σ:St) (H:Hp) (Q:List V→Hp→Prop),Inv X pins σ H s→t σ H Q→wpAny (model X.prog X.w) X.A (spliced (backTo pos (starEach es X.env))) (AP X pins σ Q) X.xe s
def PS (X:Cx)(st:Stmt)(t:TS):Prop :=
  ∀ (pins:List (Addr × Obj)) (s:Shared) (σ:St) (H:Hp) (D:zbe),Inv X pins σ H s→t D σ H→wpAny (model X.prog X.w) X.A (exec st X.env) (SP X pins D) X.xe s
def PSs (X:Cx)(st:List Stmt)(t:TS):Prop :=
  ∀ (pins:List (Addr × Obj)) (s:Shared) (σ:St) (H:Hp) (D:zbe),Inv X pins σ H s→t D σ H→wpAny (model X.prog X.w) X.A (execs st X.env) (SP X pins D) X.xe s
theorem thn {α:Type}{t:Sem α}{Q Q':α→Shared→Prop}{M:Model}{A:Around}{E:Value→Shared→Prop}{s:Shared}(h:wpAny M A t Q E s)(hQ:∀ a s,Q a s→Q' a s):wpAny M A t Q' E s:=wpAny_mono h hQ fun _ _ x=>x
end L2
namespace L2
open PySem PySem.Spec PyProof.Rows
section
variable {X:Cx}
theorem bin {a b:Expr}{ta tb:TE}(ha:PE X a ta)(hb:PE X b tb){pins:List (Addr × Obj)}{s:Shared}{σ:St}{H:Hp}{R:V→V→Hp→Prop}(I:Inv X pins σ H s)(h:ta σ H fun x H1=>tb σ H1 fun y H2=>R x y H2)
    {α:Type} {Q:α→Shared→Prop} {f:Value→Value→Sem α}
    (hf:∀ v u s2 x y H2,Inv X pins σ H2 s2→xZ x v→xZ y u→R x y H2→wpAny (model X.prog X.w) X.A (f v u) Q X.xe s2) :
    wpAny (model X.prog X.w) X.A (eval a X.env) (fun v s₁=>wpAny (model X.prog X.w) X.A (eval b X.env) (fun u s₂=>wpAny (model X.prog X.w) X.A (f v u) Q X.xe s₂) X.xe s₁) X.xe s:=by
  refine thn (ha pins s σ H _ I h) fun v s1 hh9=>?_
  obtain ⟨x,H1,I1,r1,q1⟩:=hh9
  refine thn (hb pins s1 σ H1 _ I1 q1) fun u s2 hh9=>?_
  obtain ⟨y,H2,I2,r2,q2⟩:=hh9
  exact hf v u s2 x y H2 I2 r1 r2 q2
def zb0 (i:Nat):TE:=fun σ H Q=>∃ v,σ[i]?=some (some v)∧Q v H
def tC (v:V):TE:=fun _ H Q=>Q v H
theorem zkt {i:Nat} {x:Str} {pos:Pos} (hN:X.N[i]?=some x) (hv:Vis X.env.scope x) (hd:(x == ("__debug__":Str))=false:=by decide) (hcd:(x == ("__classdict__":Str))=false:=by decide):PE X (.Name x pos) (zb0 i):=by
  intro pins s σ H Q I h
  obtain ⟨v,e,h⟩:=h
  obtain ⟨m,hn,hl⟩:=I.loc
  obtain ⟨u,r,l⟩:=hl i x v hN e hv
  have fin:EP X pins σ Q u s:=⟨v,H,I,r,h⟩
  rcases l with ⟨hk,hm⟩ | ⟨hk,c,hc,hcell⟩
  · exact wpAny_Name (wpAny_loadName_local I.ok.kind hk hn hm fin) hd
  · rcases hk with hk | hk
    · exact wpAny_Name (wpAny_loadName_cell I.ok.kind hk hc hcell fin) hd
    · exact wpAny_Name (wpAny_loadName_free I.ok.kind hk hc hcell fin hcd) hd
theorem ze {i j pos}:PE X (.Constant (.int i) j pos) (tC (.int i)):=fun _ _ _ H _ I h=>wpAny_Constant_int ⟨.int i,H,I.tok _,⟨_,rfl⟩,h⟩
theorem vZ {b j pos}:PE X (.Constant (.bool b) j pos) (tC (.bl b)):=fun _ _ _ H _ I h=>Constant_bool ⟨.bl b,H,I,rfl,h⟩
theorem zbJ {j pos}:PE X (.Constant .none j pos) (tC .non):=fun _ _ _ H _ I h=>Constant_none ⟨.non,H,I,rfl,h⟩
theorem zfu {x j pos}:PE X (.Constant (.str x) j pos) (tC (.str x)):=fun _ _ _ H _ I h=>Calls.Constant_str ⟨.str x,H,I.tok _,⟨_,rfl⟩,h⟩
def Gl (X:Cx)(x:Str):Prop:=X.env.kindOf x=some .globalImplicit
theorem WP {E:Value→Shared→Prop}{pins:List (Addr × Obj)}{s:Shared}{σ:St}{H:Hp}{x:Str}{u:Value}{pos:Pos}{Q:Value→Shared→Prop}(I:Inv X pins σ H s)(hg:Gl X x)(hm:X.mg x=some u)(h:Q u s)
    (hd:(x == ("__debug__":Str))=false:=by decide):wpAny (model X.prog X.w) X.A (eval (.Name x pos) X.env) Q E s :=
  Calls.Name_function_global I.ok.kind hg (Calls.loadGlobal_global (by rw [I.ok.glob];exact I.mod.glob.keeps I.bk) hm h) hd
theorem Z2 {E:Value→Shared→Prop}{pins:List (Addr × Obj)}{s:Shared}{σ:St}{H:Hp}{x:Str}{u:Value}{pos:Pos}{Q:Value→Shared→Prop}(I:Inv X pins σ H s)(hg:Gl X x)(hm:X.mg x=none)(hv:bootBuiltins x=some u)(h:Q u s)
    (hn:x≠"__name__":=by decide) (hd:(x == ("__debug__":Str))=false:=by decide):wpAny (model X.prog X.w) X.A (eval (.Name x pos) X.env) Q E s:=by
  obtain ⟨mb,h1,h2⟩:=I.mod.blt
  exact Calls.Name_function_global I.ok.kind hg (Calls.loadGlobal_builtin (by rw [I.ok.glob];exact I.mod.glob.keeps I.bk) hm (by rw [I.ok.blt];exact h1.keeps I.bk) ((h2 x hn).trans hv) h) hd
theorem xq {x:Str} {v:V} {u:Value} {pos:Pos} (hg:Gl X x) (hm:X.mg x=some u) (r:xZ v u) (hd:(x == ("__debug__":Str))=false:=by decide):PE X (.Name x pos) (tC v) :=
  fun _ _ _ H _ I h=>WP I hg hm ⟨v,H,I,r,h⟩ hd
theorem wx {x:Str} {v:V} {u:Value} {pos:Pos} (hg:Gl X x) (hm:X.mg x=none) (hv:bootBuiltins x=some u) (r:xZ v u) (hn:x≠"__name__":=by decide) (hd:(x == ("__debug__":Str))=false:=by decide):PE X (.Name x pos) (tC v) :=
  fun _ _ _ H _ I h=>Z2 I hg hm hv ⟨v,H,I,r,h⟩ hn hd
variable {a b:Expr}{ta tb:TE}{pos:Pos}
def PC (X:Cx)(op:CmpOp)(a b:Expr)(t:TE):Prop :=
  ∀ (pins:List (Addr × Obj)) (s:Shared) (σ:St) (H:Hp) (Q:VK),Inv X pins σ H s→t σ H Q →
    wpAny (model X.prog X.w) X.A (eval a X.env) (fun v s₁=>wpAny (model X.prog X.w) X.A (eval b X.env) (fun u s₂=>wpAny (model X.prog X.w) X.A (compareOp op v u) (EP X pins σ Q) X.xe s₂) X.xe s₁) X.xe s
theorem zgF (b:Expr){op:CmpOp}(h:op≠.In)(h2:op≠.NotIn):behindInMarks op b=false:=by
  have e1:(op == CmpOp.In)=false:=by cases op <;> first | rfl | exact absurd rfl h
  have e2:(op == CmpOp.NotIn)=false:=by cases op <;> first | rfl | exact absurd rfl h2
  cases b <;> simp [behindInMarks,e1,e2]
def tB (t:TE):TT:=fun σ H Q=>t σ H fun x H1=>∃ c,x=.bl c∧Q c H1
theorem pt_cmp {op:CmpOp}{t:TE}(h:PC X op a b t)(h1:behindInMarks op b=false:=by first | exact zgF _ (by decide) (by decide) | rfl):PT X (.Compare a [op] [b] pos) (tB t):=by
  intro pins s σ H Q I hw
  refine wpAny_isTrue_Compare1 (thn (h pins s σ H _ I hw) fun v s1 h1=>thn h1 fun u s2 h2=>thn h2 fun c s3 hh9=>?_) h1
  obtain ⟨x,H1,I1,r1,q1⟩:=hh9
  obtain ⟨d,rfl,q⟩:=q1
  cases r1
  exact wpAny_truthy_bool ⟨H1,I1,q⟩
theorem zh1 {e:Expr}{t:TE}(h:PE X e t)(he:∀ whole,isTrue e X.env whole=(do let v←whole;standAt e.pos;holding [v] (truthy v)):=by intro _;rfl):PT X e (tB t):=by
  intro pins s σ H Q I hw
  refine isTrue_plain (thn (h pins s σ H _ I hw) fun v s1 hh9=>?_) (he _)
  obtain ⟨x,H1,I1,r1,q1⟩:=hh9
  obtain ⟨d,rfl,q⟩:=q1
  cases r1
  exact wpAny_truthy_bool ⟨H1,I1,q⟩
variable {tA tB':TT}{rest:List Expr}
def tAnd (t u:TT):TT:=fun σ H Q=>t σ H fun c H1=>if c=true then u σ H1 Q else Q false H1
def tOr (t u:TT):TT:=fun σ H Q=>t σ H fun c H1=>if c=true then Q true H1 else u σ H1 Q
def tNot (t:TT):TT:=fun σ H Q=>t σ H fun c H1=>Q (!c) H1
theorem zi5 (ha:PT X a tA):PW X (.BoolOp .And [a] pos) tA:=by
  intro wh pins s σ H Q I h
  refine isTrue_and (thn (ha pins s σ H Q I h) fun c s1 e=>?_)
  cases c with
  | true=>exact isTrue_and_nil e
  | false=>exact e
theorem zii (ha:PT X a tA):PW X (.BoolOp .Or [a] pos) tA:=by
  intro wh pins s σ H Q I h
  refine isTrue_or (thn (ha pins s σ H Q I h) fun c s1 e=>?_)
  cases c with
  | false=>exact isTrue_or_nil e
  | true=>exact e
theorem zke (ha:PT X a tA)(hb:PW X (.BoolOp .And (b::rest) pos) tB'):PW X (.BoolOp .And (a::b::rest) pos) (tAnd tA tB'):=by
  intro wh pins s σ H Q I h
  refine isTrue_and (thn (ha pins s σ H _ I h) fun c s1 hh9=>?_)
  obtain ⟨H1,I1,q1⟩:=hh9
  cases c with
  | true=>exact hb wh pins s1 σ H1 Q I1 q1
  | false=>exact ⟨H1,I1,q1⟩
theorem zj0 (ha:PT X a tA)(hb:PW X (.BoolOp .Or (b::rest) pos) tB'):PW X (.BoolOp .Or (a::b::rest) pos) (tOr tA tB'):=by
  intro wh pins s σ H Q I h
  refine isTrue_or (thn (ha pins s σ H _ I h) fun c s1 hh9=>?_)
  obtain ⟨H1,I1,q1⟩:=hh9
  cases c with
  | true=>exact ⟨H1,I1,q1⟩
  | false=>exact hb wh pins s1 σ H1 Q I1 q1
theorem zh7 (ha:PT X a tA):PT X (.UnaryOp .Not a pos) (tNot tA):=by
  intro pins s σ H Q I h
  exact isTrue_not (ha pins s σ H (fun c H1=>Q (!c) H1) I h)
def zmf (ta tb:TE):TE:=fun σ H Q=>ta σ H fun x H1=>∃ c,x=.bl c∧if c=true then tb σ H1 Q else Q (.bl false) H1
def zlZ (ta:TE):TE:=fun σ H Q=>ta σ H fun x H1=>∃ c,x=.bl c∧Q (.bl (!c)) H1
theorem zkP {op}{t:TE}(h:PE X a t):PE X (.BoolOp op [a] pos) t:=fun pins s σ H Q I hw=>BoolOp_one (h pins s σ H Q I hw)
theorem zkw (ha:PE X a ta)(hb:PE X (.BoolOp .And (b::rest) pos) tb):PE X (.BoolOp .And (a::b::rest) pos) (zmf ta tb):=by
  intro pins s σ H Q I h
  refine BoolOp_and (thn (ha pins s σ H _ I h) fun v s1 hh9=>?_)
  obtain ⟨x,H1,I1,r1,q1⟩:=hh9
  obtain ⟨c,rfl,q1⟩:=q1
  cases r1
  refine wpAny_truthy_bool ?_
  cases c with
  | true=>exact hb pins s1 σ H1 Q I1 q1
  | false=>exact ⟨.bl false,H1,I1,rfl,q1⟩
theorem zk5 (ha:PE X a ta):PE X (.UnaryOp .Not a pos) (zlZ ta):=by
  intro pins s σ H Q I h
  refine UnaryOp_ (thn (ha pins s σ H _ I h) fun v s1 hh9=>?_)
  obtain ⟨x,H1,I1,r1,q1⟩:=hh9
  obtain ⟨c,rfl,q1⟩:=q1
  cases r1
  exact not_of (wpAny_truthy_bool ⟨.bl (!c),H1,I1,rfl,q1⟩)
end
end L2
namespace L2
open PySem PySem.Spec PyProof.Rows
def SqL (K:PySem.W.Frag)(H:Hp)(a:Addr)(xs:List V):Prop :=
  Rd H a (.lst xs) ∨
    ∃ (o:Obj) (its:Array Value) (n:Nat),K.lookup a=some o∧o.cls=.type "list"∧o.dict=none∧o.data=.seq its n∧its.size≤sizeLine∧yr xs its.toList
def SqT (K:PySem.W.Frag)(H:Hp)(a:Addr)(xs:List V):Prop :=
  Rd H a (.tup xs) ∨
    ∃ (o:Obj) (its:Array Value) (n:Nat),K.lookup a=some o∧o.cls=.type "tuple"∧o.data=.seq its n∧its.size≤sizeLine∧yr xs its.toList
def absV:Value→Option V
  | .none=>some .non
  | .bool b=>some (.bl b)
  | .int i _=>some (.int i)
  | .str x _=>some (.str x)
  | .bytes b _=>some (.byt b)
  | .float b _=>some (.flt b)
  | .ref a=>some (.ref a)
  | .type n=>some (.ty n)
  | _=>none
theorem xZ.abs {x:V}{u:Value}(r:xZ x u):absV u=some x:=by
  cases x with
  | non=>cases r;rfl
  | bl _=>cases r;rfl
  | int _=>obtain ⟨t,rfl⟩:=r;rfl
  | str _=>obtain ⟨t,rfl⟩:=r;rfl
  | byt _=>obtain ⟨t,rfl⟩:=r;rfl
  | flt _=>obtain ⟨t,rfl⟩:=r;rfl
  | ref _=>cases r;rfl
  | ty _=>cases r;rfl
theorem xZ.inj {x y:V}{u:Value}(r:xZ x u)(q:xZ y u):x=y:=Option.some.inj (r.abs.symm.trans q.abs)
theorem yr.inj:∀ {xs ys:List V} {us:List Value},yr xs us→yr ys us→xs=ys:=by
  intro xs ys us h
  induction h generalizing ys with
  | nil=>intro h2;cases h2;rfl
  | cons r t ih=>intro h2;cases h2 with | cons r' t'=>rw [r.inj r',ih t']
section
variable {X:Cx}{pins:List (Addr × Obj)}{σ:St}{H:Hp}{s:Shared}{a:Addr}{xs ys:List V}
theorem SqL.of {K:PySem.W.Frag}(h:H a=some (.lst xs)):SqL K H a xs:=.inl (.inl h)
theorem SqT.of {K:PySem.W.Frag}(h:H a=some (.tup xs)):SqT K H a xs:=.inl (.inl h)
theorem Inv.list (I:Inv X pins σ H s)(h:SqL X.K H a xs):∃ its:List Value,yr xs its∧PlainL s.heap a its.toArray∧xs.length≤sizeLine:=by
  rcases h with h | ⟨o,its,n,hk,hc,hd,hs,hz,r⟩
  · obtain ⟨z,its,n,r,e⟩:=h.ok I.hok
    exact ⟨its,r,⟨_,n,e,rfl,rfl,rfl⟩,z⟩
  · refine ⟨its.toList,r,⟨o,n,I.kIn a o hk,hc,hd,by simpa using hs⟩,?_⟩
    have e:=r.length
    simp only [Array.length_toList] at e
    omega
theorem Inv.tuple (I:Inv X pins σ H s)(h:SqT X.K H a xs):∃ its:List Value,yr xs its∧IsTup s.heap a its.toArray∧xs.length≤sizeLine:=by
  rcases h with h | ⟨o,its,n,hk,hc,hs,hz,r⟩
  · obtain ⟨z,its,r,p⟩:=h.ok I.hok
    exact ⟨its,r,p,z⟩
  · refine ⟨its.toList,r,⟨o,I.kIn a o hk,hc,n,by simpa using hs⟩,?_⟩
    have e:=r.length
    simp only [Array.length_toList] at e
    omega
theorem Inv.list_inj (I:Inv X pins σ H s)(h:SqL X.K H a xs)(h':SqL X.K H a ys):xs=ys:=by
  obtain ⟨its,r,⟨o,n,e,_,_,d⟩,_⟩:=I.list h
  obtain ⟨its',r',⟨o',n',e',_,_,d'⟩,_⟩:=I.list h'
  rw [e] at e';cases e'
  rw [d] at d'
  injection d' with d1 _
  have:its=its':=by simpa using congrArg Array.toList d1
  subst this
  exact r.inj r'
theorem Inv.tuple_inj (I:Inv X pins σ H s)(h:SqT X.K H a xs)(h':SqT X.K H a ys):xs=ys:=by
  obtain ⟨its,r,⟨o,e,_,n,d⟩,_⟩:=I.tuple h
  obtain ⟨its',r',⟨o',e',_,n',d'⟩,_⟩:=I.tuple h'
  rw [e] at e';cases e'
  rw [d] at d'
  injection d' with d1 _
  have:its=its':=by simpa using congrArg Array.toList d1
  subst this
  exact r.inj r'
end
abbrev Cx.wish (X:Cx)(E:Value→Shared→Prop):Cx:={ X with xe:=E }
abbrev Cx.nox (X:Cx):Cx:=X.wish fun _ _=>False
theorem Cx.Ok.wish {X:Cx}(ok:X.Ok)(E:Value→Shared→Prop):(X.wish E).Ok :=
  ⟨ok.mod,ok.kind,ok.glob,ok.blt,ok.above,ok.inj,ok.has,ok.cab,ok.hd,ok.frames,ok.stk,ok.exf,ok.bs,ok.bsz,ok.noex,ok.exfs,ok.funs,ok.frf⟩
theorem Cx.Ok.unwish {X:Cx}{E:Value→Shared→Prop}(ok:(X.wish E).Ok):X.Ok :=
  ⟨ok.mod,ok.kind,ok.glob,ok.blt,ok.above,ok.inj,ok.has,ok.cab,ok.hd,ok.frames,ok.stk,ok.exf,ok.bs,ok.bsz,ok.noex,ok.exfs,ok.funs,ok.frf⟩
section
variable {X:Cx}{pins:List (Addr × Obj)}{σ:St}{H:Hp}{s:Shared}{E:Value→Shared→Prop}
theorem Inv.wish (I:Inv X pins σ H s)(E:Value→Shared→Prop):Inv (X.wish E) pins σ H s:=⟨I.ok.wish E,I.os,I.bare,I.base,I.loc,I.cell,I.free,I.freeC,I.pin,I.hok,I.len⟩
theorem Inv.unwish (I:Inv (X.wish E) pins σ H s):Inv X pins σ H s:=⟨I.ok.unwish,I.os,I.bare,I.base,I.loc,I.cell,I.free,I.freeC,I.pin,I.hok,I.len⟩
theorem SP.unwish {D:zbe}{f:Flow}{s':Shared}(h:SP (X.wish E) pins D f s'):SP X pins D f s':=by
  cases f with
  | next=>obtain ⟨σ',H',I,q⟩:=h;exact ⟨σ',H',I.unwish,q⟩
  | brk=>obtain ⟨σ',H',I,q⟩:=h;exact ⟨σ',H',I.unwish,q⟩
  | cont=>obtain ⟨σ',H',I,q⟩:=h;exact ⟨σ',H',I.unwish,q⟩
  | ret u=>obtain ⟨v,σ',H',I,r,q⟩:=h;exact ⟨v,σ',H',I.unwish,r,q⟩
theorem PSs.nox {st:List Stmt}{t:TS}(h:PSs X.nox st t):PSs X st t:=fun pins s σ H D I hw =>
  wpAny_mono (h pins s σ H D (I.wish _) hw) (fun _ _ q=>q.unwish) fun _ _ z=>False.elim z
end
section
variable {X:Cx}{st:Stmt}{rest:List Stmt}{t u:TS}{e:Expr}{te:TE}{pos:Pos}
def zkm:TS:=fun D σ H=>D.nx σ H
def tSeq (t u:TS):TS:=fun D σ H=>t { D with nx:=u D } σ H
theorem zfp:PSs X [] zkm:=fun _ _ σ H _ I h=>wpAny_execs_nil ⟨σ,H,I,h⟩
theorem vn (h1:PS X st t)(h2:PSs X rest u):PSs X (st::rest) (tSeq t u):=by
  intro pins s σ H D I h
  refine wpAny_execs_cons (thn (h1 pins s σ H { D with nx:=u D } I h) fun f s1 q=>?_)
  cases f with
  | next =>
    obtain ⟨σ',H',I',q⟩:=q
    exact h2 pins s1 σ' H' D I' q
  | ret v=>exact q
  | brk=>exact q
  | cont=>exact q
theorem Xy (h1:PS X st t):PSs X [st] t:=by
  intro pins s σ H D I h
  refine wpAny_execs_cons (thn (h1 pins s σ H D I h) fun f s1 q=>?_)
  cases f with
  | next=>exact wpAny_execs_nil q
  | ret v=>exact q
  | brk=>exact q
  | cont=>exact q
theorem Inv.quiet {pins:List (Addr × Obj)}{σ:St}{H:Hp}{s:Shared}(I:Inv X pins σ H s):interactive X.env=false:=by simp [interactive,I.ok.kind]
def zl7 (te:TE):TS:=fun D σ H=>te σ H fun _ H1=>D.nx σ H1
theorem WS (he:PE X e te)(hs:swapsWith e none pos.line X.env=pure false:=by rfl):PS X (.Expr e pos) (zl7 te):=by
  intro pins s σ H D I h
  exact wpAny_Expr_any (thn (he pins s σ H _ I h) fun v s1 ⟨x,H1,I1,r1,q1⟩=>⟨σ,H1,I1,q1⟩) I.quiet hs
def zl4 (te:TE):TS:=fun D σ H=>te σ H D.rt
theorem zaZ (he:PE X e te):PS X (.Return (some e) pos) (zl4 te):=by
  intro pins s σ H D I h
  exact wpAny_Return_some (thn (he pins s σ H _ I h) fun v s1 ⟨x,H1,I1,r1,q1⟩=>⟨x,σ,H1,I1,r1,q1⟩)
def tIfS (c:TT)(t u:TS):TS:=fun D σ H=>c σ H fun b H1=>if b=true then t D σ H1 else u D σ H1
theorem zit {c:Expr}{a b:List Stmt}{tc:TT}(hc:PT X c tc)(ha:PSs X a t)(hb:PSs X b u):PS X (.If c a b pos) (tIfS tc t u):=by
  intro pins s σ H D I h
  refine wpAny_If (thn (hc pins s σ H _ I h) fun d s1 hh9=>?_)
  obtain ⟨H1,I1,q1⟩:=hh9
  cases d with
  | true=>exact ha pins s1 σ H1 D I1 q1
  | false=>exact hb pins s1 σ H1 D I1 q1
def zjV:TS:=fun _ _ _=>False
theorem zc4:PS X st zjV:=fun _ _ _ _ _ _ h=>h.elim
end
abbrev TG:=V→St→Hp→(St→Hp→Prop)→Prop
abbrev TGs:=List V→St→Hp→(St→Hp→Prop)→Prop
def PG (X:Cx)(target:Expr)(t:TG):Prop :=
  ∀ (pins:List (Addr × Obj)) (s:Shared) (σ:St) (H:Hp) (v:V) (u:Value) (Q:St→Hp→Prop),Inv X pins σ H s→xZ v u→t v σ H Q →
    wpAny (model X.prog X.w) X.A (assign target X.env u) (fun _ s'=>∃ σ' H',Inv X pins σ' H' s'∧Q σ' H') X.xe s
def PGs (X:Cx)(ts:List Expr)(t:TGs):Prop :=
  ∀ (pins:List (Addr × Obj)) (s:Shared) (σ:St) (H:Hp) (vs:List V) (us:List Value) (Q:St→Hp→Prop),Inv X pins σ H s→yr vs us→t vs σ H Q →
    wpAny (model X.prog X.w) X.A (assignInOrder ((assignEach ts X.env).map (·.2)) us) (fun _ s'=>∃ σ' H',Inv X pins σ' H' s'∧Q σ' H') X.xe s
abbrev zlM:=V→V→V→Hp→(Hp→Prop)→Prop
def PSet (X:Cx)(t:zlM):Prop :=
  ∀ (pins:List (Addr × Obj)) (s:Shared) (σ:St) (H:Hp) (o i v:V) (ov iv u:Value) (Q:Hp→Prop),Inv X pins σ H s→xZ o ov→xZ i iv→xZ v u→t o i v H Q →
    wpAny (model X.prog X.w) X.A (setItem ov iv u) (fun _ s'=>∃ H',Inv X pins σ H' s'∧Q H') X.xe s
section
variable {X:Cx}{pos:Pos}
def Y7 (i:Nat):TG:=fun v σ H Q=>Q (σ.set i (some v)) H
theorem zw {i:Nat}{x:Str}(hN:X.N.Nodup)(hi:X.N[i]?=some x)(hx:Loc X.env.scope x)(hf:X.fn x=true∨X.env.scope.names.lookup x=some .local:=by first | exact .inl rfl | exact .inr rfl | assumption):PG X (.Name x pos) (Y7 i):=by
  intro pins s σ H v u Q I r h
  exact wpAny_assign_Name (zan I hN hi hx r (fun s' I'=>⟨_,H,I',h⟩) hf)
def zly:TGs:=fun vs σ H Q=>vs=[]∧Q σ H
def zcd (t:TG)(u:TGs):TGs:=fun vs σ H Q=>∃ v r,vs=v::r∧t v σ H fun σ' H'=>u r σ' H' Q
theorem zcG:PGs X [] zly:=by
  intro pins s σ H vs us Q I r h
  obtain ⟨e,h⟩:=h
  subst e
  cases r
  exact assignInOrder_nil ⟨σ,H,I,h⟩
theorem Xi {e:Expr}{es:List Expr}{t:TG}{u:TGs}(h1:PG X e t)(h2:PGs X es u)
    (hs:(assignEach (e::es) X.env).map (·.2)=assign e X.env::(assignEach es X.env).map (·.2):=by rfl):PGs X (e::es) (zcd t u):=by
  intro pins s σ H vs us Q I r h
  obtain ⟨v,vr,e1,h⟩:=h
  subst e1
  cases r with
  | cons r rr =>
    rw [hs]
    refine assignInOrder_cons (thn (h1 pins s σ H _ _ _ I r h) fun _ s1 hh9=>?_)
    obtain ⟨σ1,H1,I1,q1⟩:=hh9
    exact h2 pins s1 σ1 H1 _ _ Q I1 rr q1
def zlw (K:PySem.W.Frag)(n:Nat)(t:TGs):TG:=fun v σ H Q=>∃ a xs,v=.ref a∧SqT K H a xs∧xs.length=n∧t xs σ H Q
theorem zfc {es:List Expr}{k:Nat}{t:TGs}{n:Nat}(hc:X.calm=true)(h:PGs X es t)
    (hn:(assignEach es X.env).length=n:=by rfl) (hst:(assignEach es X.env).findIdx? (·.1)=none:=by rfl):PG X (.Tuple es k pos) (zlw X.K n t):=by
  intro pins s σ H v u Q I r hw
  obtain ⟨a,xs,e1,hq,hl,hw⟩:=hw
  subst e1
  cases r
  obtain ⟨its,rv,ht,hz⟩:=I.tuple hq
  refine assign_Tuple_tuple (I.ok.hd hc) ht (by simp [hn,← hl,rv.length]) hst fun h' hx=>?_
  have I1:Inv X pins σ H { s with heap:=h' }:=I.kept (t':=s.toks) fun b o e=>hx b o (Nat.ne_of_lt (Heap.lt_size e)) e
  exact h pins _ σ H xs _ Q I1 (by simpa using rv) hw
def gSub (to ti:TE)(t:zlM):TG:=fun v σ H Q=>to σ H fun o H1=>ti σ H1 fun i H2=>t o i v H2 fun H3=>Q σ H3
theorem zkJ {o i:Expr}{to ti:TE}{t:zlM}(ho:PE X o to)(hi:PE X i ti)(hs:PSet X t)
    (ha:∀ v,assign (.Subscript o i pos) X.env v=(do
      let ov←holding [v] (eval o X.env)
      let iv←holding [v,ov] (eval i X.env)
      standAt pos
      holding [v,ov,iv] (setItem ov iv v)
      release [v,ov,iv] []):=by intro _;rfl):PG X (.Subscript o i pos) (gSub to ti t):=by
  intro pins s σ H v u Q I r h
  rw [ha]
  refine wpAny_bind (wpAny_holding (thn (ho pins s σ H _ I h) fun ov s1 hh9=>?_))
  obtain ⟨x,H1,I1,r1,q1⟩:=hh9
  refine wpAny_bind (wpAny_holding (thn (hi pins s1 σ H1 _ I1 q1) fun iv s2 hh9=>?_))
  obtain ⟨y,H2,I2,r2,q2⟩:=hh9
  refine wpAny_bind (wpAny_standAt (wpAny_bind (wpAny_holding (thn (hs pins s2 σ H2 x y v ov iv u _ I2 r1 r2 r q2) fun _ s3 hh9=>?_))))
  obtain ⟨H3,I3,q3⟩:=hh9
  exact wpAny_release ⟨σ,H3,I3,q3⟩
def zi8 (te:TE)(g:TG):TS:=fun D σ H=>te σ H fun x H1=>g x σ H1 D.nx
theorem zkB {tg e:Expr}{te:TE}{g:TG}(he:PE X e te)(hg:PG X tg g)(hs:swapsWithSole [tg] e pos.line X.env=pure false:=by rfl)(hw:swappedStores [tg] e X.env=pure none:=by rfl)
    (h1:(assignEach [tg] X.env).map (·.2)=[assign tg X.env]:=by rfl):PS X (.Assign [tg] e pos) (zi8 te g):=by
  intro pins s σ H D I h
  refine wpAny_Assign_stores (thn (he pins s σ H _ I h) fun v s1 hh9=>?_) hs hw
  obtain ⟨x,H1,I1,r1,q1⟩:=hh9
  rw [h1]
  exact thn (hg pins s1 σ H1 x v _ I1 r1 q1) fun _ s2 q=>q
theorem VO {i:Nat}{x:Str}{e:Expr}{te:TE}{pos':Pos}(hN:X.N.Nodup)(hi:X.N[i]?=some x)(hx:Loc X.env.scope x)(he:PE X e te)(hs:swapsWith e (some (.Name x pos')) pos.line X.env=pure false:=by rfl)(hf:X.fn x=true∨X.env.scope.names.lookup x=some .local:=by first | exact .inl rfl | exact .inr rfl | assumption) :
    PS X (.Assign [.Name x pos'] e pos) (zi8 te (Y7 i)):=by
  intro pins s σ H D I h
  refine wpAny_Assign_Name (thn (he pins s σ H _ I h) fun v s1 hh9=>?_) hs
  obtain ⟨y,H1,I1,r1,q1⟩:=hh9
  exact zan I1 hN hi hx r1 (fun s2 I2=>⟨_,H1,I2,q1⟩) hf
end
section
variable {X:Cx}{pos:Pos}
def zjS (c:TT)(tb:TS):TS:=fun D σ H=>∃ W:Nat→St→Hp→Prop,(∃ m,W m σ H)∧∀ m σ H,W m σ H →
  c σ H fun b H1=>if b=true then ∃ N:St→Hp→Prop,(∀ σ' H',N σ' H'→∃ m',m' < m∧W m' σ' H')∧tb { D with nx:=N,ct:=N,bk:=D.nx } σ H1 else D.nx σ H1
theorem zgY {c:Expr}{body:List Stmt}{tc:TT}{tb:TS}(hp:PassesOwn (model X.prog X.w) X.A X.env X.xe)(hc:PT X c tc)(hb:PSs X body tb):PS X (.While c body [] pos) (zjS tc tb):=by
  intro pins s σ H D I h
  obtain ⟨W,⟨m0,w0⟩,turn⟩:=h
  refine wpAny_While (codeAny_whileLoop (fun n s'=>∃ σ' H',Inv X pins σ' H' s'∧W n σ' H') ?_ m0 ⟨σ,H,I,w0⟩)
  rintro n s1 ⟨σ1,H1,I1,w1⟩
  refine wpAny_passesOwn hp (thn (hc pins s1 σ1 H1 _ I1 (turn n σ1 H1 w1)) fun b s2 hh9=>?_)
  obtain ⟨H2,I2,q2⟩:=hh9
  cases b with
  | true =>
    obtain ⟨N,hN,q2⟩:=q2
    rw [if_pos rfl]
    refine wpAny_passesOwn hp (thn (hb pins s2 σ1 H2 _ I2 q2) fun f s3 q3=>?_)
    cases f with
    | next =>
      obtain ⟨σ3,H3,I3,n3⟩:=q3
      obtain ⟨m',hm,w3⟩:=hN σ3 H3 n3
      exact ⟨m',hm,σ3,H3,I3,w3⟩
    | cont =>
      obtain ⟨σ3,H3,I3,n3⟩:=q3
      obtain ⟨m',hm,w3⟩:=hN σ3 H3 n3
      exact ⟨m',hm,σ3,H3,I3,w3⟩
    | brk=>exact q3
    | ret v=>exact q3
  | false =>
    rw [if_neg Bool.false_ne_true]
    exact wpAny_execs_nil ⟨σ1,H2,I2,q2⟩
end
structure It where
  go:Nat→Hp→Prop
  yld:Nat→Hp→V→Hp→Prop
  stop:Nat→Hp→Prop
def zbR (X:Cx)(pins:List (Addr × Obj))(H:Hp)(b:Addr):Prop :=
  H b=none∧b≠X.env.locals∧b∉X.fs∧(b∈X.ex∨X.s₀.heap.objs.size≤b)∧(∀ x c,X.env.cells.lookup x=some c→c≠b)∧∀ p∈X.pn++pins,p.1≠b
theorem Inv.fpOk {X:Cx}{pins:List (Addr × Obj)}{σ:St}{H H':Hp}{s:Shared}{b:Addr}(I:Inv X pins σ H s)(hb:s.heap.objs.size≤b)(hn:H' b=none):zbR X pins H' b:=by
  refine ⟨hn,Nat.ne_of_gt (Nat.lt_of_lt_of_le I.lt hb),I.nofs hb,.inr (Nat.le_trans I.sz hb),fun x c e z=>?_,fun p hp z=>?_⟩
  · obtain ⟨v,q⟩:=I.cell x c e
    exact absurd (Nat.lt_of_lt_of_le q.lt (by rw [z];exact hb)) (Nat.lt_irrefl _)
  · exact absurd (Nat.lt_of_lt_of_le (Heap.lt_size (I.pin p hp).1) (by rw [z];exact hb)) (Nat.lt_irrefl _)
set_option genInjectivity false in
set_option genSizeOf false in
set_option genCtorIdx false in
structure ziR (P:Program) (w:World) (K:PySem.W.Frag) (tg:Expr) (J:It) (fp:List Addr) (it:Addr) (tn:Nat→Heap→Prop):Prop where
  mem:it∈fp
  obj:∀ i h,tn i h→∀ b∈fp,∃ o,h.get? b=some o∧∀ v,o.data≠.cell v
  keep:∀ i h h',tn i h→(∀ b∈fp,∀ o,h.get? b=some o→h'.get? b=some o)→tn i h'
  item:∀ (X:Cx),X.prog=P→X.w=w→X.K=K→X.calm=true→∀ (i:Nat) (pins:List (Addr × Obj)) (s:Shared) (σ:St) (H:Hp) (E:Value→Shared→Prop),Inv X pins σ H s→(∀ b∈fp,zbR X pins H b)→tn i s.heap→J.go i H →
    wpAny (model P w) X.A (pyNext (.ref it)) (fun r s1=>∃ u,r=some u ∧
      wpAny (model P w) X.A (letOwnedTupleGo tg (.ref it) u) (fun _ s2=>∃ x H',Inv X pins σ H' s2∧xZ x u∧J.yld i H x H'∧tn (i+1) s2.heap∧∀ b∈fp,H' b=none) E s1) E s
  done:∀ (X:Cx),X.prog=P→X.w=w→X.K=K→X.calm=true→∀ (i:Nat) (pins:List (Addr × Obj)) (s:Shared) (σ:St) (H:Hp) (E:Value→Shared→Prop),Inv X pins σ H s→(∀ b∈fp,zbR X pins H b)→tn i s.heap→J.stop i H →
    wpAny (model P w) X.A (pyNext (.ref it)) (fun r s1=>r=none∧Inv X pins σ H s1) E s
  self:∀ (A:Around) (i:Nat) (s:Shared) (Q:Value→Shared→Prop) (E:Value→Shared→Prop),tn i s.heap→Q (.ref it) s→wpAny (model P w) A (pyIter (.ref it)) Q E s
abbrev TI:=St→Hp→(It→Hp→Prop)→Prop
def PIE (X:Cx)(pins:List (Addr × Obj))(σ:St)(tg:Expr)(R:It→Hp→Prop)(itv:Value)(s2:Shared):Prop :=
  ∃ (it:Addr) (fp:List Addr) (tn:Nat→Heap→Prop) (J:It) (H':Hp),itv=.ref it∧Inv X pins σ H' s2∧ziR X.prog X.w X.K tg J fp it tn∧tn 0 s2.heap∧(∀ b∈fp,zbR X pins H' b)∧R J H'
def PI (X:Cx)(tg iter:Expr)(wi:TI):Prop :=
  ∀ (pins:List (Addr × Obj)) (s:Shared) (σ:St) (H:Hp) (R:It→Hp→Prop),Inv X pins σ H s→wi σ H R →
    wpAny (model X.prog X.w) X.A (eval iter X.env) (fun v s1=>wpAny (model X.prog X.w) X.A (pyIter v) (PIE X pins σ tg R) X.xe s1) X.xe s
theorem ziT {M:Model}{A:Around}{E:Value→Shared→Prop}{s:Shared}{tg:Expr}{it:Addr}{u:Value}{o:Obj}{n:String}{vs:Array Value}{Q:Unit→Shared→Prop}(ho:s.heap.get? it=some o)(hc:o.cls=.type n)(hd:o.data=.fields vs)
    (hn:["enumerate","zip","dict_itemiterator","dict_reverseitemiterator","odict_iterator","itertools.zip_longest","itertools.pairwise"].contains n=false) (hQ:Q () s):wpAny M A (letOwnedTupleGo tg (.ref it) u) Q E s:=by
  unfold letOwnedTupleGo
  cases tg <;> first
    | exact wpAny_pure hQ
    | (cases u <;> first
        | exact wpAny_pure hQ
        | (refine wpAny_bind (wpAny_load ho ?_)
           rw [hc,hd]
           show wpAny M A (if (["enumerate","zip","dict_itemiterator","dict_reverseitemiterator","odict_iterator","itertools.zip_longest","itertools.pairwise"].contains n&&vs[0]? == some (rawInt _))=true then _ else _) Q E s
           rw [if_neg (by intro h;rw [hn,Bool.false_and] at h;cases h)]
           exact wpAny_pure hQ))
def Itl (K:PySem.W.Frag)(a:Addr):It :=
  ⟨fun i H=>∃ xs x,SqL K H a xs∧xs[i]?=some x,fun i H x H'=>H'=H∧∀ xs,SqL K H a xs→xs[i]?=some x,fun i H=>∃ xs,SqL K H a xs∧xs.length≤i⟩
def Itt (K:PySem.W.Frag)(a:Addr):It :=
  ⟨fun i H=>∃ xs x,SqT K H a xs∧xs[i]?=some x,fun i H x H'=>H'=H∧∀ xs,SqT K H a xs→xs[i]?=some x,fun i H=>∃ xs,SqT K H a xs∧xs.length≤i⟩
def Itr (lo:Int)(n:Nat):It:=⟨fun i _=>i < n,fun i H x H'=>H'=H∧x=.int (lo+i),fun i _=>n≤i⟩
theorem zfn {P:Program}{w:World}{K:PySem.W.Frag}{tg:Expr}(a it:Addr):ziR P w K tg (Itl K a) [it] it (fun i h=>h.IsListIter it a i) where
  mem:=by simp
  obj:=fun i h st b hb=>by
    have e:b=it:=by simpa using hb
    subst e
    obtain ⟨o,e,c,d⟩:=st
    exact ⟨o,e,fun v z=>by rw [d] at z;cases z⟩
  keep:=fun i h h' st k=>st.at fun o e=>k it (by simp) o e
  item:=by
    intro X hP hw hK hc i pins s σ H E I hf st hg
    subst hP hw hK
    obtain ⟨xs,x,hq,hx⟩:=hg
    obtain ⟨its,rv,p,hz⟩:=I.list hq
    obtain ⟨u,hu,ru⟩:=rv.get hx
    obtain ⟨f0,f1,f2,f3,f4,f5⟩:=hf it (by simp)
    refine wpAny_pyNext_list_item st p.isList (x:=u) (by simpa using hu) fun h' st' sb=>?_
    have I1:Inv X pins σ H { s with heap:=h' }:=I.turned (t':=s.toks) (fun b o hb e=>(sb.2 b hb).trans e) f0 f1 f3 f4 f5
    obtain ⟨o,e,c,d⟩:=id st'
    exact ⟨u,rfl,ziT (s:={ s with heap:=h' }) e c d (by decide) ⟨x,H,I1,ru,⟨rfl,fun ys hy=>by rw [I.list_inj hy hq];exact hx⟩,st',fun b hb=>(hf b hb).1⟩⟩
  done:=by
    intro X hP hw hK hc i pins s σ H E I hf st hg
    subst hP hw hK
    obtain ⟨xs,hq,hx⟩:=hg
    obtain ⟨its,rv,p,hz⟩:=I.list hq
    obtain ⟨f0,f1,f2,f3,f4,f5⟩:=hf it (by simp)
    have hl:=rv.length
    exact wpAny_pyNext_list_end (I.ok.hd hc) st p.isList (by simp;omega) fun h' eb=>⟨rfl,I.turned (t':=s.toks) (fun b o hb e=>eb b o hb e) f0 f1 f3 f4 f5⟩
  self:=fun _ _ _ _ _ st h=>wpAny_pyIter_listiter st h
theorem zdr {P:Program}{w:World}{K:PySem.W.Frag}{tg:Expr}(a it:Addr):ziR P w K tg (Itt K a) [it] it (fun i h=>h.IsTupleIter it a i) where
  mem:=by simp
  obj:=fun i h st b hb=>by
    have e:b=it:=by simpa using hb
    subst e
    obtain ⟨o,e,c,d⟩:=st
    exact ⟨o,e,fun v z=>by rw [d] at z;cases z⟩
  keep:=fun i h h' st k=>st.at fun o e=>k it (by simp) o e
  item:=by
    intro X hP hw hK hc i pins s σ H E I hf st hg
    subst hP hw hK
    obtain ⟨xs,x,hq,hx⟩:=hg
    obtain ⟨its,rv,p,hz⟩:=I.tuple hq
    obtain ⟨u,hu,ru⟩:=rv.get hx
    obtain ⟨f0,f1,f2,f3,f4,f5⟩:=hf it (by simp)
    refine wpAny_pyNext_tuple_item st (show s.heap.IsTuple a its.toArray from p) (x:=u) (by simpa using hu) fun h' st' sb=>?_
    have I1:Inv X pins σ H { s with heap:=h' }:=I.turned (t':=s.toks) (fun b o hb e=>(sb.2 b hb).trans e) f0 f1 f3 f4 f5
    obtain ⟨o,e,c,d⟩:=id st'
    exact ⟨u,rfl,ziT (s:={ s with heap:=h' }) e c d (by decide) ⟨x,H,I1,ru,⟨rfl,fun ys hy=>by rw [I.tuple_inj hy hq];exact hx⟩,st',fun b hb=>(hf b hb).1⟩⟩
  done:=by
    intro X hP hw hK hc i pins s σ H E I hf st hg
    subst hP hw hK
    obtain ⟨xs,hq,hx⟩:=hg
    obtain ⟨its,rv,p,hz⟩:=I.tuple hq
    obtain ⟨f0,f1,f2,f3,f4,f5⟩:=hf it (by simp)
    have hl:=rv.length
    exact wpAny_pyNext_tuple_end (I.ok.hd hc) st (show s.heap.IsTuple a its.toArray from p) (by simp;omega) fun h' eb=>⟨rfl,I.turned (t':=s.toks) (fun b o hb e=>eb b o hb e) f0 f1 f3 f4 f5⟩
  self:=fun _ _ _ _ _ st h=>wpAny_pyIter_tupleiter st h
theorem zdZ {P:Program}{w:World}{K:PySem.W.Frag}{tg:Expr}(it:Addr)(lo:Int)(n:Nat):ziR P w K tg (Itr lo n) [it] it (fun i h=>IsRangeIter h it (lo+(i:Nat)*1) ((n:Int) - (i:Nat)) 1) where
  mem:=by simp
  obj:=fun i h st b hb=>by
    have e:b=it:=by simpa using hb
    subst e
    exact ⟨_,st,fun v z=>by
      have z':Data.fields _=Data.cell v:=z
      cases z'⟩
  keep:=fun i h h' st k=>k it (by simp) _ st
  item:=by
    intro X hP hw hK hc i pins s σ H E I hf st hg
    subst hP hw hK
    obtain ⟨f0,f1,f2,f3,f4,f5⟩:=hf it (by simp)
    have W:=Walks.range (prog:=X.prog) (w:=X.w) (I.ok.hd hc) it lo 1 n
    refine W.item i s _ _ hg st fun v h' tk hv st' kk=>?_
    obtain ⟨t,rfl⟩:=hv
    have I1:Inv X pins σ H { s with heap:=h',toks:=tk }:=I.turned (fun b o hb e=>kk b o (by simpa using hb) e) f0 f1 f3 f4 f5
    refine ⟨_,rfl,ziT (s:={ s with heap:=h',toks:=tk }) (n:="range_iterator") st' rfl rfl (by decide) ⟨.int (lo+i),H,I1,⟨t,?_⟩,⟨rfl,rfl⟩,st',fun b hb=>(hf b hb).1⟩⟩
    rw [Int.mul_one]
  done:=by
    intro X hP hw hK hc i pins s σ H E I hf st hg
    subst hP hw hK
    obtain ⟨f0,f1,f2,f3,f4,f5⟩:=hf it (by simp)
    exact wpAny_pyNext_range_end (I.ok.hd hc) st (by have:n≤i:=hg;omega) fun h' eb=>⟨rfl,I.turned (t':=s.toks) (fun b o hb e=>eb b o hb e) f0 f1 f3 f4 f5⟩
  self:=fun _ _ _ _ _ st h=>wpAny_pyIter_rangeiter st h
end L2
namespace L2
open PySem PySem.Spec PyProof.Rows
section
variable {X:Cx}{tg:Expr}
theorem zcR {pins:List (Addr × Obj)}{σ:St}{H:Hp}{s:Shared}{R:It→Hp→Prop}{E:Value→Shared→Prop}{lo hi:Int}{t u v:Tok}{tk:Nat}(I:Inv X pins σ H s)(h1:-(2 ^ 62)≤lo)(h2:lo < 2 ^ 62)(h3:-(2 ^ 62)≤hi)(h4:hi < 2 ^ 62)
    (q:R (Itr lo (hi - lo).toNat) H):wpAny (model X.prog X.w) X.A (pyIter (.ref s.heap.objs.size)) (PIE X pins σ tg R) E { s with heap:=s.heap.push { cls:=.type "range",data:=.fields #[.int lo t,.int hi u,.int 1 v] },toks:=tk }:=by
  refine wpAny_pyIter_range (IsRange.new ..) (small_one h1 h2 h3 h4) ?_
  have I1:Inv X pins σ H { s with heap:=s.heap.push { cls:=.type "range",data:=.fields #[.int lo t,.int hi u,.int 1 v] },toks:=tk }:=I.kept fun b o e=>Heap.get?_push_of_some _ e
  refine ⟨(s.heap.push { cls:=.type "range",data:=.fields #[.int lo t,.int hi u,.int 1 v] }).objs.size,[(s.heap.push { cls:=.type "range",data:=.fields #[.int lo t,.int hi u,.int 1 v] }).objs.size],_,_,H,rfl,
    I1.kept (t':=tk) fun b o e=>Heap.get?_push_of_some _ e,zdZ _ lo (hi - lo).toNat,?_,fun b hb=>?_,q⟩
  · have e1:lo+((0:Nat):Int)*1=lo:=by simp
    have e2:(((hi - lo).toNat:Nat):Int) - ((0:Nat):Int)=Builtin.Range.rangeSize lo hi 1:=by rw [rangeSize_one];split <;> omega
    show IsRangeIter _ _ (lo+((0:Nat):Int)*1) ((((hi - lo).toNat:Nat):Int) - ((0:Nat):Int)) 1
    rw [e1,e2]
    exact Heap.get?_push_size _ rfl
  · have e:b=(s.heap.push { cls:=.type "range",data:=.fields #[.int lo t,.int hi u,.int 1 v] }).objs.size:=by simpa using hb
    subst e
    exact I1.fpOk (Nat.le_refl _) (I1.hok.fresh (Nat.le_refl _))
def zl9 (ta:TA):TI:=fun σ H R=>ta σ H fun vs H1=>∃ j:Int,vs=[.int j]∧-(2 ^ 62)≤j∧j < 2 ^ 62∧R (Itr 0 j.toNat) H1
def zl0 (ta:TA):TI:=fun σ H R=>ta σ H fun vs H1=>∃ i j:Int,vs=[.int i,.int j]∧(-(2 ^ 62)≤i∧i < 2 ^ 62∧-(2 ^ 62)≤j∧j < 2 ^ 62)∧R (Itr i (j - i).toNat) H1
theorem zfZ {a:Expr} {ta:TA} {p pos:Pos} (hg:Gl X "range") (hm:X.mg "range"=none) (ha:PA X [a] ta) (hs:starEach [a] X.env=[(false,eval a X.env)]:=by rfl):PI X tg (.Call (.Name "range" p) [a] [] pos) (zl9 ta):=by
  intro pins s σ H R I h
  refine Call_ (Z2 I hg hm boot_range (PyProof.Rows.callWith_type1 (thn (ha pos pins s σ H _ I h) fun us s1 hh9=>?_) hs rfl))
  obtain ⟨vs,H1,I1,r1,q1⟩:=hh9
  obtain ⟨j,e,q1,q2,q⟩:=q1
  subst e
  cases r1 with
  | cons r rr =>
    cases rr
    obtain ⟨t,rfl⟩:=r
    exact call_range_1 (zcR I1 (by omega) (by omega) q1 q2 (by simpa using q))
theorem zbs {a b:Expr} {ta:TA} {p pos:Pos} (hg:Gl X "range") (hm:X.mg "range"=none) (ha:PA X [a,b] ta) (hs:starEach [a,b] X.env=[(false,eval a X.env),(false,eval b X.env)]:=by rfl) (hs2:starEach [b] X.env=[(false,eval b X.env)]:=by rfl) :
    PI X tg (.Call (.Name "range" p) [a,b] [] pos) (zl0 ta):=by
  intro pins s σ H R I h
  refine Call_ (Z2 I hg hm boot_range (PyProof.Rows.callWith_type1 (thn (ha pos pins s σ H _ I h) fun us s1 hh9=>?_) (by rw [hs,hs2]) (by rw [hs2];rfl)))
  obtain ⟨vs,H1,I1,r1,q1⟩:=hh9
  obtain ⟨i,j,e,⟨q1,q2,q3,q4⟩,q⟩:=q1
  subst e
  cases r1 with
  | cons r rr =>
    cases rr with
    | cons r' rr =>
      cases rr
      obtain ⟨t,rfl⟩:=r
      obtain ⟨t',rfl⟩:=r'
      exact call_range_2 (zcR I1 q1 q2 q3 q4 q)
def tFor (wi:TI)(g:TG)(tb:TS):TS:=fun D σ H=>wi σ H fun J H1=>∃ W:Nat→Nat→St→Hp→Prop,(∃ m,W 0 m σ H1)∧∀ i m σ H,W i m σ H →
  (J.stop i H∧D.nx σ H)∨(J.go i H∧∃ N:St→Hp→Prop,(∀ σ' H',N σ' H'→∃ m',m' < m∧W (i+1) m' σ' H')∧∀ x H',J.yld i H x H'→g x σ H' fun σ2 H2=>tb { D with nx:=N,ct:=N,bk:=D.nx } σ2 H2)
def XQ (fp:List Addr)(h:Heap):List (Addr × Obj):=fp.filterMap fun b=>(h.get? b).map fun o=>(b,o)
theorem wt {fp:List Addr}{h:Heap}{b:Addr}{o:Obj}(hb:b∈fp)(e:h.get? b=some o):(b,o)∈XQ fp h:=List.mem_filterMap.mpr ⟨b,hb,by rw [e];rfl⟩
theorem zeA {fp:List Addr}{h:Heap}{p:Addr × Obj}(hp:p∈XQ fp h):p.1∈fp∧h.get? p.1=some p.2:=by
  obtain ⟨b,hb,e⟩:=List.mem_filterMap.mp hp
  cases q:h.get? b with
  | none=>rw [q] at e;cases e
  | some o =>
    rw [q] at e
    have e':(b,o)=p:=Option.some.inj e
    subst e'
    exact ⟨hb,q⟩
theorem Inv.pinned {pins:List (Addr × Obj)}{σ:St}{H:Hp}{s:Shared}{fp:List Addr}(I:Inv X pins σ H s)(hf:∀ b∈fp,zbR X pins H b)(ho:∀ b∈fp,∃ o,s.heap.get? b=some o∧∀ v,o.data≠.cell v):Inv X (pins++XQ fp s.heap) σ H s :=
  I.pins_of fun p hp=>(List.mem_append.mp hp).elim (fun z=>I.pin p (List.mem_append_right _ z)) fun z=>by
    obtain ⟨hb,e⟩:=zeA z
    obtain ⟨f0,f1,f2,_⟩:=hf p.1 hb
    obtain ⟨o,e',d⟩:=ho p.1 hb
    rw [e] at e';cases e'
    exact ⟨e,f0,f1,f2,d⟩
theorem Inv.unpinned {pins pl:List (Addr × Obj)}{σ:St}{H:Hp}{s:Shared}(I:Inv X (pins++pl) σ H s):Inv X pins σ H s:=I.pins_of fun p hp=>I.pin p (List.mem_append_right _ (List.mem_append_left _ hp))
theorem zfE {iter:Expr}{body:List Stmt}{wi:TI}{g:TG}{tb:TS}{pos:Pos}(hp:PassesOwn (model X.prog X.w) X.A X.env X.xe)(hc:X.calm=true)(hi:PI X tg iter wi)(hg:PG X tg g)(hb:PSs X body tb)
    (hs:∀ x,foldedSetIterable iter X.env x=pure x:=by intro _;rfl):PS X (.For tg iter body [] pos) (tFor wi g tb):=by
  intro pins s σ H D I h
  refine wpAny_For (thn (hi pins s σ H _ I h) fun v s1 h1=>thn h1 fun itv s2 h2=>?_) hs
  obtain ⟨it,fp,tn,J,H2,e,I2,T,st2,f2,W,⟨m0,w0⟩,turn⟩:=h2
  subst e
  -- what stays true of the iterator's objects through the loop
  have stat:∀ {H':Hp},(∀ b∈fp,H' b=none)→∀ b∈fp,zbR X pins H' b:=fun hn b hb=>⟨hn b hb,(f2 b hb).2⟩
  refine codeAny_forLoop_any (fun n s'=>∃ i σ' H',Inv X pins σ' H' s'∧tn i s'.heap∧(∀ b∈fp,H' b=none)∧W i n σ' H') ?_ m0 ⟨0,σ,H2,I2,st2,fun b hb=>(f2 b hb).1,w0⟩
  rintro n s3 ⟨i,σ3,H3,I3,st3,fr3,w3⟩
  rcases turn i n σ3 H3 w3 with ⟨stop,qn⟩ | ⟨go,N,hN,step⟩
  · refine wpAny_passesOwn hp (thn (T.done X rfl rfl rfl hc i pins s3 σ3 H3 X.xe I3 (stat fr3) st3 stop) fun r s4 hh9=>?_)
    obtain ⟨hr,I4⟩:=hh9
    subst hr
    exact wpAny_execs_nil ⟨σ3,H3,I4,qn⟩
  · refine wpAny_passesOwn hp (thn (T.item X rfl rfl rfl hc i pins s3 σ3 H3 X.xe I3 (stat fr3) st3 go) fun r s4 hh9=>?_)
    obtain ⟨u,hr,h4⟩:=hh9
    subst hr
    refine wpAny_passesOwn hp (thn h4 fun _ s5 hh9=>?_)
    obtain ⟨x,H5,I5,r5,y5,st5,fr5⟩:=hh9
    have I5':=I5.pinned (stat fr5) (T.obj _ _ st5)
    refine wpAny_passesOwn hp (thn (hg _ s5 σ3 H5 x u _ I5' r5 (step x H5 y5)) fun _ s6 hh9=>?_)
    obtain ⟨σ6,H6,I6,q6⟩:=hh9
    refine wpAny_passesOwn hp (thn (hb _ s6 σ6 H6 _ I6 q6) fun f s7 q7=>?_)
    have again:∀ {σ7:St} {H7:Hp},Inv X (pins++XQ fp s5.heap) σ7 H7 s7→N σ7 H7→∃ m,m < n∧∃ i σ' H',Inv X pins σ' H' s7∧tn i s7.heap∧(∀ b∈fp,H' b=none)∧W i m σ' H':=fun {σ7 H7} I7 n7=>by
      obtain ⟨m',hm,w7⟩:=hN σ7 H7 n7
      refine ⟨m',hm,i+1,σ7,H7,I7.unpinned,T.keep _ _ _ st5 fun b hb o e=>(I7.pin (b,o) (List.mem_append_right _ (List.mem_append_right _ (wt hb e)))).1,fun b hb=>?_,w7⟩
      obtain ⟨o,e,d⟩:=T.obj _ _ st5 b hb
      exact (I7.pin (b,o) (List.mem_append_right _ (List.mem_append_right _ (wt hb e)))).2.1
    cases f with
    | next=>obtain ⟨σ7,H7,I7,n7⟩:=q7;exact again I7 n7
    | cont=>obtain ⟨σ7,H7,I7,n7⟩:=q7;exact again I7 n7
    | brk=>obtain ⟨σ7,H7,I7,q7⟩:=q7;exact ⟨σ7,H7,I7.unpinned,q7⟩
    | ret v=>obtain ⟨x7,σ7,H7,I7,r7,q7⟩:=q7;exact ⟨x7,σ7,H7,I7.unpinned,r7,q7⟩
end
end L2
namespace L2
open PySem PySem.Spec PyProof.Rows
abbrev R2:=V→V→Hp→VK→Prop
def OpR (X:Cx)(f:Value→Value→Sem Value)(r:R2):Prop :=
  ∀ (pins:List (Addr × Obj)) (s:Shared) (σ:St) (H:Hp) (x y:V) (v u:Value) (Q:VK),Inv X pins σ H s→xZ x v→xZ y u→r x y H Q →
    wpAny (model X.prog X.w) X.A (f v u) (EP X pins σ Q) X.xe s
def UnR (X:Cx)(f:Value→Sem Value)(r:V→Hp→VK→Prop):Prop :=
  ∀ (pins:List (Addr × Obj)) (s:Shared) (σ:St) (H:Hp) (x:V) (v:Value) (Q:VK),Inv X pins σ H s→xZ x v→r x H Q →
    wpAny (model X.prog X.w) X.A (f v) (EP X pins σ Q) X.xe s
def YL (X:Cx)(f:Value)(r:List V→Hp→VK→Prop):Prop :=
  ∀ (pins:List (Addr × Obj)) (s:Shared) (σ:St) (H:Hp) (xs:List V) (us:List Value) (Q:VK),Inv X pins σ H s→yr xs us→r xs H Q →
    wpAny (model X.prog X.w) X.A (call f us) (EP X pins σ Q) X.xe s
def tOp (r:R2)(ta tb:TE):TE:=fun σ H Q=>ta σ H fun x H1=>tb σ H1 fun y H2=>r x y H2 Q
def tUn (r:V→Hp→VK→Prop)(ta:TE):TE:=fun σ H Q=>ta σ H fun x H1=>r x H1 Q
def rI (C:Int→Int→Prop)(g:Int→Int→V):R2:=fun x y H Q=>∃ i j,x=.int i∧y=.int j∧C i j∧Q (g i j) H
def rI0 (g:Int→Int→V):R2:=fun x y H Q=>∃ i j,x=.int i∧y=.int j∧Q (g i j) H
def rU (g:Int→V):V→Hp→VK→Prop:=fun x H Q=>∃ i,x=.int i∧Q (g i) H
section
variable {X:Cx}{a b c:Expr}{ta tb tc:TE}{pos:Pos}
theorem zl5 (ha:PE X a ta)(hb:PE X b tb){pins:List (Addr × Obj)}{s:Shared}{σ:St}{H:Hp}{R:V→V→Hp→Prop}(I:Inv X pins σ H s)
    (h:ta σ H fun x H1=>tb σ H1 fun y H2=>R x y H2) {Q:Value→Shared→Prop} {f:Value→Value→Sem Value}
    (hf:∀ v u s2 x y H2,Inv X pins σ H2 s2→xZ x v→xZ y u→R x y H2→wpAny (model X.prog X.w) X.A (f v u) Q X.xe s2) :
    wpAny (model X.prog X.w) X.A (eval a X.env) (fun v s₁=>wpAny (model X.prog X.w) X.A (eval b X.env) (fun u s₂=>wpAny (model X.prog X.w) X.A (f v u) Q X.xe s₂) X.xe s₁) X.xe s:=by
  refine thn (ha pins s σ H _ I h) fun v s1 hh9=>?_
  obtain ⟨x,H1,I1,r1,q1⟩:=hh9
  refine thn (hb pins s1 σ H1 _ I1 q1) fun u s2 hh9=>?_
  obtain ⟨y,H2,I2,r2,q2⟩:=hh9
  exact hf v u s2 x y H2 I2 r1 r2 q2
theorem zg6 {op:Operator}{r:R2}(ho:OpR X (binaryOp op) r)(ha:PE X a ta)(hb:PE X b tb):PE X (.BinOp a op b pos) (tOp r ta tb):=by
  intro pins s σ H Q I h
  exact wpAny_BinOp (zl5 ha hb I h fun v u s2 x y H2 I2 rx ry q=>ho pins s2 σ H2 x y v u Q I2 rx ry q)
theorem zi1 {op:UnaryOp}{r:V→Hp→VK→Prop}(ho:UnR X (unaryOp op) r)(ha:PE X a ta):PE X (.UnaryOp op a pos) (tUn r ta):=by
  intro pins s σ H Q I h
  exact UnaryOp_ (thn (ha pins s σ H _ I h) fun v s1 ⟨x,H1,I1,r1,q1⟩=>ho pins s1 σ H1 x v Q I1 r1 q1)
theorem opI {f:Value→Value→Sem Value}{C:Int→Int→Prop}{g:Int→Int→Int}
    (rule:∀ (i j:Int) (t u:Tok) (s:Shared) (Q:Value→Shared→Prop) (E:Value→Shared→Prop),C i j→Q (.int (g i j) s.toks) { s with toks:=s.toks+1 }→wpAny (model X.prog X.w) X.A (f (.int i t) (.int j u)) Q E s) :
    OpR X f (rI C fun i j=>.int (g i j)):=by
  intro pins s σ H x y v u Q I rx ry h
  obtain ⟨i,j,rfl,rfl,hc,q⟩:=h
  obtain ⟨t,rfl⟩:=rx
  obtain ⟨t',rfl⟩:=ry
  exact rule i j t t' s _ _ hc ⟨.int (g i j),H,I.tok _,⟨_,rfl⟩,q⟩
theorem opI0 {f:Value→Value→Sem Value}{g:Int→Int→Int}
    (rule:∀ (i j:Int) (t u:Tok) (s:Shared) (Q:Value→Shared→Prop) (E:Value→Shared→Prop),Q (.int (g i j) s.toks) { s with toks:=s.toks+1 }→wpAny (model X.prog X.w) X.A (f (.int i t) (.int j u)) Q E s) :
    OpR X f (rI0 fun i j=>.int (g i j)):=by
  intro pins s σ H x y v u Q I rx ry h
  obtain ⟨i,j,rfl,rfl,q⟩:=h
  obtain ⟨t,rfl⟩:=rx
  obtain ⟨t',rfl⟩:=ry
  exact rule i j t t' s _ _ ⟨.int (g i j),H,I.tok _,⟨_,rfl⟩,q⟩
theorem zlx {f:Value→Value→Sem Value}{g:Int→Int→Bool}
    (rule:∀ (i j:Int) (t u:Tok) (s:Shared) (Q:Value→Shared→Prop) (E:Value→Shared→Prop),Q (.bool (g i j)) s→wpAny (model X.prog X.w) X.A (f (.int i t) (.int j u)) Q E s) :
    OpR X f (rI0 fun i j=>.bl (g i j)):=by
  intro pins s σ H x y v u Q I rx ry h
  obtain ⟨i,j,rfl,rfl,q⟩:=h
  obtain ⟨t,rfl⟩:=rx
  obtain ⟨t',rfl⟩:=ry
  exact rule i j t t' s _ _ ⟨.bl (g i j),H,I,rfl,q⟩
def zme (i j:Int):Prop:=(-(2 ^ 64) < i∧i < 2 ^ 64)∨(-(2 ^ 64) < j∧j < 2 ^ 64)
theorem zme.ok {i j:Int}(h:zme i j):IntMulOk i j:=by
  rcases h with ⟨h1,h2⟩ | ⟨h1,h2⟩
  · exact .of_left (intBits_le_64 h1 h2)
  · exact .of_right (intBits_le_64 h1 h2)
theorem zdQ (k:Nat):(0:Int)≤2 ^ k:=by
  rw [two_pow_cast]
  exact Int.natCast_nonneg _
theorem zjG:OpR X (binaryOp .Add) (rI0 fun i j=>.int (i+j)):=opI0 fun _ _ _ _ _ _ _ q=>add_int q
theorem zld:OpR X (binaryOp .Sub) (rI0 fun i j=>.int (i - j)):=opI0 fun _ _ _ _ _ _ _ q=>sub_int q
theorem zlm:OpR X (binaryOp .Mult) (rI zme fun i j=>.int (i*j)):=opI fun _ _ _ _ _ _ _ hc q=>mul_int q hc.ok
theorem zlq:OpR X (binaryOp .Mod) (rI (fun _ j=>0 < j) fun i j=>.int (i % j)):=opI fun i j _ _ _ _ _ hc q=>by
  have h1:(0:Int) < j:=hc
  exact mod_int' (by omega) (by rw [Int.fmod_eq_emod_of_nonneg i (by omega)];exact q)
theorem zj4:OpR X (binaryOp .RShift) (rI (fun _ j=>0≤j) fun i j=>.int (i / 2 ^ j.toNat)):=opI fun i j _ _ _ _ _ hc q =>
  rshift_int hc (by rw [Int.fdiv_eq_ediv_of_nonneg i (zdQ _)];exact q)
theorem unI {f:Value→Sem Value}{g:Int→Int}
    (rule:∀ (i:Int) (t:Tok) (s:Shared) (Q:Value→Shared→Prop) (E:Value→Shared→Prop),Q (.int (g i) s.toks) { s with toks:=s.toks+1 }→wpAny (model X.prog X.w) X.A (f (.int i t)) Q E s) :
    UnR X f (rU fun i=>.int (g i)):=by
  intro pins s σ H x v Q I rx h
  obtain ⟨i,rfl,q⟩:=h
  obtain ⟨t,rfl⟩:=rx
  exact rule i t s _ _ ⟨.int (g i),H,I.tok _,⟨_,rfl⟩,q⟩
theorem zeO:UnR X (unaryOp .USub) (rU fun i=>.int (-i)):=unI fun _ _ _ _ _ q=>neg_int q
end
def scal:V→V→Bool
  | .non,.non=>true | .non,.int _=>true | .int _,.non=>true | .non,.bl _=>true | .bl _,.non=>true | .non,.str _=>true | .str _,.non=>true
  | .int _,.int _=>true | .bl _,.bl _=>true | .str _,.str _=>true | .byt _,.byt _=>true
  | .int _,.str _=>true | .str _,.int _=>true | .bl _,.str _=>true | .str _,.bl _=>true
  | _,_=>false
def rEq:R2:=fun x y H Q=>scal x y=true∧Q (.bl (decide (x=y))) H
def rNe:R2:=fun x y H Q=>scal x y=true∧Q (.bl (!decide (x=y))) H
theorem zcf {i j:Int}:decide (V.int i=V.int j)=(i == j):=by
  rw [Bool.eq_iff_iff]
  simp
theorem zhT {i j:Bool}:decide (V.bl i=V.bl j)=(i == j):=by
  rw [Bool.eq_iff_iff]
  simp
theorem zeg {i j:Str}:decide (V.str i=V.str j)=(i == j):=by
  rw [Bool.eq_iff_iff]
  simp
theorem zfv {i j:Array UInt8}:decide (V.byt i=V.byt j)=(i.toList == j.toList):=by
  rw [Bool.eq_iff_iff]
  cases i
  cases j
  simp
section
variable {X:Cx}{a b c:Expr}{ta tb tc:TE}{pos:Pos}
theorem yc {pins:List (Addr × Obj)}{σ:St}{H:Hp}{s:Shared}{Q:VK}{k k':Bool}(I:Inv X pins σ H s)(q:Q (.bl k) H)(e:k=k'):EP X pins σ Q (.bool k') s:=by
  subst e
  exact ⟨.bl k,H,I,rfl,q⟩
theorem zlH:OpR X (compareOp .Eq) rEq:=by
  intro pins s σ H x y v u Q I rx ry h
  obtain ⟨hs,q⟩:=h
  cases x with
  | non =>
    cases rx
    cases y with
    | non=>cases ry;exact PySem.EqNone.eq_none_none (yc I q (by simp))
    | bl j=>cases ry;exact PySem.EqNone.eq_none_bool (yc I q (by simp))
    | int j=>obtain ⟨t',rfl⟩:=ry;exact PySem.EqNone.eq_none_int (yc I q (by simp))
    | str j=>obtain ⟨t',rfl⟩:=ry;exact PySem.EqNone.eq_none_str (yc I q (by simp))
    | _=>exact absurd (show false=true from hs) Bool.false_ne_true
  | bl i =>
    cases rx
    cases y with
    | non=>cases ry;exact PySem.EqNone.eq_bool_none (yc I q (by simp))
    | bl j=>cases ry;exact eq_bool (yc I q zhT)
    | str j=>obtain ⟨t',rfl⟩:=ry;exact PySem.EqMixed.eq_bool_str (yc I q (by simp))
    | _=>exact absurd (show false=true from hs) Bool.false_ne_true
  | int i =>
    obtain ⟨t,rfl⟩:=rx
    cases y with
    | non=>cases ry;exact PySem.EqNone.eq_int_none (yc I q (by simp))
    | int j=>obtain ⟨t',rfl⟩:=ry;exact eq_int (yc I q zcf)
    | str j=>obtain ⟨t',rfl⟩:=ry;exact PySem.EqMixed.eq_int_str (yc I q (by simp))
    | _=>exact absurd (show false=true from hs) Bool.false_ne_true
  | str i =>
    obtain ⟨t,rfl⟩:=rx
    cases y with
    | non=>cases ry;exact PySem.EqNone.eq_str_none (yc I q (by simp))
    | bl j=>cases ry;exact PySem.EqMixed.eq_str_bool (yc I q (by simp))
    | int j=>obtain ⟨t',rfl⟩:=ry;exact PySem.EqMixed.eq_str_int (yc I q (by simp))
    | str j=>obtain ⟨t',rfl⟩:=ry;exact eq_str (yc I q zeg)
    | _=>exact absurd (show false=true from hs) Bool.false_ne_true
  | byt i =>
    obtain ⟨t,rfl⟩:=rx
    cases y with
    | byt j=>obtain ⟨t',rfl⟩:=ry;exact PySem.W.eq_bytes (yc I q zfv)
    | _=>exact absurd (show false=true from hs) Bool.false_ne_true
  | _=>cases y <;> exact absurd (show false=true from hs) Bool.false_ne_true
theorem WF:OpR X (compareOp .NotEq) rNe:=by
  intro pins s σ H x y v u Q I rx ry h
  obtain ⟨hs,q⟩:=h
  cases x with
  | non =>
    cases rx
    cases y with
    | non=>cases ry;exact PySem.EqNone.ne_none_none (yc I q (by simp))
    | bl j=>cases ry;exact PySem.EqNone.ne_none_bool (yc I q (by simp))
    | int j=>obtain ⟨t',rfl⟩:=ry;exact PySem.EqNone.ne_none_int (yc I q (by simp))
    | str j=>obtain ⟨t',rfl⟩:=ry;exact PySem.EqNone.ne_none_str (yc I q (by simp))
    | _=>exact absurd (show false=true from hs) Bool.false_ne_true
  | bl i =>
    cases rx
    cases y with
    | non=>cases ry;exact PySem.EqNone.ne_bool_none (yc I q (by simp))
    | bl j=>cases ry;exact ne_bool (yc I q (congrArg not zhT))
    | str j=>obtain ⟨t',rfl⟩:=ry;exact PySem.EqMixed.ne_bool_str (yc I q (by simp))
    | _=>exact absurd (show false=true from hs) Bool.false_ne_true
  | int i =>
    obtain ⟨t,rfl⟩:=rx
    cases y with
    | non=>cases ry;exact PySem.EqNone.ne_int_none (yc I q (by simp))
    | int j=>obtain ⟨t',rfl⟩:=ry;exact ne_int (yc I q (congrArg not zcf))
    | str j=>obtain ⟨t',rfl⟩:=ry;exact PySem.EqMixed.ne_int_str (yc I q (by simp))
    | _=>exact absurd (show false=true from hs) Bool.false_ne_true
  | str i =>
    obtain ⟨t,rfl⟩:=rx
    cases y with
    | non=>cases ry;exact PySem.EqNone.ne_str_none (yc I q (by simp))
    | bl j=>cases ry;exact PySem.EqMixed.ne_str_bool (yc I q (by simp))
    | int j=>obtain ⟨t',rfl⟩:=ry;exact PySem.EqMixed.ne_str_int (yc I q (by simp))
    | str j=>obtain ⟨t',rfl⟩:=ry;exact ne_str (yc I q (congrArg not zeg))
    | _=>exact absurd (show false=true from hs) Bool.false_ne_true
  | byt i =>
    obtain ⟨t,rfl⟩:=rx
    cases y with
    | byt j=>obtain ⟨t',rfl⟩:=ry;exact PySem.W.ne_bytes (yc I q (congrArg not zfv))
    | _=>exact absurd (show false=true from hs) Bool.false_ne_true
  | _=>cases y <;> exact absurd (show false=true from hs) Bool.false_ne_true
theorem zdG:OpR X (compareOp .Lt) (rI0 fun i j=>.bl (decide (i < j))):=zlx fun _ _ _ _ _ _ _ q=>lt_int q
theorem zdk:OpR X (compareOp .LtE) (rI0 fun i j=>.bl (decide (i≤j))):=zlx fun _ _ _ _ _ _ _ q=>le_int q
theorem zee:OpR X (compareOp .Gt) (rI0 fun i j=>.bl (decide (j < i))):=zlx fun _ _ _ _ _ _ _ q=>gt_int q
theorem zl2:OpR X (compareOp .GtE) (rI0 fun i j=>.bl (decide (j≤i))):=zlx fun _ _ _ _ _ _ _ q=>ge_int q
theorem ziq:OpR X (compareOp .IsNot) (fun x y H Q=>y=.non∧Q (.bl (!decide (x=.non))) H):=by
  intro pins s σ H x y v u Q I rx ry h
  obtain ⟨rfl,q⟩:=h
  cases ry
  refine isnot_none_gen (yc I q ?_)
  cases x <;> first
    | (cases rx;rfl)
    | (obtain ⟨t,rfl⟩:=rx;rfl)
theorem OpR.or {f:Value→Value→Sem Value}{r r':R2}(h:OpR X f r)(h':OpR X f r'):OpR X f (fun x y H Q=>r x y H Q∨r' x y H Q):=by
  intro pins s σ H x y v u Q I rx ry q
  rcases q with q | q
  · exact h pins s σ H x y v u Q I rx ry q
  · exact h' pins s σ H x y v u Q I rx ry q
theorem zH (b:Expr){op:CmpOp}(h:op≠.In:=by decide)(h2:op≠.NotIn:=by decide):behindInMarks op b=false:=by
  have e1:(op == CmpOp.In)=false:=by cases op <;> first | rfl | exact absurd rfl h
  have e2:(op == CmpOp.NotIn)=false:=by cases op <;> first | rfl | exact absurd rfl h2
  cases b <;> simp [behindInMarks,e1,e2]
theorem ziC {op:CmpOp}{r:R2}(ho:OpR X (compareOp op) r)(ha:PE X a ta)(hb:PE X b tb)(hm:behindInMarks op b=false):PE X (.Compare a [op] [b] pos) (tOp r ta tb):=by
  intro pins s σ H Q I h
  exact wpAny_Compare1 (zl5 ha hb I h fun v u s2 x y H2 I2 rx ry q=>ho pins s2 σ H2 x y v u Q I2 rx ry q) hm
def zi3 (t:TE):TT:=fun σ H Q=>t σ H fun x H'=>∃ k,x=.bl k∧Q k H'
theorem zeX {op:CmpOp}{r:R2}(ho:OpR X (compareOp op) r)(ha:PE X a ta)(hb:PE X b tb)(hm:behindInMarks op b=false):PT X (.Compare a [op] [b] pos) (zi3 (tOp r ta tb)):=by
  intro pins s σ H Q I h
  refine wpAny_isTrue_Compare1 (thn (ha pins s σ H _ I h) fun v s1 ⟨x,H1,I1,r1,q1⟩=>thn (hb pins s1 σ H1 _ I1 q1) fun u s2 ⟨y,H2,I2,r2,q2⟩ =>
    thn (ho pins s2 σ H2 x y v u _ I2 r1 r2 q2) fun c s3 ⟨z,H3,I3,r3,k,e,q3⟩=>?_) hm
  subst e
  cases r3
  exact wpAny_truthy_bool ⟨H3,I3,q3⟩
def zff (r r':R2)(ta tb tc:TE):TE:=fun σ H Q=>ta σ H fun x H1=>tb σ H1 fun y H2=>r x y H2 fun z H3=>∃ k,z=.bl k ∧
  (if k=true then tc σ H3 fun w' H4=>r' y w' H4 Q else Q (.bl false) H3)
theorem zhp {op op':CmpOp}{r r':R2}(ho:OpR X (compareOp op) r)(ho':OpR X (compareOp op') r')(ha:PE X a ta)(hb:PE X b tb)(hc:PE X c tc)
    (hm:lastMarks [op,op'] [b,c]=false:=by with_unfolding_all rfl):PE X (.Compare a [op,op'] [b,c] pos) (zff r r' ta tb tc):=by
  intro pins s σ H Q I h
  refine Compare_chain (thn (ha pins s σ H _ I h) fun v s1 ⟨x,H1,I1,r1,q1⟩=>chain_link (thn (hb pins s1 σ H1 _ I1 q1) fun u s2 ⟨y,H2,I2,r2,q2⟩ =>
    thn (ho pins s2 σ H2 x y v u _ I2 r1 r2 q2) fun d s3 ⟨z,H3,I3,r3,k,e,q3⟩=>?_)) hm
  subst e
  cases r3
  refine wpAny_truthy_bool ?_
  cases k with
  | false=>exact ite_ff ⟨.bl false,H3,I3,rfl,q3⟩
  | true=>exact ite_tt (chain_last (thn (hc pins s3 σ H3 _ I3 q3) fun w' s4 ⟨z',H4,I4,r4,q4⟩=>ho' pins s4 σ H4 y z' u w' Q I4 r2 r4 q4))
theorem VW:(sizeLine:Nat) < 2 ^ 63:=by rw [sizeLine_eq];decide
theorem zdL:OpR X (binaryOp .Add) (fun x y H Q=>∃ i j,x=.str i∧y=.str j∧i.length+j.length≤sizeLine∧Q (.str (i++j)) H):=by
  intro pins s σ H x y v u Q I rx ry h
  obtain ⟨i,j,rfl,rfl,hz,q⟩:=h
  obtain ⟨t,rfl⟩:=rx
  obtain ⟨t',rfl⟩:=ry
  exact add_str (fun t' tk=>⟨.str (i++j),H,I.tok _,⟨_,rfl⟩,q⟩) hz
theorem Vu {x:V}{us:List Value}(r:yr [x] us):∃ u,us=[u]∧xZ x u:=by
  cases r with
  | cons r1 r2=>cases r2;exact ⟨_,rfl,r1⟩
theorem zbZ {x y:V}{us:List Value}(r:yr [x,y] us):∃ u w',us=[u,w']∧xZ x u∧xZ y w':=by
  cases r with
  | cons r1 r2 =>
    cases r2 with
    | cons r3 r4=>cases r4;exact ⟨_,_,rfl,r1,r3⟩
theorem zbf (hc:X.calm=true):YL X (.builtin "max") (fun xs H Q=>∃ i j,xs=[.int i,.int j]∧Q (.int (if j > i then j else i)) H):=by
  intro pins s σ H xs us Q I r h
  obtain ⟨i,j,rfl,q⟩:=h
  obtain ⟨u,w',rfl,⟨t,rfl⟩,⟨t',rfl⟩⟩:=zbZ r
  refine max_two_ints (I.ok.hd hc) fun h' tk k=>⟨_,H,I.kept k,?_,q⟩
  by_cases hj:j > i
  · rw [if_pos hj,if_pos hj];exact ⟨_,rfl⟩
  · rw [if_neg hj,if_neg hj];exact ⟨_,rfl⟩
theorem zbt (hc:X.calm=true):YL X (.builtin "min") (fun xs H Q=>∃ i j,xs=[.int i,.int j]∧Q (.int (if j < i then j else i)) H):=by
  intro pins s σ H xs us Q I r h
  obtain ⟨i,j,rfl,q⟩:=h
  obtain ⟨u,w',rfl,⟨t,rfl⟩,⟨t',rfl⟩⟩:=zbZ r
  refine min_two_ints (I.ok.hd hc) fun h' tk k=>⟨_,H,I.kept k,?_,q⟩
  by_cases hj:j < i
  · rw [if_pos hj,if_pos hj];exact ⟨_,rfl⟩
  · rw [if_neg hj,if_neg hj];exact ⟨_,rfl⟩
end
end L2
namespace L2
open PySem PySem.Spec PyProof.Rows
set_option genInjectivity false in
set_option genSizeOf false in
set_option genCtorIdx false in
structure zlO (h:Heap) (x dx C:Addr) (mA:Str→Option Value):Prop where
  obj:h.get? x=some (PySem.W.instObj C dx)
  ns:h.Ns1 dx mA
  ne:dx≠x
theorem zge {h:Heap}{dx:Addr}{mA:Str→Option Value}(n:h.Ns1 dx mA):∃ od,h.get? dx=some od∧∀ name,PySem.W.lookIn name od=some (mA name):=by
  obtain ⟨o,es,ep,ho,hd,hk,_,hm⟩:=n
  refine ⟨o,ho,fun name=>?_⟩
  have e:=hm name
  unfold nsFind findBy at e
  rw [←Array.find?_toList] at e
  unfold PySem.W.lookIn
  rw [hd]
  dsimp only
  split
  · rename_i y q
    rw [q] at e
    exact congrArg some e
  · rename_i q
    rw [q] at e
    have a:es.toList.any (·.refKey)=false:=by
      rw [List.any_eq_false]
      intro y hy
      obtain ⟨z,t,hkey⟩:=hk y (Array.mem_toList_iff.mp hy)
      simp [DictEntry.refKey,hkey]
    have a':¬ es.toList.any (·.refKey)=true:=by rw [a];exact Bool.false_ne_true
    rw [if_neg a']
    exact congrArg some e
theorem zlO.look {h:Heap}{x dx C:Addr}{mA:Str→Option Value}(I:zlO h x dx C mA):∃ od,PySem.W.InstAt h x (PySem.W.instObj C dx) C (some od)∧∀ name,PySem.W.lookIn name od=some (mA name) :=
  let ⟨od,ho,hl⟩:=zge I.ns
  ⟨od,⟨I.obj,rfl,rfl,ho⟩,hl⟩
section
variable {prog:Program}{w:World}{A:Around}{E:Value→Shared→Prop}{s:Shared}{K:PySem.W.Frag}{x dx C f:Addr}{mA:Str→Option Value}{name:Str}{v:Value}
end
section
variable {P:Program}{w:World}{H H':Hp}{h h':Heap}{a C dx:Addr}{fs fs':List (Str × V)}
theorem zjk (hok:HOk P w H h)(e:H a=some (.ins C dx fs)):∃ mA,zlO h a dx C mA∧(∀ f,zlP (fs.lookup f) (mA f))∧PySem.Within mA (fs.map (·.1))∧fs.length≤1000∧H dx=some (.own a):=by
  obtain ⟨d,z,ne,ob,mA,n,r,q⟩:=(show wu P w H h a (.ins C dx fs) from hok a _ e)
  exact ⟨mA,⟨ob,n,ne⟩,r,q,z,d⟩
end
set_option genInjectivity false in
set_option genSizeOf false in
set_option genCtorIdx false in
structure Cls (K:PySem.W.Frag) (C:Addr):Prop where
  pg:PySem.W.plainGet K C Str.empty=true
  hd:PySem.W.hasDictIn K C=true
  po:PySem.W.plainOver K C=true
  sa:PySem.W.findIn K (.ref C) "__setattr__"=some (some (.builtin "object.__setattr__"))
theorem Cls.get {K:PySem.W.Frag}{C:Addr}(c:Cls K C)(f:Str):PySem.W.plainGet K C f=true:=c.pg
section
variable {X:Cx}{pins:List (Addr × Obj)}{σ:St}{H:Hp}{s:Shared}{a C dx:Addr}{fs:List (Str × V)}{f:Str}{v:V}{A:Around}{E:Value→Shared→Prop}
end
section
variable {X:Cx}{o e value:Expr}{f:Str}{pos pos' tpos:Pos}{ta tv:TE}
end
section
variable {X:Cx}{pins:List (Addr × Obj)}{σ:St}{H:Hp}{s:Shared}{A:Around}{E:Value→Shared→Prop}{Q:Value→Shared→Prop}{c:Value}{b:Bool}
inductive zc6 (K:PySem.W.Frag) (H:Hp):V→Value→Prop where
  | non:zc6 K H .non (.type "NoneType")
  | bl (x:Bool):zc6 K H (.bl x) (.type "bool")
  | int (i:Int):zc6 K H (.int i) (.type "int")
  | str (x:Str):zc6 K H (.str x) (.type "str")
  | flt (x:UInt64):zc6 K H (.flt x) (.type "float")
  | lst {a:Addr} {xs:List V} (e:H a=some (.lst xs)):zc6 K H (.ref a) (.type "list")
  | frz {a:Addr} {o:Obj} {xs:List V} (e:H a=some (.frz o (.lst xs))):zc6 K H (.ref a) (.type "list")
  | tup {a:Addr} {xs:List V} (e:H a=some (.tup xs)):zc6 K H (.ref a) (.type "tuple")
  | dK {a:Addr} {kvs:List (Key × V)} (e:H a=some (.dK kvs)):zc6 K H (.ref a) (.type "dict")
  | dT {a:Addr} {kvs:List (List Key × V)} (e:H a=some (.dT kvs)):zc6 K H (.ref a) (.type "dict")
  | ins {a C dx:Addr} {fs:List (Str × V)} (e:H a=some (.ins C dx fs)) (cl:Cls K C) (ha:PySem.W.findIn K (.ref C) "__class__"=some (some (.builtin "object.__class__")))
      (hn:PySem.W.specialIn K (.builtin "object.__class__") "__get__"=some (some (.builtin "getset_descriptor.__get__"))) (htk:PySem.W.takesIn K (.builtin "object.__class__")=some true)
      (hm:PySem.W.mroIn K C (.type "object")=some true):zc6 K H (.ref a) (.ref C)
theorem zeP {x:V}{u t:Value}(I:Inv X pins σ H s)(rx:xZ x u)(ty:zc6 X.K H x t)(e:PySem.W.kitOne X.K t c=some b)(h:∀ tk,Q (.bool b) { s with toks:=tk }) :
    wpAny (model X.prog X.w) A (call (.builtin "isinstance") [u,c]) Q E s:=by
  cases ty with
  | non=>cases (show u=Value.none from rx);exact PySem.W.kia_one PySem.W.kitx_none I.kIn True.intro e (fun z=>nomatch z) h
  | bl y=>cases (show u=Value.bool y from rx);exact PySem.W.kia_one PySem.W.kitx_bool I.kIn True.intro e (fun z=>nomatch z) h
  | int i=>obtain ⟨t,q⟩:=(show ∃ t,u=Value.int i t from rx);cases q;exact PySem.W.kia_one PySem.W.kitx_int I.kIn True.intro e (fun z=>nomatch z) h
  | str y=>obtain ⟨t,q⟩:=(show ∃ t,u=Value.str y t from rx);cases q;exact PySem.W.kia_one PySem.W.kitx_str I.kIn True.intro e (fun z=>nomatch z) h
  | flt y=>obtain ⟨t,q⟩:=(show ∃ t,u=Value.float y t from rx);cases q;exact PySem.W.kia_one PySem.W.kitx_float I.kIn True.intro e (fun z=>nomatch z) h
  | @lst a xs ea =>
    cases (show u=Value.ref a from rx)
    obtain ⟨_,_,n,_,h1⟩:=(show wu X.prog X.w H s.heap a (.lst xs) from I.hok a _ ea)
    exact PySem.W.kia_one PySem.W.kitx_list I.kIn ⟨_,h1,rfl⟩ e (fun z=>nomatch z) h
  | @frz a ob xs ea =>
    cases (show u=Value.ref a from rx)
    obtain ⟨_,_,_,n,_,h1⟩:=(show wu X.prog X.w H s.heap a (.frz ob (.lst xs)) from I.hok a _ ea)
    exact PySem.W.kia_one PySem.W.kitx_list I.kIn ⟨_,h1,rfl⟩ e (fun z=>nomatch z) h
  | @tup a xs ea =>
    cases (show u=Value.ref a from rx)
    obtain ⟨_,_,_,p⟩:=(show wu X.prog X.w H s.heap a (.tup xs) from I.hok a _ ea)
    obtain ⟨o,h1,h2,_⟩:=p
    exact PySem.W.kia_one PySem.W.kitx_tuple I.kIn ⟨o,h1,h2⟩ e (fun z=>nomatch z) h
  | @dK a kvs ea =>
    cases (show u=Value.ref a from rx)
    obtain ⟨_,_,vs,_,p⟩:=(show wu X.prog X.w H s.heap a (.dK kvs) from I.hok a _ ea)
    obtain ⟨o,es,ep,h1,h2,_⟩:=p
    exact PySem.W.kia_one PySem.W.kitx_dict I.kIn ⟨o,h1,h2.1⟩ e (fun z=>nomatch z) h
  | @dT a kvs ea =>
    cases (show u=Value.ref a from rx)
    obtain ⟨_,_,xs,_,o,es,ep,h1,h2,_⟩:=(show wu X.prog X.w H s.heap a (.dT kvs) from I.hok a _ ea)
    exact PySem.W.kia_one PySem.W.kitx_dict I.kIn ⟨o,h1,h2.1⟩ e (fun z=>nomatch z) h
  | @ins a C dx fs ea cl ha hn htk hm =>
    cases (show u=Value.ref a from rx)
    obtain ⟨mA,O,_⟩:=zjk I.hok ea
    obtain ⟨od,J,_⟩:=O.look
    exact PySem.W.kia_one (PySem.W.kitx_own (cl.get _) cl.hd ha hn htk hm) I.kIn J e (fun z=>nomatch z) h
end
end L2
namespace L2
open PySem PySem.Spec PyProof.Rows
set_option genInjectivity false in
set_option genSizeOf false in
set_option genCtorIdx false in
structure YO (k:Nat) (A:Around):Prop where
  hd:A.handled=none
  dp:A.depth+3*k+5 < recursionLimit
  un:A.units+16*k+200 < cLine
theorem YO.mono {j k:Nat}{A:Around}(r:YO k A)(h:j≤k):YO j A:=⟨r.hd,by have:=r.dp;omega,by have:=r.un;omega⟩
theorem YO.deeper {k:Nat}{A:Around}(r:YO (k+1) A)(env:Env):YO k (A.deeper env) :=
  ⟨r.hd,by have:=r.dp;show A.depth+1+3*k+5 < _;omega,by have:=r.un;show A.units+3+16*k+200 < _;omega⟩
theorem YO.depth {k:Nat}{A:Around}(r:YO k A):A.depth < recursionLimit:=by have:=r.dp;omega
theorem YO.units0 {k:Nat}{A:Around}(r:YO k A):A.units < cLine:=by have:=r.un;omega
def zh3:TA:=fun _ H Q=>Q [] H
def WA (ta:TE)(tr:TA):TA:=fun σ H Q=>ta σ H fun x H1=>tr σ H1 fun xs H2=>Q (x::xs) H2
section
variable {X:Cx}{e:Expr}{es:List Expr}{te:TE}{t:TA}{pos:Pos}
theorem yB:PA X [] zh3:=fun _ _ _ _ H Q I h=>Calls.spliced_nil ⟨[],H,I,.nil,h⟩
theorem zq (ha:PE X e te)(hr:PA X es t)(hs:starEach (e::es) X.env=(false,eval e X.env)::starEach es X.env:=by rfl):PA X (e::es) (WA te t):=by
  intro pos pins s σ H Q I h
  rw [hs]
  show wpAny _ _ (spliced ((false,eval e X.env)::backTo pos (starEach es X.env))) _ _ s
  refine Calls.spliced_cons (thn (ha pins s σ H _ I h) fun u s1 hh9=>?_)
  obtain ⟨x,H1,I1,r1,q1⟩:=hh9
  exact thn (hr pos pins s1 σ H1 _ I1 q1) fun us s2 ⟨xs,H2,I2,r2,q2⟩=>⟨x::xs,H2,I2,.cons r1 r2,q2⟩
def tTup (t:TA):TE:=fun σ H Q=>t σ H fun xs H1=>xs.length≤sizeLine∧∀ p,H1 p=none→Q (.ref p) (upd H1 p (.tup xs))
def zlX (t:TA):TE:=fun σ H Q=>t σ H fun xs H1=>xs.length≤sizeLine∧∀ p,H1 p=none→Q (.ref p) (upd H1 p (.lst xs))
theorem zkp {x1}(h:PA X es t):PE X (.Tuple es x1 pos) (tTup t):=by
  intro pins s σ H Q I hq
  refine wpAny_Tuple_spliced (thn (h pos pins s σ H _ I hq) fun us s1 ⟨xs,H1,I1,r,z,q⟩=>⟨by rw [←r.length];exact z,?_⟩)
  have hf:H1 s1.heap.objs.size=none:=I1.hok.fresh (Nat.le_refl _)
  refine ⟨.ref s1.heap.objs.size,upd H1 s1.heap.objs.size (.tup xs),I1.laid (t':=s1.toks) (fun b u e=>Heap.get?_push_of_some _ e) (Nat.le_refl _) ?_,rfl,q _ hf⟩
  exact ⟨z,us,r,⟨_,Heap.get?_push_size _ rfl,rfl,_,rfl⟩⟩
theorem zba (h:PA X es t):PE X (.List es pos) (zlX t):=by
  intro pins s σ H Q I hq
  refine wpAny_List_spliced (thn (h pos pins s σ H _ I hq) fun us s1 ⟨xs,H1,I1,r,z,q⟩=>⟨by rw [←r.length];exact z,?_⟩)
  have hf:H1 s1.heap.objs.size=none:=I1.hok.fresh (Nat.le_refl _)
  refine ⟨.ref s1.heap.objs.size,upd H1 s1.heap.objs.size (.lst xs),I1.laid (t':=s1.toks) (fun b u e=>Heap.get?_push_of_some _ e) (Nat.le_refl _) ?_,rfl,q _ hf⟩
  exact ⟨z,us,0,r,Heap.get?_push_size _ rfl⟩
end
abbrev Sp:=List V→Hp→VK→XK→Prop
abbrev CXT:=List Env→Hp→Shared→XK→Value→Shared→Prop
structure zjQ (P:Program) (w:World) (K:PySem.W.Frag) (mg:Str→Option Value) (base:Heap) (A:Around) (outer:List Env) (s:Shared) (H:Hp):Prop where
  frames:A.frames=some outer
  mod:Mod K mg base
  bs:∀ b o,base.get? b=some o→s.heap.get? b=some o∧H b=none
  bsz:base.objs.size≤s.heap.objs.size
  funs:s.heap.FunFrames base outer
  frf:∀ b∈frs outer,H b=none
  hok:HOk P w H s.heap
  bare:AllBare s.gens
def CE (outer:List Env)(P:Program)(w:World)(H:Hp)(s:Shared)(Q:VK)(u:Value)(s':Shared):Prop :=
  ∃ v H',s'.os=s.os∧AllBare s'.gens∧Un (frs outer) [] H H' s.heap s'.heap∧HOk P w H' s'.heap∧xZ v u∧Q v H'
def CR (CX:CXT)(outer:List Env)(P:Program)(w:World)(H:Hp)(s:Shared)(Q:VK)(E:XK)(r:Result)(s':Shared):Prop :=
  match r with
  | .ok (.ret u)=>CE outer P w H s Q u s'
  | .ok _=>False
  | .error e=>CX outer H s E e s'
set_option genInjectivity false in
set_option genSizeOf false in
set_option genCtorIdx false in
structure xE (P:Program) (w:World) (K:PySem.W.Frag) (mg:Str→Option Value) (base:Heap) (CX:CXT) (k:Nat) (f:Addr) (fd:FuncData) (ps:List Str) (sp:Sp):Prop where
  len:∀ vs H Q E,sp vs H Q E→vs.length=ps.length
  run:∀ (A:Around) (outer:List Env) (s:Shared) (H:Hp) (args:Args) (us:List Value) (vs:List V) (Q:VK) (E:XK),YO k A→zjQ P w K mg base A outer s H→BindsTo s fd args (ps.zip us)→yr vs us→sp vs H Q E →
    codeAny (model P w) A (.call (.ref f) args) (CR CX outer P w H s Q E) s
theorem xE.mono {P:Program}{w:World}{K:PySem.W.Frag}{mg:Str→Option Value}{base:Heap}{CX:CXT}{j k:Nat}{f:Addr}{fd:FuncData}{ps:List Str}{sp:Sp}(F:xE P w K mg base CX j f fd ps sp)(h:j≤k) :
    xE P w K mg base CX k f fd ps sp:=⟨F.len,fun A outer s H args us vs Q E hr=>F.run A outer s H args us vs Q E (hr.mono h)⟩
theorem xE.imp {P:Program}{w:World}{K:PySem.W.Frag}{mg:Str→Option Value}{base:Heap}{CX:CXT}{k:Nat}{f:Addr}{fd:FuncData}{ps:List Str}{sp sp':Sp}(F:xE P w K mg base CX k f fd ps sp)
    (h:∀ vs H Q E,sp' vs H Q E→sp vs H Q E):xE P w K mg base CX k f fd ps sp' :=
  ⟨fun vs H Q E q=>F.len vs H Q E (h _ _ _ _ q),fun A outer s H args us vs Q E hr he hb hv hs=>F.run A outer s H args us vs Q E hr he hb hv (h _ _ _ _ hs)⟩
section
variable {X:Cx}{pins:List (Addr × Obj)}{σ:St}{H:Hp}{s s':Shared}
theorem Inv.env0 (I:Inv X pins σ H s):zjQ X.prog X.w X.K X.mg X.base X.A X.stack s H :=
  ⟨I.ok.frames,I.ok.mod,I.bs,Nat.le_trans I.ok.bsz I.sz,I.stack,I.stkFree,I.hok,I.bare⟩
theorem Inv.after {Q:VK}{u:Value}(I:Inv X pins σ H s)(h:CE X.stack X.prog X.w H s Q u s'):EP X pins σ Q u s':=by
  obtain ⟨v,H',os,bare,un,hok,r,q⟩:=h
  obtain ⟨hh,g,d,t,os'⟩:=s'
  obtain rfl:os'=s.os:=os
  exact ⟨v,H',I.call (h':=hh) (g':=g) (d':=d) (t':=t) (ch:=[]) un hok bare (fun b z=>absurd z (by simp)),r,q⟩
end
def ziQ (sp:Sp)(dvs:List V)(E:XK)(t:TA):TE:=fun σ H Q=>t σ H fun vs H1=>sp (vs++dvs) H1 Q E
def Vv (K:PySem.W.Frag)(fd:FuncData)(ps:List Str)(ds:List Value):Prop :=
  ∀ (s:Shared) (us:List Value),K.In s.heap→(us++ds).length=ps.length→BindsTo s fd ⟨us,[]⟩ (ps.zip (us++ds))
theorem Vv.all {K:PySem.W.Frag}{fd:FuncData}{ps:List Str}(h:∀ us:List Value,us.length=ps.length→bindArgs fd ⟨us,[]⟩=pure (ps.zip us)):Vv K fd ps []:=fun s us _ hl=>by
  rw [List.append_nil] at hl ⊢
  exact .of_eq (h us hl)
def XN (CX:CXT)(X:Cx)(E:XK):Prop:=∀ (pins:List (Addr × Obj)) (σ:St) (H:Hp) (s:Shared) (e:Value) (s':Shared),Inv X pins σ H s→CX X.stack H s E e s'→X.xe e s'
section
variable {X:Cx}{CX:CXT}{k:Nat}{f C:Addr}{fd:FuncData}{ps:List Str}{sp:Sp}{dvs:List V}{ds:List Value}{E:XK}{x m:Str}{p pos apos:Pos}{e o:Expr}{es:List Expr}{ta:TE}{t:TA}
theorem zjI {pins:List (Addr × Obj)}{σ:St}{H:Hp}{s:Shared}{Q:VK}{us:List Value}{vs:List V}(F:xE X.prog X.w X.K X.mg X.base CX k f fd ps sp)(hr:YO k X.A)(hb:Vv X.K fd ps ds)(hd:yr dvs ds)(hx:XN CX X E)
    (I:Inv X pins σ H s) (r:yr vs us) (h:sp (vs++dvs) H Q E):wpAny (model X.prog X.w) X.A (call (.ref f) us) (EP X pins σ Q) X.xe s:=by
  have r2:yr (vs++dvs) (us++ds):=r.append hd
  have hl:(us++ds).length=ps.length:=by rw [←r2.length];exact F.len _ _ _ _ h
  refine wpAny_call (codeAny_mono (F.run X.A X.stack s H ⟨us,[]⟩ (us++ds) (vs++dvs) Q E hr I.env0 (hb s us I.kIn hl) r2 h) fun r s' hq=>?_)
  cases r with
  | error e=>exact hx pins σ H s e s' I hq
  | ok fl =>
    cases fl with
    | ret u=>exact I.after hq
    | next=>exact False.elim hq
    | brk=>exact False.elim hq
    | cont=>exact False.elim hq
theorem zcn (F:xE X.prog X.w X.K X.mg X.base CX k f fd ps sp)(hr:YO k X.A)(hg:Gl X x)(hm:X.mg x=some (.ref f))(hk:PySem.W.keepIn X.K (.ref f)=true)(hb:Vv X.K fd ps ds)(hd:yr dvs ds)(hx:XN CX X E)
    (ha:PA X (e::es) t) (hdb:(x == ("__debug__":Str))=false:=by decide) (he:starEach (e::es) X.env=(false,eval e X.env)::starEach es X.env:=by rfl) (hpl:(backTo pos (starEach es X.env)).any (·.1)=false:=by rfl) :
    PE X (.Call (.Name x p) (e::es) [] pos) (ziQ sp dvs E t):=by
  intro pins s σ H Q I h
  refine wpAny_Call_Name_kw (WP I hg hm ?_ hdb)
  refine PySem.W.callWith_K (h₀:=X.base) I.ok.mod.kin hk (thn (ha pos pins s σ H _ I h) fun us s1 ⟨vs,H1,I1,r,q⟩=>⟨I1.kIn,?_⟩) he hpl
  exact zjI F hr hb hd hx I1 r q
end
section
variable {X:Cx}{CX:CXT}{k:Nat}{f C:Addr}{fd:FuncData}{ps ks:List Str}{sp:Sp}{E:XK}{x m:Str}{p pos apos kpos:Pos}{e o:Expr}{es:List Expr}{kws:List Keyword}{te ta:TE}{t tk:TA}{nm:Option Str}
variable {g:List Value→List Value→List Value}{gV:List V→List V→List V}
end
structure zx (N P:List Str) (sc:Scope):Prop where
  kind:sc.kind=.function
  co:sc.isCoroutine=false
  gen:sc.isGenerator=false
  nd:N.Nodup
  pre:N.take P.length=P
  par:∀ x∈P,sc.names.lookup x=some .local∨sc.names.lookup x=some .cell
  nofree:∀ y∈sc.names,y.2≠.free
theorem zbH {kindOf:Str→Option NameKind}{x:Str}:∀ {binds:List (Str × Value)} {m:Str→Option Value},(∀ v,(x,v)∉binds)→bindL kindOf binds m x=m x
  | [],_,_=>rfl
  | (n,v)::r,m,h=>by
    unfold bindL
    rw [zbH fun w hw=>h w (List.mem_cons_of_mem _ hw)]
    split
    · have:x≠n:=by rintro rfl;exact h v List.mem_cons_self
      simp [this]
    · rfl
theorem zbi {kindOf:Str→Option NameKind}{x:Str}:∀ {binds:List (Str × Value)} {m:Str→Option Value},(∀ v,(x,v)∉binds)→bindC kindOf binds m x=m x
  | [],_,_=>rfl
  | (n,v)::r,m,h=>by
    unfold bindC
    rw [zbi fun w hw=>h w (List.mem_cons_of_mem _ hw)]
    split
    · rfl
    · have:x≠n:=by rintro rfl;exact h v List.mem_cons_self
      simp [this]
theorem zbp {kindOf:Str→Option NameKind}{x:Str}{v:Value}:∀ {P:List Str} {vs:List Value} {i:Nat} {m:Str→Option Value},P.Nodup→P[i]?=some x→vs[i]?=some v→kindOf x=some .local →
    bindL kindOf (P.zip vs) m x=some v
  | [],_,_,_,_,h,_,_=>by simp at h
  | _::_,[],_,_,_,_,h,_=>by simp at h
  | p::P,w::vs,0,m,nd,h1,h2,hk=>by
    simp at h1 h2;subst h1;subst h2
    show bindL kindOf ((p,w)::P.zip vs) m p=_
    unfold bindL
    rw [zbH fun v hv=>(List.nodup_cons.mp nd).1 (List.of_mem_zip hv).1,if_pos hk]
    simp
  | p::P,w::vs,i+1,m,nd,h1,h2,hk=>by
    show bindL kindOf ((p,w)::P.zip vs) m x=_
    unfold bindL
    exact zbp (i:=i) (List.nodup_cons.mp nd).2 (by simpa using h1) (by simpa using h2) hk
theorem za8 {kindOf:Str→Option NameKind}{x:Str}{v:Value}:∀ {P:List Str} {vs:List Value} {i:Nat} {m:Str→Option Value},P.Nodup→P[i]?=some x→vs[i]?=some v→kindOf x≠some .local →
    bindC kindOf (P.zip vs) m x=some v
  | [],_,_,_,_,h,_,_=>by simp at h
  | _::_,[],_,_,_,_,h,_=>by simp at h
  | p::P,w::vs,0,m,nd,h1,h2,hk=>by
    simp at h1 h2;subst h1;subst h2
    show bindC kindOf ((p,w)::P.zip vs) m p=_
    unfold bindC
    rw [zbi fun v hv=>(List.nodup_cons.mp nd).1 (List.of_mem_zip hv).1,if_neg hk]
    simp
  | p::P,w::vs,i+1,m,nd,h1,h2,hk=>by
    show bindC kindOf ((p,w)::P.zip vs) m x=_
    unfold bindC
    exact za8 (i:=i) (List.nodup_cons.mp nd).2 (by simpa using h1) (by simpa using h2) hk
def start (N:List Str)(vs:List V):St:=vs.map some++List.replicate (N.length - vs.length) none
def VF (CX:CXT)(P:Program)(w:World)(K:PySem.W.Frag)(mg:Str→Option Value)(base:Heap)(N:List Str)(qual:Str)(scope:Scope)(f:Addr)(cd:Value)(A:Around)(outer:List Env)(s:Shared)(H:Hp)(E:XK):Cx where
  prog:=P
  w:=w
  K:=K
  mg:=mg
  base:=base
  A:=A.deeper (envOfC qual scope s.heap.objs.size f cd)
  N:=N
  s₀:=s
  H₀:=H
  env:=envOfC qual scope s.heap.objs.size f cd
  outer:=outer
  stack:=envOfC qual scope s.heap.objs.size f cd::outer
  ex:=[]
  calm:=true
  fn:=fun _=>true
  pn:=[]
  xe:=fun e s'=>wpAny (model P w) (A.deeper (envOfC qual scope s.heap.objs.size f cd)) (leaving (envOfC qual scope s.heap.objs.size f cd) e) (fun _ s''=>CX outer H s E e s'') (fun e' s''=>CX outer H s E e' s'') s'
theorem zcX {sc:Scope}{n:Nat}{x:Str}(h:sc.names.lookup x=some .cell):∃ c,(cellsFrom n sc.names []).lookup x=some c:=by
  have q:=PySem.W.cellsFrom_some sc.names n [] (.inl h)
  exact Option.isSome_iff_exists.mp q
theorem zbL {CX:CXT}{P:Program}{w:World}{K:PySem.W.Frag}{mg:Str→Option Value}{base:Heap}{N ps:List Str}{qual:Str}{scope:Scope}{f:Addr}{cd:Value}{A:Around}{outer:List Env}{s s1:Shared}{H:Hp}{E:XK}{us:List Value}{vs:List V}
    (S:zx N ps scope) (hd:A.handled=none) (e0:zjQ P w K mg base A outer s H) (hl:vs.length=ps.length) (r:yr vs us)
    (x:InCallC s s.heap.objs.size (bindL (envOfC qual scope s.heap.objs.size f cd).kindOf (ps.zip us) fun _=>none) (cellsFrom (s.heap.objs.size+1) scope.names []) (bindC (envOfC qual scope s.heap.objs.size f cd).kindOf (ps.zip us) fun _=>none) s1) :
    Inv (VF CX P w K mg base N qual scope f cd A outer s H E) [] (start N vs) H s1:=by
  have hpl:ps.length≤N.length:=by have:=congrArg List.length S.pre;rw [List.length_take] at this;omega
  obtain ⟨h1,tk,rfl,hk⟩:=x.done
  have noA:∀ b:Addr,b∉(VF CX P w K mg base N qual scope f cd A outer s H E).ex:=fun b z=>absurd (show b∈([]:List Addr) from z) (by simp)
  refine ⟨⟨e0.mod,S.kind,rfl,rfl,Nat.le_refl _,fun y z c h1 h2=>?_,fun y hy=>?_,fun y c _ h=>?_,fun _=>hd,Around.frames_deeper e0.frames,.inr ⟨rfl,rfl⟩,fun b z=>absurd z (noA b),e0.bs,e0.bsz,fun b _ _=>noA b,fun b z=>absurd z (noA b),e0.funs,e0.frf⟩,
    rfl,e0.bare,Un.kept hk,⟨_,x.toInCall.ns,fun i y v h1 h2 h3=>?_⟩,fun y c h=>⟨_,x.cell y c h⟩,e0.hok.fresh (Nat.le_refl _),fun y c h=>?_,fun p hp=>absurd (show p∈([]:List (Addr × Obj)) from hp) (by simp),e0.hok.kept hk,?_⟩
  · exact name_of_addr x.apart (PySem.mem_of_lookup h1) (PySem.mem_of_lookup h2)
  · have hy:scope.names.lookup y=some .cell∨scope.names.lookup y=some .free:=hy
    rcases hy with hy | hy
    · exact zcX hy
    · exact absurd rfl (S.nofree _ (PySem.mem_of_lookup hy))
  · exact Nat.le_of_lt (x.above y c (PySem.mem_of_lookup h))
  · have hi:i < vs.length:=by
      unfold start at h2
      by_cases hi:i < vs.length
      · exact hi
      · rw [List.getElem?_append_right (by simpa using hi)] at h2
        rw [List.getElem?_replicate] at h2
        split at h2 <;> cases h2
    have ha:vs[i]?=some v:=by
      unfold start at h2
      rw [List.getElem?_append_left (by simpa using hi),List.getElem?_map] at h2
      cases e:vs[i]? with
      | none=>rw [e] at h2;cases h2
      | some a=>rw [e] at h2;cases h2;rfl
    obtain ⟨u,hu,rv⟩:=r.get ha
    have hp:ps[i]?=some y:=by
      rw [←S.pre,List.getElem?_take_of_lt (by omega)];exact h1
    have ndP:ps.Nodup:=by rw [←S.pre];exact S.nd.sublist (List.take_sublist _ _)
    refine ⟨u,rv,?_⟩
    rcases S.par y (List.mem_of_getElem? hp) with k | k
    · exact .inl ⟨k,zbp ndP hp hu k⟩
    · obtain ⟨c,e⟩:=zcX (n:=s.heap.objs.size+1) k
      refine .inr ⟨.inl k,c,e,?_⟩
      have q:=x.cell y c e
      rw [za8 ndP hp hu (by show scope.names.lookup y≠_;rw [k];decide)] at q
      exact q
  · exact e0.hok.fresh (Nat.le_of_lt (x.above y c (PySem.mem_of_lookup h)))
  · unfold start
    show _=N.length
    rw [List.length_append,List.length_map,List.length_replicate]
    omega
theorem zkQ {CX:CXT}{P:Program}{w:World}{K:PySem.W.Frag}{mg:Str→Option Value}{base:Heap}{k:Nat}{f:Addr}{name qual:Str}{params:Arguments}{body:List Stmt}{scope:Scope}{dV kV doc pm cdv ct oc:Value}{an od:Option Addr}
    {osl:Array (Option Value)} {N ps:List Str} {sp:Sp} (lk:K.lookup f=some ⟨oc,od,.func (PySem.W.fnOf name qual params body scope dV kV doc pm an cdv ct),osl⟩) (hcd:PySem.W.codeIn K cdv qual=true) (S:zx N ps scope)
    (len:∀ vs H Q E,sp vs H Q E→vs.length=ps.length)
    (hbody:∀ (A:Around) (outer:List Env) (s:Shared) (H:Hp) (vs:List V) (Q:VK) (E:XK),YO k (A.deeper (envOfC qual scope s.heap.objs.size f cdv))→sp vs H Q E →
      ∃ t,PSs (VF CX P w K mg base N qual scope f cdv A outer s H E) body t∧t { nx:=fun _ H'=>Q .non H',rt:=Q } (start N vs) H) :
    xE P w K mg base CX (k+1) f (PySem.W.fnOf name qual params body scope dV kV doc pm an cdv ct) ps sp:=by
  refine ⟨len,fun A outer s H args us vs Q E hr e0 hb r hsp=>?_⟩
  have hl:=len _ _ _ _ hsp
  have KX:K.In s.heap:=e0.mod.kin.keeps fun b o e=>(e0.bs b o e).1
  have lim:s.heap.NoLimit:=e0.mod.nolimit.keeps fun b o e=>(e0.bs b o e).1
  have hkind:∀ y∈ps.zip us,scope.names.lookup y.1=some .local∨(scope.names.lookup y.1=some .cell∧((cellsFrom (s.heap.objs.size+1) scope.names []).lookup y.1).isSome=true):=fun ⟨n,v⟩ hy=>by
    rcases S.par n (List.of_mem_zip hy).1 with q | q
    · exact .inl q
    · exact .inr ⟨q,PySem.W.cellsFrom_some _ _ _ (.inl q)⟩
  refine codeAny_call_function hr.depth (KX _ _ lk) rfl S.co S.gen rfl (PySem.W.codeRec_of KX hcd) (hb _ _ _ _ ?_)
  refine wpAny_newFunctionEnv_cells S.kind hkind fun env he s1 x=>?_
  subst he
  refine ⟨lim.keeps x.toInCall.keep,codeAny_func ?_⟩
  obtain ⟨t,ht,hq⟩:=hbody A outer s H vs Q E (hr.deeper _) hsp
  have I:Inv (VF CX P w K mg base N qual scope f cdv A outer s H E) [] (start N vs) H s1:=zbL S hr.hd e0 hl r x
  refine wpAny_mono (ht [] s1 (start N vs) H _ I hq) (fun fl s' hs=>?_) fun e s' hs=>hs
  have fin:∀ {σ':St} {H':Hp} {v:V} {u:Value},Inv (VF CX P w K mg base N qual scope f cdv A outer s H E) [] σ' H' s'→xZ v u→Q v H'→CE outer P w H s Q u s' :=
    fun {σ' H' v u} J rv q=>⟨v,H',J.os,J.bare,J.base,J.hok,rv,q⟩
  cases fl with
  | ret u =>
    obtain ⟨v,σ',H',J,rv,q⟩:=hs
    exact fin J rv q
  | next =>
    obtain ⟨σ',H',J,q⟩:=hs
    exact fin (v:=V.non) (u:=Value.none) J rfl q
  | brk =>
    obtain ⟨_,_,_,q⟩:=hs
    exact False.elim q
  | cont =>
    obtain ⟨_,_,_,q⟩:=hs
    exact False.elim q
end L2
namespace L2
open PySem PySem.Spec PyProof.Rows
section
variable {X:Cx}{x:Str}{p pos:Pos}{e:Expr}{es:List Expr}{t:TA}{id T:String}{r:List V→Hp→VK→Prop}
def tCB (r:List V→Hp→VK→Prop)(t:TA):TE:=fun σ H Q=>t σ H fun vs H1=>r vs H1 Q
theorem yl (hc:YL X (.builtin id) r) (hg:Gl X x) (hm:X.mg x=none) (hv:bootBuiltins x=some (.builtin id)) (ha:PA X (e::es) t) (hn:x≠"__name__":=by decide) (hdb:(x == ("__debug__":Str))=false:=by decide)
    (he:starEach (e::es) X.env=(false,eval e X.env)::starEach es X.env:=by rfl) (hpl:(backTo pos (starEach es X.env)).any (·.1)=false:=by rfl):PE X (.Call (.Name x p) (e::es) [] pos) (tCB r t):=by
  intro pins s σ H Q I h
  refine wpAny_Call_Name_kw (Z2 I hg hm hv ?_ hn hdb)
  exact PyProof.Rows.callWith_builtin1 (thn (ha pos pins s σ H _ I h) fun us s1 ⟨vs,H1,I1,r1,q1⟩=>hc pins s1 σ H1 vs us Q I1 r1 q1) he hpl
theorem zbA (hc:YL X (.type T) r) (hg:Gl X x) (hm:X.mg x=none) (hv:bootBuiltins x=some (.type T)) (ha:PA X (e::es) t) (hn:x≠"__name__":=by decide) (hdb:(x == ("__debug__":Str))=false:=by decide)
    (he:starEach (e::es) X.env=(false,eval e X.env)::starEach es X.env:=by rfl) (hpl:(backTo pos (starEach es X.env)).any (·.1)=false:=by rfl):PE X (.Call (.Name x p) (e::es) [] pos) (tCB r t):=by
  intro pins s σ H Q I h
  refine wpAny_Call_Name_kw (Z2 I hg hm hv ?_ hn hdb)
  exact PyProof.Rows.callWith_type1 (thn (ha pos pins s σ H _ I h) fun us s1 ⟨vs,H1,I1,r1,q1⟩=>hc pins s1 σ H1 vs us Q I1 r1 q1) he hpl
end
end L2
namespace HT
open PySem PyProof.Rows
theorem zhb (A:Around)(s:Shared)(a:Int)(t:Tok)(c:Int)(u:Tok):∃ e,SeqAt.EqAt A s (.int a t) (.int c u) e∧(e=true↔a=c) :=
  ⟨(a == c),SeqAt.EqAt.int_int a t c u,by simp⟩
section
open PySem.SeqAt
open PySem.AutoSeq1 (wpAny_loadPart')
open PySem.MeetsSeq PySem.MeetsSeq2 PySem.MeetsSeq3
end
section
variable {prog:Program}{w:World}{A:Around}{E:Value→Shared→Prop}{s:Shared}
theorem cat_tup {t b:Addr}{vs ws:List Value}{Q:Value→Shared→Prop}(ht:IsTup s.heap t vs.toArray)(hb:IsTup s.heap b ws.toArray)(hv:vs≠[])
    (h1:ws=[]→Q (.ref t) s) (h2:ws≠[]→Q (.ref s.heap.objs.size) { s with heap:=s.heap.push { cls:=.type "tuple",data:=.seq (vs++ws).toArray } })
    (hsz:vs.length+ws.length≤sizeLine):wpAny (model prog w) A (binaryOp .Add (.ref t) (.ref b)) Q E s:=by
  obtain ⟨⟨cls,dd,data,sl⟩,ho,hc,n,hd⟩:=id ht
  obtain ⟨⟨cls2,dd2,data2,sl2⟩,ho2,hc2,n2,hd2⟩:=id hb
  simp only at hc hd hc2 hd2
  subst hc hd hc2 hd2
  have e:vs.toArray++ws.toArray=(vs++ws).toArray:=by simp
  by_cases hw:ws=[]
  · exact concat_meets ⟨_,ho,rfl⟩ ⟨_,ho2,rfl⟩ noFill_tuple_add seq_tuple_add PySem.F.slot_tuple_add PySem.F.entry_tuple_add (PySem.F.args_tuple_add_2 _ _)
      (tuple_addW1 t b vs.toArray ws.toArray n n2 dd dd2 sl sl2 (by simpa using hv) (by simp [hw])) ⟨ho,ho2,h1 hw⟩
  · refine concat_meets ⟨_,ho,rfl⟩ ⟨_,ho2,rfl⟩ noFill_tuple_add seq_tuple_add PySem.F.slot_tuple_add PySem.F.entry_tuple_add (PySem.F.args_tuple_add_2 _ _)
      (tuple_addW2 t b vs.toArray ws.toArray n n2 dd dd2 sl sl2 (by simpa using hv) (by simpa using hw) (by rw [List.size_toArray,List.size_toArray];exact hsz)) ⟨ho,ho2,?_⟩
    rw [e]
    exact h2 hw
def sIx (n d:Nat):Option Int→Nat
  | none=>d
  | some v=>if v < 0 then (v+(n:Int)).toNat else min v.toNat n
theorem sIx_none (n d:Nat):sIx n d none=d:=rfl
theorem sIx_nat (n d k:Nat):sIx n d (some (k:Int))=min k n:=by
  show (if (k:Int) < 0 then ((k:Int)+(n:Int)).toNat else min (k:Int).toNat n)=min k n
  rw [if_neg (by omega),Int.toNat_natCast]
theorem zj7 (n d:Nat)(hd:d≤n)(o:Option Int):sIx n d o≤n:=by
  cases o with
  | none=>exact hd
  | some v =>
    show (if v < 0 then (v+(n:Int)).toNat else min v.toNat n)≤n
    by_cases hv:v < 0
    · rw [if_pos hv];omega
    · rw [if_neg hv];exact Nat.min_le_right _ _
theorem zeh (v:Int)(n d:Nat):(if v < 0 then max (v+(n:Int)) 0 else min v (n:Int))=((sIx n d (some v):Nat):Int):=by
  show (if v < 0 then max (v+(n:Int)) 0 else min v (n:Int))=(((if v < 0 then (v+(n:Int)).toNat else min v.toNat n):Nat):Int)
  by_cases hv:v < 0
  · simp only [if_pos hv];omega
  · simp only [if_neg hv];omega
theorem zdD (lo hi:Option Int)(n:Nat):Builtin.Slice.sliceAdjust lo hi 1 (n:Int)=(((sIx n 0 lo:Nat):Int),((sIx n n hi:Nat):Int)):=by
  have h1:¬ ((1:Int) < 0):=by omega
  unfold Builtin.Slice.sliceAdjust
  simp only [h1,if_false]
  refine Prod.ext ?_ ?_
  · cases lo with
    | none=>rfl
    | some v=>exact zeh v n 0
  · cases hi with
    | none=>rfl
    | some v=>exact zeh v n n
theorem zdC (i j:Nat):Builtin.Slice.slicePlaces (i:Int) (j:Int) 1=j - i:=by
  unfold Builtin.Slice.slicePlaces
  have h1:(1:Int) > 0:=by omega
  simp only [h1,if_true,Int.ediv_one]
  split <;> omega
theorem VC {v:Value}{o:Option Int}{Q:Option Int→Shared→Prop}(p:IsPart v o)(h:Q o s):wpAny (model prog w) A (Builtin.Slice.slicePartIndex v) Q E s:=by
  cases p with
  | none=>exact slicePart_none h
  | int i t=>exact slicePart_int h
theorem YJ {sl:Addr}{vl vu:Value}{lo hi:Option Int}{n:Nat}{Q:Int × Int × Nat→Shared→Prop}(hs:s.heap.IsSliceOf sl vl vu .none)(pl:IsPart vl lo)(pu:IsPart vu hi)
    (h:Q (((sIx n 0 lo:Nat):Int),1,sIx n n hi - sIx n 0 lo) s):wpAny (model prog w) A (Builtin.Slice.sliceApplied (.ref sl) (pure (n:Int))) Q E s:=by
  obtain ⟨os,hos,hcs,hds⟩:=id hs
  unfold Builtin.Slice.sliceApplied Builtin.Slice.sliceFields
  refine wpAny_bind (wpAny_bind (wpAny_field hos hds (x:=vl) rfl (wpAny_bind (wpAny_field hos hds (x:=vu) rfl (wpAny_bind (wpAny_field hos hds (x:=.none) rfl (wpAny_pure ?_)))))))
  refine wpAny_bind (slicePart_none ?_)
  show wpAny _ _ (if ((1:Int) == 0)=true then _ else _) _ _ s
  rw [if_neg (by decide)]
  refine wpAny_bind (VC pl (wpAny_bind (VC pu (wpAny_bind (wpAny_pure ?_)))))
  show wpAny _ _ (match Builtin.Slice.sliceAdjust lo hi 1 (n:Int) with | (lo,hi)=>pure (lo,(1:Int),Builtin.Slice.slicePlaces lo hi 1)) _ _ s
  rw [zdD lo hi n]
  show wpAny _ _ (pure (((sIx n 0 lo:Nat):Int),(1:Int),Builtin.Slice.slicePlaces ((sIx n 0 lo:Nat):Int) ((sIx n n hi:Nat):Int) 1)) _ _ s
  rw [zdC]
  exact wpAny_pure h
theorem zhw (xs:Array Value)(i k:Nat):((List.range k).filterMap fun (m:Nat)=>xs[((i:Int)+(m:Int)*1).toNat]?).toArray=((xs.toList.drop i).take k).toArray:=by
  have e:(fun (m:Nat)=>xs[((i:Int)+(m:Int)*1).toNat]?)=fun m=>xs[i+m]?:=by
    funext m
    have:((i:Int)+(m:Int)*1).toNat=i+m:=by omega
    rw [this]
  rw [e]
  have:=pick_run xs i k
  rw [List.filterMap_map] at this
  have e2:((fun x=>xs[x]?) ∘ fun x=>i+x)=fun m=>xs[i+m]?:=rfl
  rw [e2] at this
  rw [this]
theorem getItem_tuple_cut {t sl:Addr}{items:Array Value}{vl vu:Value}{lo hi:Option Int}{Q:Value→Shared→Prop}(ht:IsTup s.heap t items)(hs:s.heap.IsSliceOf sl vl vu .none)(pl:IsPart vl lo)(pu:IsPart vu hi)
    (hw:¬ (sIx items.size 0 lo=0∧sIx items.size items.size hi=items.size))
    (h:Q (.ref s.heap.objs.size) { s with heap:=s.heap.push { cls:=.type "tuple",data:=.seq ((items.toList.drop (sIx items.size 0 lo)).take (sIx items.size items.size hi - sIx items.size 0 lo)).toArray } })
    (hsz:items.size≤sizeLine):wpAny (model prog w) A (getItem (.ref t) (.ref sl)) Q E s:=by
  have htake:sizeOk (.seq ((items.toList.drop (sIx items.size 0 lo)).take (sIx items.size items.size hi - sIx items.size 0 lo)).toArray):=by
    show ((items.toList.drop (sIx items.size 0 lo)).take (sIx items.size items.size hi - sIx items.size 0 lo)).toArray.size≤sizeLine
    rw [List.size_toArray,List.length_take,List.length_drop,Array.length_toList]
    omega
  have hj:sIx items.size items.size hi≤items.size:=zj7 _ _ (Nat.le_refl _) hi
  obtain ⟨os,hos,hcs,hds⟩:=id hs
  have hTs:s.TypeIs (.ref sl) "slice":=⟨os,hos,hcs⟩
  unfold getItem
  try with_reducible refine wpAny_holding ?_
  first | refine wpAny_bind (wpAny_pure ?_) | skip
  refine wpAny_bind (wpAny_sequenceKey ht.typeIs (by decide) ?_)
  refine wpAny_bind (wpAny_callSpecial?_slot (name:=Str.ofString "__getitem__") ht.typeIs PyProof.Rows.slot_tuple_getitem
    (wpAny_call_entry PyProof.Rows.slot_tuple_getitem ht.typeIs entry_tuple_getitem ?_ (args_tuple_getitem _ _)))
  show wpAny _ _ (Builtin.Tuple.tupleItemsOf (.ref t)>>=_) _ _ s
  refine wpAny_bind (tupleItemsOf_ ht ?_)
  refine wpAny_bind (wpAny_typeOf hTs ?_)
  rw [if_pos (by decide)]
  refine wpAny_bind (YJ hs pl pu ?_)
  have hno:¬ ((((sIx items.size 0 lo:Nat):Int) == 0&&(1:Int) == 1&&(sIx items.size items.size hi - sIx items.size 0 lo) == items.size)=true):=by
    intro q
    rw [Bool.and_eq_true,Bool.and_eq_true] at q
    have q1:((sIx items.size 0 lo:Nat):Int)=0:=eq_of_beq q.1.1
    have q2:sIx items.size items.size hi - sIx items.size 0 lo=items.size:=eq_of_beq q.2
    exact hw ⟨by omega,by omega⟩
  show wpAny _ _ (if (((sIx items.size 0 lo:Nat):Int) == 0&&(1:Int) == 1&&(sIx items.size items.size hi - sIx items.size 0 lo) == items.size)=true then _ else _) _ _ s
  rw [if_neg hno,zhw]
  first
    | exact wpAny_bind (m:=Builtin.Tuple.tupleExact _) (wpAny_newObj_type (wpAny_pure ⟨_,rfl,wpAny_pure h⟩) htake)
    | exact wpAny_bind (m:=Builtin.Tuple.tupleExact _) (wpAny_newObj_type (wpAny_bind (wpAny_pure (wpAny_pure ⟨_,rfl,wpAny_pure h⟩))) htake)
    | exact wpAny_bind (wpAny_bind (m:=Builtin.Tuple.tupleExact _) (wpAny_newObj_type (wpAny_pure (wpAny_pure ⟨_,rfl,wpAny_pure h⟩)) htake))
    | exact wpAny_bind (wpAny_bind (m:=Builtin.Tuple.tupleExact _) (wpAny_newObj_type (wpAny_pure ⟨_,rfl,wpAny_pure h⟩) htake))
end
end HT
namespace L2
open PySem PySem.Spec PyProof.Rows
abbrev TO:=St→Hp→(Option Int→Hp→Prop)→Prop
def PO (X:Cx)(e:Option Expr)(t:TO):Prop :=
  ∀ (pins:List (Addr × Obj)) (s:Shared) (σ:St) (H:Hp) (Q:Option Int→Hp→Prop),Inv X pins σ H s→t σ H Q →
    wpAny (model X.prog X.w) X.A (evalPart e X.env) (fun u s'=>∃ o H',Inv X pins σ H' s'∧IsPart u o∧Q o H') X.xe s
def ziM:TO:=fun _ H Q=>Q none H
def zlY (t:TE):TO:=fun σ H Q=>t σ H fun x H1=>∃ i,x=.int i∧Q (some i) H1
theorem Xv {ns:List Int}:∀ {us:List Value},yr (ns.map V.int) us→IntsAre us ns:=by
  induction ns with
  | nil=>intro us r;rw [List.map_nil] at r;cases r;exact .nil
  | cons n ns ih =>
    intro us r
    rw [List.map_cons] at r
    cases r with
    | cons r1 r2 =>
      obtain ⟨t,e⟩:=r1
      subst e
      exact .cons n t (ih r2)
section
variable {X:Cx}{e:Expr}{te:TE}{lo hi:Option Expr}{tl th:TO}{pos p2:Pos}
theorem zjl:PO X none ziM:=by
  intro pins s σ H Q I h
  rw [evalPart_none]
  exact wpAny_pure ⟨none,H,I,.none,h⟩
theorem ze7 (h:PE X e te):PO X (some e) (zlY te):=by
  intro pins s σ H Q I hw
  rw [evalPart_some]
  refine thn (h pins s σ H _ I hw) fun u s1 hh9=>?_
  obtain ⟨x,H1,I1,r1,q1⟩:=hh9
  obtain ⟨i,rfl,q⟩:=q1
  obtain ⟨t,rfl⟩:=r1
  exact ⟨some i,H1,I1,.int i t,q⟩
def SlR (X:Cx)(r:V→Option Int→Option Int→Hp→VK→Prop):Prop :=
  ∀ (pins:List (Addr × Obj)) (s:Shared) (σ:St) (H:Hp) (x:V) (v vl vu:Value) (lo hi:Option Int) (sl:Addr) (Q:VK),Inv X pins σ H s→xZ x v→s.heap.IsSliceOf sl vl vu .none→IsPart vl lo→IsPart vu hi→r x lo hi H Q →
    ∃ T id,typeLookup (.type T) "__getitem__"=pure (some (.builtin id))∧s.TypeIs v T∧wpAny (model X.prog X.w) X.A (getItem v (.ref sl)) (EP X pins σ Q) X.xe s
theorem SlR.or {r r':V→Option Int→Option Int→Hp→VK→Prop}(h:SlR X r)(h':SlR X r'):SlR X (fun x lo hi H Q=>r x lo hi H Q∨r' x lo hi H Q):=by
  intro pins s σ H x v vl vu lo hi sl Q I rx hs pl pu q
  rcases q with q | q
  · exact h pins s σ H x v vl vu lo hi sl Q I rx hs pl pu q
  · exact h' pins s σ H x v vl vu lo hi sl Q I rx hs pl pu q
def tSl (r:V→Option Int→Option Int→Hp→VK→Prop)(te:TE)(tl th:TO):TE:=fun σ H Q=>te σ H fun x H1=>tl σ H1 fun l H2=>th σ H2 fun u H3=>r x l u H3 Q
theorem zgD {r:V→Option Int→Option Int→Hp→VK→Prop}(hr:SlR X r)(he:PE X e te)(hl:PO X lo tl)(hu:PO X hi th):PE X (.Subscript e (.Slice lo hi none p2) pos) (tSl r te tl th):=by
  intro pins s σ H Q I h
  refine Subscript_ (thn (he pins s σ H _ I h) fun v s1 hh9=>?_)
  obtain ⟨x,H1,I1,r1,q1⟩:=hh9
  refine wpAny_Slice (thn (hl pins s1 σ H1 _ I1 q1) fun vl s2 ⟨l,H2,I2,pl,q2⟩=>thn (hu pins s2 σ H2 _ I2 q2) fun vu s3 hh9=>?_)
  obtain ⟨u,H3,I3,pu,q3⟩:=hh9
  rw [evalPart_none]
  refine wpAny_pure ?_
  have I4:Inv X pins σ H3 { s3 with heap:=s3.heap.push { cls:=.type "slice",data:=.fields #[vl,vu,.none] } }:=I3.kept (t':=s3.toks) fun b ob q=>Heap.get?_push_of_some _ q
  obtain ⟨T,id,hT,ht,hg⟩:=hr pins { s3 with heap:=s3.heap.push { cls:=.type "slice",data:=.fields #[vl,vu,.none] } } σ H3 x v vl vu l u s3.heap.objs.size Q I4 r1 (Heap.IsSliceOf.new ..) pl pu q3
  show wpAny (model X.prog X.w) X.A (subscriptTail e (.Slice lo hi none p2) v (.ref s3.heap.objs.size)) (EP X pins σ Q) X.xe { s3 with heap:=s3.heap.push { cls:=.type "slice",data:=.fields #[vl,vu,.none] } }
  exact tail_any (ops:=[.ref s3.heap.objs.size,v]) ht hT hg (by with_unfolding_all rfl)
def zcm (xs:List V)(lo hi:Option Int):List V:=(xs.drop (HT.sIx xs.length 0 lo)).take (HT.sIx xs.length xs.length hi - HT.sIx xs.length 0 lo)
theorem W8 (xs:List V)(lo hi:Option Int):(zcm xs lo hi).length≤xs.length:=by
  unfold zcm
  rw [List.length_take,List.length_drop]
  omega
def rSlT (K:PySem.W.Frag):V→Option Int→Option Int→Hp→VK→Prop:=fun x lo hi H Q=>∃ a xs,x=.ref a∧SqT K H a xs ∧
  ¬ (HT.sIx xs.length 0 lo=0∧HT.sIx xs.length xs.length hi=xs.length)∧∀ p,H p=none→Q (.ref p) (upd H p (.tup (zcm xs lo hi)))
theorem zko:SlR X (rSlT X.K):=by
  intro pins s σ H x v vl vu lo hi sl Q I rx hs pl pu h
  obtain ⟨a,xs,rfl,hx,hw,q⟩:=h
  cases rx
  obtain ⟨its,r,ht,hz⟩:=I.tuple hx
  have hlen:its.toArray.size=xs.length:=by rw [List.size_toArray];exact r.length.symm
  refine ⟨"tuple",_,PyProof.Rows.slot_tuple_getitem.lookup,ht.typeIs,?_⟩
  refine HT.getItem_tuple_cut ht hs pl pu (by rw [hlen];exact hw) ?_ (by rw [hlen];exact hz)
  rw [hlen]
  refine ⟨.ref s.heap.objs.size,_,I.laid (t':=s.toks) (o:=.tup (zcm xs lo hi)) (fun b ob q=>Heap.get?_push_of_some _ q) (Nat.le_refl _) ?_,rfl,q _ (I.hok.fresh (Nat.le_refl _))⟩
  exact ⟨Nat.le_trans (W8 xs lo hi) hz,_,(r.drop (HT.sIx xs.length 0 lo)).take (HT.sIx xs.length xs.length hi - HT.sIx xs.length 0 lo),IsTup.new _ _⟩
def zlL (K:PySem.W.Frag):R2:=fun x y H Q=>∃ a b xs ys,x=.ref a∧y=.ref b∧SqT K H a xs∧SqT K H b ys∧xs≠[]∧xs.length+ys.length≤sizeLine ∧
  (ys=[]→Q (.ref a) H)∧(ys≠[]→∀ p,H p=none→Q (.ref p) (upd H p (.tup (xs++ys))))
theorem yr.nil_iff {xs:List V}{us:List Value}(r:yr xs us):us=[]↔xs=[]:=by
  cases r with
  | nil=>simp
  | cons _ _=>simp
theorem zir:OpR X (binaryOp .Add) (zlL X.K):=by
  intro pins s σ H x y v u Q I rx ry h
  obtain ⟨a,b,xs,ys,rfl,rfl,ha,hb,hx,hz,q1,q2⟩:=h
  cases rx
  cases ry
  obtain ⟨its,r1,p1,_⟩:=I.tuple ha
  obtain ⟨its2,r2,p2,_⟩:=I.tuple hb
  refine HT.cat_tup p1 p2 (fun z=>hx (r1.nil_iff.mp z)) (fun z=>⟨.ref a,H,I,rfl,q1 (r2.nil_iff.mp z)⟩) (fun z=>?_) (by rw [←r1.length,← r2.length];exact hz)
  refine ⟨.ref s.heap.objs.size,_,I.laid (t':=s.toks) (o:=.tup (xs++ys)) (fun b ob q=>Heap.get?_push_of_some _ q) (Nat.le_refl _) ?_,rfl,q2 (fun w=>z (r2.nil_iff.mpr w)) _ (I.hok.fresh (Nat.le_refl _))⟩
  exact ⟨by rw [List.length_append];exact hz,_,r1.append r2,IsTup.new _ _⟩
end
end L2
namespace L2
open PySem PySem.Spec PyProof.Rows
def ixN (n:Nat)(i:Int):Option Nat:=if 0≤i then (if i < n then some i.toNat else none) else if -(n:Int)≤i then some (i+n).toNat else none
def atI {α:Type}(xs:List α)(i:Int):Option α:=(ixN xs.length i).bind fun j=>xs[j]?
theorem zfW {n:Nat}{i:Int}{j:Nat}(h:ixN n i=some j):seqIndex? i n=some j∧j < n∧-(n:Int)≤i∧i < n:=by
  unfold ixN at h
  by_cases h0:0≤i
  · rw [if_pos h0] at h
    by_cases h1:i < n
    · rw [if_pos h1] at h
      have e:i.toNat=j:=Option.some.inj h
      exact ⟨by rw [seqIndex_of h0 h1,e],by omega,by omega,h1⟩
    · rw [if_neg h1] at h;cases h
  · rw [if_neg h0] at h
    by_cases h1:-(n:Int)≤i
    · rw [if_pos h1] at h
      have e:(i+n).toNat=j:=Option.some.inj h
      exact ⟨by rw [seqIndex_neg (by omega) h1,e],by omega,h1,by omega⟩
    · rw [if_neg h1] at h;cases h
theorem zb1 {α:Type}{xs:List α}{i:Int}{v:α}(h:atI xs i=some v):∃ j,seqIndex? i xs.length=some j∧xs[j]?=some v∧j < xs.length∧-(xs.length:Int)≤i∧i < xs.length:=by
  unfold atI at h
  cases e:ixN xs.length i with
  | none=>rw [e] at h;cases h
  | some j =>
    rw [e] at h
    obtain ⟨h1,h2,h3,h4⟩:=zfW e
    exact ⟨j,h1,h,h2,h3,h4⟩
theorem zgq {α:Type}{xs:List α}{j:Nat}{v:α}(h:xs[j]?=some v):atI xs (j:Int)=some v:=by
  have hj:j < xs.length:=(List.getElem?_eq_some_iff.mp h).1
  have e:ixN xs.length (j:Int)=some j:=by
    unfold ixN
    rw [if_pos (by omega),if_pos (by omega)];simp
  unfold atI;rw [e];exact h
def zev (b:Expr):Prop:=∀ o i,subscripted b false o i=operate [o,i] (getItem o i)
def IxR (X:Cx)(r:R2):Prop :=
  ∀ (value slice:Expr) (pins:List (Addr × Obj)) (s:Shared) (σ:St) (H:Hp) (x y:V) (v u:Value) (Q:VK),Inv X pins σ H s→xZ x v→xZ y u→r x y H Q →
    subscripted slice false v u=operate [v,u] (getItem v u)→wpAny (model X.prog X.w) X.A (subscriptTail value slice v u) (EP X pins σ Q) X.xe s
def MtR (X:Cx)(id:String)(r:V→List V→Hp→VK→Prop):Prop :=
  ∀ (pins:List (Addr × Obj)) (s:Shared) (σ:St) (H:Hp) (x:V) (xs:List V) (v:Value) (us:List Value) (Q:VK),Inv X pins σ H s→xZ x v→yr xs us→r x xs H Q →
    wpAny (model X.prog X.w) X.A (call (.builtin id) (v::us)) (EP X pins σ Q) X.xe s
section
variable {X:Cx}{a b:Expr}{ta tb:TE}{pos:Pos}
theorem IxR.or {r r':R2}(h:IxR X r)(h':IxR X r'):IxR X (fun x y H Q=>r x y H Q∨r' x y H Q):=by
  intro value slice pins s σ H x y v u Q I rx ry q hs
  rcases q with q | q
  · exact h value slice pins s σ H x y v u Q I rx ry q hs
  · exact h' value slice pins s σ H x y v u Q I rx ry q hs
theorem zlV {r:R2}(hr:IxR X r)(ha:PE X a ta)(hb:PE X b tb)(hs:zev b):PE X (.Subscript a b pos) (tOp r ta tb):=by
  intro pins s σ H Q I h
  exact Subscript_ (zl5 ha hb I h fun v u s2 x y H2 I2 rx ry q=>hr a b pins s2 σ H2 x y v u Q I2 rx ry q (hs _ _))
def rIxL (K:PySem.W.Frag):R2:=fun x y H Q=>∃ p xs i v,x=.ref p∧y=.int i∧SqL K H p xs∧atI xs i=some v∧Q v H
def rIxT (K:PySem.W.Frag):R2:=fun x y H Q=>∃ p xs i v,x=.ref p∧y=.int i∧SqT K H p xs∧atI xs i=some v∧Q v H
def rIxS:R2:=fun x y H Q=>∃ z i c,x=.str z∧y=.int i∧z.length≤sizeLine∧atI z.cps.toList i=some c∧Q (.str ⟨#[c]⟩) H
theorem ziZ:IxR X (rIxL X.K):=by
  intro value slice pins s σ H x y v u Q I rx ry h hs
  obtain ⟨p,xs,i,z,rfl,rfl,hq,he,q⟩:=h
  cases rx
  obtain ⟨t,rfl⟩:=ry
  obtain ⟨its,r,pl,hz⟩:=I.list hq
  obtain ⟨j,h1,h2,h3,h4,h5⟩:=zb1 he
  obtain ⟨w,ew,rw'⟩:=r.get h2
  have hl:=r.length
  have hn:=VW
  have fin:EP X pins σ Q w s:=⟨z,H,I,rw',q⟩
  by_cases h0:0≤i
  · have hj:i.toNat=j:=by
      rw [seqIndex_of h0 h5] at h1
      exact Option.some.inj h1
    exact item_listR pl.isList h0 (by omega) (by rw [hj];simpa using ew) fin hs
  · have hj:(i+(its.toArray.size:Int)).toNat=j:=by
      rw [seqIndex_neg (by omega) h4] at h1
      rw [List.size_toArray,← hl]
      exact Option.some.inj h1
    exact subscriptTail_builtinR (x:=w) pl.isList.typeIs slot_list_getitem.lookup
      (wpAny_getItem_list_neg (Q:=fun r s'=>r=w∧EP X pins σ Q r s') pl.isList (by omega) (by rw [List.size_toArray] <;> omega) (by omega) (by rw [hj];simpa using ew) ⟨rfl,fin⟩) hs
theorem zkX:IxR X (rIxT X.K):=by
  intro value slice pins s σ H x y v u Q I rx ry h hs
  obtain ⟨p,xs,i,z,rfl,rfl,hq,he,q⟩:=h
  cases rx
  obtain ⟨t,rfl⟩:=ry
  obtain ⟨its,r,pl,hz⟩:=I.tuple hq
  obtain ⟨j,h1,h2,h3,h4,h5⟩:=zb1 he
  obtain ⟨w,ew,rw'⟩:=r.get h2
  have hl:=r.length
  have hn:=VW
  have fin:EP X pins σ Q w s:=⟨z,H,I,rw',q⟩
  exact subscriptTail_builtinR (x:=w) pl.typeIs slot_tuple_getitem.lookup
    (getItem_tuple (j:=j) (Q:=fun r s'=>r=w∧EP X pins σ Q r s') pl (by omega) (by omega) (by rw [List.size_toArray,← hl];exact h1) (by simpa using ew) ⟨rfl,fin⟩) hs
theorem zll:IxR X rIxS:=by
  intro value slice pins s σ H x y v u Q I rx ry h hs
  obtain ⟨z,i,c,rfl,rfl,hz,he,q⟩:=h
  obtain ⟨t,rfl⟩:=rx
  obtain ⟨t',rfl⟩:=ry
  obtain ⟨j,h1,h2,h3,h4,h5⟩:=zb1 he
  have hl:z.cps.toList.length=z.length:=by simp [Str.length]
  rw [hl] at h1 h4 h5
  have hn:=VW
  exact tail_any (typeIs_str s z t) slot_str_getitem.lookup (getItem_str (c:=c) (by
    have e1:decide (i < -(2 ^ 63:Int))=false:=decide_eq_false (by omega)
    have e2:decide (i ≥ 2 ^ 63)=false:=decide_eq_false (by omega)
    rw [e1,e2,Bool.or_false]) (by rw [h1];simpa using h2) ⟨.str ⟨#[c]⟩,H,I.tok _,⟨_,rfl⟩,q⟩) hs
def rIx (K:PySem.W.Frag):R2:=fun x y H Q=>rIxL K x y H Q∨rIxT K x y H Q∨rIxS x y H Q
theorem zkO:IxR X (rIx X.K):=ziZ.or (zkX.or zll)
theorem zdw (its:List Value) (n j:Nat) (u:Value):Obj.mapSeq (·.setIfInBounds j u) { cls:=.type "list",data:=.seq its.toArray n }={ cls:=.type "list",data:=.seq (its.set j u).toArray n }:=by
  simp [Obj.mapSeq]
theorem Inv.lst {pins:List (Addr × Obj)}{σ:St}{H:Hp}{s:Shared}{p:Addr}{xs:List V}(I:Inv X pins σ H s)(h:H p=some (.lst xs)) :
    ∃ (its:List Value) (n:Nat),yr xs its∧s.heap.get? p=some { cls:=.type "list",data:=.seq its.toArray n }∧xs.length≤sizeLine:=by
  obtain ⟨z,its,n,r,e⟩:=I.hok p _ h
  exact ⟨its,n,r,e,z⟩
theorem Inv.lstUpd {pins:List (Addr × Obj)}{σ:St}{H:Hp}{s:Shared}{p:Addr}{xs ys:List V}{its its':List Value}{n n':Nat}{f:Obj→Obj}(I:Inv X pins σ H s)(h:H p=some (.lst xs))
    (ho:s.heap.get? p=some { cls:=.type "list",data:=.seq its.toArray n }) (hf:f { cls:=.type "list",data:=.seq its.toArray n }={ cls:=.type "list",data:=.seq its'.toArray n' }) (r:yr ys its') (hz:ys.length≤sizeLine) (t:Nat) :
    Inv X pins σ (upd H p (.lst ys)) { s with heap:=s.heap.update p f,toks:=t }:=by
  have e:(s.heap.update p f).get? p=some { cls:=.type "list",data:=.seq its'.toArray n' }:=by
    rw [Heap.get?_update_self f ho (by rw [hf] <;> rfl),hf]
  refine I.write (x:=p) (e:=p) (by rw [h];trivial) (.inl rfl) (fun b u hb q=>(Heap.get?_update_other _ _ (Ne.symm hb)).trans q) ⟨_,e⟩ ?_
  exact ⟨hz,its',n',r,e⟩
def zmi:V→V→V→Hp→(Hp→Prop)→Prop:=fun o i v H Q=>∃ p xs k j,o=.ref p∧i=.int k∧H p=some (.lst xs)∧ixN xs.length k=some j∧Q (upd H p (.lst (xs.set j v)))
theorem zg9:PSet X zmi:=by
  intro pins s σ H o i v ov iv u Q I ro ri rv h
  obtain ⟨p,xs,k,j,rfl,rfl,hp,hj,q⟩:=h
  cases ro
  obtain ⟨t,rfl⟩:=ri
  obtain ⟨its,n,r,ho,hz⟩:=I.lst hp
  obtain ⟨h1,h2,h3,h4⟩:=zfW hj
  have hl:=r.length
  have hn:=VW
  have I':Inv X pins σ (upd H p (.lst (xs.set j v))) { s with heap:=s.heap.update p (Obj.mapSeq (·.setIfInBounds j u)) } :=
    I.lstUpd hp ho (zdw its n j u) (r.set rv j) (by rw [List.length_set];exact hz) s.toks
  by_cases h0:0≤k
  · have hk:k.toNat=j:=by
      rw [seqIndex_of h0 h4] at h1
      exact Option.some.inj h1
    exact PySem.W.ki_setAt ho h0 (by omega) (by rw [List.size_toArray,← hl];exact h4) (by rw [hk];exact ⟨_,I',q⟩)
  · have hk:(k+(its.toArray.size:Int)).toNat=j:=by
      rw [seqIndex_neg (by omega) h3] at h1
      rw [List.size_toArray,← hl]
      exact Option.some.inj h1
    exact PySem.W.ki_setBack ho (by omega) (by rw [List.size_toArray,← hl];exact h3) (by omega) (by rw [hk];exact ⟨_,I',q⟩)
theorem za5 (lo hi:Option Int)(n:Nat):(sliceBounds lo hi none n).1=((HT.sIx n 0 lo:Nat):Int)∧(sliceBounds lo hi none n).2.1=((HT.sIx n n hi:Nat):Int)∧(sliceBounds lo hi none n).2.2=1:=by
  refine ⟨?_,?_,rfl⟩
  · cases lo with
    | none=>simp [sliceBounds,HT.sIx]
    | some i =>
      simp only [sliceBounds,HT.sIx,Option.getD_none,show (1:Int) > 0 by decide,if_true]
      by_cases h:i < 0
      · simp only [h,if_true] <;> omega
      · simp only [h,if_false] <;> omega
  · cases hi with
    | none=>simp [sliceBounds,HT.sIx]
    | some i =>
      simp only [sliceBounds,HT.sIx,Option.getD_none,show (1:Int) > 0 by decide,if_true]
      by_cases h:i < 0
      · simp only [h,if_true] <;> omega
      · simp only [h,if_false] <;> omega
theorem zae (its:List Value)(lo hi:Option Int):slicePick its.toArray lo hi none=((its.drop (HT.sIx its.length 0 lo)).take (HT.sIx its.length its.length hi - HT.sIx its.length 0 lo)).toArray:=by
  obtain ⟨h1,h2,h3⟩:=za5 lo hi its.toArray.size
  unfold slicePick
  rw [h1,h2,h3]
  simp only [sliceRange_one,pick_run,List.size_toArray] <;> rfl
def rSlL (K:PySem.W.Frag):V→Option Int→Option Int→Hp→VK→Prop:=fun x lo hi H Q=>∃ a xs,x=.ref a∧SqL K H a xs∧∀ p,H p=none→Q (.ref p) (upd H p (.lst (zcm xs lo hi)))
theorem ziW:SlR X (rSlL X.K):=by
  intro pins s σ H x v vl vu lo hi sl Q I rx hs pl pu h
  obtain ⟨a,xs,rfl,hx,q⟩:=h
  cases rx
  obtain ⟨its,r,ht,hz⟩:=I.list hx
  have hlen:=r.length
  refine ⟨"list",_,slot_list_getitem.lookup,ht.isList.typeIs,?_⟩
  refine wpAny_getItem_list_slice ht.isList hs pl pu .none (by simp) ?_ (by rw [List.size_toArray] <;> omega)
  rw [zae,← hlen]
  refine ⟨.ref s.heap.objs.size,_,I.laid (t':=s.toks) (o:=.lst (zcm xs lo hi)) (fun b ob q=>Heap.get?_push_of_some _ q) (Nat.le_refl _) ?_,rfl,q _ (I.hok.fresh (Nat.le_refl _))⟩
  exact ⟨Nat.le_trans (W8 xs lo hi) hz,_,0,(r.drop (HT.sIx xs.length 0 lo)).take (HT.sIx xs.length xs.length hi - HT.sIx xs.length 0 lo),Heap.get?_push_size _ rfl⟩
def zds:V→Bool
  | .non=>true
  | .bl _=>true
  | .int _=>true
  | .str _=>true
  | _=>false
def eqV:V→V→Bool
  | .non,.non=>true
  | .bl a,.bl b=>a == b
  | .bl a,.int b=>(if a then 1 else 0) == b
  | .int a,.bl b=>a == (if b then 1 else 0)
  | .int a,.int b=>a == b
  | .str a,.str b=>a == b
  | _,_=>false
theorem ze0 {A:Around}{s:Shared}{y x:V}{u v:Value}(ry:xZ y u)(rx:xZ x v)(fy:zds y=true)(fx:zds x=true):SeqAt.EqAt A s u v (eqV y x):=by
  cases y with
  | non =>
    cases ry
    cases x with
    | non=>cases rx;exact SeqAt.EqAt.same _
    | bl b=>cases rx;exact SeqAt.EqAt.none_bool b
    | int b=>obtain ⟨t,rfl⟩:=rx;exact SeqAt.EqAt.none_int b t
    | str b=>obtain ⟨t,rfl⟩:=rx;exact SeqAt.EqAt.none_str b t
    | _=>exact absurd (show false=true from fx) Bool.false_ne_true
  | bl a =>
    cases ry
    cases x with
    | non=>cases rx;exact SeqAt.EqAt.bool_none a
    | bl b=>cases rx;exact SeqAt.EqAt.bool_bool a b
    | int b=>obtain ⟨t,rfl⟩:=rx;exact SeqAt.EqAt.bool_int a b t
    | str b=>obtain ⟨t,rfl⟩:=rx;exact SeqAt.EqAt.bool_str a b t
    | _=>exact absurd (show false=true from fx) Bool.false_ne_true
  | int a =>
    obtain ⟨t',rfl⟩:=ry
    cases x with
    | non=>cases rx;exact SeqAt.EqAt.int_none a t'
    | bl b=>cases rx;exact SeqAt.EqAt.int_bool a t' b
    | int b=>obtain ⟨t,rfl⟩:=rx;exact SeqAt.EqAt.int_int a t' b t
    | str b=>obtain ⟨t,rfl⟩:=rx;exact SeqAt.EqAt.int_str a t' b t
    | _=>exact absurd (show false=true from fx) Bool.false_ne_true
  | str a =>
    obtain ⟨t',rfl⟩:=ry
    cases x with
    | non=>cases rx;exact SeqAt.EqAt.str_none a t'
    | bl b=>cases rx;exact SeqAt.EqAt.str_bool a t' b
    | int b=>obtain ⟨t,rfl⟩:=rx;exact SeqAt.EqAt.str_int a t' b t
    | str b=>obtain ⟨t,rfl⟩:=rx;exact SeqAt.EqAt.str_str a t' b t
    | _=>exact absurd (show false=true from fx) Bool.false_ne_true
  | _=>exact absurd (show false=true from fy) Bool.false_ne_true
def eqU (x:V)(u:Value):Bool:=match u with
  | .none=>eqV .non x
  | .bool b=>eqV (.bl b) x
  | .int i _=>eqV (.int i) x
  | .str z _=>eqV (.str z) x
  | _=>false
theorem zkE {x y:V}{u:Value}(r:xZ y u)(f:zds y=true):eqU x u=eqV y x:=by
  cases y with
  | non=>cases r;rfl
  | bl b=>cases r;rfl
  | int i=>obtain ⟨t,rfl⟩:=r;rfl
  | str z=>obtain ⟨t,rfl⟩:=r;rfl
  | _=>exact absurd (show false=true from f) Bool.false_ne_true
theorem We {A:Around}{s:Shared}{x:V}{v:Value}(rx:xZ x v)(fx:zds x=true):∀ {xs:List V} {us:List Value},yr xs us→xs.all zds=true→∀ u∈us,SeqAt.EqAt A s u v (eqU x u)
  | _,_,.nil,_=>fun u hu=>by cases hu
  | y::xs,u::us,.cons r t,f=>fun u' hu=>by
    rw [List.all_cons,Bool.and_eq_true] at f
    rcases List.mem_cons.mp hu with rfl | hu
    · rw [zkE r f.1];exact ze0 r rx f.1 fx
    · exact We rx fx t f.2 u' hu
theorem zW:YL X (.builtin "len") (fun xs H Q=>∃ p ys,xs=[.ref p]∧(SqL X.K H p ys∨SqT X.K H p ys)∧Q (.int ys.length) H):=by
  intro pins s σ H xs us Q I r h
  obtain ⟨p,ys,rfl,hq,q⟩:=h
  obtain ⟨u,rfl,rx⟩:=Vu r
  cases rx
  have hn:=VW
  rcases hq with hq | hq
  · obtain ⟨its,r',pl,hz⟩:=I.list hq
    have hlen:=r'.length
    exact Calls.call_len_list pl.isList (by simp only [List.size_toArray] <;> omega) ⟨.int ys.length,H,I.tok _,⟨s.toks+1,by rw [List.size_toArray,hlen]⟩,q⟩
  · obtain ⟨its,r',pl,hz⟩:=I.tuple hq
    have hlen:=r'.length
    exact len_tuple pl (by simp only [List.size_toArray] <;> omega) ⟨.int ys.length,H,I.tok _,⟨s.toks+1,by rw [List.size_toArray,hlen]⟩,q⟩
theorem zaX:YL X (.type "list") (fun xs H Q=>∃ p ys,xs=[.ref p]∧(SqL X.K H p ys∨SqT X.K H p ys)∧∀ l,H l=none→Q (.ref l) (upd H l (.lst ys))):=by
  intro pins s σ H xs us Q I r h
  obtain ⟨p,ys,rfl,hq,q⟩:=h
  obtain ⟨u,rfl,rx⟩:=Vu r
  cases rx
  have fin:∀ (its:List Value),yr ys its→ys.length≤sizeLine→∀ (h':Heap) (c':Nat),(∀ b o',s.heap.get? b=some o'→h'.get? b=some o') →
      h'.get? s.heap.objs.size=some { cls:=.type "list",dict:=none,data:=.seq its.toArray c',slots:=#[] }→EP X pins σ Q (.ref s.heap.objs.size) { s with heap:=h' }:=fun its r' hz h' c' kp e =>
    ⟨.ref s.heap.objs.size,_,I.laid (t':=s.toks) kp (Nat.le_refl _) (show wu X.prog X.w _ h' _ (.lst ys) from ⟨hz,its,c',r',e⟩),rfl,q _ (I.hok.fresh (Nat.le_refl _))⟩
  rcases hq with hq | hq
  · obtain ⟨its,r',pl,hz⟩:=I.list hq
    have hlen:=r'.length
    obtain ⟨o,ho,hc,n,hd⟩:=pl.isList
    exact call_list_seq p (.inl rfl) ho hc hd (fun h' c' kp e=>fin its r' hz h' c' kp e) (by simp only [List.size_toArray] <;> omega)
  · obtain ⟨its,r',pl,hz⟩:=I.tuple hq
    have hlen:=r'.length
    obtain ⟨o,ho,hc,n,hd⟩:=pl
    exact call_list_seq p (.inr rfl) ho hc hd (fun h' c' kp e=>fin its r' hz h' c' kp e) (by simp only [List.size_toArray] <;> omega)
theorem zR:YL X (.type "tuple") (fun xs H Q=>∃ p ys,xs=[.ref p]∧((SqL X.K H p ys∧∀ l,H l=none→Q (.ref l) (upd H l (.tup ys)))∨(SqT X.K H p ys∧Q (.ref p) H))):=by
  intro pins s σ H xs us Q I r h
  obtain ⟨p,ys,rfl,h⟩:=h
  obtain ⟨u,rfl,rx⟩:=Vu r
  cases rx
  rcases h with ⟨hq,q⟩ | ⟨hq,q⟩
  · obtain ⟨its,r',pl,hz⟩:=I.list hq
    have hlen:=r'.length
    refine call_tuple_list pl.isList (fun h' kp=>?_) (by simp only [List.size_toArray] <;> omega)
    have I1:Inv X pins σ H { s with heap:=h' }:=I.kept (t':=s.toks) kp
    have I2:Inv X pins σ (upd H h'.objs.size (.tup ys)) { s with heap:=h'.push { cls:=.type "tuple",data:=.seq its.toArray } } :=
      I1.laid (t':=s.toks) (fun b o e=>Heap.get?_push_of_some _ e) (Nat.le_refl _) (show wu X.prog X.w _ _ _ (.tup ys) from ⟨hz,its,r',IsTup.new _ _⟩)
    exact ⟨.ref h'.objs.size,_,I2,rfl,q _ (I1.hok.fresh (Nat.le_refl _))⟩
  · obtain ⟨its,r',pl,hz⟩:=I.tuple hq
    exact call_tuple_same pl ⟨.ref p,H,I,rfl,q⟩
def tyV (K:PySem.W.Frag)(T:String)(x:V)(H:Hp):Prop:=match x with
  | .str _=>T="str"
  | .int _=>T="int"
  | .ref p=>(T="list"∧∃ xs,SqL K H p xs)∨(T="tuple"∧∃ o,K.lookup p=some o∧o.cls=.type "tuple"∧o.dict=none) ∨
      (T="dict"∧((∃ kvs,H p=some (.dK kvs))∨∃ kvs,H p=some (.dT kvs)))∨(T="set"∧∃ S n,H p=some (.set S n))
  | _=>False
theorem zkd {pins:List (Addr × Obj)}{σ:St}{H:Hp}{s:Shared}{T:String}{x:V}{v:Value}(I:Inv X pins σ H s)(r:xZ x v)(ty:tyV X.K T x H) :
    s.TypeIs v T∧∀ a,v=.ref a→∃ ob,s.heap.get? a=some ob∧ob.dict=none:=by
  cases x with
  | str z =>
    obtain ⟨t,rfl⟩:=r
    cases (show T="str" from ty)
    exact ⟨typeIs_str s z t,fun _ e=>nomatch e⟩
  | int i =>
    obtain ⟨t,rfl⟩:=r
    cases (show T="int" from ty)
    exact ⟨typeIs_int s i t,fun _ e=>nomatch e⟩
  | ref p =>
    cases r
    rcases ty with ⟨rfl,xs,hq⟩ | ⟨rfl,o,hk,hc,hd⟩ | ⟨rfl,hk⟩ | ⟨rfl,S,n,hk⟩
    · obtain ⟨its,_,pl,_⟩:=I.list hq
      refine ⟨pl.isList.typeIs,fun a e=>?_⟩
      cases e
      obtain ⟨o,n,e,c,hd,_⟩:=pl
      exact ⟨o,e,hd⟩
    · refine ⟨⟨o,I.kIn p o hk,hc⟩,fun a e=>?_⟩
      cases e
      exact ⟨o,I.kIn _ o hk,hd⟩
    · have z:∃ o,s.heap.get? p=some o∧o.ExactDict:=by
        rcases hk with ⟨kvs,hk⟩ | ⟨kvs,hk⟩
        · obtain ⟨_,_,_,_,o,_,_,e,ex,_⟩:=I.hok p _ hk
          exact ⟨o,e,ex⟩
        · obtain ⟨_,_,_,_,o,_,_,e,ex,_⟩:=I.hok p _ hk
          exact ⟨o,e,ex⟩
      obtain ⟨o,e,ex⟩:=z
      refine ⟨⟨o,e,ex.1⟩,fun a e2=>?_⟩
      cases e2
      exact ⟨o,e,ex.2.1⟩
    · obtain ⟨o,_,_,_,e,ex,_⟩:=I.hok p _ hk
      refine ⟨⟨o,e,ex.1⟩,fun a e2=>?_⟩
      cases e2
      exact ⟨o,e,ex.2.1⟩
  | _=>exact False.elim ty
def tBM (K:PySem.W.Frag)(T:String)(r:V→List V→Hp→VK→Prop)(to:TE)(t:TA):TE:=fun σ H Q=>to σ H fun x H1=>tyV K T x H1∧t σ H1 fun xs H2=>r x xs H2 Q
variable {o e:Expr}{es:List Expr}{to:TE}{t:TA}{name:Str}{apos cpos:Pos}{T id:String}{r:V→List V→Hp→VK→Prop}
theorem ZG (pa:PlainAttrs T) (slot:Slot T name id) (hty:typeOf (.builtin id)=pure (.type "method_descriptor")) (hm:MtR X id r) (ho:PE X o to) (ha:PA X (e::es) t)
    (hbase:attributeBase o name X.env (eval o X.env)=eval o X.env:=by rfl)
    (hfew:((backTo cpos (starEach (e::es) X.env)).all (fun x=>!x.1)&&(backToKw cpos (keywordEach [] X.env)).all (fun x=>x.1.isSome)
      && decide ((e::es).length+([]:List Keyword).length+(if ([]:List Keyword).isEmpty then 0 else 1) < 30))=true:=by rfl)
    (hline:(apos.endLine == cpos.line)=true:=by rfl) (hs:starEach (e::es) X.env=(false,eval e X.env)::starEach es X.env:=by rfl) (hplain:(backTo cpos (starEach es X.env)).any (·.1)=false:=by rfl) :
    PE X (.Call (.Attribute o name apos) (e::es) [] cpos) (tBM X.K T r to t):=by
  intro pins s σ H Q I h
  refine wpAny_Call_method_late hbase hfew hline rfl (thn (ho pins s σ H _ I h) fun v s1 hh9=>?_)
  obtain ⟨x,H1,I1,r1,ty,q1⟩:=hh9
  obtain ⟨h1,h2⟩:=zkd I1 r1 ty
  refine ⟨T,id,pa,slot,hty,h1,h2,?_⟩
  have hA:=ha cpos pins s1 σ H1 _ I1 q1
  rw [hs] at hA ⊢
  refine Calls.callWith_builtin (by show (false||(backTo cpos (starEach es X.env)).any (·.1))=false;rw [hplain] <;> rfl) (Calls.evalArgs_plain ?_)
  exact thn hA fun us s2 ⟨vs,H2,I2,r2,q2⟩=>hm pins s2 σ H2 x vs v us Q I2 r1 r2 q2
/- xs.append(e),list.index on a module's tuple .. are MtR facts of 06m -/
end
end L2
namespace L2
open PySem PySem.Spec PyProof.Rows
def MtM (X:Cx)(id:String)(r:V→List V→Hp→VK→Prop):Prop :=
  ∀ (pins:List (Addr × Obj)) (s:Shared) (σ:St) (H:Hp) (x:V) (xs:List V) (v:Value) (us:List Value) (Q:VK),Inv X pins σ H s→xZ x v→yr xs us→r x xs H Q →
    wpAny (model X.prog X.w) X.A (call (.builtin id) (v::us)) (EP X pins σ Q) X.xe s
theorem yr.one:∀ {x:V} {us:List Value},yr [x] us→∃ u,us=[u]∧xZ x u:=by
  intro x us h
  cases h with | cons r t=>cases t;exact ⟨_,rfl,r⟩
theorem yr.two:∀ {x y:V} {us:List Value},yr [x,y] us→∃ u v,us=[u,v]∧xZ x u∧xZ y v:=by
  intro x y us h
  cases h with | cons r t=>cases t with | cons q t=>cases t;exact ⟨_,_,rfl,r,q⟩
theorem yr.rep {xs:List V}{us:List Value}(h:yr xs us):∀ k:Nat,yr (List.replicate k xs).flatten (List.replicate k us).flatten
  | 0=>.nil
  | k+1=>by
    rw [List.replicate_succ,List.replicate_succ,List.flatten_cons,List.flatten_cons]
    exact yr.append h (yr.rep h k)
theorem W5 (its:List Value):∀ (k:Nat) (acc:List Value),
    List.foldl (fun x1 x2=>x1++x2) acc.toArray (List.replicate k its.toArray)=(acc++(List.replicate k its).flatten).toArray
  | 0,acc=>by simp
  | k+1,acc=>by
    have e:acc.toArray++its.toArray=(acc++its).toArray:=by simp
    have e2:(acc++its)++(List.replicate k its).flatten=acc++(List.replicate (k+1) its).flatten:=by
      rw [List.replicate_succ,List.flatten_cons,List.append_assoc]
    rw [←e2,← W5 its k (acc++its),← e,List.replicate_succ,List.foldl_cons]
section
variable {X:Cx}{pins:List (Addr × Obj)}{σ:St}{H:Hp}{s:Shared}{l b:Addr}{xs ys zs:List V}
theorem Inv.lset {its its':List Value}{n:Nat}{f:Array Value→Array Value}{t':Nat}(I:Inv X pins σ H s)(hH:H l=some (.lst xs))
    (e:s.heap.get? l=some { cls:=.type "list",data:=.seq its.toArray n }) (hf:f its.toArray=its'.toArray) (hv:yr ys its') (hz:ys.length≤sizeLine) :
    Inv X pins σ (upd H l (.lst ys)) { s with heap:=s.heap.update l (Obj.mapSeq f),toks:=t' }:=by
  have q:=PySem.IsL.update e f
  rw [hf] at q
  refine I.write (x:=l) (e:=l) (by rw [hH];exact trivial) (.inl rfl) (fun b' u hb hu=>(Heap.get?_update_other s.heap (Obj.mapSeq f) (Ne.symm hb)).trans hu) ⟨_,q⟩ ?_
  exact ⟨hz,its',_,hv,q⟩
theorem Inv.lnew {its:List Value}{t':Nat}(I:Inv X pins σ H s)(hv:yr ys its)(hz:ys.length≤sizeLine) :
    Inv X pins σ (upd H s.heap.objs.size (.lst ys)) { s with heap:=s.heap.push { cls:=.type "list",data:=.seq its.toArray },toks:=t' } :=
  I.laid (fun _ _ q=>Heap.get?_push_of_some _ q) (Nat.le_refl _) ⟨hz,its,0,hv,Heap.get?_push_size _ rfl⟩
theorem Inv.fresh (I:Inv X pins σ H s):H s.heap.objs.size=none:=I.hok.fresh (Nat.le_refl _)
theorem Inv.lstM (I:Inv X pins σ H s) (hH:H l=some (.lst xs)):xs.length≤sizeLine∧∃ (its:List Value) (n:Nat),yr xs its∧xs.length=its.length∧s.heap.get? l=some { cls:=.type "list",data:=.seq its.toArray n }:=by
  obtain ⟨z,its,n,r,e⟩:=I.hok l _ hH
  exact ⟨z,its,n,r,r.length,e⟩
theorem zcW {n:Nat}(h:n≤sizeLine):Builtin.List.listTooLong n=false:=by
  unfold Builtin.List.listTooLong
  exact decide_eq_false (by omega)
end
section
variable {X:Cx}
def zer:V→List V→Hp→VK→Prop:=fun x vs H Q=>∃ l xs y,x=.ref l∧vs=[y]∧H l=some (.lst xs)∧xs.length < sizeLine∧Q .non (upd H l (.lst (xs++[y])))
theorem vE:MtM X "list.append" zer:=by
  intro pins s σ H x vs v us Q I rx rv h
  obtain ⟨l,xs,y,rfl,rfl,hH,hz,q⟩:=h
  cases rx
  obtain ⟨u,rfl,ru⟩:=rv.one
  obtain ⟨z,its,n,r,hl,e⟩:=I.lstM hH
  refine call_meets F.slot_list_append ⟨_,e,rfl⟩ F.entry_list_append (F.args_list_append_2 _ _) (PySem.list_append l its.toArray n u (by rw [List.size_toArray];omega)) ⟨e,?_⟩
  refine ⟨.non,_,I.lset (its':=its++[u]) hH e (by simp) (r.append (.cons ru .nil)) ?_,rfl,q⟩
  rw [List.length_append,List.length_singleton]
  omega
def zfL:V→List V→Hp→VK→Prop:=fun x vs H Q=>∃ l b xs zs,x=.ref l∧vs=[.ref b]∧H l=some (.lst xs)∧H b=some (.lst zs)∧xs.length+zs.length≤sizeLine∧Q .non (upd H l (.lst (xs++zs)))
theorem zgi:MtM X "list.extend" zfL:=by
  intro pins s σ H x vs v us Q I rx rv h
  obtain ⟨l,b,xs,zs,rfl,rfl,hH,hB,hz,q⟩:=h
  cases rx
  obtain ⟨u,rfl,ru⟩:=rv.one
  cases ru
  obtain ⟨z,its,n,r,hl,e⟩:=I.lstM hH
  obtain ⟨z2,its2,n2,r2,hl2,e2⟩:=I.lstM hB
  have hsz:its.toArray.size+its2.toArray.size≤sizeLine:=by rw [List.size_toArray,List.size_toArray];omega
  have hlong:¬ (!its.toArray.isEmpty&&Builtin.List.listTooLong (its.toArray.size+its2.toArray.size))=true:=by
    rw [zcW hsz,Bool.and_false]
    exact Bool.false_ne_true
  refine call_meets F.slot_list_extend ⟨_,e,rfl⟩ F.entry_list_extend (F.args_list_extend_2 _ _)
    (AutoSeq1.list_extend_list_list_0 l its.toArray n b its2.toArray n2 hlong (by rw [List.size_toArray];omega) (by omega)) ⟨e,e2,?_⟩
  refine ⟨.non,_,I.lset (its':=its++its2) hH e (by simp) (r.append r2) ?_,rfl,q⟩
  rw [List.length_append]
  omega
def zl8:R2:=fun x y H Q=>∃ l b xs zs,x=.ref l∧y=.ref b∧H l=some (.lst xs)∧H b=some (.lst zs)∧xs.length+zs.length≤sizeLine∧∀ p,H p=none→Q (.ref p) (upd H p (.lst (xs++zs)))
theorem zcT:OpR X (binaryOp .Add) zl8:=by
  intro pins s σ H x y v u Q I rx ry h
  obtain ⟨l,b,xs,zs,rfl,rfl,hH,hB,hz,q⟩:=h
  cases rx
  cases ry
  obtain ⟨z,its,n,r,hl,e⟩:=I.lstM hH
  obtain ⟨z2,its2,n2,r2,hl2,e2⟩:=I.lstM hB
  refine PySem.P.add_list e e2 ?_ (by rw [List.size_toArray,List.size_toArray];omega)
  have ea:its.toArray++its2.toArray=(its++its2).toArray:=by simp
  rw [ea]
  exact ⟨.ref _,_,I.lnew (t':=s.toks) (r.append r2) (by rw [List.length_append];omega),rfl,q _ I.fresh⟩
def rRep:R2:=fun x y H Q=>∃ l k xs,x=.ref l∧y=.int k∧H l=some (.lst xs)∧-(2 ^ 63)≤k∧k < 2 ^ 63∧xs.length*k.toNat≤sizeLine ∧
  ∀ p,H p=none→Q (.ref p) (upd H p (.lst (List.replicate k.toNat xs).flatten))
theorem W9 {α:Type}(xs:List α)(k:Nat):(List.replicate k xs).flatten.length=k*xs.length:=by
  induction k with
  | zero=>simp
  | succ k ih=>rw [List.replicate_succ,List.flatten_cons,List.length_append,ih,Nat.succ_mul,Nat.add_comm]
theorem zkn:OpR X (binaryOp .Mult) rRep:=by
  intro pins s σ H x y v u Q I rx ry h
  obtain ⟨l,k,xs,rfl,rfl,hH,h1,h2,hz,q⟩:=h
  cases rx
  obtain ⟨t,rfl⟩:=ry
  obtain ⟨z,its,n,r,hl,e⟩:=I.lstM hH
  have hlen:its.toArray.size*k.toNat≤sizeLine:=by rw [List.size_toArray,← hl];exact hz
  have hcap:¬ its.toArray.size*k.toNat > (2 ^ 63 - 1) / 8:=by
    have:(sizeLine:Nat)≤(2 ^ 63 - 1) / 8:=by decide
    omega
  have hfit:¬ (!Builtin.List.listFitsIndex k)=true:=by
    rw [fitsIndex_both h1 h2]
    exact Bool.false_ne_true
  have hlong:¬ Builtin.List.listTooLong (its.toArray.size*k.toNat)=true:=by
    rw [zcW hlen]
    exact Bool.false_ne_true
  have hnew:List.foldl (fun x1 x2=>x1++x2) #[] (List.replicate (if its.toArray.isEmpty=true then 0 else k.toNat) its.toArray)=(List.replicate k.toNat its).flatten.toArray:=by
    have f0:∀ m:Nat,List.foldl (fun x1 x2=>x1++x2) #[] (List.replicate m its.toArray)=(List.replicate m its).flatten.toArray:=fun m=>by
      have:=W5 its m []
      rw [List.nil_append] at this
      exact this
    rw [f0]
    cases its with
    | nil=>simp
    | cons a r'=>rw [if_neg (by simp)]
  refine wpAny_binaryOp_repeat_ref (T:="list") (U:="int") (by decide) ⟨_,e,rfl⟩ (fun s'=>typeIs_int s' k t) noFill_list_mul F.fills_int_mul F.slot_int_rmul repeat_list F.slot_int_index.lookup
    (call_meets F.slot_int_rmul (typeIs_int s k t) F.entry_int_rmul (F.args_int_rmul_2 _ _) (int___rmul___int_list k t l its.toArray n)
      ⟨e,rfl,⟨_,e,rfl⟩,call_meets F.slot_list_mul ⟨_,e,rfl⟩ F.entry_list_mul (F.args_list_mul_2 _ _) (AutoListH.list___mul___list_int_3 l its.toArray n k t hfit hcap hlong) ⟨e,?_⟩⟩)
  rw [hnew]
  exact ⟨.ref _,_,I.lnew (t':=s.toks) (r.rep k.toNat) (by rw [W9,Nat.mul_comm];exact hz),rfl,q _ I.fresh⟩
end
section
variable {prog:Program}{w:World}{A:Around}{E:Value→Shared→Prop}{s:Shared}
end
section
variable {X:Cx}
end
end L2
namespace Att
open PySem PySem.W PySem.Calls PyProof.Rows
theorem WV {P:Params}{h:Heap}:∀ (ns:List Int) (vs:List Value),WellAll P h vs (ns.map WData.int)→IntsAre vs ns:=by
  intro ns
  induction ns with
  | nil =>
    intro vs w
    rw [List.map_nil] at w
    cases w
    exact .nil
  | cons n ns ih =>
    intro vs w
    rw [List.map_cons] at w
    cases w with
    | cons a b =>
      cases a
      exact .cons _ _ (ih _ b)
theorem zgs {l:OpenLaw}{n:Nat}(hn:l.most=some n){P:Params}{h:Heap}{args:List WData}{vals:List Value}
    (hpre:l.row.toRowW.claim.pre args=true) (hwl:WellAll P h vals args) :
    ∃ a vs ns,vals=[Value.ref a]∧args=[WData.list (ns.map WData.int)]∧h.get? a=some { cls:=.type "list",data:=.seq vs.toArray }∧IntsAre vs ns∧ns.length≤n:=by
  have hsh:WShape.hasAll [] args [.list .int]=true:=(pre_splitW hpre).1
  have hc:l.pre.holds [] { args:=args }=true:=(pre_splitW hpre).2
  obtain ⟨d,r,rfl,h1,h2⟩:=hasAllW_cons hsh
  obtain rfl:=hasAllW_nil h2
  obtain ⟨xs,rfl,h3⟩:=hasW_list h1
  obtain ⟨ns,rfl⟩:=items_int h3
  have hlen:ns.length≤n:=by
    unfold OpenLaw.pre at hc
    have h4:(WTm.not (.lt (.lit (.int (n:Int))) (.len (.arg 0)))).holds [] { args:=[.list (ns.map .int)] }=true:=by
      have h4:=(holds_andW hc).1
      rw [hn] at h4
      exact h4
    have h5:=condW_of h4 (w_not (w_lt w_lit (w_len_list (w_arg rfl))))
    rw [List.length_map] at h5
    refine Nat.le_of_not_lt fun q=>?_
    have q':(n:Int) < ((ns.length:Nat):Int):=by omega
    first
      | (rw [decide_eq_true q'] at h5;exact absurd h5 (by decide))
      | (simp at h5;omega)
  cases hwl with
  | cons w1 w2 =>
    cases w2
    cases w1 with
    | list ho hall=>exact ⟨_,_,ns,rfl,rfl,ho,WV ns _ hall,hlen⟩
theorem ze4 (l:OpenLaw)(args:List WData):l.row.toRowW.claim.post args (.bool true) args=true :=
  postW_of (r:=l.row.toRowW) (X:=(true == true))
    (show WShape.has [] (.bool true) .bool=true by first | rfl | decide | simp [WShape.has,WShape.arms,WShape.armsAll])
    (show (WTm.eq .res (.lit (.bool true))).value [] { args:=args,res:=some (.bool true),after:=args }=some (.bool (true == true)) from w_eq_bool (w_res rfl) w_lit) rfl
theorem attach_call {l:OpenLaw}{n:Nat}{q:Program}{loose:List Str}{XP:(Str→Option Value)→Heap→Prop}{YP:World→Heap→Prop}{d:DefRec}
    (hn:l.most=some n) (hdf:d.params.defaults=[])
    (call:∀ (w:World) (s₀ s₁:Shared) (mg mb:Str→Option Value) (fa:Addr) (o:Obj) (pm cd doc:Value) (a:Addr) (vs:List Value) (ns:List Int),
      Ground q loose [] XP w s₀ mg mb s₁.heap→YP w s₁.heap →
      s₁.heap.get? fa=some o→o.data=.func (docDef d.name d.params d.body d.scope pm cd doc)→s₁.heap.CodeRec cd d.name→mg d.name=some (.ref fa) →
      s₁.heap.get? a=some { cls:=.type "list",data:=.seq vs.toArray }→IntsAre vs ns→ns.length≤n→s₁.gens=#[] →
      codeAny (model l.prog w) callerA (.call (.ref fa) ⟨[.ref a],[]⟩) (fun r s'=>r=.ok (.ret (.bool true))∧OldK s₁.heap s'.heap∧s'.os=s₁.os∧AllBare s'.gens) s₁) :
    WalkO q loose XP YP l.row.toRowW d [] (fun f vs=>PySem.call f vs):=by
  intro w s₀ s₁ mg mb G Y fa o pm cd doc dV kV ho hd hcd hD hmg hg args vals as hpre hlay hrd hwl hlo
  obtain rfl:dV=.none:=Dflts.none hD hdf
  obtain rfl:kV=.none:=Dflts.noKw hD
  obtain ⟨a,vs,ns,rfl,rfl,hobj,hints,hlen⟩:=zgs hn hpre hwl
  refine enter_call (codeAny_mono (call w s₀ s₁ mg mb fa o pm cd doc a vs ns G Y ho (fd_plain hd) hcd hmg hobj hints hlen hg) fun r s' hq=>?_)
  obtain ⟨rfl,h2,h3,h4⟩:=hq
  exact ⟨.inl ⟨.bool true,.bool true,[],rfl,fun _=>rfl,.bool true,ze4 l _,fun _=>⟨List.Pairwise.nil,fun _ hm=>(nomatch hm)⟩⟩,h2,h3,h4⟩
section
variable {prog:Program}{w:World}{A:Around}{E:Value→Shared→Prop}{s:Shared}{K:Frag}
def ledger (h:Heap)(L d:Addr):List (Addr × Obj):=(List.range h.objs.size).filterMap fun a=>if a=L∨a=d then none else (h.get? a).map fun o=>(a,o)
end
end Att
namespace L2
open PySem PySem.Spec PyProof.Rows
theorem WW:∀ {vs:List Value} {ns:List Int},IntsAre vs ns→yr (ns.map V.int) vs:=by
  intro vs ns h
  induction h with
  | nil=>exact .nil
  | cons n t h ih=>exact .cons ⟨t,rfl⟩ ih
def zlK (H:Hp):Prop:=∀ b,H b=none∨∃ o xs,H b=some (.frz o (.lst xs))
theorem zgK {P:Program}{w:World}{K:PySem.W.Frag}{mg mb:Str→Option Value}{CX:CXT}{k:Nat}{fa a:Addr}{fd:FuncData}{x:Str}{sp:Sp}{s₁:Shared}{vs:List Value}{ns:List Int}
    (KX:K.In s₁.heap) (hns:s₁.heap.Ns mainGlobals mg) (hb:s₁.heap.Ns builtinsNs mb) (hbb:∀ x:Str,x≠"__name__"→mb x=bootBuiltins x) (hlim:s₁.heap.NoLimit) (hg:s₁.gens=#[])
    (ha:s₁.heap.get? a=some { cls:=.type "list",data:=.seq vs.toArray }) (hi:IntsAre vs ns) (hl:ns.length≤sizeLine) (hr:YO k callerA)
    (F:∀ base:Heap,K.In base→base.Ns mainGlobals mg→xE P w K mg base CX k fa fd [x] sp) (hbind:∀ (s:Shared) (u:Value),BindsTo s fd ⟨[u],[]⟩ [(x,u)])
    (hsp:∀ H:Hp,zlK H→SqL K H a (ns.map V.int)→sp [.ref a] H (fun v _=>v=.bl true) fun _ _ _=>False)
    (hCX:∀ H e s',CX [] H s₁ (fun _ _ _=>False) e s'→False) :
    codeAny (model P w) callerA (.call (.ref fa) ⟨[.ref a],[]⟩) (fun r s'=>r=.ok (.ret (.bool true))∧OldK s₁.heap s'.heap∧s'.os=s₁.os∧AllBare s'.gens) s₁:=by
  have rv:=WW hi
  have lenV:=hi.length
  -- from an abstract heap in which nothing but the script may be tracked
  have core:∀ H:Hp,zlK H→SqL K H a (ns.map V.int)→HOk P w H s₁.heap→(∀ b,H b≠none→b=a)→(H a≠none→K.lookup a=none) →
      codeAny (model P w) callerA (.call (.ref fa) ⟨[.ref a],[]⟩) (fun r s'=>r=.ok (.ret (.bool true))∧OldK s₁.heap s'.heap∧s'.os=s₁.os∧AllBare s'.gens) s₁:=by
    intro H hO hS hok hA hK
    have base_of:∀ {b:Addr} {o:Obj},s₁.heap.get? b=some o→H b=none→(zhj s₁.heap H).get? b=some o:=fun e n=>zg4 e n
    have noA:∀ {b:Addr} {o:Obj} {es:Array DictEntry} {ep:Nat},s₁.heap.get? b=some o→o.data=.dict es ep→H b=none:=fun {b o es ep} e d=>by
      cases q:H b with
      | none=>rfl
      | some u =>
        have e':b=a:=hA b (by rw [q];simp)
        subst e'
        rw [ha] at e;cases e
        have d':Data.seq vs.toArray _=Data.dict es ep:=d
        cases d'
    have nsK:∀ {b:Addr} {m:Str→Option Value},s₁.heap.Ns b m→(zhj s₁.heap H).Ns b m:=fun {b m} ⟨o,es,ep,e,d,r⟩=>⟨o,es,ep,base_of e (noA e d),d,r⟩
    have hKb:K.In (zhj s₁.heap H):=fun b o e=>base_of (KX b o e) (by
      cases q:H b with
      | none=>rfl
      | some u =>
        have e':b=a:=hA b (by rw [q];simp)
        subst e'
        rw [hK (by rw [q];simp)] at e;cases e)
    have hM:Mod K mg (zhj s₁.heap H):=⟨hKb,nsK hns,⟨mb,nsK hb,hbb⟩,let ⟨mc,h1,h2⟩:=hlim;⟨mc,nsK h1,h2⟩⟩
    have e0:zjQ P w K mg (zhj s₁.heap H) callerA [] s₁ H:=⟨rfl,hM,fun b o e=>ziF e,Nat.le_of_eq (zd9 _ _),trivial,fun b hb=>absurd (show b∈([]:List Addr) from hb) (by simp),hok,.of_eq hg⟩
    refine codeAny_mono ((F _ hKb (nsK hns)).run callerA [] s₁ H ⟨[.ref a],[]⟩ [.ref a] [.ref a] _ _ hr e0 (hbind s₁ (.ref a)) (.cons rfl .nil) (hsp H hO hS)) fun r s' h=>?_
    cases r with
    | error e=>exact (hCX H e s' h).elim
    | ok fl =>
      cases fl with
      | next=>exact False.elim h
      | brk=>exact False.elim h
      | cont=>exact False.elim h
      | ret u =>
        obtain ⟨v,H',os,bare,un,hok',r',q⟩:=h
        have q':v=.bl true:=q
        subst q'
        obtain rfl:u=Value.bool true:=r'
        refine ⟨rfl,OldK.of_keep fun b o e=>?_,os,bare⟩
        cases q:H b with
        | none=>exact un.keep b o e q (by intro z;exact absurd (show b∈([]:List Addr) from z) (by simp)) (by simp)
        | some u =>
          rcases hO b with z | ⟨ob,xs,z⟩
          · rw [q] at z;cases z
          · have z2:=un.frzs b ob _ z
            obtain ⟨e1,_⟩:=hok b _ z
            obtain ⟨e2,_⟩:=hok' b _ z2
            rw [e] at e1;cases e1
            exact e2
  cases hk:K.lookup a with
  | some o =>
    -- the script is one of the module's own objects
    have e:=KX a o hk
    rw [ha] at e
    cases e
    refine core (fun _=>none) (fun _=>.inl rfl) (.inr ⟨_,vs.toArray,_,hk,rfl,rfl,rfl,by rw [List.size_toArray,lenV];exact hl,by simpa using rv⟩) (fun b u z=>by have z':(none:Option HO)=some u:=z;cases z') (fun b z=>absurd rfl z) fun z=>absurd rfl z
  | none =>
    refine core (fun b=>if b=a then some (.frz { cls:=.type "list",data:=.seq vs.toArray } (.lst (ns.map V.int))) else none) (fun b=>?_) (.inl (.inr ⟨{ cls:=.type "list",data:=.seq vs.toArray },if_pos rfl⟩)) (fun b u z=>?_) (fun b z=>?_) fun _=>hk
    · by_cases hb:b=a
      · exact .inr ⟨_,_,if_pos hb⟩
      · exact .inl (if_neg hb)
    · by_cases hb:b=a
      · have z':=(if_pos hb).symm.trans z
        cases z'
        subst hb
        exact ⟨ha,by rw [List.length_map];exact hl,vs,_,rv,ha⟩
      · have z':=(if_neg hb).symm.trans z
        cases z'
    · by_cases hb:b=a
      · exact hb
      · exact absurd (if_neg hb) z
end L2
namespace L2
open PySem PySem.Spec PyProof.Rows
theorem walk_of {l:PySem.W.OpenLaw}{n k:Nat}{q:Program}{loose:List Str}{XP:(Str→Option Value)→Heap→Prop}{YP:World→Heap→Prop}{d:DefRec}{K:Params→PySem.W.Frag}{CX:World→CXT}{sp:World→Sp}{x:Str}
    (hn:l.most=some n) (hn2:n≤sizeLine) (hdf:d.params.defaults=[]) (hr:YO k callerA)
    (hY:∀ (w:World) (h:Heap),YP w h→(K w.params).In h)
    (F:∀ (w:World) (mg:Str→Option Value) (fa:Addr) (h:Heap),(K w.params).In h→h.Ns mainGlobals mg→mg d.name=some (.ref fa) →
      ∃ fd:FuncData,(∀ (s:Shared) (u:Value),BindsTo s fd ⟨[u],[]⟩ [(x,u)]) ∧
        ∀ base:Heap,(K w.params).In base→base.Ns mainGlobals mg→xE l.prog w (K w.params) mg base (CX w) k fa fd [x] (sp w))
    (hsp:∀ (w:World) (H:Hp) (a:Addr) (ns:List Int),ns.length≤n→zlK H→SqL (K w.params) H a (ns.map V.int)→sp w [.ref a] H (fun v _=>v=.bl true) fun _ _ _=>False)
    (hCX:∀ (w:World) (H:Hp) (s:Shared) (e:Value) (s':Shared),CX w [] H s (fun _ _ _=>False) e s'→False) :
    PySem.W.WalkO q loose XP YP l.row.toRowW d [] (fun f vs=>PySem.call f vs):=by
  refine Att.attach_call hn hdf fun w s₀ s₁ mg mb fa o pm cd doc a vs ns G Y ho hd hcd hmg hobj hints hlen hg=>?_
  have KX:=hY w _ Y
  obtain ⟨fd,hb,hF⟩:=F w mg fa _ KX G.T.g hmg
  exact zgK KX G.T.g G.T.b G.T.builtins G.T.nolimit hg hobj hints (Nat.le_trans hlen hn2) hr hF hb (fun H hO hS=>hsp w H a ns hlen hO hS) fun H e s'=>hCX w H s₁ e s'
end L2
namespace L2
open PySem PySem.Spec PyProof.Rows
def zz (s:Stmt):Arguments:=match s with
  | .FunctionDef _ a _ _ _ _ _ _ _ _=>a
  | _=>{ posonlyargs:=[],args:=[],vararg:=none,kwonlyargs:=[],kw_defaults:=[],kwarg:=none,defaults:=[] }
def zv (s:Stmt):List Stmt:=match s with
  | .FunctionDef _ _ b _ _ _ _ _ _ _=>b
  | _=>[]
def zg (s:Stmt):Scope:=match s with
  | .FunctionDef _ _ _ _ _ _ sc _ _ _=>sc
  | _=>{ kind:=.function,names:=[],isGenerator:=false,isCoroutine:=false }
abbrev CX0:CXT:=fun _ _ _ _ _ _=>False
abbrev E0:XK:=fun _ _ _=>False
theorem zln {X:Cx}:XN CX0 X E0:=fun _ _ _ _ _ _ _ h=>h.elim
set_option genInjectivity false in
set_option genSizeOf false in
set_option genCtorIdx false in
structure Fun (K:PySem.W.Frag) (x qual:Str) (st:Stmt) (f:Addr) (fd:FuncData):Prop where
  ex:∃ (oc:Value) (od:Option Addr) (kV doc pm:Value) (an:Option Addr) (cdv ct:Value) (osl:Array (Option Value)),
    fd=PySem.W.fnOf x qual (zz st) (zv st) (zg st) .none kV doc pm an cdv ct∧K.lookup f=some ⟨oc,od,.func fd,osl⟩∧PySem.W.codeIn K cdv qual=true
  kp:PySem.W.keepIn K (.ref f)=true
section
variable {P:Program}{w:World}{K:PySem.W.Frag}{mg:Str→Option Value}{base:Heap}
theorem Fun.ok {x qual:Str}{st:Stmt}{f:Addr}{fd:FuncData}{N ps:List Str}{k:Nat}{sp:Sp}(F:Fun K x qual st f fd)(S:zx N ps (zg st))(len:∀ vs H Q E,sp vs H Q E→vs.length=ps.length)
    (hbody:∀ (cdv:Value) (A:Around) (outer:List Env) (s:Shared) (H:Hp) (vs:List V) (Q:VK) (E:XK),YO k (A.deeper (envOfC qual (zg st) s.heap.objs.size f cdv))→sp vs H Q E →
      ∃ t,PSs (VF CX0 P w K mg base N qual (zg st) f cdv A outer s H E).nox (zv st) t∧t { nx:=fun _ H'=>Q .non H',rt:=Q } (start N vs) H):xE P w K mg base CX0 (k+1) f fd ps sp:=by
  obtain ⟨oc,od,kV,doc,pm,an,cdv,ct,osl,rfl,lk,hcd⟩:=F.ex
  refine zkQ lk hcd S len fun A outer s H vs Q E hr hsp=>?_
  obtain ⟨t,h,q⟩:=hbody cdv A outer s H vs Q E hr hsp
  exact ⟨t,h.nox,q⟩
theorem Fun.binds {x qual:Str}{st:Stmt}{f:Addr}{fd:FuncData}{ps:List Str}(F:Fun K x qual st f fd)
    (h:∀ (kV doc pm:Value) (an:Option Addr) (cdv ct:Value) (us:List Value),us.length=ps.length→bindArgs (PySem.W.fnOf x qual (zz st) (zv st) (zg st) .none kV doc pm an cdv ct) ⟨us,[]⟩=pure (ps.zip us)):Vv K fd ps []:=by
  obtain ⟨oc,od,kV,doc,pm,an,cdv,ct,osl,rfl,lk,hcd⟩:=F.ex
  exact .all (h kV doc pm an cdv ct)
theorem zQ {x qual:Str}{st:Stmt}{f:Addr}{oc:Value}{od an:Option Addr}{osl:Array (Option Value)}{kV doc pm cdv ct:Value}(l:K.lookup f=some ⟨oc,od,.func (PySem.W.fnOf x qual (zz st) (zv st) (zg st) .none kV doc pm an cdv ct),osl⟩)
    (c:PySem.W.codeIn K cdv qual=true) (k:PySem.W.keepIn K (.ref f)=true):Fun K x qual st f (PySem.W.fnOf x qual (zz st) (zv st) (zg st) .none kV doc pm an cdv ct):=⟨⟨oc,od,kV,doc,pm,an,cdv,ct,osl,rfl,l,c⟩,k⟩
end
theorem Y4 {n:Nat}(h:n≤1000):n < sizeLine:=Nat.lt_of_le_of_lt h (by decide)
section
variable {X:Cx}
theorem pv (i:Nat) {x:Str} {pos:Pos} (hN:X.N[i]?=some x:=by rfl) (hv:Vis X.env.scope x:=by first | exact Or.inl rfl | exact Or.inr (Or.inl rfl) | exact Or.inr (Or.inr rfl)) (hd:(x == ("__debug__":Str))=false:=by decide)
    (hcd:(x == ("__classdict__":Str))=false:=by decide):PE X (.Name x pos) (zb0 i):=zkt hN hv hd hcd
end
def yJ (H H':Hp):Prop:=∀ b o,H b=some o→H' b=some o
theorem yJ.refl (H:Hp):yJ H H:=fun _ _ h=>h
theorem yJ.trans {H H1 H2:Hp}(a:yJ H H1)(b:yJ H1 H2):yJ H H2:=fun c o h=>b c o (a c o h)
theorem yJ.free {H H':Hp}(e:yJ H H'){l:Addr}(h:H' l=Option.none):H l=Option.none:=by
  cases q:H l with
  | none=>rfl
  | some o =>
    rw [e l o q] at h
    cases h
theorem yJ.seq {K:PySem.W.Frag}{H H':Hp}{a:Addr}{xs:List V}(e:yJ H H')(h:SqL K H a xs):SqL K H' a xs:=by
  rcases h with (h | ⟨o,h⟩) | h
  · exact .inl (.inl (e _ _ h))
  · exact .inl (.inr ⟨o,e _ _ h⟩)
  · exact .inr h
end L2
namespace L2
open PySem PySem.Spec PyProof.Rows
end L2
namespace L2
open PySem PySem.Spec PyProof.Rows
section
variable (P:Program)(w:World)
end
section
variable {P:Program}{w:World}{H H':Hp}{h h':Heap}{a:Addr}{o:HO}
end
section
variable {P:Program}{w:World}{H:Hp}{h h':Heap}{x e:Addr}{o':HO}
end
section
variable {fs fs' ex ex':List Addr}{H H1 H2:Hp}{h h1 h2 h':Heap}{a x e:Addr}{o:HO}
end
end L2
namespace L2
open PySem PySem.Spec PyProof.Rows
section
variable {X:Cx}{pins:List (Addr × Obj)}{σ:List (Option V)}{H H':Hp}{s:Shared}{h':Heap}
end
end L2
namespace L2
open PySem PySem.Spec PyProof.Rows
section
variable {X:Cx}
variable {a b:Expr}{ta tb:TE}{pos:Pos}
variable {tA tB':TT}{rest:List Expr}
end
end L2
namespace L2
open PySem PySem.Spec PyProof.Rows
section
variable {X:Cx}{pins:List (Addr × Obj)}{σ:St}{H:Hp}{s:Shared}{a:Addr}{xs ys:List V}
end
section
variable {X:Cx}{pins:List (Addr × Obj)}{σ:St}{H:Hp}{s:Shared}{E:Value→Shared→Prop}
end
section
variable {X:Cx}{st:Stmt}{rest:List Stmt}{t u:TS}{e:Expr}{te:TE}{pos:Pos}
end
section
variable {X:Cx}{pos:Pos}
end
section
variable {X:Cx}{pos:Pos}
end
end L2
namespace L2
open PySem PySem.Spec PyProof.Rows
section
variable {X:Cx}{tg:Expr}
end
end L2
namespace L2
open PySem PySem.Spec PyProof.Rows
section
variable {X:Cx}{a b c:Expr}{ta tb tc:TE}{pos:Pos}
end
section
variable {X:Cx}{a b c:Expr}{ta tb tc:TE}{pos:Pos}
end
end L2
namespace L2
open PySem PySem.Spec PyProof.Rows
section
variable {prog:Program}{w:World}{A:Around}{E:Value→Shared→Prop}{s:Shared}{K:PySem.W.Frag}{x dx C f:Addr}{mA:Str→Option Value}{name:Str}{v:Value}
end
section
variable {P:Program}{w:World}{H H':Hp}{h h':Heap}{a C dx:Addr}{fs fs':List (Str × V)}
end
section
variable {X:Cx}{pins:List (Addr × Obj)}{σ:St}{H:Hp}{s:Shared}{a C dx:Addr}{fs:List (Str × V)}{f:Str}{v:V}{A:Around}{E:Value→Shared→Prop}
end
section
variable {X:Cx}{o e value:Expr}{f:Str}{pos pos' tpos:Pos}{ta tv:TE}
end
section
variable {X:Cx}{pins:List (Addr × Obj)}{σ:St}{H:Hp}{s:Shared}{A:Around}{E:Value→Shared→Prop}{Q:Value→Shared→Prop}{c:Value}{b:Bool}
end
end L2
namespace L2
open PySem PySem.Spec PyProof.Rows
section
variable {X:Cx}{e:Expr}{es:List Expr}{te:TE}{t:TA}{pos:Pos}
end
section
variable {X:Cx}{pins:List (Addr × Obj)}{σ:St}{H:Hp}{s s':Shared}
end
section
variable {X:Cx}{CX:CXT}{k:Nat}{f C:Addr}{fd:FuncData}{ps:List Str}{sp:Sp}{dvs:List V}{ds:List Value}{E:XK}{x m:Str}{p pos apos:Pos}{e o:Expr}{es:List Expr}{ta:TE}{t:TA}
end
section
variable {X:Cx}{CX:CXT}{k:Nat}{f C:Addr}{fd:FuncData}{ps ks:List Str}{sp:Sp}{E:XK}{x m:Str}{p pos apos kpos:Pos}{e o:Expr}{es:List Expr}{kws:List Keyword}{te ta:TE}{t tk:TA}{nm:Option Str}
variable {g:List Value→List Value→List Value}{gV:List V→List V→List V}
end
end L2
namespace L2
open PySem PySem.Spec PyProof.Rows
section
variable {X:Cx}{x:Str}{p pos:Pos}{e:Expr}{es:List Expr}{t:TA}{id T:String}{r:List V→Hp→VK→Prop}
end
end L2
namespace L2
open PySem PySem.Spec PyProof.Rows
section
variable {κ:Type}[DecidableEq κ]
end
section
variable {P:Program}{w:World}{H:Hp}{h:Heap}{a:Addr}
end
section
variable {X:Cx}{pins:List (Addr × Obj)}{σ:St}{H:Hp}{s:Shared}{a:Addr}{y v:V}{u r:Value}{o:Option V}{A:Around}{E:Value→Shared→Prop}
end
section
variable {X:Cx}{pins:List (Addr × Obj)}{σ:St}{H:Hp}{s:Shared}{a:Addr}{kvs:List (Key × V)}{k:Key}{u:Value}{A:Around}{E:Value→Shared→Prop}
end
section
variable {X:Cx}{o i e value:Expr}{pos pos' tpos:Pos}{td ty tv:TE}
end
section
variable {X:Cx}{pos:Pos}
end
section
variable {X:Cx}{pins:List (Addr × Obj)}{σ:St}{H:Hp}{s:Shared}{a:Addr}{y d:V}{u r:Value}{o:Option V}{A:Around}{E:Value→Shared→Prop}
end
section
variable {X:Cx}{o e f:Expr}{apos cpos:Pos}{td ty tx:TE}
end
section
variable {X:Cx}{pins:List (Addr × Obj)}{σ:St}{H:Hp}{s:Shared}{a:Addr}{kvs:List (Key × V)}{A:Around}{E:Value→Shared→Prop}
end
section
variable {X:Cx}{pins:List (Addr × Obj)}{σ:St}{H:Hp}{s:Shared}{a:Addr}{y:V}{u:Value}{A:Around}{E:Value→Shared→Prop}
end
end L2
namespace Att
open PySem PySem.W PySem.Calls PyProof.Rows
section
variable {prog:Program}{w:World}{A:Around}{E:Value→Shared→Prop}{s:Shared}{K:Frag}
end
end Att
namespace L2
open PySem PySem.Spec PyProof.Rows
end L2
namespace L2
open PySem PySem.Spec PyProof.Rows
end L2
namespace L2
open PySem PySem.Spec PyProof.Rows
section
variable {P:Program}{w:World}{K:PySem.W.Frag}{mg:Str→Option Value}{base:Heap}
end
section
variable {X:Cx}
end
section
variable {κ:Type}[DecidableEq κ]
end
end L2
namespace L2
open PySem PySem.Spec PyProof.Rows
theorem zca {X:Cx}:YL X (.builtin "isinstance") (fun xs H Q=>∃ x n t b,xs=[x,.ty n]∧zc6 X.K H x t∧PySem.W.kitOne X.K t (.type n)=some b∧Q (.bl b) H):=by
  intro pins s σ H xs us Q I r h
  obtain ⟨x,n,t,b,rfl,ty,e,q⟩:=h
  obtain ⟨u,w',rfl,rx,rt⟩:=zbZ r
  cases (show w'=Value.type n from rt)
  exact zeP I rx ty e fun tk=>⟨.bl b,H,I.tok _,rfl,q⟩
theorem zcp {X:Cx}:OpR X (compareOp .IsNot) (fun x y H Q=>∃ i j,x=.bl i∧y=.bl j∧Q (.bl (!(i == j))) H):=by
  intro pins s σ H x y v u Q I rx ry h
  obtain ⟨i,j,rfl,rfl,q⟩:=h
  cases rx
  cases ry
  refine wpAny_isNot_plain (by rfl) ⟨.bl (!(i == j)),H,I,?_,q⟩
  cases i <;> cases j <;> rfl
def zhZ (K:PySem.W.Frag):R2:=fun x y H Q=>∃ a b xs ys,x=.ref a∧y=.ref b∧SqT K H a xs∧SqT K H b ys∧xs.length+ys.length≤sizeLine ∧
  (xs=[]→Q (.ref b) H)∧(xs≠[]→ys=[]→Q (.ref a) H)∧(xs≠[]→ys≠[]→∀ p,H p=none→Q (.ref p) (upd H p (.tup (xs++ys))))
theorem zhv {X:Cx}:OpR X (binaryOp .Add) (zhZ X.K):=by
  intro pins s σ H x y v u Q I rx ry h
  obtain ⟨a,b,xs,ys,rfl,rfl,ha,hb,hz,q0,q1,q2⟩:=h
  by_cases hx:xs=[]
  · subst hx
    cases rx
    cases ry
    obtain ⟨its,r,p,_⟩:=I.tuple ha
    obtain ⟨its',r',p',_⟩:=I.tuple hb
    cases r
    obtain ⟨⟨cls,dd,data,sl⟩,ho,hc,n,hd⟩:=id p
    obtain ⟨⟨cls2,dd2,data2,sl2⟩,ho2,hc2,n2,hd2⟩:=id p'
    simp only at hc hd hc2 hd2
    subst hc hd hc2 hd2
    exact concat_meets ⟨_,ho,rfl⟩ ⟨_,ho2,rfl⟩ noFill_tuple_add seq_tuple_add PySem.F.slot_tuple_add PySem.F.entry_tuple_add (PySem.F.args_tuple_add_2 _ _)
      (tuple_addW0 a b #[] its'.toArray n n2 dd dd2 sl sl2 rfl) ⟨ho,ho2,⟨.ref b,H,I,rfl,q0 rfl⟩⟩
  · refine zir pins s σ H (.ref a) (.ref b) v u Q I rx ry ⟨a,b,xs,ys,rfl,rfl,ha,hb,hx,hz,?_⟩
    exact ⟨fun e=>q1 hx e,fun e=>q2 hx e⟩
end L2
namespace L2
open PySem PySem.Spec PyProof.Rows
inductive ZO:St→St→Prop where
  | nil:ZO [] []
  | non {a:Option V} {s t:St}:ZO s t→ZO (none::s) (a::t)
  | same {a:Option V} {s t:St}:ZO s t→ZO (a::s) (a::t)
theorem ZO.refl:∀ s:St,ZO s s
  | []=>.nil
  | _::r=>.same (ZO.refl r)
theorem ZO.length {s t:St}(h:ZO s t):s.length=t.length:=by
  induction h with
  | nil=>rfl
  | non _ ih=>simp [ih]
  | same _ ih=>simp [ih]
theorem ZO.get {s t:St}(h:ZO s t):∀ (i:Nat) (v:V),s[i]?=some (some v)→t[i]?=some (some v):=by
  induction h with
  | nil=>intro i v e;exact e
  | non _ ih =>
    intro i v e
    cases i with
    | zero=>simp at e
    | succ i=>simpa using ih i v (by simpa using e)
  | same _ ih =>
    intro i v e
    cases i with
    | zero=>simpa using e
    | succ i=>simpa using ih i v (by simpa using e)
theorem ZO.set {n:Nat}{v:V}:∀ {s t:St},ZO s t→s[n]?=some none→ZO s (t.set n (some v))
  | _,_,.nil,_=>.nil
  | _,_,.non (a:=a) h,e=>by
    cases n with
    | zero=>exact .non h
    | succ n=>exact .non (ZO.set h (by simpa using e))
  | _,_,.same (a:=a) h,e=>by
    cases n with
    | zero =>
      have e':a=none:=by simpa using e
      subst e'
      exact .non h
    | succ n=>exact .same (ZO.set h (by simpa using e))
theorem Inv.sub {X:Cx}{pins:List (Addr × Obj)}{σ σ':St}{H:Hp}{s:Shared}(I:Inv X pins σ H s)(h:ZO σ' σ):Inv X pins σ' H s:=I.weak h.length h.get
def PIf (X:Cx)(ifs:List Expr)(t:TT):Prop :=
  ∀ (pins:List (Addr × Obj)) (s:Shared) (σ:St) (H:Hp) (Q:Bool→Hp→Prop),Inv X pins σ H s→t σ H Q →
    wpAny (model X.prog X.w) X.A (forIn ifs true fun c r=>if r=true then do let ok←isTrue c X.env (eval c X.env);pure (ForInStep.yield ok) else pure (ForInStep.yield r)) (TP X pins σ Q) X.xe s
def tYes:TT:=fun _ H Q=>Q true H
theorem ziz {X:Cx}:PIf X [] tYes:=by
  intro pins s σ H Q I h
  rw [List.forIn_nil]
  exact wpAny_pure ⟨H,I,h⟩
theorem zcD {X:Cx}{c:Expr}{t:TT}(hc:PT X c t):PIf X [c] t:=by
  intro pins s σ H Q I h
  rw [List.forIn_cons]
  refine wpAny_bind ?_
  rw [if_pos rfl]
  refine wpAny_bind (thn (hc pins s σ H Q I h) fun b s1 q=>wpAny_pure ?_)
  show wpAny _ _ (forIn [] b _) _ _ _
  rw [List.forIn_nil]
  exact wpAny_pure q
section
variable {prog:Program}{w:World}{A:Around}{R:Result→Shared→Prop}{s:Shared}
theorem vg {elt target iter:Expr}{ifs:List Expr}{scope:Scope}{pos:Pos}{it acc:Value}{env:Env}(I:Nat→Shared→Prop)
    (turn:∀ n s,I n s→wpAny (model prog w) A (pyNext it) (fun r s₁=>match r with
      | none=>R (.ok .next) s₁
      | some v=>wpAny (model prog w) A (letOwnedTupleGo target it v) (fun _ s₁'=>wpAny (model prog w) A (assign target env v) (fun _ s₂ =>
          wpAny (model prog w) A (forIn ifs true fun c r=>if r=true then do let ok←isTrue c env (eval c env);pure (ForInStep.yield ok) else pure (ForInStep.yield r)) (fun ok s₃ =>
            if ok=true then wpAny (model prog w) A (eval elt env) (fun x s₄ =>
              wpAny (model prog w) A (call (.builtin "list.append") [acc,x]) (fun _ s₅=>∃ m,m < n∧I m s₅) (fun _ _=>False) s₄) (fun _ _=>False) s₃
            else ∃ m,m < n∧I m s₃) (fun _ _=>False) s₂) (fun _ _=>False) s₁') (fun _ _=>False) s₁) (fun _ _=>False) s)
    (n:Nat) (h:I n s) :
    codeAny (model prog w) A (.compLoop (.ListComp elt [⟨target,iter,ifs,0⟩] scope pos) 0 it acc env) R s:=by
  refine codeAny_loop rfl I (fun n s hI=>?_) n h
  show wpAny _ A ((compTurn (.ListComp elt [⟨target,iter,ifs,0⟩] scope pos) 0 it acc env).onRaise (fun x=>do noteFrame x env;theTreesLotGoes x)) _ _ s
  refine wpAny_noted ?_
  rw [compTurn_list]
  refine wpAny_bind (wpAny_standAt (wpAny_bind (wpAny_mono (turn n s hI) (fun r s₁ h₁=>?_) fun _ _ h'=>h'.elim)))
  cases r with
  | none=>exact wpAny_pure h₁
  | some v =>
    refine wpAny_bind (wpAny_mono h₁ (fun _ s₁' h₁'=>?_) fun _ _ h'=>h'.elim)
    refine wpAny_bind (wpAny_mono h₁' (fun _ s₂ h₂=>wpAny_bind (wpAny_mono h₂ (fun ok s₃ h₃=>?_) fun _ _ h'=>h'.elim)) fun _ _ h'=>h'.elim)
    cases ok with
    | false=>exact wpAny_pure ⟨rfl,h₃⟩
    | true =>
      exact wpAny_bind (wpAny_bind (wpAny_mono h₃ (fun x s₄ h₄=>wpAny_bind (wpAny_mono h₄ (fun _ s₅ h₅=>wpAny_pure (wpAny_pure ⟨rfl,h₅⟩)) fun _ _ h'=>h'.elim)) fun _ _ h'=>h'.elim))
end
def tLC (wi:TI)(n:Nat)(g:TG)(tt:TT)(te:TE):TE:=fun σ H Q=>wi σ H fun J H1=>∀ D,H1 D=none→∃ W:Nat→Nat→List V→Hp→Prop,(∃ m,W 0 m [] (upd H1 D (.lst []))) ∧
  ∀ i m ys H2,W i m ys H2→(J.stop i H2∧Q (.ref D) H2)∨(J.go i H2∧ys.length < sizeLine∧∀ x H3,J.yld i H2 x H3→g x (List.replicate n none++σ) H3 fun σ2 H4=>tt σ2 H4 fun b H5 =>
    if b=true then te σ2 H5 fun y H6=>H6 D=some (.lst ys)∧∃ m',m' < m∧W (i+1) m' (ys++[y]) (upd H6 D (.lst (ys++[y]))) else ∃ m',m' < m∧W (i+1) m' ys H5)
theorem v6 {α:Type}:∀ {l:List (Str × α)} {y:Str},y∈l.map Prod.fst→∃ c,l.lookup y=some c
  | [],_,h=>by simp at h
  | (k,v)::r,y,h=>by
    by_cases e:y=k
    · exact ⟨v,by simp [List.lookup,e]⟩
    · obtain ⟨c,hc⟩:=v6 (l:=r) (y:=y) (by simpa [e] using h)
      have hb:(y == k)=false:=beq_eq_false_iff_ne.mpr e
      exact ⟨c,by simp only [List.lookup,hb];exact hc⟩
theorem y0 {α:Type}{P:α→Prop}:∀ p∈([]:List α),P p:=fun _ h=>nomatch h
theorem all_cons {α:Type}{P:α→Prop}{a:α}{l:List α}(h:P a)(t:∀ p∈l,P p):∀ p∈a::l,P p:=fun p hp=>by
  rcases List.mem_cons.mp hp with e | hp
  · rw [e];exact h
  · exact t p hp
theorem gs1 (σ:St)(v:V)(H:Hp)(Q:St→Hp→Prop)(h:Y7 0 v (List.replicate 1 none++σ) H Q):Y7 0 v (List.replicate 1 none++σ) H (fun σ2 H2=>ZO (List.replicate 1 none++σ) σ2∧Q σ2 H2):=⟨.set (.refl _) rfl,h⟩
theorem gs2 {K:PySem.W.Frag}(σ:St)(v:V)(H:Hp)(Q:St→Hp→Prop)(h:zlw K 2 (zcd (Y7 0) (zcd (Y7 1) zly)) v (List.replicate 2 none++σ) H Q) :
    zlw K 2 (zcd (Y7 0) (zcd (Y7 1) zly)) v (List.replicate 2 none++σ) H (fun σ2 H2=>ZO (List.replicate 2 none++σ) σ2∧Q σ2 H2):=by
  obtain ⟨a,xs,e,hq,hl,x,r,e1,y,r2,e2,e3,q⟩:=h
  exact ⟨a,xs,e,hq,hl,x,r,e1,y,r2,e2,e3,.set (.set (.refl _) rfl) rfl,q⟩
end L2
namespace L2
open PySem PySem.Spec PyProof.Rows
def zaT (X:Cx)(L M:List Str)(scope:Scope)(cl:List (Str × Addr))(s₀:Shared)(H₀:Hp)(ex:List Addr)(pn:List (Addr × Obj)):Cx :=
  { X with N:=L++M,s₀:=s₀,H₀:=H₀,env:=compEnvC scope cl s₀.heap.objs.size X.env,outer:=X.stack,stack:=X.stack,ex:=ex,fn:=fun _=>false,pn:=pn,xe:=fun _ _=>False }
structure wD (X:Cx) (L M:List Str) (scope:Scope) (cl:List (Str × Addr)):Prop where
  clos:closureFor scope X.env=pure cl
  cell:∀ y∈scope.names,y.2≠.cell
  kind:scope.kind=.function
  names:∀ y∈scope.names,y.2=.local→scope.names.lookup y.1=some .local
  sub:∀ y c,cl.lookup y=some c→X.env.cells.lookup y=some c
  has:∀ y,((relabel scope X.env).names.lookup y=some .cell∨(relabel scope X.env).names.lookup y=some .free)→∃ c,cl.lookup y=some c
  mlen:M.length=X.N.length
  msk:∀ (i:Nat) y,M[i]?=some y→Vis (relabel scope X.env) y→X.N[i]?=some y
  vis:∀ (i:Nat) y,M[i]?=some y→Vis (relabel scope X.env) y→((relabel scope X.env).names.lookup y=some .cell∨(relabel scope X.env).names.lookup y=some .free)
  out:∀ (i:Nat) y,M[i]?=some y→Vis (relabel scope X.env) y→Vis X.env.scope y∧X.env.kindOf y≠some .local
theorem Inv.letGo {X:Cx}{pins:List (Addr × Obj)}{σ:St}{H:Hp}{s:Shared}{C:Addr}{h':Heap}(I:Inv X pins σ H s)(f:zbR X pins H C)(sb:Heap.SameBut C s.heap h'):Inv X pins σ H { s with heap:=h' }:=by
  obtain ⟨f0,f1,f2,f3,f4,f5⟩:=f
  have ne:∀ b,b∉[C]→b≠C:=fun b hb z=>hb (by rw [z];exact List.mem_singleton.mpr rfl)
  refine I.call' (s':={ s with heap:=h' }) (ch:=[C]) rfl ⟨fun b o e _ _ hx=>(sb.2 b (ne b hx)).trans e,fun b o e _ _ hx=>⟨o.slots,(sb.2 b (ne b hx)).trans e⟩,fun _ _ _ n _=>n,fun b o e hx=>⟨o,(sb.2 b (ne b hx)).trans e⟩,fun _ _ q=>q,fun _ _ _ q=>q,fun _ ps q=>⟨#[],by rw [q];simp⟩⟩ ?_ I.bare fun b hb=>?_
  · intro b ob e
    refine (I.hok b ob e).stay (fun c v hc q=>(sb.2 c ?_).trans q) (fun _ q=>q) fun _ _ q=>q
    rintro rfl
    rcases hc with z | z
    · rw [←z,f0] at e;cases e
    · rw [f0] at z;cases z
  · rw [List.mem_singleton.mp hb]
    exact ⟨f3,f1,f4,f5⟩
theorem zeJ {use:Option (Value→Sem Unit)}{Qf:Value→Shared→Prop}{X:Cx}{elt tg iter:Expr}{ifs:List Expr}{L M:List Str}{scope:Scope}{cl:List (Str × Addr)}{pos:Pos}{wi:TI}{g:TG}{tt:TT}{te:TE}
    (hc:X.calm=true) (S:wD X L M scope cl) (hi:PI X tg iter wi)
    (hgS:∀ (σ:St) (v:V) (H:Hp) (Q:St→Hp→Prop),g v (List.replicate L.length none++σ) H Q→g v (List.replicate L.length none++σ) H (fun σ2 H2=>ZO (List.replicate L.length none++σ) σ2∧Q σ2 H2))
    (hg:∀ s₀ H₀ ex pn,PG (zaT X L M scope cl s₀ H₀ ex pn) tg g) (ht:∀ s₀ H₀ ex pn,PIf (zaT X L M scope cl s₀ H₀ ex pn) ifs tt) (he:∀ s₀ H₀ ex pn,PE (zaT X L M scope cl s₀ H₀ ex pn) elt te)
    (hs:∀ x,foldedSetIterable iter X.env x=pure x:=by intro _;rfl) :
    ∀ (pos':Pos) (pins:List (Addr × Obj)) (s:Shared) (σ:St) (H:Hp) (Q:VK),Inv X pins σ H s→tLC wi L.length g tt te σ H Q →
      (∀ (D C:Addr) (H':Hp) (s':Shared),Inv X pins σ H' s'→(∃ m,s'.heap.Ns C m)→zbR X pins H' C→Q (.ref D) H'→compPost (model X.prog X.w) X.A X.xe use Qf (.ref D) C (.ok .next) s') →
      wpAny (model X.prog X.w) X.A (comprehension (.ListComp elt [⟨tg,iter,ifs,0⟩] scope pos) scope X.env pos' (newList []) false (eval iter X.env) use) Qf X.xe s:=by
  intro pos' pins s σ H Q I h fin
  refine wpAny_comprehension_free (use:=use) rfl hs S.clos S.kind S.names (thn (hi pins s σ H _ I h) fun v s1 h1=>thn h1 fun itv s2 h2=>?_)
  obtain ⟨it,fp,tn,J,H2,e,I2,T,st2,f2,q⟩:=h2
  subst e
  have hD:H2 s2.heap.objs.size=none:=I2.hok.fresh (Nat.le_refl _)
  obtain ⟨W,⟨m0,w0⟩,turn⟩:=q _ hD
  refine wpAny_newObj_type (wpAny_newFunctionEnv S.cell (by intro y hy;simp at hy) (fun h₁ hns₁ hsb₁=>?_) S.kind)
  have I3:Inv X pins σ (upd H2 s2.heap.objs.size (.lst [])) { s2 with heap:=s2.heap.push { cls:=.type "list",data:=.seq ([]:List Value).toArray } }:=by
    refine I2.laid (t':=s2.toks) (fun b u e=>Heap.get?_push_of_some _ e) (Nat.le_refl _) ?_
    exact ⟨Nat.zero_le _,[],0,.nil,Heap.get?_push_size _ rfl⟩
  generalize hs3:({ s2 with heap:=s2.heap.push { cls:=.type "list",data:=.seq ([]:List Value).toArray } }:Shared)=s3 at I3 hns₁ hsb₁ ⊢
  have hobj:∀ b∈fp,b < s2.heap.objs.size:=fun b hb=>by
    obtain ⟨o,ho,_⟩:=T.obj _ _ st2 b hb
    exact Heap.lt_size ho
  have hz3:s3.heap.objs.size=s2.heap.objs.size+1:=by rw [←hs3];exact Heap.size_push ..
  have k23:∀ b o,s2.heap.get? b=some o→s3.heap.get? b=some o:=fun b o e=>by rw [←hs3];exact Heap.get?_push_of_some _ e
  have k34:∀ b o,s3.heap.get? b=some o→h₁.get? b=some o:=fun b o e=>(hsb₁.2 b (Nat.ne_of_lt (Heap.lt_size e))).trans (Heap.get?_push_of_some _ e)
  generalize hH3:upd H2 s2.heap.objs.size (.lst [])=H3 at I3 w0
  have hfp3:∀ b∈fp,H3 b=none:=fun b hb=>by
    rw [←hH3,zr (Nat.ne_of_lt (hobj b hb))]
    exact (f2 b hb).1
  have nfs:∀ b∈fp,b∉frs X.stack:=fun b hb z=>by
    obtain ⟨_,n1,n2,_⟩:=f2 b hb
    rcases List.mem_cons.mp (I3.stkSub b z) with e | e
    · exact n1 e
    · exact n2 e
  let Y:Cx:=zaT X L M scope cl s3 H3 fp (X.pn++pins)
  have OkY:Y.Ok:=by
    refine ⟨I.ok.mod,S.kind,I.ok.glob,I.ok.blt,Nat.le_refl _,fun x y c h1 h2=>I.ok.inj x y c (S.sub x c h1) (S.sub y c h2),fun x hx=>S.has x hx,(fun x c h _=>absurd h Bool.false_ne_true),I.ok.hd,I.ok.frames,.inl rfl,fun b hb=>⟨?_,fun x c e z=>?_⟩,
      fun b o e=>I3.bs b o e,Nat.le_trans I.ok.bsz I3.sz,fun b o e hb=>?_,nfs,I3.stack,I3.stkFree⟩
    · show b≠s3.heap.objs.size
      exact Nat.ne_of_lt (Nat.lt_of_lt_of_le (hobj b hb) (by rw [hz3];exact Nat.le_succ _))
    · exact (f2 b hb).2.2.2.2.1 x c (S.sub x c e) z
    · rcases (f2 b hb).2.2.2.1 with z | z
      · exact I.ok.noex b o e z
      · have h1:=Heap.lt_size e
        have h2:=I.ok.bsz
        exact absurd (Nat.lt_of_lt_of_le h1 (Nat.le_trans h2 z)) (Nat.lt_irrefl _)
  have I4:Inv Y [] (List.replicate L.length none++σ) H3 { s3 with heap:=h₁,toks:=s3.toks+([]:List (Str × Value)).length }:=by
    refine ⟨OkY,rfl,I3.bare,Un.kept k34,⟨_,hns₁,fun i y v e1 e2 e3=>?_⟩,fun x c e=>?_,I3.hok.fresh (Nat.le_refl _),fun x c e=>I3.freeC x c (S.sub x c e),fun p hp=>?_,I3.hok.kept k34,?_⟩
    · have hi:¬ i < L.length:=fun hlt=>by
        rw [List.getElem?_append_left (by simpa using hlt),List.getElem?_replicate] at e2
        split at e2 <;> cases e2
      have e0':M[i - L.length]?=some y:=by
        have e1:(L++M)[i]?=some y:=e1
        rw [List.getElem?_append_right (by omega)] at e1
        exact e1
      have e2':σ[i - L.length]?=some (some v):=by rw [List.getElem?_append_right (by simpa using Nat.le_of_not_lt hi)] at e2;simpa using e2
      have e1':=S.msk _ y e0' e3
      obtain ⟨ov,ok⟩:=S.out _ y e0' e3
      obtain ⟨m,hn,hl⟩:=I3.loc
      obtain ⟨u,ru,lk⟩:=hl _ y v e1' e2' ov
      refine ⟨u,ru,?_⟩
      rcases lk with ⟨hk,_⟩ | ⟨_,c,hc',hcell⟩
      · exact absurd hk ok
      · have kn:=S.vis _ y e0' e3
        obtain ⟨c',hc2⟩:=S.has y kn
        have:=S.sub y c' hc2
        rw [hc'] at this
        cases this
        refine .inr ⟨kn,c,hc2,?_⟩
        obtain ⟨o,ho,hd⟩:=hcell
        exact ⟨o,k34 _ _ ho,hd⟩
    · obtain ⟨v,o,ho,hd⟩:=I3.cell x c (S.sub x c e)
      exact ⟨v,o,k34 _ _ ho,hd⟩
    · have hp':p∈X.pn++pins:=List.append_nil (X.pn++pins) ▸ hp
      obtain ⟨a1,a2,a3,a4,a5⟩:=I3.pin p hp'
      refine ⟨k34 _ _ a1,a2,Nat.ne_of_lt (Heap.lt_size a1),fun z=>?_,a5⟩
      rcases List.mem_cons.mp (I3.stkSub p.1 z) with e | e
      · exact a3 e
      · exact a4 e
    · show (List.replicate L.length none++σ).length=(L++M).length
      rw [List.length_append,List.length_append,List.length_replicate,I.len,S.mlen]
  have fpY:∀ {H':Hp},(∀ b∈fp,H' b=none)→∀ b∈fp,zbR Y [] H' b:=fun {H'} hn b hb=>by
    refine ⟨hn b hb,(OkY.exf b hb).1,nfs b hb,.inl hb,(OkY.exf b hb).2,fun p hp=>?_⟩
    have hp':p∈X.pn++pins:=List.append_nil (X.pn++pins) ▸ hp
    exact (f2 b hb).2.2.2.2.2 p hp'
  have st4:tn 0 h₁:=T.keep _ _ _ st2 fun b hb o e=>k34 b o (k23 b o e)
  -- behind the loop
  have back:∀ (H':Hp) (s':Shared),Inv Y [] (List.replicate L.length none++σ) H' s'→Q (.ref s2.heap.objs.size) H'→compPost (model X.prog X.w) X.A X.xe use Qf (.ref s2.heap.objs.size) s3.heap.objs.size (.ok .next) s':=fun H' s' J' q'=>by
    obtain ⟨m,hn,_⟩:=J'.loc
    refine fin _ _ H' s' (I3.call' (ch:=fp) J'.os J'.base J'.hok J'.bare fun b hb=>?_) ⟨m,hn⟩ (I3.fpOk (Nat.le_refl _) J'.free) q'
    obtain ⟨_,n1,_,n3,n4,n5⟩:=f2 b hb
    exact ⟨n3,n1,n4,n5⟩
  have loop:codeAny (model X.prog X.w) X.A (.compLoop (.ListComp elt [⟨tg,iter,ifs,0⟩] scope pos) 0 (.ref it) (.ref s2.heap.objs.size) (compEnvC scope cl s3.heap.objs.size X.env))
      (compPost (model X.prog X.w) X.A X.xe use Qf (.ref s2.heap.objs.size) s3.heap.objs.size) { s3 with heap:=h₁,toks:=s3.toks+([]:List (Str × Value)).length }:=by
    refine vg (fun n s'=>∃ i ys H',Inv Y [] (List.replicate L.length none++σ) H' s'∧tn i s'.heap∧(∀ b∈fp,H' b=none)∧W i n ys H') ?_ m0 ⟨0,[],H3,I4,st4,hfp3,w0⟩
    rintro n s5 ⟨i,ys,H5,I5,st5,fr5,w5⟩
    rcases turn i n ys H5 w5 with ⟨stop,qn⟩ | ⟨go,hlen,step⟩
    · refine thn (T.done Y rfl rfl rfl hc i [] s5 _ H5 _ I5 (fpY fr5) st5 stop) fun r s6 hh9=>?_
      obtain ⟨hr,I6⟩:=hh9
      subst hr
      exact back H5 s6 I6 qn
    · refine thn (T.item Y rfl rfl rfl hc i [] s5 _ H5 _ I5 (fpY fr5) st5 go) fun r s6 hh9=>?_
      obtain ⟨u,hr,h6⟩:=hh9
      subst hr
      refine thn h6 fun _ s7 hh9=>?_
      obtain ⟨x,H7,I7,r7,y7,st7,fr7⟩:=hh9
      have I7':=I7.pinned (fpY fr7) (T.obj _ _ st7)
      have g7:=hgS σ x H7 _ (step x H7 y7)
      refine thn (hg _ _ _ _ _ s7 _ H7 x u _ I7' r7 g7) fun _ s8 hh9=>?_
      obtain ⟨σ8,H8,I8,sub8,q8⟩:=hh9
      have again:∀ {σ9:St} {H9:Hp} {s9:Shared} {zs:List V},Inv Y ([]++XQ fp s7.heap) σ9 H9 s9→ZO (List.replicate L.length none++σ) σ9→(∃ m',m' < n∧W (i+1) m' zs H9) →
          ∃ m,m < n∧∃ i ys H',Inv Y [] (List.replicate L.length none++σ) H' s9∧tn i s9.heap∧(∀ b∈fp,H' b=none)∧W i m ys H':=fun {σ9 H9 s9 zs} I9 sub9 w9=>by
        obtain ⟨m',hm,w9⟩:=w9
        refine ⟨m',hm,i+1,zs,H9,(I9.sub sub9).unpinned,T.keep _ _ _ st7 fun b hb o e=>(I9.pin (b,o) (List.mem_append_right _ (List.mem_append_right _ (wt hb e)))).1,fun b hb=>?_,w9⟩
        obtain ⟨o,e,d⟩:=T.obj _ _ st7 b hb
        exact (I9.pin (b,o) (List.mem_append_right _ (List.mem_append_right _ (wt hb e)))).2.1
      refine thn (ht _ _ _ _ _ s8 σ8 H8 _ I8 q8) fun b s9 hh9=>?_
      obtain ⟨H9,I9,q9⟩:=hh9
      cases b with
      | false =>
        rw [if_neg Bool.false_ne_true] at q9
        rw [if_neg Bool.false_ne_true]
        exact again I9 sub8 q9
      | true =>
        rw [if_pos rfl] at q9
        rw [if_pos rfl]
        refine thn (he _ _ _ _ _ s9 σ8 H9 _ I9 q9) fun y s10 hh9=>?_
        obtain ⟨yv,H10,I10,r10,hD10,w10⟩:=hh9
        obtain ⟨z10,its,k,rv,e10⟩:ys.length≤sizeLine∧∃ (its:List Value) (n:Nat),yr ys its∧s10.heap.get? s2.heap.objs.size=some { cls:=.type "list",data:=.seq its.toArray n }:=I10.hok _ _ hD10
        have hl10:s10.heap.PlainList s2.heap.objs.size its.toArray:=⟨k,e10⟩
        refine wpAny_list_append_plain (hsz:=by rw [List.size_toArray,← rv.length];exact z10) hl10 fun h11 hl11 sb11=>?_
        obtain ⟨k',e11⟩:=hl11
        have I11:Inv Y ([]++XQ fp s7.heap) σ8 (upd H10 s2.heap.objs.size (.lst (ys++[yv]))) { s10 with heap:=h11 }:=by
          refine I10.write (x:=s2.heap.objs.size) (e:=s2.heap.objs.size) (t':=s10.toks) (by rw [hD10];exact True.intro) (.inl rfl) (fun b u hb e=>(sb11.2 b hb).trans e) ⟨_,e11⟩ ?_
          refine ⟨by rw [List.length_append];show ys.length+1≤sizeLine;exact hlen,its++[y],k',rv.append (.cons r10 .nil),?_⟩
          rw [e11]
          simp
        exact again I11 sub8 w10
  exact codeAny_compStart_list loop (T.self _ 0 _ _ _ st4 loop)
theorem zid {X:Cx}{elt tg iter:Expr}{ifs:List Expr}{L M:List Str}{scope:Scope}{cl:List (Str × Addr)}{pos:Pos}{wi:TI}{g:TG}{tt:TT}{te:TE}
    (hc:X.calm=true) (S:wD X L M scope cl) (hi:PI X tg iter wi)
    (hgS:∀ (σ:St) (v:V) (H:Hp) (Q:St→Hp→Prop),g v (List.replicate L.length none++σ) H Q→g v (List.replicate L.length none++σ) H (fun σ2 H2=>ZO (List.replicate L.length none++σ) σ2∧Q σ2 H2))
    (hg:∀ s₀ H₀ ex pn,PG (zaT X L M scope cl s₀ H₀ ex pn) tg g) (ht:∀ s₀ H₀ ex pn,PIf (zaT X L M scope cl s₀ H₀ ex pn) ifs tt) (he:∀ s₀ H₀ ex pn,PE (zaT X L M scope cl s₀ H₀ ex pn) elt te)
    (hs:∀ x,foldedSetIterable iter X.env x=pure x:=by intro _;rfl) :
    PE X (.ListComp elt [⟨tg,iter,ifs,0⟩] scope pos) (tLC wi L.length g tt te):=by
  intro pins s σ H Q I h
  rw [eval_ListComp]
  refine zeJ hc S hi hgS hg ht he hs _ pins s σ H Q I h fun D C H' s' I' ⟨m,hn⟩ f q=>⟨m,hn,fun h' sb=>⟨.ref D,_,I'.letGo f sb,rfl,q⟩⟩
theorem zkN {i:Nat}{x:Str}{px spos:Pos}{X:Cx}{elt tg iter:Expr}{ifs:List Expr}{L M:List Str}{scope:Scope}{cl:List (Str × Addr)}{pos:Pos}{wi:TI}{g:TG}{tt:TT}{te:TE}
    (hN:X.N.Nodup) (hi':X.N[i]?=some x) (hx:Loc X.env.scope x) (hc:X.calm=true) (S:wD X L M scope cl) (hi:PI X tg iter wi)
    (hgS:∀ (σ:St) (v:V) (H:Hp) (Q:St→Hp→Prop),g v (List.replicate L.length none++σ) H Q→g v (List.replicate L.length none++σ) H (fun σ2 H2=>ZO (List.replicate L.length none++σ) σ2∧Q σ2 H2))
    (hg:∀ s₀ H₀ ex pn,PG (zaT X L M scope cl s₀ H₀ ex pn) tg g) (ht:∀ s₀ H₀ ex pn,PIf (zaT X L M scope cl s₀ H₀ ex pn) ifs tt) (he:∀ s₀ H₀ ex pn,PE (zaT X L M scope cl s₀ H₀ ex pn) elt te)
    (hs:∀ x,foldedSetIterable iter X.env x=pure x:=by intro _;rfl)
    (hsw:swapsWith (.ListComp elt [⟨tg,iter,ifs,0⟩] scope pos) (some (.Name x px)) spos.line X.env=pure true:=by rfl)
    (hf:X.fn x=true∨X.env.scope.names.lookup x=some .local:=by first | exact .inl rfl | exact .inr rfl | assumption) :
    PS X (.Assign [.Name x px] (.ListComp elt [⟨tg,iter,ifs,0⟩] scope pos) spos) (zi8 (tLC wi L.length g tt te) (Y7 i)):=by
  intro pins s σ H D I h
  rw [exec_Assign_Name_used _ _ _ _ hsw]
  refine wpAny_bind (wpAny_standAt (wpAny_bind ?_))
  show wpAny _ X.A (do let _←comprehension (.ListComp elt [⟨tg,iter,ifs,0⟩] scope pos) scope X.env _ (newList []) false (eval iter X.env) (some (assign (.Name x px) X.env))) _ _ s
  refine wpAny_bind (thn (zeJ (use:=some (assign (.Name x px) X.env)) (Qf:=fun _ s'=>SP X pins D .next s') hc S hi hgS hg ht he hs _ pins s σ H _ I h fun D' C H' s' I' ⟨m,hn⟩ f q=>?_) fun _ s' hq=>wpAny_pure (wpAny_pure hq))
  have hob:∀ b∈[C],∃ o,s'.heap.get? b=some o∧∀ v,o.data≠.cell v:=fun b hb=>by
    rw [List.mem_singleton.mp hb]
    obtain ⟨o,es,ep,e,d,_⟩:=hn
    exact ⟨o,e,fun v z=>by rw [z] at d;cases d⟩
  have I2:=I'.pinned (fp:=[C]) (fun b hb=>by rw [List.mem_singleton.mp hb];exact f) hob
  refine thn (zw (pos:=px) hN hi' hx hf _ s' σ H' (.ref D') (.ref D') _ I2 rfl q) fun _ s2 hh9=>?_
  obtain ⟨σ2,H2,I3,q3⟩:=hh9
  obtain ⟨o,es,ep,e,d⟩:=hn
  have pn:=I3.pin (C,o) (List.mem_append_right _ (List.mem_append_right _ (wt (List.mem_singleton.mpr rfl) e)))
  exact ⟨m,⟨o,es,ep,pn.1,d⟩,fun h' sb=>⟨σ2,H2,I3.unpinned.letGo ⟨pn.2.1,f.2⟩ sb,q3⟩⟩
def VT (names rn dn:List (Str × NameKind))(N M cn:List Str):Bool :=
  names.all (fun y=>decide (y.2≠.cell))&&names.all (fun y=>decide (y.2=.local→names.lookup y.1=some .local)) &&
  rn.all (fun y=>decide ((y.2=.cell∨y.2=.free)→y.1∈cn)) &&
  (M.length == N.length)&&(M.zip N).all (fun p=>decide ((rn.lookup p.1=some .local∨rn.lookup p.1=some .cell∨rn.lookup p.1=some .free)→p.1=p.2)) &&
  M.all (fun y=>decide ((rn.lookup y=some .local∨rn.lookup y=some .cell∨rn.lookup y=some .free) →
    (rn.lookup y=some .cell∨rn.lookup y=some .free)∧(dn.lookup y=some .local∨dn.lookup y=some .cell∨dn.lookup y=some .free)∧dn.lookup y≠some .local))
theorem vm {X:Cx}{L N M cn:List Str}{scope:Scope}{cl:List (Str × Addr)}{rn dn:List (Str × NameKind)}(hr:(relabel scope X.env).names=rn)(hd:X.env.scope.names=dn)(hN:X.N=N)
    (clos:closureFor scope X.env=pure cl) (kind:scope.kind=.function) (hc:cl.map Prod.fst=cn) (good:VT scope.names rn dn N M cn=true) (sub:∀ p∈cl,X.env.cells.lookup p.1=some p.2):wD X L M scope cl:=by
  unfold VT at good
  simp only [Bool.and_eq_true,List.all_eq_true,decide_eq_true_eq] at good
  obtain ⟨⟨⟨⟨⟨g1,g2⟩,g3⟩,g5⟩,g6⟩,g4⟩:=good
  have g5:M.length=N.length:=by simpa using g5
  refine ⟨clos,g1,kind,g2,fun y c h=>sub (y,c) (PySem.mem_of_lookup h),fun y h=>?_,by rw [hN];exact g5,fun i y e v=>?_,fun i y e v=>?_,fun i y e v=>?_⟩
  · rw [hr] at h
    have hy:y∈cn:=by
      rcases h with h | h
      · exact g3 _ (PySem.mem_of_lookup h) (.inl rfl)
      · exact g3 _ (PySem.mem_of_lookup h) (.inr rfl)
    exact v6 (by rw [hc];exact hy)
  · unfold Vis at v
    rw [hr] at v
    have hi:=(List.getElem?_eq_some_iff.mp e).1
    have hj:i < N.length:=by rw [←g5];exact hi
    have hz:(M.zip N)[i]?=some (y,N[i]):=by
      rw [List.getElem?_zip_eq_some]
      exact ⟨e,List.getElem?_eq_getElem hj⟩
    have:=g6 _ (List.mem_of_getElem? hz) v
    rw [hN,List.getElem?_eq_getElem hj]
    exact congrArg some this.symm
  · unfold Vis at v
    rw [hr] at v ⊢
    exact (g4 y (List.mem_of_getElem? e) v).1
  · unfold Vis at v
    rw [hr] at v
    obtain ⟨_,k1,k2⟩:=g4 y (List.mem_of_getElem? e) v
    refine ⟨?_,?_⟩
    · unfold Vis;rw [hd];exact k1
    · show X.env.scope.names.lookup y≠_;rw [hd];exact k2
end L2
namespace PySem
open Sem (wp)
open AutoSeq1 (wpAny_loadPart')
section
variable {prog:Program}{w:World}{A:Around}{E:Value→Shared→Prop}{s:Shared}
theorem YX {it l:Addr}{i:Nat}{items}{x:Value}{Q:Value→Shared→Prop}(hit:s.heap.IsTupleIter it l i)
    (hl:s.heap.IsTuple l items) (hx:items[i]?=some x)
    (hQ:∀ h',h'.IsTupleIter it l (i+1)→Heap.SameBut it s.heap h'→Q x { s with heap:=h' }) :
    wpAny (model prog w) A (Builtin.SmallTypes.nextOf (.ref it)) Q E s:=by
  obtain ⟨o,ho,hc,hd⟩:=id hit
  obtain ⟨ol,hol,_,nl,hdl⟩:=hl
  unfold Builtin.SmallTypes.nextOf
  refine wpAny_bind (wpAny_callSpecial?_slot (name:=Str.ofString "__next__") hit.typeIs F.slot_tuple_iterator_next
    (wpAny_call_entry F.slot_tuple_iterator_next hit.typeIs F.entry_tuple_iterator_next ?_ (F.args_tuple_iterator_next_1 _)))
  show wpAny _ _ (field (.ref it) 0>>=_) _ _ s
  refine wpAny_bind (wpAny_field ho hd (x:=.ref l) rfl ?_)
  show wpAny _ _ (if (Value.ref l == Value.none)=true then _ else _) _ _ s
  rw [if_neg (show ¬ ((Value.ref l == Value.none)=true) from Bool.false_ne_true)]
  show wpAny _ _ (field (.ref it) 1>>=_) _ _ s
  refine wpAny_bind (wpAny_field ho hd (x:=.int i 0) rfl ?_)
  show wpAny _ _ (seqItems? (.ref l)>>=_) _ _ s
  refine wpAny_bind (wpAny_seqItems hol hdl ?_)
  simp only [Int.toNat_natCast,hx]
  refine wpAny_bind (wpAny_setField ho hd (by simp) (wpAny_pure ⟨x,rfl,wpAny_pure (hQ _ ?_ (Heap.SameBut.update ..))⟩))
  exact ⟨_,Heap.get?_update_self _ ho (Obj.isFreed_of_fields (Obj.data_mapFields hd _)),(Obj.cls_mapFields ..).trans hc,by
    rw [Obj.data_mapFields hd];simp [rawInt]⟩
theorem vh {it l:Addr}{i:Nat}{items}{Q:Value→Shared→Prop}(hh:A.handled=none)
    (hit:s.heap.IsTupleIter it l i) (hl:s.heap.IsTuple l items) (hx:items[i]?=none)
    (hE:∀ h' e,Heap.ExtBut it s.heap h'→(∃ o,h'.get? e=some o∧o.cls=.type "StopIteration")→E (.ref e) { s with heap:=h' }) :
    wpAny (model prog w) A (Builtin.SmallTypes.nextOf (.ref it)) Q E s:=by
  obtain ⟨o,ho,hc,hd⟩:=id hit
  obtain ⟨ol,hol,_,nl,hdl⟩:=hl
  unfold Builtin.SmallTypes.nextOf
  refine wpAny_bind (wpAny_callSpecial?_slot (name:=Str.ofString "__next__") hit.typeIs F.slot_tuple_iterator_next
    (wpAny_call_entry F.slot_tuple_iterator_next hit.typeIs F.entry_tuple_iterator_next ?_ (F.args_tuple_iterator_next_1 _)))
  show wpAny _ _ (field (.ref it) 0>>=_) _ _ s
  refine wpAny_bind (wpAny_field ho hd (x:=.ref l) rfl ?_)
  show wpAny _ _ (if (Value.ref l == Value.none)=true then _ else _) _ _ s
  rw [if_neg (show ¬ ((Value.ref l == Value.none)=true) from Bool.false_ne_true)]
  show wpAny _ _ (field (.ref it) 1>>=_) _ _ s
  refine wpAny_bind (wpAny_field ho hd (x:=.int i 0) rfl ?_)
  show wpAny _ _ (seqItems? (.ref l)>>=_) _ _ s
  refine wpAny_bind (wpAny_seqItems hol hdl ?_)
  simp only [Int.toNat_natCast,hx]
  refine wpAny_bind (wpAny_rule (wpAny_bind (wpAny_setField ho hd (by simp) ?_)))
  show wpAny _ _ (newExc (.type "StopIteration") []>>=_) _ _ _
  refine wpAny_bind ?_
  simp only [newExc,newTuple]
  refine wpAny_bind (wpAny_newObj_type ?_ (by size_fits))
  refine wpAny_bind (m:=firstArgMember _ _) (wpAny_of_eq (a:=Value.none) (by first | rfl | (simp only [firstArgMember];rfl)) ?_)
  refine wpAny_newObj_type ?_ (by size_fits)
  simp only [raiseNew]
  refine wpAny_bind (wpAny_handled ?_)
  first | rw [show A.in1.handled=none from hh] | rw [hh]
  refine wpAny_bind (wpAny_pure (wpAny_throw ?_))
  exact hE _ _ (((Heap.SameBut.update ..).extBut.push _).push _) ⟨_,Heap.get?_push_size _ rfl,rfl⟩
end
theorem Zm {prog:Program}{w:World}{A:Around}{E:Value→Shared→Prop}{s:Shared}{e it l:Addr}{i:Nat}{items:Array Value}{old:Value}{Q:Option Value→Shared→Prop}(hh:A.handled=none)
    (he:IsEnum s.heap e it i old) (hit:s.heap.IsTupleIter it l i) (hl:s.heap.IsTuple l items) (hx:items[i]?=none)
    (hQ:∀ h',Heap.ExtBut it s.heap h'→Q none { s with heap:=h' }):wpAny (model prog w) A (pyNext (.ref e)) Q E s:=by
  have hT:s.TypeIs (.ref e) "enumerate":=⟨_,he,rfl⟩
  unfold pyNext
  refine wpAny_bind (wpAny_attempt (wpAny_callSpecial?_slot (name:=Str.ofString "__next__") hT F.slot_enumerate_next
    (wpAny_call_entry F.slot_enumerate_next hT F.entry_enumerate_next ?_ (F.args_enumerate_next_1 _))))
  show wpAny _ _ (field (.ref e) 2>>=_) _ _ _
  refine wpAny_bind (wpAny_field he rfl (x:=.ref it) rfl ?_)
  refine wpAny_bind (vh hh hit hl hx fun h' x he' hx'=>?_)
  obtain ⟨o,ho,hc⟩:=hx'
  refine wpAny_bind (wpAny_isInstance (T:="StopIteration") (b:=true) ⟨o,ho,hc⟩ isSubtype_stop ?_)
  exact wpAny_pure (hQ _ he')
theorem YV {prog:Program}{w:World}{A:Around}(hh:A.handled=none)(it l:Addr)(hne:l≠it)(items:Array Value) :
    Draws prog w A it [it,l] items.size (fun i v=>items[i]?=some v) (fun i h=>h.IsTupleIter it l i∧h.IsTuple l items) where
  live:=fun _ _ st=>let ⟨o,ho,_⟩:=st.1;⟨o,ho⟩
  frame:=fun _ _ _ st hk=>by
    obtain ⟨⟨o,ho,r⟩,⟨o2,ho2,r2⟩⟩:=st
    exact ⟨⟨o,hk it (by simp) o ho,r⟩,⟨o2,hk l (by simp) o2 ho2,r2⟩⟩
  item:=fun i s Q E hi st hQ=>by
    refine YX st.1 st.2 (x:=items[i]) (by simp [hi]) fun h' hit' hs'=>?_
    exact hQ _ h' s.toks (by simp [hi]) ⟨hit',st.2.extBut hs'.extBut hne⟩ hs'
  done:=fun s Q E st hE=>vh hh st.1 st.2 (by simp) hE
theorem Z6 (l:Addr)(items:Array Value)(n:Nat)(dd:Option Addr)(sl:Array (Option Value)) :
    Meets (Builtin.«enumerate.__new__» ⟨[.type "enumerate",.ref l],[]⟩) (fun _ R s=>s.heap.get? l=some { cls:=.type "tuple",dict:=dd,data:=.seq items n,slots:=sl } ∧
      R (.ok (.ret (.ref (s.heap.push { cls:=.type "tuple_iterator",data:=.fields #[.ref l,.int 0 0] }).objs.size)))
        { s with heap:=(s.heap.push { cls:=.type "tuple_iterator",data:=.fields #[.ref l,.int 0 0] }).push { cls:=.type "enumerate",data:=.fields #[.none,.bool false,.ref s.heap.objs.size,rawInt 0,.none,.none] } }) :=
  .of_wp fun prog w A R s h=>by
    obtain ⟨hp,g,d,tk,os⟩:=s;obtain ⟨hl,h⟩:=h
    have hsub:=sub_enumerate
    have hL:Heap.IsTuple (Shared.heap ⟨hp,g,d,tk,os⟩) l items:=⟨_,hl,rfl,n,rfl⟩
    wp_walk using wpAny_loadPart' hl
    refine wpAny_stack_any fun st=>wpAny_pure ?_
    split
    · rename_i c _ _ _ _ _
      cases (c == Value.type "enumerate")
      · wp_walk using wpAny_loadPart' hl,wpAny_pyIter_tuple hL
        exact ⟨_,rfl,h⟩
      · wp_walk using wpAny_loadPart' hl,wpAny_pyIter_tuple hL
        exact ⟨_,rfl,h⟩
    · wp_walk using wpAny_loadPart' hl,wpAny_pyIter_tuple hL
      exact ⟨_,rfl,h⟩
section
variable {prog:Program}{w:World}{A:Around}{E:Value→Shared→Prop}{s:Shared}
theorem Zp {l:Addr}{items:Array Value}{Q:Value→Shared→Prop}
    (hl:s.heap.IsTuple l items)
    (h:∀ h',IsEnum h' (s.heap.objs.size+1) s.heap.objs.size 0 .none→h'.IsTupleIter s.heap.objs.size l 0→h'.objs.size=s.heap.objs.size+2 →
      (∀ b o,s.heap.get? b=some o→h'.get? b=some o)→Q (.ref (s.heap.objs.size+1)) { s with heap:=h' }) :
    wpAny (model prog w) A (call (.type "enumerate") [.ref l]) Q E s:=by
  obtain ⟨⟨cls,dd,data,sl⟩,ho,hc,n,hd⟩:=hl
  simp only at hc hd
  subst hc hd
  refine callType_new F.called_enumerate (by decide) (F.typeCall_enumerate_1 _) (F.newCall_enumerate_1 _) (fun obj=>F.args_object_init_2 obj _) F.entry_enumerate_new
    (Z6 l items n dd sl) ⟨ho,?_⟩
  have hz:(s.heap.push { cls:=.type "tuple_iterator",data:=.fields #[.ref l,.int 0 0] }).objs.size=s.heap.objs.size+1:=Heap.size_push ..
  show _∧_
  rw [hz]
  have he:IsEnum ((s.heap.push { cls:=.type "tuple_iterator",data:=.fields #[.ref l,.int 0 0] }).push
      { cls:=.type "enumerate",data:=.fields #[.none,.bool false,.ref s.heap.objs.size,rawInt 0,.none,.none] }) (s.heap.objs.size+1) s.heap.objs.size 0 .none:=by
    have:=Heap.get?_push_size (s.heap.push { cls:=.type "tuple_iterator",data:=.fields #[.ref l,.int 0 0] })
      (o:={ cls:=.type "enumerate",data:=.fields #[.none,.bool false,.ref s.heap.objs.size,rawInt 0,.none,.none] }) rfl
    rw [hz] at this;exact this
  refine ⟨⟨_,he,rfl⟩,h _ he ⟨_,Heap.get?_push_of_some _ (Heap.get?_push_size _ rfl),rfl,rfl⟩ (by rw [Heap.size_push,hz]) fun b o x=>Heap.get?_push_of_some _ (Heap.get?_push_of_some _ x)⟩
end
end PySem
namespace L2
open PySem PySem.Spec PyProof.Rows
section
variable {X:Cx}{pins:List (Addr × Obj)}{σ:St}{H:Hp}{s:Shared}{h':Heap}
theorem Inv.grown {ch:List Addr}{T:Addr}{o:HO}{t':Nat}(I:Inv X pins σ H s)(hch:∀ b∈ch,zbR X pins H b)(hT:s.heap.objs.size≤T)(k:∀ b u,b∉ch→s.heap.get? b=some u→h'.get? b=some u)
    (new:wu X.prog X.w (upd H T o) h' T o):Inv X pins σ (upd H T o) { s with heap:=h',toks:=t' }:=by
  have hn:H T=none:=I.hok.fresh hT
  have neT:∀ b u,s.heap.get? b=some u→b≠T:=fun b u e=>Nat.ne_of_lt (Nat.lt_of_lt_of_le (Heap.lt_size e) hT)
  have nch:∀ b u,H b=some u→b∉ch:=fun b u e z=>by rw [(hch b z).1] at e;cases e
  refine I.step (g':=s.gens) (d':=s.drawn) (ch:=ch) (fun b hb=>?_) (fun b u _ _ hc e _=>k b u hc e) (fun b u _ _ hc e _=>⟨u.slots,k b u hc e⟩) (fun b u _ e n=>by rw [zr (neT b u e)];exact n)
    (fun b u hc e=>⟨u,k b u hc e⟩) (fun b xs e=>by rw [zr (zn e hn)];exact e) (fun b u xs e=>by rw [zr (zn e hn)];exact e) (fun b ps e=>⟨#[],by rw [zr (zn e hn),e];simp⟩) (fun m hm=>?_) (fun b u e=>?_) I.bare
  · obtain ⟨_,n1,_,n3,n4,n5⟩:=hch b hb
    exact ⟨n3,n1,n4,n5⟩
  · obtain ⟨ob,es,ep,ho,r⟩:=hm
    exact ⟨ob,es,ep,k _ ob (fun z=>(hch _ z).2.1 rfl) ho,r⟩
  · by_cases hb:b=T
    · subst hb;rw [zu] at e;cases e;exact new
    · rw [zr hb] at e
      refine (I.hok b u e).stay (fun c v hc q=>k c v ?_ q) (fun c q=>by rw [zr (zn q hn)];exact q) fun c xs q=>by rw [zr (zn q hn)];exact q
      rcases hc with z | z
      · rw [z];exact nch b u e
      · exact nch c _ z
theorem Inv.turnedN {ch:List Addr}{t':Nat}(I:Inv X pins σ H s)(hch:∀ b∈ch,zbR X pins H b)(k:∀ b u,b∉ch→s.heap.get? b=some u→h'.get? b=some u):Inv X pins σ H { s with heap:=h',toks:=t' }:=by
  have nch:∀ b u,H b=some u→b∉ch:=fun b u e z=>by rw [(hch b z).1] at e;cases e
  refine I.step (g':=s.gens) (d':=s.drawn) (ch:=ch) (fun b hb=>?_) (fun b u _ _ hc e _=>k b u hc e) (fun b u _ _ hc e _=>⟨u.slots,k b u hc e⟩) (fun b u _ e n=>n)
    (fun b u hc e=>⟨u,k b u hc e⟩) (fun b xs e=>e) (fun b u xs e=>e) (fun b ps e=>⟨#[],by rw [e];simp⟩) (fun m hm=>?_) (fun b u e=>?_) I.bare
  · obtain ⟨_,n1,_,n3,n4,n5⟩:=hch b hb
    exact ⟨n3,n1,n4,n5⟩
  · obtain ⟨ob,es,ep,ho,r⟩:=hm
    exact ⟨ob,es,ep,k _ ob (fun z=>(hch _ z).2.1 rfl) ho,r⟩
  · refine (I.hok b u e).stay (fun c v hc q=>k c v ?_ q) (fun c q=>q) fun c xs q=>q
    rcases hc with z | z
    · rw [z];exact nch b u e
    · exact nch c _ z
end
def Iel (K:PySem.W.Frag)(a:Addr):It :=
  ⟨fun i H=>∃ xs x,SqL K H a xs∧xs[i]?=some x,fun i H v H'=>∃ T x,v=.ref T∧H T=none∧H'=upd H T (.tup [.int i,x])∧∀ xs,SqL K H a xs→xs[i]?=some x,fun i H=>∃ xs,SqL K H a xs∧xs.length≤i⟩
def Iet (K:PySem.W.Frag)(a:Addr):It :=
  ⟨fun i H=>∃ xs x,SqT K H a xs∧xs[i]?=some x,fun i H v H'=>∃ T x,v=.ref T∧H T=none∧H'=upd H T (.tup [.int i,x])∧∀ xs,SqT K H a xs→xs[i]?=some x,fun i H=>∃ xs,SqT K H a xs∧xs.length≤i⟩
theorem zdI {P:Program}{w:World}{K:PySem.W.Frag}{es:List Expr}{k:Nat}{tp:Pos}(a e it:Addr)(hne:e≠it) :
    ziR P w K (.Tuple es k tp) (Iel K a) [e,it] e (fun i h=>(∃ old,IsEnum h e it i old)∧h.IsListIter it a i) where
  mem:=by simp
  obj:=fun i h st b hb=>by
    obtain ⟨⟨old,he⟩,o,ho,_,hd⟩:=st
    rcases List.mem_cons.mp hb with rfl | hb
    · exact ⟨_,he,fun v z=>by cases z⟩
    · rw [List.mem_singleton.mp hb]
      exact ⟨o,ho,fun v z=>by rw [hd] at z;cases z⟩
  keep:=fun i h h' st kk=>by
    obtain ⟨⟨old,he⟩,hit⟩:=st
    exact ⟨⟨old,kk e (by simp) _ he⟩,hit.at fun o q=>kk it (by simp) o q⟩
  item:=by
    intro X hP hw hK hc i pins s σ H E I hf st hg
    subst hP hw hK
    obtain ⟨⟨old,he⟩,hit⟩:=st
    obtain ⟨xs,x,hq,hx⟩:=hg
    obtain ⟨its,rv,p,hz⟩:=I.list hq
    obtain ⟨u,hu,ru⟩:=rv.get hx
    refine wpAny_pyNext_enum_item he hit p.isList (x:=u) (by simpa using hu) hne fun h1 ho1 hit1 hT1 hz1 hk1=>?_
    refine ⟨_,rfl,wpAny_letOwnedTupleGo_enum ho1 fun h2 he2 hs2=>?_⟩
    have hfr:H s.heap.objs.size=none:=I.hok.fresh (Nat.le_refl _)
    have neE:s.heap.objs.size≠e:=Nat.ne_of_gt (Heap.lt_size he)
    have hT2:h2.get? s.heap.objs.size=some { cls:=.type "tuple",data:=.seq #[.int i s.toks,u] }:=(hs2.2 _ neE).trans hT1
    refine ⟨.ref s.heap.objs.size,upd H s.heap.objs.size (.tup [.int i,x]),?_,rfl,⟨_,x,rfl,hfr,rfl,fun ys hy=>by rw [I.list_inj hy hq];exact hx⟩,⟨⟨_,by simpa using he2⟩,hit1.at fun o q=>(hs2.2 it (Ne.symm hne)).trans q⟩,fun b hb=>?_⟩
    · refine I.grown (ch:=[e,it]) hf (Nat.le_refl _) (fun b v hb q=>?_) ?_
      · have n1:b≠e:=fun z=>hb (by simp [z])
        have n2:b≠it:=fun z=>hb (by simp [z])
        exact (hs2.2 b n1).trans (hk1 b v n1 n2 q)
      · exact ⟨by show 2≤sizeLine;decide,[.int i s.toks,u],.cons ⟨_,rfl⟩ (.cons ru .nil),⟨_,hT2,rfl,0,rfl⟩⟩
    · obtain ⟨o,hb2,_⟩:∃ o,s.heap.get? b=some o∧True:=by
        rcases List.mem_cons.mp hb with rfl | hb
        · exact ⟨_,he,trivial⟩
        · rw [List.mem_singleton.mp hb]
          obtain ⟨o,ho,_⟩:=hit
          exact ⟨o,ho,trivial⟩
      rw [zr (Nat.ne_of_lt (Heap.lt_size hb2))]
      exact (hf b hb).1
  done:=by
    intro X hP hw hK hc i pins s σ H E I hf st hg
    subst hP hw hK
    obtain ⟨⟨old,he⟩,hit⟩:=st
    obtain ⟨xs,hq,hx⟩:=hg
    obtain ⟨its,rv,p,hz⟩:=I.list hq
    have hl:=rv.length
    exact wpAny_pyNext_enum_end (I.ok.hd hc) he hit p.isList (by simp;omega) fun h1 hx1=>⟨rfl,I.turnedN (ch:=[e,it]) (t':=s.toks) hf fun b v hb q=>hx1 b v (fun z=>hb (by simp [z])) q⟩
  self:=fun _ _ _ _ _ st h=>wpAny_pyIter_enum st.1.choose_spec h
theorem zdY {P:Program}{w:World}{K:PySem.W.Frag}{es:List Expr}{k:Nat}{tp:Pos}(a e it:Addr)(hne:e≠it)(hai:a≠it)(hae:a≠e) :
    ziR P w K (.Tuple es k tp) (Iet K a) [e,it] e (fun i h=>(∃ old,IsEnum h e it i old)∧h.IsTupleIter it a i) where
  mem:=by simp
  obj:=fun i h st b hb=>by
    obtain ⟨⟨old,he⟩,o,ho,_,hd⟩:=st
    rcases List.mem_cons.mp hb with rfl | hb
    · exact ⟨_,he,fun v z=>by cases z⟩
    · rw [List.mem_singleton.mp hb]
      exact ⟨o,ho,fun v z=>by rw [hd] at z;cases z⟩
  keep:=fun i h h' st kk=>by
    obtain ⟨⟨old,he⟩,o,ho,r⟩:=st
    exact ⟨⟨old,kk e (by simp) _ he⟩,o,kk it (by simp) o ho,r⟩
  item:=by
    intro X hP hw hK hc i pins s σ H E I hf st hg
    subst hP hw hK
    obtain ⟨⟨old,he⟩,hit⟩:=st
    obtain ⟨xs,x,hq,hx⟩:=hg
    obtain ⟨its,rv,p,hz⟩:=I.tuple hq
    obtain ⟨u,hu,ru⟩:=rv.get hx
    have p':s.heap.IsTuple a its.toArray:=p
    have D:=YV (prog:=X.prog) (w:=X.w) (A:=X.A.in1) (I.ok.hd hc) it a hai its.toArray
    have hlt:i < its.toArray.size:=by
      obtain ⟨h1,_⟩:=List.getElem?_eq_some_iff.mp hu
      simpa using h1
    refine wpAny_pyNext_enum_itemD D he ⟨hit,p'⟩ hlt hne (by simp [hne,Ne.symm hae]) fun u' h1 tk hP1 ho1 hit1 hT1 hz1 hk1=>?_
    have eu:u'=u:=by
      have:its[i]?=some u':=by simpa using hP1
      rw [hu] at this
      exact (Option.some.inj this).symm
    subst eu
    refine ⟨_,rfl,wpAny_letOwnedTupleGo_enum ho1 fun h2 he2 hs2=>?_⟩
    have hfr:H s.heap.objs.size=none:=I.hok.fresh (Nat.le_refl _)
    have neE:s.heap.objs.size≠e:=Nat.ne_of_gt (Heap.lt_size he)
    have hT2:h2.get? s.heap.objs.size=some { cls:=.type "tuple",data:=.seq #[.int i tk,u'] }:=(hs2.2 _ neE).trans hT1
    refine ⟨.ref s.heap.objs.size,upd H s.heap.objs.size (.tup [.int i,x]),?_,rfl,⟨_,x,rfl,hfr,rfl,fun ys hy=>by rw [I.tuple_inj hy hq];exact hx⟩,⟨⟨_,by simpa using he2⟩,?_⟩,fun b hb=>?_⟩
    · refine I.grown (ch:=[e,it]) hf (Nat.le_refl _) (fun b v hb q=>?_) ?_
      · have n1:b≠e:=fun z=>hb (by simp [z])
        have n2:b≠it:=fun z=>hb (by simp [z])
        exact (hs2.2 b n1).trans (hk1 b v n1 n2 q)
      · exact ⟨by show 2≤sizeLine;decide,[.int i tk,u'],.cons ⟨_,rfl⟩ (.cons ru .nil),⟨_,hT2,rfl,0,rfl⟩⟩
    · obtain ⟨o,ho,r⟩:=hit1.1
      exact ⟨o,(hs2.2 it (Ne.symm hne)).trans ho,r⟩
    · obtain ⟨o,hb2,_⟩:∃ o,s.heap.get? b=some o∧True:=by
        rcases List.mem_cons.mp hb with rfl | hb
        · exact ⟨_,he,trivial⟩
        · rw [List.mem_singleton.mp hb]
          obtain ⟨o,ho,_⟩:=hit
          exact ⟨o,ho,trivial⟩
      rw [zr (Nat.ne_of_lt (Heap.lt_size hb2))]
      exact (hf b hb).1
  done:=by
    intro X hP hw hK hc i pins s σ H E I hf st hg
    subst hP hw hK
    obtain ⟨⟨old,he⟩,hit⟩:=st
    obtain ⟨xs,hq,hx⟩:=hg
    obtain ⟨its,rv,p,hz⟩:=I.tuple hq
    have hl:=rv.length
    have p':s.heap.IsTuple a its.toArray:=p
    exact Zm (I.ok.hd hc) he hit p' (by simp;omega) fun h1 hx1=>⟨rfl,I.turnedN (ch:=[e,it]) (t':=s.toks) hf fun b v hb q=>hx1 b v (fun z=>hb (by simp [z])) q⟩
  self:=fun _ _ _ _ _ st h=>wpAny_pyIter_enum st.1.choose_spec h
def zmg (K:PySem.W.Frag)(ta:TA):TI:=fun σ H R=>ta σ H fun vs H1=>∃ a,vs=[.ref a]∧((∃ xs,H1 a=some (.lst xs)∧R (Iel K a) H1)∨(∃ xs,SqT K H1 a xs∧R (Iet K a) H1))
theorem zjB {X:Cx} {es:List Expr} {k:Nat} {tp:Pos} {a:Expr} {ta:TA} {p pos:Pos} (hg:Gl X "enumerate") (hm:X.mg "enumerate"=none) (hb:bootBuiltins "enumerate"=some (.type "enumerate")) (ha:PA X [a] ta)
    (hs:starEach [a] X.env=[(false,eval a X.env)]:=by rfl):PI X (.Tuple es k tp) (.Call (.Name "enumerate" p) [a] [] pos) (zmg X.K ta):=by
  intro pins s σ H R I h
  refine Call_ (Z2 I hg hm hb (PyProof.Rows.callWith_type1 (thn (ha pos pins s σ H _ I h) fun us s1 hh9=>?_) hs rfl))
  obtain ⟨vs,H1,I1,r1,q1⟩:=hh9
  obtain ⟨l,e,q⟩:=q1
  subst e
  obtain ⟨u,rfl,ru⟩:=Vu r1
  cases ru
  have hn:∀ b,s1.heap.objs.size≤b→zbR X pins H1 b:=fun b hb=>I1.fpOk hb (I1.hok.fresh hb)
  have hne:s1.heap.objs.size+1≠s1.heap.objs.size:=by omega
  have hfp:∀ b∈[s1.heap.objs.size+1,s1.heap.objs.size],zbR X pins H1 b:=fun b hb=>by
    rcases List.mem_cons.mp hb with rfl | hb
    · exact hn _ (Nat.le_succ _)
    · rw [List.mem_singleton.mp hb];exact hn _ (Nat.le_refl _)
  rcases q with ⟨xs,hx,q⟩ | ⟨xs,hx,q⟩
  · obtain ⟨_,its,n,_,e⟩:xs.length≤sizeLine∧∃ (its:List Value) (n:Nat),yr xs its∧s1.heap.get? l=some { cls:=.type "list",data:=.seq its.toArray n }:=I1.hok _ _ hx
    refine call_enumerate_1 e fun h2 he hit hz hk=>wpAny_pyIter_enum he ?_
    exact ⟨_,_,_,_,H1,rfl,I1.kept (t':=s1.toks) hk,zdI l _ _ hne,⟨⟨_,he⟩,hit⟩,hfp,q⟩
  · obtain ⟨its,_,p1,_⟩:=I1.tuple hx
    have lt:l < s1.heap.objs.size:=by
      obtain ⟨o,ho,_⟩:=p1
      exact Heap.lt_size ho
    refine Zp (show s1.heap.IsTuple l its.toArray from p1) fun h2 he hit hz hk=>wpAny_pyIter_enum he ?_
    exact ⟨_,_,_,_,H1,rfl,I1.kept (t':=s1.toks) hk,zdY l _ _ hne (Nat.ne_of_lt lt) (Nat.ne_of_lt (Nat.lt_succ_of_lt lt)),⟨⟨_,he⟩,hit⟩,hfp,q⟩
end L2
namespace HT
open PySem PyProof.Rows
def lexLe:List Int→List Int→Bool
  | [],_=>true
  | _::_,[]=>false
  | x::xs,y::ys=>if x=y then lexLe xs ys else decide (x≤y)
theorem zdx (x y:Int)(xs ys:List Int):lexLe (x::xs) (y::ys)=if x=y then lexLe xs ys else decide (x≤y):=rfl
theorem zhl (A:Around)(s:Shared)(a:Int)(t:Tok)(c:Int)(u:Tok)(prog:Program)(w:World)(E:Value→Shared→Prop)(Q:Value→Shared→Prop)(h:Q (.bool (decide (a≤c))) s) :
    wpAny (model prog w) A (richCompare .LtE (.int a t) (.int c u)) Q E s :=
  (PyProof.Rows.le_int h:wpAny (model prog w) A (compareOp .LtE (.int a t) (.int c u)) Q E s)
section
open PySem.SeqAt
open PySem.AutoSeq1 (wpAny_loadPart')
open PySem.MeetsSeq PySem.MeetsSeq2 PySem.MeetsSeq3
theorem zaa (l b:Addr)(items items2:Array Value)(n n2:Nat)(dd dd2:Option Addr)(sl sl2:Array (Option Value))(ns ms:List Int)(hi:IntsAre items.toList ns)(hj:IntsAre items2.toList ms) :
    Meets (Builtin.«tuple.__le__» ⟨[.ref l,.ref b],[]⟩)
      (fun _ R s=>s.heap.get? l=some { cls:=.type "tuple",dict:=dd,data:=.seq items n,slots:=sl }∧s.heap.get? b=some { cls:=.type "tuple",dict:=dd2,data:=.seq items2 n2,slots:=sl2 } ∧
        R (.ok (.ret (.bool (lexLe ns ms)))) s) :=
  .of_wp fun prog w A R s h=>by
    obtain ⟨hp,g,d,tk,os⟩:=s;obtain ⟨hl,hb,h⟩:=h
    have f2:=AutoSeq1.sub_tuple_tuple
    have z1:items.size=ns.length:=by rw [←hi.length];simp
    have z2:items2.size=ms.length:=by rw [←hj.length];simp
    wp_walk using wpAny_loadPart' hl,wpAny_loadPart' hb,wpAny_forIn_list _ (fun rest b s'=>b.1=none∧s'=⟨hp,g,d,tk,os⟩∧∃ (vs ws:List Value) (ns' ms':List Int),rest=vs.zip ws ∧
      IntsAre vs ns'∧IntsAre ws ms'∧ns'.length+items2.size=ms'.length+items.size∧R (.ok (.ret (.bool (lexLe ns' ms')))) ⟨hp,g,d,tk,os⟩) _
    case turn =>
      rintro ⟨y,x⟩ rest b s' ⟨hb',rfl,vs,ws,ns',ms',hz,hvi,hwi,hlen,hR⟩
      cases hvi with
      | nil=>rw [List.zip_nil_left] at hz;cases hz
      | cons a t hvi' =>
        cases hwi with
        | nil=>rw [List.zip_nil_right] at hz;cases hz
        | cons c u hwi' =>
          rw [List.zip_cons_cons] at hz
          injection hz with hyx hrest
          injection hyx with hy hx
          subst hy hx
          rw [zdx] at hR
          simp only [List.length_cons] at hlen
          obtain ⟨e,he,hiff⟩:=zhb A.in1 ⟨hp,g,d,tk,os⟩ a t c u
          refine wpAny_bind (he prog w _ _ ?_)
          cases e with
          | true =>
            rw [if_pos (hiff.mp rfl)] at hR
            wp_walk
            exact ⟨rfl,rfl,_,_,_,_,hrest,hvi',hwi',by omega,hR⟩
          | false =>
            rw [if_neg (fun q=>absurd (hiff.mpr q) Bool.false_ne_true)] at hR
            have hri:=zhl A.in1 ⟨hp,g,d,tk,os⟩ a t c u prog w
            wp_walk using hri
            exact ⟨_,rfl,by simpa using hR⟩
    case fin =>
      rintro ⟨b1,b2⟩ s' ⟨hb',rfl,vs,ws,ns',ms',hz,hvi,hwi,hlen,hR⟩
      simp only at hb'
      subst hb'
      have hv:lexLe ns' ms'=decide (items.size≤items2.size):=by
        cases hvi with
        | nil =>
          simp only [List.length_nil] at hlen
          show true=_
          exact (decide_eq_true (by omega)).symm
        | cons a t hv =>
          cases hwi with
          | nil =>
            simp only [List.length_nil,List.length_cons] at hlen
            show false=_
            exact (decide_eq_false (by omega)).symm
          | cons c u hw =>
            rw [List.zip_cons_cons] at hz
            cases hz
      rw [hv] at hR
      wp_walk
      exact ⟨_,rfl,by simpa [Builtin.Tuple.tupleCompareSizes] using hR⟩
    case h =>
      exact ⟨rfl,rfl,items.toList,items2.toList,ns,ms,rfl,hi,hj,by omega,h⟩
end
section
variable {prog:Program}{w:World}{A:Around}{E:Value→Shared→Prop}{s:Shared}
theorem le_tupInts {l b:Addr}{items items2:Array Value}{ns ms:List Int}{Q:Value→Shared→Prop}(hl:IsTup s.heap l items)(hb:IsTup s.heap b items2)(hi:IntsAre items.toList ns)(hj:IntsAre items2.toList ms)
    (hu:A.units < cLine) (h:Q (.bool (lexLe ns ms)) s):wpAny (model prog w) A (compareOp .LtE (.ref l) (.ref b)) Q E s:=by
  obtain ⟨⟨cls,dd,data,sl⟩,ho,hc,n,hd⟩:=id hl
  obtain ⟨⟨cls2,dd2,data2,sl2⟩,ho2,hc2,n2,hd2⟩:=id hb
  simp only at hc hd hc2 hd2
  subst hc hd hc2 hd2
  exact richCompare_meets_room (op:=.LtE) ⟨_,ho,rfl⟩ ⟨_,ho2,rfl⟩ PySem.F.slot_tuple_le PySem.F.entry_tuple_le (PySem.F.args_tuple_le_2 _ _) (zaa l b items items2 n n2 dd dd2 sl sl2 ns ms hi hj)
    ⟨ho,ho2,show Value.bool (lexLe ns ms)≠Value.notImplemented∧Q (.bool (lexLe ns ms)) s from ⟨(fun x=>nomatch x),h⟩⟩ hu
end
end HT
namespace L2
open PySem PySem.Spec PyProof.Rows
def rLeT (K:PySem.W.Frag):R2:=fun x y H Q=>∃ a b ns ms,x=.ref a∧y=.ref b∧SqT K H a (ns.map V.int)∧SqT K H b (ms.map V.int)∧Q (.bl (HT.lexLe ns ms)) H
theorem zh9 {X:Cx}(hu:X.A.units < cLine):OpR X (compareOp .LtE) (rLeT X.K):=by
  intro pins s σ H x y v u Q I rx ry h
  obtain ⟨a,b,ns,ms,rfl,rfl,ha,hb,q⟩:=h
  cases rx
  cases ry
  obtain ⟨its,r1,p1,_⟩:=I.tuple ha
  obtain ⟨its2,r2,p2,_⟩:=I.tuple hb
  have i1:IntsAre its.toArray.toList ns:=Xv r1
  have i2:IntsAre its2.toArray.toList ms:=Xv r2
  exact HT.le_tupInts p1 p2 i1 i2 hu ⟨.bl (HT.lexLe ns ms),H,I,rfl,q⟩
end L2
namespace HT
open PySem PyProof.Rows
section
variable {prog:Program}{w:World}{A:Around}{E:Value→Shared→Prop}{s:Shared}
theorem own_getItem_whole {t sl:Addr}{items:Array Value}{vl vu:Value}{lo hi:Option Int}{Q:Value→Shared→Prop}(ht:IsTup s.heap t items)(hs:s.heap.IsSliceOf sl vl vu .none)(pl:IsPart vl lo)(pu:IsPart vu hi)
    (hw:sIx items.size 0 lo=0∧sIx items.size items.size hi=items.size) (h:Q (.ref t) s):wpAny (model prog w) A (getItem (.ref t) (.ref sl)) Q E s:=by
  obtain ⟨os,hos,hcs,hds⟩:=id hs
  have hTs:s.TypeIs (.ref sl) "slice":=⟨os,hos,hcs⟩
  unfold getItem
  try with_reducible refine wpAny_holding ?_
  first | refine wpAny_bind (wpAny_pure ?_) | skip
  refine wpAny_bind (wpAny_sequenceKey ht.typeIs (by decide) ?_)
  refine wpAny_bind (wpAny_callSpecial?_slot (name:=Str.ofString "__getitem__") ht.typeIs PyProof.Rows.slot_tuple_getitem
    (wpAny_call_entry PyProof.Rows.slot_tuple_getitem ht.typeIs entry_tuple_getitem ?_ (args_tuple_getitem _ _)))
  show wpAny _ _ (Builtin.Tuple.tupleItemsOf (.ref t)>>=_) _ _ s
  refine wpAny_bind (tupleItemsOf_ ht ?_)
  refine wpAny_bind (wpAny_typeOf hTs ?_)
  rw [if_pos (by decide)]
  refine wpAny_bind (YJ hs pl pu ?_)
  have hyes:(((sIx items.size 0 lo:Nat):Int) == 0&&(1:Int) == 1&&(sIx items.size items.size hi - sIx items.size 0 lo) == items.size)=true:=by
    rw [hw.1,hw.2]
    simp
  show wpAny _ _ (if (((sIx items.size 0 lo:Nat):Int) == 0&&(1:Int) == 1&&(sIx items.size items.size hi - sIx items.size 0 lo) == items.size)=true then _ else _) _ _ s
  rw [if_pos hyes]
  refine wpAny_bind (m:=Builtin.Tuple.tupleIsExact (.ref t)) ?_
  unfold Builtin.Tuple.tupleIsExact
  refine wpAny_bind (wpAny_typeOf ht.typeIs (wpAny_pure ?_))
  rw [if_pos (by decide)]
  refine wpAny_bind (wpAny_rule ?_)
  first
    | exact wpAny_pure ⟨_,rfl,wpAny_pure h⟩
    | exact wpAny_bind (wpAny_pure (wpAny_pure ⟨_,rfl,wpAny_pure h⟩))
end
end HT
namespace L2
open PySem PySem.Spec PyProof.Rows
end L2
namespace PySem
open Sem (wp)
theorem x9 {prog:Program}{w:World}{A:Around}{it a:Addr}{fp:List Addr}{n k:Nat}{P:Nat→Value→Prop}{St:Nat→Heap→Prop}(D:Draws prog w A it fp n P St){h h':Heap}(st:St k h)(sb:Heap.SameBut a h h')(na:a∉fp):St k h' :=
  D.frame _ _ _ st fun b hb o e=>(sb.2 b fun z=>na (z ▸ hb)).trans e
set_option genInjectivity false in
set_option genSizeOf false in
set_option genCtorIdx false in
structure zhq (z TI TO i1 i2:Addr) (fp1 fp2:List Addr):Prop where
  nd:[z,TI,TO,i1,i2].Nodup
  z1:z∉fp1
  z2:z∉fp2
  o1:TO∉fp1
  o2:TO∉fp2
  i12:i1∉fp2
  i21:i2∉fp1
section
variable {prog:Program}{w:World}{A:Around}{E:Value→Shared→Prop}{s:Shared}{z TI TO i1 i2:Addr}{fp1 fp2:List Addr}{n1 n2 k1 k2:Nat}{P1 P2:Nat→Value→Prop}{St1 St2:Nat→Heap→Prop}{a b:Value}
theorem za2 {Q:Value→Shared→Prop}(D1:Draws prog w A i1 fp1 n1 P1 St1)(D2:Draws prog w A i2 fp2 n2 P2 St2)(ap:zhq z TI TO i1 i2 fp1 fp2)
    (hz:IsZip s.heap z TI TO .none) (hTI:IsPair s.heap TI (.ref i1) (.ref i2)) (hTO:IsPair s.heap TO a b) (h1:St1 k1 s.heap) (h2:St2 k2 s.heap) (l1:k1 < n1) (l2:k2 < n2)
    (hQ:∀ x y h' tk,P1 k1 x→P2 k2 y→IsZip h' z TI TO (rawInt s.heap.objs.size)→IsPair h' TO x y→St1 (k1+1) h'→St2 (k2+1) h'→IsPair h' s.heap.objs.size x y →
      (∀ c o,c∉[z,TO,i1,i2]→s.heap.get? c=some o→h'.get? c=some o)→Q (.ref s.heap.objs.size) { s with heap:=h',toks:=tk }) :
    wpAny (model prog w) A (Builtin.«zip.__next__» ⟨[.ref z],[]⟩) (fun fin s'=>∃ v,fin=.done (.ret v)∧Q v s') E s:=by
  obtain ⟨nd,az1,az2,ao1,ao2,a12,a21⟩:=ap
  simp only [List.nodup_cons,List.mem_cons,List.not_mem_nil,or_false,not_or,not_false_eq_true,List.nodup_nil,and_true] at nd
  obtain ⟨⟨n1',n2',n3',n4'⟩,⟨n5,n6,n7⟩,⟨n8,n9⟩,n10⟩:=nd
  show wpAny _ _ (field (.ref z) 2>>=_) _ _ _
  refine wpAny_bind (wpAny_field hz rfl (x:=.bool false) rfl ?_)
  show wpAny _ _ (field (.ref z) 3>>=_) _ _ _
  refine wpAny_bind (wpAny_field hz rfl (x:=.ref TI) rfl (wpAny_bind (wpAny_seqItems hTI rfl ?_)))
  show wpAny _ _ (Builtin.SmallTypes.ownedTupleIsFree (.ref z)>>=_) _ _ _
  refine wpAny_bind ?_
  unfold Builtin.SmallTypes.ownedTupleIsFree
  refine wpAny_bind (wpAny_field hz rfl (x:=.none) rfl (wpAny_pure ?_))
  simp only [if_true]
  refine wpAny_bind (wpAny_rule (wpAny_bind (wpAny_field hz rfl (x:=.ref TO) rfl (wpAny_bind (wpAny_setField_rec hz (by simp) fun g1 z1 b1=>?_)))))
  refine wpAny_bind ?_
  simp only [List.zipIdx_cons,List.zipIdx_nil,List.forIn_cons,List.forIn_nil]
  refine wpAny_bind (wpAny_bind (wpAny_onRaise ?_))
  show wpAny _ _ (Builtin.SmallTypes.nextOf (.ref i1)>>=_) _ _ _
  refine wpAny_bind (D1.item k1 _ _ _ l1 (x9 D1 h1 b1 az1) fun x g2 tk2 px st2 b2=>wpAny_pure ?_)
  have o2:IsPair g2 TO a b:=(b2.2 TO n8).trans ((b1.2 TO (Ne.symm n2')).trans hTO)
  refine wpAny_bind (wpAny_seqItems o2 rfl (wpAny_bind (wpAny_updateSeq_pair o2 fun g3 o3 b3=>?_)))
  refine wpAny_bind (wpAny_letGo (wpAny_pure ?_))
  refine wpAny_bind (wpAny_bind (wpAny_onRaise ?_))
  show wpAny _ _ (Builtin.SmallTypes.nextOf (.ref i2)>>=_) _ _ _
  have s23:St2 k2 g3:=x9 D2 (x9 D2 (x9 D2 h2 b1 az2) b2 a12) b3 ao2
  refine wpAny_bind (D2.item k2 _ _ _ l2 s23 fun y g4 tk4 py st4 b4=>wpAny_pure ?_)
  have o4:IsPair g4 TO x b:=(b4.2 TO n9).trans o3
  refine wpAny_bind (wpAny_seqItems o4 rfl (wpAny_bind (wpAny_updateSeq_pair o4 fun g5 o5 b5=>?_)))
  replace o5:IsPair g5 TO x y:=o5
  refine wpAny_bind (wpAny_letGo (wpAny_pure (wpAny_pure ?_)))
  refine wpAny_bind (wpAny_seqItems o5 rfl ?_)
  show wpAny _ _ (newTuple [x,y]>>=_) _ _ _
  refine wpAny_bind (wpAny_newTuple ?_)
  have hsz:g5.objs.size=s.heap.objs.size:=by rw [b5.1,b4.1,b3.1,b2.1,b1.1]
  have z5:IsZip g5 z TI TO .ellipsis:=(b5.2 z n2').trans ((b4.2 z n4').trans ((b3.2 z n2').trans ((b2.2 z n3').trans z1)))
  have zlt:z < g5.objs.size:=Heap.lt_size z5
  show wpAny _ _ (Builtin.SmallTypes.ownedTupleHandOut (.ref z) (.ref g5.objs.size)>>=_) _ _ _
  refine wpAny_bind ?_
  unfold Builtin.SmallTypes.ownedTupleHandOut
  have z6:IsZip (g5.push { cls:=.type "tuple",data:=.seq #[x,y] }) z TI TO .ellipsis:=Heap.get?_push_of_some _ z5
  refine wpAny_bind (wpAny_setField_rec z6 (by simp) fun g7 z7 b7=>?_)
  refine wpAny_setField_rec z7 (by simp) fun g8 z8 b8=>?_
  have up:∀ c o,c≠z→g5.get? c=some o→g8.get? c=some o:=fun c o n e=>(b8.2 c n).trans ((b7.2 c n).trans (Heap.get?_push_of_some _ e))
  have t8:IsPair g8 g5.objs.size x y:=(b8.2 _ (Nat.ne_of_gt zlt)).trans ((b7.2 _ (Nat.ne_of_gt zlt)).trans (Heap.get?_push_size _ rfl))
  have e8:IsZip g8 z TI TO (rawInt g5.objs.size):=z8
  rw [hsz] at e8 t8
  refine wpAny_pure ⟨_,rfl,?_⟩
  show Q (.ref g5.objs.size) _
  rw [hsz]
  have f1:St1 (k1+1) g5:=x9 D1 (x9 D1 (x9 D1 st2 b3 ao1) b4 a21) b5 ao1
  have f2:St2 (k2+1) g5:=x9 D2 st4 b5 ao2
  refine hQ x y g8 _ px py e8 (up _ _ (Ne.symm n2') o5) (D1.frame _ _ _ f1 fun c hc o e=>up c o (fun q=>az1 (q ▸ hc)) e) (D2.frame _ _ _ f2 fun c hc o e=>up c o (fun q=>az2 (q ▸ hc)) e) t8 fun c o hc e=>?_
  simp only [List.mem_cons,List.not_mem_nil,or_false,not_or] at hc
  obtain ⟨c1,c2,c3,c4⟩:=hc
  exact up c o c1 ((b5.2 c c2).trans ((b4.2 c c4).trans ((b3.2 c c2).trans ((b2.2 c c3).trans ((b1.2 c c1).trans e)))))
theorem zcy {Q:Fin→Shared→Prop}(D1:Draws prog w A i1 fp1 n1 P1 St1)(az1:z∉fp1)(nz:i1≠z)
    (hz:IsZip s.heap z TI TO .none) (hTI:IsPair s.heap TI (.ref i1) (.ref i2)) (h1:St1 n1 s.heap)
    (hE:∀ h' e,(∀ c o,c≠z→c≠i1→s.heap.get? c=some o→h'.get? c=some o)→(∃ o,h'.get? e=some o∧o.cls=.type "StopIteration")→E (.ref e) { s with heap:=h' }) :
    wpAny (model prog w) A (Builtin.«zip.__next__» ⟨[.ref z],[]⟩) Q E s:=by
  show wpAny _ _ (field (.ref z) 2>>=_) _ _ _
  refine wpAny_bind (wpAny_field hz rfl (x:=.bool false) rfl ?_)
  show wpAny _ _ (field (.ref z) 3>>=_) _ _ _
  refine wpAny_bind (wpAny_field hz rfl (x:=.ref TI) rfl (wpAny_bind (wpAny_seqItems hTI rfl ?_)))
  show wpAny _ _ (Builtin.SmallTypes.ownedTupleIsFree (.ref z)>>=_) _ _ _
  refine wpAny_bind ?_
  unfold Builtin.SmallTypes.ownedTupleIsFree
  refine wpAny_bind (wpAny_field hz rfl (x:=.none) rfl (wpAny_pure ?_))
  simp only [if_true]
  refine wpAny_bind (wpAny_rule (wpAny_bind (wpAny_field hz rfl (x:=.ref TO) rfl (wpAny_bind (wpAny_setField_rec hz (by simp) fun g1 z1 b1=>?_)))))
  refine wpAny_bind ?_
  simp only [List.zipIdx_cons,List.zipIdx_nil,List.forIn_cons,List.forIn_nil]
  refine wpAny_bind (wpAny_bind (wpAny_onRaise ?_))
  show wpAny _ _ (Builtin.SmallTypes.nextOf (.ref i1)>>=_) _ _ _
  refine wpAny_bind (D1.done _ _ _ (x9 D1 h1 b1 az1) fun g2 e b2 he=>?_)
  obtain ⟨oe,hoe,hce⟩:=he
  have z2:IsZip g2 z TI TO .ellipsis:=b2 _ _ (Ne.symm nz) z1
  have nez:e≠z:=fun q=>by subst q;rw [z2] at hoe;cases hoe;simp at hce
  exact wpAny_setField_rec z2 (by simp) fun g3 _ b3=>hE g3 e (fun c o c1 c2 q=>(b3.2 c c1).trans (b2 c o c2 ((b1.2 c c1).trans q))) ⟨oe,(b3.2 e nez).trans hoe,hce⟩
end
def zaP (b:Bool)(h:Heap)(it l:Addr)(k:Nat):Prop:=if b=true then h.IsListIter it l k else h.IsTupleIter it l k
def zdN (b:Bool)(h:Heap)(l:Addr)(items:Array Value):Prop:=if b=true then h.IsList l items else h.IsTuple l items
theorem Ve {prog:Program}{w:World}{A:Around}(hh:A.handled=none)(b:Bool)(it l:Addr)(hne:l≠it)(items:Array Value) :
    Draws prog w A it [it,l] items.size (fun i v=>items[i]?=some v) (fun i h=>zaP b h it l i∧zdN b h l items):=by
  cases b with
  | true=>exact Draws.list hh it l hne items
  | false=>exact YV hh it l hne items
def zfe (b:Bool) (l:Addr):Obj:={ cls:=.type (if b=true then "list_iterator" else "tuple_iterator"),data:=.fields #[.ref l,.int 0 0] }
abbrev zpA (h:Heap)(b1:Bool)(l1:Addr):Heap:=h.push (zfe b1 l1)
abbrev zpB (h:Heap)(b1 b2:Bool)(l1 l2:Addr):Heap:=(zpA h b1 l1).push (zfe b2 l2)
abbrev zpC (h:Heap) (b1 b2:Bool) (l1 l2:Addr):Heap:=(zpB h b1 b2 l1 l2).push (Obj.mk (.type "tuple") none (.seq #[.ref h.objs.size,.ref (zpA h b1 l1).objs.size]) #[])
abbrev zpD (h:Heap) (b1 b2:Bool) (l1 l2:Addr):Heap:=(zpC h b1 b2 l1 l2).push (Obj.mk (.type "tuple") none (.seq #[.none,.none]) #[])
abbrev zpE (h:Heap) (b1 b2:Bool) (l1 l2:Addr):Heap:=(zpD h b1 b2 l1 l2).push (Obj.mk (.type "zip") none (.fields #[.none,.bool false,.bool false,.ref (zpB h b1 b2 l1 l2).objs.size,.ref (zpC h b1 b2 l1 l2).objs.size]) #[])
theorem zct (b1 b2:Bool)(l1 l2:Addr)(xs ys:Array Value) :
    Meets (Builtin.«zip.__new__» ⟨[.type "zip",.ref l1,.ref l2],[]⟩) (fun _ R s=>zdN b1 s.heap l1 xs∧zdN b2 s.heap l2 ys ∧
      R (.ok (.ret (.ref (zpD s.heap b1 b2 l1 l2).objs.size))) { s with heap:=zpE s.heap b1 b2 l1 l2 }) :=
  .of_wp fun prog w A R s h=>by
    obtain ⟨hp,g,d,tk,os⟩:=s;obtain ⟨hl1,hl2,h⟩:=h
    have hsub:=sub_zip
    cases b1 with
    | true =>
      have hL1:Heap.IsList (Shared.heap ⟨hp,g,d,tk,os⟩) l1 xs:=hl1
      cases b2 with
      | true =>
        have hL2:Heap.IsList (Shared.heap ⟨hp.push { cls:=.type "list_iterator",data:=.fields #[.ref l1,.int 0 0] },g,d,tk,os⟩) l2 ys:=Heap.IsList.push hl2 _
        wp_walk using wpAny_pyIter_list hL1,wpAny_pyIter_list hL2
        exact ⟨_,rfl,h⟩
      | false =>
        have hL2:Heap.IsTuple (Shared.heap ⟨hp.push { cls:=.type "list_iterator",data:=.fields #[.ref l1,.int 0 0] },g,d,tk,os⟩) l2 ys:=Heap.IsTuple.push hl2 _
        wp_walk using wpAny_pyIter_list hL1,wpAny_pyIter_tuple hL2
        exact ⟨_,rfl,h⟩
    | false =>
      have hL1:Heap.IsTuple (Shared.heap ⟨hp,g,d,tk,os⟩) l1 xs:=hl1
      cases b2 with
      | true =>
        have hL2:Heap.IsList (Shared.heap ⟨hp.push { cls:=.type "tuple_iterator",data:=.fields #[.ref l1,.int 0 0] },g,d,tk,os⟩) l2 ys:=Heap.IsList.push hl2 _
        wp_walk using wpAny_pyIter_tuple hL1,wpAny_pyIter_list hL2
        exact ⟨_,rfl,h⟩
      | false =>
        have hL2:Heap.IsTuple (Shared.heap ⟨hp.push { cls:=.type "tuple_iterator",data:=.fields #[.ref l1,.int 0 0] },g,d,tk,os⟩) l2 ys:=Heap.IsTuple.push hl2 _
        wp_walk using wpAny_pyIter_tuple hL1,wpAny_pyIter_tuple hL2
        exact ⟨_,rfl,h⟩
end PySem
namespace PySem
section
variable {prog:Program}{w:World}{A:Around}{E:Value→Shared→Prop}{s:Shared}
theorem zbb {b1 b2:Bool}{l1 l2:Addr}{xs ys:Array Value}{Q:Value→Shared→Prop}(hl1:zdN b1 s.heap l1 xs)(hl2:zdN b2 s.heap l2 ys)
    (h:∀ h',IsZip h' (s.heap.objs.size+4) (s.heap.objs.size+2) (s.heap.objs.size+3) .none→IsPair h' (s.heap.objs.size+2) (.ref s.heap.objs.size) (.ref (s.heap.objs.size+1)) →
      IsPair h' (s.heap.objs.size+3) .none .none→zaP b1 h' s.heap.objs.size l1 0→zaP b2 h' (s.heap.objs.size+1) l2 0 →
      (∀ c o,s.heap.get? c=some o→h'.get? c=some o)→Q (.ref (s.heap.objs.size+4)) { s with heap:=h' }) :
    wpAny (model prog w) A (call (.type "zip") [.ref l1,.ref l2]) Q E s:=by
  refine callType_new F.called_zip (by decide) (F.typeCall_zip_2 _ _) (F.newCall_zip_2 _ _) (fun obj=>F.args_object_init_3 obj _ _) F.entry_zip_new
    (zct b1 b2 l1 l2 xs ys) ⟨hl1,hl2,?_⟩
  have z1:(zpA s.heap b1 l1).objs.size=s.heap.objs.size+1:=Heap.size_push ..
  have z2:(zpB s.heap b1 b2 l1 l2).objs.size=s.heap.objs.size+2:=by rw [Heap.size_push,z1]
  have z3:(zpC s.heap b1 b2 l1 l2).objs.size=s.heap.objs.size+3:=by rw [Heap.size_push,z2]
  have z4:(zpD s.heap b1 b2 l1 l2).objs.size=s.heap.objs.size+4:=by rw [Heap.size_push,z3]
  have g5:(zpE s.heap b1 b2 l1 l2).get? (zpD s.heap b1 b2 l1 l2).objs.size=some _:=Heap.get?_push_size _ rfl
  have g4:(zpE s.heap b1 b2 l1 l2).get? (zpC s.heap b1 b2 l1 l2).objs.size=some _:=Heap.get?_push_of_some _ (Heap.get?_push_size _ rfl)
  have g3:(zpE s.heap b1 b2 l1 l2).get? (zpB s.heap b1 b2 l1 l2).objs.size=some _:=Heap.get?_push_of_some _ (Heap.get?_push_of_some _ (Heap.get?_push_size _ rfl))
  have g2:(zpE s.heap b1 b2 l1 l2).get? (zpA s.heap b1 l1).objs.size=some (zfe b2 l2):=Heap.get?_push_of_some _ (Heap.get?_push_of_some _ (Heap.get?_push_of_some _ (Heap.get?_push_size _ rfl)))
  have g1:(zpE s.heap b1 b2 l1 l2).get? s.heap.objs.size=some (zfe b1 l1):=Heap.get?_push_of_some _ (Heap.get?_push_of_some _ (Heap.get?_push_of_some _ (Heap.get?_push_of_some _ (Heap.get?_push_size _ rfl))))
  show _∧_
  rw [z2,z3,z4] at g5
  rw [z1,z2] at g3
  rw [z3] at g4
  rw [z1] at g2
  rw [z4]
  have it0:∀ {b:Bool} {l c:Addr},(zpE s.heap b1 b2 l1 l2).get? c=some (zfe b l)→zaP b (zpE s.heap b1 b2 l1 l2) c l 0:=fun {b l c} e=>by
    cases b
    · exact ⟨_,e,rfl,rfl⟩
    · exact ⟨_,e,rfl,rfl⟩
  exact ⟨⟨_,g5,rfl⟩,h _ g5 g3 g4 (it0 g1) (it0 g2) fun c o x =>
    Heap.get?_push_of_some _ (Heap.get?_push_of_some _ (Heap.get?_push_of_some _ (Heap.get?_push_of_some _ (Heap.get?_push_of_some _ x))))⟩
variable {z TI TO i1 i2:Addr}{fp1 fp2:List Addr}{n1 n2 k1 k2:Nat}{P1 P2:Nat→Value→Prop}{St1 St2:Nat→Heap→Prop}{a b:Value}
theorem ZI {Q:Option Value→Shared→Prop}(D1:Draws prog w A.in1 i1 fp1 n1 P1 St1)(D2:Draws prog w A.in1 i2 fp2 n2 P2 St2)(ap:zhq z TI TO i1 i2 fp1 fp2)
    (hz:IsZip s.heap z TI TO .none) (hTI:IsPair s.heap TI (.ref i1) (.ref i2)) (hTO:IsPair s.heap TO a b) (h1:St1 k1 s.heap) (h2:St2 k2 s.heap) (l1:k1 < n1) (l2:k2 < n2)
    (hQ:∀ x y h' tk,P1 k1 x→P2 k2 y→IsZip h' z TI TO (rawInt s.heap.objs.size)→IsPair h' TO x y→St1 (k1+1) h'→St2 (k2+1) h'→IsPair h' s.heap.objs.size x y →
      (∀ c o,c∉[z,TO,i1,i2]→s.heap.get? c=some o→h'.get? c=some o)→Q (some (.ref s.heap.objs.size)) { s with heap:=h',toks:=tk }) :
    wpAny (model prog w) A (pyNext (.ref z)) Q E s:=by
  have hT:s.TypeIs (.ref z) "zip":=⟨_,hz,rfl⟩
  unfold pyNext
  exact wpAny_bind (wpAny_attempt (wpAny_callSpecial?_slot (name:=Str.ofString "__next__") hT F.slot_zip_next
    (wpAny_call_entry F.slot_zip_next hT F.entry_zip_next
      (za2 D1 D2 ap hz hTI hTO h1 h2 l1 l2 fun x y h' tk a1 a2 a3 a4 a5 a6 a7 a8=>wpAny_pure (hQ x y h' tk a1 a2 a3 a4 a5 a6 a7 a8)) (F.args_zip_next_1 _))))
theorem Xe {Q:Option Value→Shared→Prop}(D1:Draws prog w A.in1 i1 fp1 n1 P1 St1)(az1:z∉fp1)(nz:i1≠z)
    (hz:IsZip s.heap z TI TO .none) (hTI:IsPair s.heap TI (.ref i1) (.ref i2)) (h1:St1 n1 s.heap)
    (hQ:∀ h',(∀ c o,c≠z→c≠i1→s.heap.get? c=some o→h'.get? c=some o)→Q none { s with heap:=h' }):wpAny (model prog w) A (pyNext (.ref z)) Q E s:=by
  have hT:s.TypeIs (.ref z) "zip":=⟨_,hz,rfl⟩
  unfold pyNext
  refine wpAny_bind (wpAny_attempt (wpAny_callSpecial?_slot (name:=Str.ofString "__next__") hT F.slot_zip_next
    (wpAny_call_entry F.slot_zip_next hT F.entry_zip_next (zcy D1 az1 nz hz hTI h1 fun h' e hk he=>?_) (F.args_zip_next_1 _))))
  obtain ⟨o,ho,hc⟩:=he
  refine wpAny_bind (wpAny_isInstance (T:="StopIteration") (b:=true) ⟨o,ho,hc⟩ isSubtype_stop ?_)
  exact wpAny_pure (hQ _ hk)
end
end PySem
namespace L2
open PySem PySem.Spec PyProof.Rows
def Sq (b:Bool)(K:PySem.W.Frag)(H:Hp)(a:Addr)(xs:List V):Prop:=if b=true then SqL K H a xs else SqT K H a xs
theorem Inv.sq {X:Cx}{pins:List (Addr × Obj)}{σ:St}{H:Hp}{s:Shared}{a:Addr}{xs:List V}{b:Bool}(I:Inv X pins σ H s)(h:Sq b X.K H a xs):∃ its:List Value,yr xs its∧zdN b s.heap a its.toArray∧a < s.heap.objs.size:=by
  cases b with
  | true =>
    obtain ⟨its,r,p,_⟩:=I.list (show SqL X.K H a xs from h)
    exact ⟨its,r,p.isList,by obtain ⟨o,n,ho,_⟩:=p;exact Heap.lt_size ho⟩
  | false =>
    obtain ⟨its,r,p,_⟩:=I.tuple (show SqT X.K H a xs from h)
    exact ⟨its,r,p,by obtain ⟨o,ho,_⟩:=p;exact Heap.lt_size ho⟩
theorem Inv.sq_inj {X:Cx}{pins:List (Addr × Obj)}{σ:St}{H:Hp}{s:Shared}{a:Addr}{xs ys:List V}{b:Bool}(I:Inv X pins σ H s)(h:Sq b X.K H a xs)(h':Sq b X.K H a ys):xs=ys:=by
  cases b with
  | true=>exact I.list_inj h h'
  | false=>exact I.tuple_inj h h'
def Izp (K:PySem.W.Frag)(b1 b2:Bool)(l1 l2:Addr):It :=
  ⟨fun i H=>∃ xs ys x y,Sq b1 K H l1 xs∧Sq b2 K H l2 ys∧xs[i]?=some x∧ys[i]?=some y,
   fun i H v H'=>∃ T x y,v=.ref T∧H T=none∧H'=upd H T (.tup [x,y])∧(∀ xs,Sq b1 K H l1 xs→xs[i]?=some x)∧(∀ ys,Sq b2 K H l2 ys→ys[i]?=some y),
   fun i H=>∃ xs,Sq b1 K H l1 xs∧i=xs.length⟩
theorem Xd {b:Bool}{h:Heap}{it l:Addr}{k:Nat}(x:zaP b h it l k):∃ o,h.get? it=some o∧∀ v,o.data≠.cell v:=by
  cases b
  · obtain ⟨o,ho,_,hd⟩:=x
    exact ⟨o,ho,fun v z=>by rw [hd] at z;cases z⟩
  · obtain ⟨o,ho,_,hd⟩:=x
    exact ⟨o,ho,fun v z=>by rw [hd] at z;cases z⟩
theorem Wl {b:Bool}{h h':Heap}{it l:Addr}{k:Nat}(x:zaP b h it l k)(e:∀ o,h.get? it=some o→h'.get? it=some o):zaP b h' it l k:=by
  cases b
  · obtain ⟨o,ho,r⟩:=x
    exact ⟨o,e o ho,r⟩
  · obtain ⟨o,ho,r⟩:=x
    exact ⟨o,e o ho,r⟩
theorem zhm {P:Program}{w:World}{K:PySem.W.Frag}{es:List Expr}{k:Nat}{tp:Pos}(b1 b2:Bool)(l1 l2 z TI TO i1 i2:Addr)(ap:zhq z TI TO i1 i2 [i1,l1] [i2,l2])(n1:l1≠i1)(n2:l2≠i2) :
    ziR P w K (.Tuple es k tp) (Izp K b1 b2 l1 l2) [z,TI,TO,i1,i2] z (fun i h=>IsZip h z TI TO .none∧IsPair h TI (.ref i1) (.ref i2)∧(∃ a b,IsPair h TO a b)∧zaP b1 h i1 l1 i∧zaP b2 h i2 l2 i) where
  mem:=by simp
  obj:=fun i h st b hb=>by
    obtain ⟨hz,hTI,⟨a,c,hTO⟩,h1,h2⟩:=st
    simp only [List.mem_cons,List.not_mem_nil,or_false] at hb
    rcases hb with rfl | rfl | rfl | rfl | rfl
    · exact ⟨_,hz,fun v z=>by cases z⟩
    · exact ⟨_,hTI,fun v z=>by cases z⟩
    · exact ⟨_,hTO,fun v z=>by cases z⟩
    · exact Xd h1
    · exact Xd h2
  keep:=fun i h h' st kk=>by
    obtain ⟨hz,hTI,⟨a,c,hTO⟩,h1,h2⟩:=st
    exact ⟨kk z (by simp) _ hz,kk TI (by simp) _ hTI,⟨a,c,kk TO (by simp) _ hTO⟩,Wl h1 fun o q=>kk i1 (by simp) o q,Wl h2 fun o q=>kk i2 (by simp) o q⟩
  item:=by
    intro X hP hw hK hc i pins s σ H E I hf st hg
    subst hP hw hK
    obtain ⟨hz,hTI,⟨a,c,hTO⟩,h1,h2⟩:=st
    obtain ⟨xs,ys,x,y,hq1,hq2,hx,hy⟩:=hg
    obtain ⟨its,rv,p,_⟩:=I.sq hq1
    obtain ⟨its2,rv2,p2,_⟩:=I.sq hq2
    obtain ⟨u,hu,ru⟩:=rv.get hx
    obtain ⟨u2,hu2,ru2⟩:=rv2.get hy
    have hl1:i < its.toArray.size:=by simpa using (List.getElem?_eq_some_iff.mp hu).1
    have hl2:i < its2.toArray.size:=by simpa using (List.getElem?_eq_some_iff.mp hu2).1
    have hh:X.A.in1.handled=none:=I.ok.hd hc
    refine ZI (Ve hh b1 i1 l1 n1 its.toArray) (Ve hh b2 i2 l2 n2 its2.toArray) ap hz hTI hTO ⟨h1,p⟩ ⟨h2,p2⟩ hl1 hl2 fun v1 v2 h' tk e1 e2 hz' hTO' s1 s2 hT' hk=>?_
    have eu:v1=u:=by
      have:its[i]?=some v1:=by simpa using e1
      rw [hu] at this
      exact (Option.some.inj this).symm
    have eu2:v2=u2:=by
      have:its2[i]?=some v2:=by simpa using e2
      rw [hu2] at this
      exact (Option.some.inj this).symm
    subst eu eu2
    obtain ⟨nd,az1,az2,ao1,ao2,a12,a21⟩:=ap
    simp only [List.nodup_cons,List.mem_cons,List.not_mem_nil,or_false,not_or,not_false_eq_true,List.nodup_nil,and_true] at nd
    obtain ⟨⟨m1,m2,m3,m4⟩,⟨m5,m6,m7⟩,⟨m8,m9⟩,m10⟩:=nd
    refine ⟨_,rfl,wpAny_letOwnedTupleGo_zip hz' fun h2' hz2 hs2=>?_⟩
    have hfr:H s.heap.objs.size=none:=I.hok.fresh (Nat.le_refl _)
    have neZ:s.heap.objs.size≠z:=Nat.ne_of_gt (Heap.lt_size hz)
    have hT2:IsPair h2' s.heap.objs.size v1 v2:=(hs2.2 _ neZ).trans hT'
    have hTI':IsPair h' TI (.ref i1) (.ref i2):=hk TI _ (by simp [Ne.symm m1,m5,m6,m7]) hTI
    have lt:∀ b∈[z,TI,TO,i1,i2],b < s.heap.objs.size:=fun b hb=>by
      simp only [List.mem_cons,List.not_mem_nil,or_false] at hb
      rcases hb with rfl | rfl | rfl | rfl | rfl
      · exact Heap.lt_size hz
      · exact Heap.lt_size hTI
      · exact Heap.lt_size hTO
      · obtain ⟨o,ho,_⟩:=Xd h1;exact Heap.lt_size ho
      · obtain ⟨o,ho,_⟩:=Xd h2;exact Heap.lt_size ho
    refine ⟨.ref s.heap.objs.size,upd H s.heap.objs.size (.tup [x,y]),?_,rfl,⟨_,x,y,rfl,hfr,rfl,fun zs hz=>by rw [I.sq_inj hz hq1];exact hx,fun zs hz=>by rw [I.sq_inj hz hq2];exact hy⟩,
      ⟨hz2,(hs2.2 TI (Ne.symm m1)).trans hTI',⟨_,_,(hs2.2 TO (Ne.symm m2)).trans hTO'⟩,Wl s1.1 fun o q=>(hs2.2 i1 (Ne.symm m3)).trans q,Wl s2.1 fun o q=>(hs2.2 i2 (Ne.symm m4)).trans q⟩,fun b hb=>?_⟩
    · refine I.grown (ch:=[z,TI,TO,i1,i2]) hf (Nat.le_refl _) (fun b v hb q=>?_) ?_
      · have nb:b≠z:=fun w=>hb (by simp [w])
        refine (hs2.2 b nb).trans (hk b v (fun w=>hb ?_) q)
        simp only [List.mem_cons,List.not_mem_nil,or_false] at w ⊢
        rcases w with w | w | w | w
        · exact .inl w
        · exact .inr (.inr (.inl w))
        · exact .inr (.inr (.inr (.inl w)))
        · exact .inr (.inr (.inr (.inr w)))
      · exact ⟨by show 2≤sizeLine;decide,[v1,v2],.cons ru (.cons ru2 .nil),⟨_,hT2,rfl,0,rfl⟩⟩
    · rw [zr (Nat.ne_of_lt (lt b hb))]
      exact (hf b hb).1
  done:=by
    intro X hP hw hK hc i pins s σ H E I hf st hg
    subst hP hw hK
    obtain ⟨hz,hTI,⟨a,c,hTO⟩,h1,h2⟩:=st
    obtain ⟨xs,hq,rfl⟩:=hg
    obtain ⟨its,rv,p,_⟩:=I.sq hq
    have hl:=rv.length
    have hh:X.A.in1.handled=none:=I.ok.hd hc
    have D:=Ve (prog:=X.prog) (w:=X.w) hh b1 i1 l1 n1 its.toArray
    refine Xe D ap.z1 ?_ hz hTI ⟨by rw [List.size_toArray,← hl];exact h1,p⟩ fun h' hk=>⟨rfl,I.turnedN (ch:=[z,TI,TO,i1,i2]) (t':=s.toks) hf fun b v hb q=>hk b v (fun w=>hb (by simp [w])) (fun w=>hb (by simp [w])) q⟩
    have nd:=ap.nd
    simp only [List.nodup_cons,List.mem_cons,List.not_mem_nil,or_false,not_or,not_false_eq_true,List.nodup_nil,and_true] at nd
    exact Ne.symm nd.1.2.2.1
  self:=fun _ _ _ _ _ st h=>wpAny_pyIter_zip st.1 h
def iZip (K:PySem.W.Frag)(ta:TA):TI:=fun σ H R=>ta σ H fun vs H1=>∃ b1 b2 l1 l2 xs ys,vs=[.ref l1,.ref l2]∧Sq b1 K H1 l1 xs∧Sq b2 K H1 l2 ys∧R (Izp K b1 b2 l1 l2) H1
theorem zlr {X:Cx} {es:List Expr} {k:Nat} {tp:Pos} {a b:Expr} {ta:TA} {p pos:Pos} (hg:Gl X "zip") (hm:X.mg "zip"=none) (hb:bootBuiltins "zip"=some (.type "zip")) (ha:PA X [a,b] ta)
    (hs:starEach [a,b] X.env=[(false,eval a X.env),(false,eval b X.env)]:=by rfl) (hs2:starEach [b] X.env=[(false,eval b X.env)]:=by rfl):PI X (.Tuple es k tp) (.Call (.Name "zip" p) [a,b] [] pos) (iZip X.K ta):=by
  intro pins s σ H R I h
  refine Call_ (Z2 I hg hm hb (PyProof.Rows.callWith_type1 (thn (ha pos pins s σ H _ I h) fun us s1 hh9=>?_) (by rw [hs,hs2]) (by rw [hs2];rfl)))
  obtain ⟨vs,H1,I1,r1,q1⟩:=hh9
  obtain ⟨b1,b2,l1,l2,xs,ys,e,hq1,hq2,q⟩:=q1
  subst e
  obtain ⟨u,u2,rfl,ru,ru2⟩:=zbZ r1
  cases ru
  cases ru2
  obtain ⟨its,rv,p1,lt1⟩:=I1.sq hq1
  obtain ⟨its2,rv2,p2,lt2⟩:=I1.sq hq2
  refine zbb p1 p2 fun h2 hz hTI hTO hi1 hi2 hk=>wpAny_pyIter_zip hz ?_
  have hn:∀ b,s1.heap.objs.size≤b→zbR X pins H1 b:=fun b hb=>I1.fpOk hb (I1.hok.fresh hb)
  have ap:zhq (s1.heap.objs.size+4) (s1.heap.objs.size+2) (s1.heap.objs.size+3) s1.heap.objs.size (s1.heap.objs.size+1) [s1.heap.objs.size,l1] [s1.heap.objs.size+1,l2]:=by
    have q1:l1≠s1.heap.objs.size:=Nat.ne_of_lt lt1
    have q2:∀ j:Nat,s1.heap.objs.size+j≠l1:=fun j e=>Nat.lt_irrefl _ (Nat.lt_of_lt_of_le (by rw [←e] at lt1;exact lt1) (Nat.le_add_right _ _))
    have q3:∀ j:Nat,s1.heap.objs.size+j≠l2:=fun j e=>Nat.lt_irrefl _ (Nat.lt_of_lt_of_le (by rw [←e] at lt2;exact lt2) (Nat.le_add_right _ _))
    have ne:∀ i j:Nat,i≠j→s1.heap.objs.size+i≠s1.heap.objs.size+j:=fun i j h e=>h (Nat.add_left_cancel e)
    have n0:∀ i:Nat,i≠0→s1.heap.objs.size+i≠s1.heap.objs.size:=fun i h e=>h (Nat.add_left_cancel (n:=s1.heap.objs.size) (m:=i) (k:=0) e)
    refine ⟨?_,?_,?_,?_,?_,?_,?_⟩
    · simp only [List.nodup_cons,List.mem_cons,List.not_mem_nil,or_false,not_or,not_false_eq_true,List.nodup_nil,and_true]
      exact ⟨⟨ne 4 2 (by decide),ne 4 3 (by decide),n0 4 (by decide),ne 4 1 (by decide)⟩,⟨ne 2 3 (by decide),n0 2 (by decide),ne 2 1 (by decide)⟩,⟨n0 3 (by decide),ne 3 1 (by decide)⟩,Ne.symm (n0 1 (by decide))⟩
    · simp only [List.mem_cons,List.not_mem_nil,or_false,not_or];exact ⟨n0 4 (by decide),q2 4⟩
    · simp only [List.mem_cons,List.not_mem_nil,or_false,not_or];exact ⟨ne 4 1 (by decide),q3 4⟩
    · simp only [List.mem_cons,List.not_mem_nil,or_false,not_or];exact ⟨n0 3 (by decide),q2 3⟩
    · simp only [List.mem_cons,List.not_mem_nil,or_false,not_or];exact ⟨ne 3 1 (by decide),q3 3⟩
    · simp only [List.mem_cons,List.not_mem_nil,or_false,not_or];exact ⟨Ne.symm (n0 1 (by decide)),q3 0⟩
    · simp only [List.mem_cons,List.not_mem_nil,or_false,not_or];exact ⟨n0 1 (by decide),q2 1⟩
  refine ⟨_,_,_,_,H1,rfl,I1.kept (t':=s1.toks) hk,zhm b1 b2 l1 l2 _ _ _ _ _ ap (Nat.ne_of_lt lt1) (Nat.ne_of_lt (Nat.lt_succ_of_lt lt2)),⟨hz,hTI,⟨_,_,hTO⟩,hi1,hi2⟩,fun b hb=>?_,q⟩
  simp only [List.mem_cons,List.not_mem_nil,or_false] at hb
  rcases hb with rfl | rfl | rfl | rfl | rfl
  · exact hn _ (Nat.le_add_right _ _)
  · exact hn _ (Nat.le_add_right _ _)
  · exact hn _ (Nat.le_add_right _ _)
  · exact hn _ (Nat.le_refl _)
  · exact hn _ (Nat.le_add_right _ _)
end L2
namespace OwnSort
open PySem PyProof.Rows
section pure
variable {κ:KeyKind}{xs:Array Keyed}
theorem up1 {x:Nat}(hs:SortedToK κ xs x)(hx:1≤x)(h:κ.kle (KK κ xs (x - 1)) (KK κ xs x)):SortedToK κ xs (x+1):=fun i j hij hj=>by
  by_cases c:j < x
  · exact hs i j hij c
  · obtain rfl:j=x:=by omega
    by_cases d:i=j
    · rw [d];exact KeyOrd.kle_refl _
    · exact KeyOrd.kle_trans (hs i (j - 1) (by omega) (by omega)) h
theorem zhh {x:Nat}(hs:NonIncK κ xs x)(hx:1≤x)(h:κ.kle (KK κ xs x) (KK κ xs (x - 1))):NonIncK κ xs (x+1):=fun i j hij hj=>by
  by_cases c:j < x
  · exact hs i j hij c
  · obtain rfl:j=x:=by omega
    by_cases d:i=j
    · rw [d];exact KeyOrd.kle_refl _
    · exact KeyOrd.kle_trans h (hs i (j - 1) (by omega) (by omega))
theorem Wu {ys:Array Keyed}{n:Nat}(e:∀ i,KK κ ys i=KK κ xs i)(h:NonIncK κ xs n):NonIncK κ ys n:=fun i j hij hj=>by rw [e,e];exact h i j hij hj
theorem turned {n:Nat}(hn:n≤xs.size)(h:NonIncK κ xs n):SortedToK κ (mirror xs 0 n ((n - 0) / 2)) n:=fun i j hij hj=>by
  rw [KK_mirror hn,KK_mirror hn,if_pos ⟨by omega,by omega⟩,if_pos ⟨by omega,by omega⟩]
  exact h _ _ (by omega) (by omega)
theorem zdq:SortedToK κ xs 1:=fun i j hij hj=>by
  obtain rfl:i=j:=by omega
  exact KeyOrd.kle_refl _
theorem zdt:NonIncK κ xs 1:=fun i j hij hj=>by
  obtain rfl:i=j:=by omega
  exact KeyOrd.kle_refl _
end pure
set_option genInjectivity false in
set_option genSizeOf false in
set_option genCtorIdx false in
structure SB (k:SortKind) (a₀:Array Keyed) (st:SortSt):Prop where
  pm:(arrOf st).Perm a₀
  kd:kindOf st=k
  fl:failedOf st=none
  pd:pendingOf st=#[]
theorem SB.sz {k:SortKind}{a₀:Array Keyed}{st:SortSt}(B:SB k a₀ st):(arrOf st).size=a₀.size:=B.pm.size_eq
theorem SB.put {k:SortKind}{a₀ xs:Array Keyed}{st:SortSt}(B:SB k a₀ st)(p:xs.Perm (arrOf st)):SB k a₀ (setArr st xs):=⟨p.trans B.pm,B.kd,B.fl,B.pd⟩
section
variable {prog:Program}{w:World}{A:Around}{E:Value→Shared→Prop}{s:Shared}{a₀:Array Keyed}{κ:KeyKind}{k:SortKind}{st:SortSt}
def zic (prog:Program)(w:World)(A:Around)(E:Value→Shared→Prop)(s:Shared)(a₀:Array Keyed)(κ:KeyKind)(k:SortKind):Prop :=
  ∀ (st:SortSt) (i j:Nat) (Q:Option Bool→SortSt→Prop),SB k a₀ st→i < a₀.size→j < a₀.size→Q (some (κ.blt (KK κ (arrOf st) i) (KK κ (arrOf st) j))) st→wpS (model prog w) A E s (ltAt' i j) Q st
theorem zfg {a n:Nat}{Q:AscSt→SortSt→Prop}(L:zic prog w A E s a₀ κ k)(hn:n≤a₀.size)(ha:1≤a)(han:a≤n)(B:SB k a₀ st)(hs:SortedToK κ (arrOf st) a)
    (h:∀ m,a≤m→m≤n→SortedToK κ (arrOf st) m→(m=n∨κ.klt (KK κ (arrOf st) m) (KK κ (arrOf st) (m - 1)))→Q (none,m) st):wpS (model prog w) A E s (ascLoop a n) Q st:=by
  unfold ascLoop
  refine wpS_forRange (I:=fun x c t=>(t=st∧c=(none,x))∧SortedToK κ (arrOf st) x) (fun x c t h1 h2 hI=>?_) (fun c t hI=>?_) ⟨⟨rfl,rfl⟩,hs⟩
  · obtain ⟨⟨rfl,rfl⟩,hx⟩:=hI
    refine wpS_bind (L _ x (x - 1) _ B (by omega) (by omega) ?_)
    cases c:κ.blt (KK κ (arrOf t) x) (KK κ (arrOf t) (x - 1)) with
    | true=>exact wpS_pure (h x h1 (by omega) hx (.inr c))
    | false=>exact wpS_pure ⟨⟨rfl,rfl⟩,up1 hx (by omega) c⟩
  · obtain ⟨⟨rfl,rfl⟩,hx⟩:=hI
    have e:max a n=n:=by omega
    rw [e] at hx ⊢
    exact h n han (Nat.le_refl _) hx (.inl rfl)
theorem zc8 {n m:Nat}{Q:Option Nat→SortSt→Prop}(L:zic prog w A E s a₀ κ k)(hm:m≤a₀.size)(h1:1≤n)(hnm:n≤m)(B:SB k a₀ st)(hs:NonIncK κ (arrOf st) n)
    (h:∀ r t,SB k a₀ t→1≤r→r≤m→SortedToK κ (arrOf t) r→Q (some r) t):wpS (model prog w) A E s (tail3 n m) Q st:=by
  unfold tail3
  have B':=B.put (mirror_perm (arrOf st) 0 n ((n - 0) / 2))
  exact wpS_bind (wpS_reverse (wpS_bind (zfg L hm h1 hnm B' (turned (by rw [B.sz];omega) hs) fun r g1 g2 g3 _=>wpS_pure (h r _ B' (by omega) g2 g3))))
theorem zgV {n m:Nat}{Q:DescSt→SortSt→Prop}(L:zic prog w A E s a₀ κ k)(hm:m≤a₀.size)(h1:1≤n)(hnm:n≤m)(B:SB k a₀ st)(hs:NonIncK κ (arrOf st) n)
    (h:∀ r q t,SB k a₀ t→n≤r→r≤m→NonIncK κ (arrOf t) r→q+1≤r→(∀ i,r - (q+1)≤i→i < r→KK κ (arrOf t) i=KK κ (arrOf t) (r - 1))→Q (none,r,q) t):wpS (model prog w) A E s (descLoop n m) Q st:=by
  unfold descLoop
  refine wpS_forRange (I:=fun x c t=>∃ q,c=(none,x,q)∧SB k a₀ t∧NonIncK κ (arrOf t) x∧q+1≤x∧∀ i,x - (q+1)≤i→i < x→KK κ (arrOf t) i=KK κ (arrOf t) (x - 1))
    (fun x c t g1 g2 hI=>?_) (fun c t hI=>?_) ⟨0,rfl,B,hs,h1,fun i c1 c2=>by rw [show i=n - 1 from Nat.le_antisymm (Nat.le_sub_one_of_lt c2) c1]⟩
  · obtain ⟨q,rfl,B1,ni,hq,he⟩:=hI
    have hxs:x < a₀.size:=Nat.lt_of_lt_of_le g2 hm
    have hxs1:x - 1 < a₀.size:=Nat.lt_of_le_of_lt (Nat.sub_le _ _) hxs
    have hx1:1≤x:=Nat.le_trans h1 g1
    have hz:x≤(arrOf t).size:=by rw [B1.sz];exact Nat.le_of_lt hxs
    refine wpS_bind (L _ x (x - 1) _ B1 hxs hxs1 ?_)
    cases c:κ.blt (KK κ (arrOf t) x) (KK κ (arrOf t) (x - 1)) with
    | true =>
      have d:=zhh ni hx1 (KeyOrd.kle_of_klt c)
      by_cases hq0:q > 0
      · show wpS _ _ _ _ (if q > 0 then _ else _) _ _
        rw [if_pos hq0]
        exact wpS_bind (wpS_reverse (wpS_pure ⟨0,rfl,B1.put (mirror_perm _ _ _ _),Wu (KK_mirror_equal hz he) d,Nat.succ_le_succ (Nat.zero_le _),fun i c1 c2=>by rw [show i=x+1 - 1 from Nat.le_antisymm (Nat.le_of_lt_succ c2) c1]⟩))
      · show wpS _ _ _ _ (if q > 0 then _ else _) _ _
        rw [if_neg hq0]
        exact wpS_pure ⟨0,rfl,B1,d,Nat.succ_le_succ (Nat.zero_le _),fun i c1 c2=>by rw [show i=x+1 - 1 from Nat.le_antisymm (Nat.le_of_lt_succ c2) c1]⟩
    | false =>
      refine wpS_bind (L _ (x - 1) x _ B1 hxs1 hxs ?_)
      cases c2:κ.blt (KK κ (arrOf t) (x - 1)) (KK κ (arrOf t) x) with
      | true=>exact wpS_pure (h x q t B1 g1 (Nat.le_of_lt g2) ni hq he)
      | false =>
        have same:KK κ (arrOf t) x=KK κ (arrOf t) (x - 1):=KeyOrd.kle_antisymm c2 c
        refine wpS_pure ⟨q+1,rfl,B1,zhh ni hx1 c2,Nat.succ_le_succ hq,fun i d1 d2=>?_⟩
        show KK κ (arrOf t) i=KK κ (arrOf t) x
        by_cases di:i=x
        · rw [di]
        · rw [same];exact he i (by omega) (by omega)
  · obtain ⟨q,rfl,B1,ni,hq,he⟩:=hI
    have e:max n m=m:=Nat.max_eq_right hnm
    rw [e] at ni hq he ⊢
    exact h m q t B1 hnm (Nat.le_refl _) ni hq he
theorem XL {n m:Nat}{Q:Option Nat→SortSt→Prop}(L:zic prog w A E s a₀ κ k)(hm:m≤a₀.size)(hnm:n+1≤m)(B:SB k a₀ st)(hs:NonIncK κ (arrOf st) (n+1))
    (h:∀ r t,SB k a₀ t→1≤r→r≤m→SortedToK κ (arrOf t) r→Q (some r) t):wpS (model prog w) A E s (descPart n m) Q st:=by
  unfold descPart
  refine wpS_bind (wpS_lift (wpAny_rule ⟨rfl,wpS_bind (zgV L hm (by omega) hnm B hs fun r q t B1 r1 r2 ni hq he=>?_)⟩))
  have hz:r≤(arrOf t).size:=by rw [B1.sz];omega
  by_cases hq0:q > 0
  · show wpS _ _ _ _ (if q > 0 then _ else _) _ _
    rw [if_pos hq0]
    exact wpS_bind (wpS_reverse (zc8 (n:=r) L hm (by omega) r2 (B1.put (mirror_perm _ _ _ _)) (Wu (KK_mirror_equal hz he) ni) h))
  · show wpS _ _ _ _ (if q > 0 then _ else _) _ _
    rw [if_neg hq0]
    exact zc8 (n:=r) L hm (by omega) r2 B1 ni h
theorem ziO {m:Nat}{Q:Option Nat→SortSt→Prop}(L:zic prog w A E s a₀ κ k)(hm:m≤a₀.size)(h1:1≤m)(B:SB k a₀ st)
    (h:∀ r t,SB k a₀ t→1≤r→r≤m→SortedToK κ (arrOf t) r→Q (some r) t):wpS (model prog w) A E s (countRun' 0 m) Q st:=by
  rw [countRun0_eq]
  refine wpS_bind (zfg L hm (Nat.le_refl 1) h1 B zdq fun n n1 n2 sn or=>?_)
  show wpS _ _ _ _ (if (n == m)=true then _ else if n > 1 then _ else _) _ _
  by_cases e:n=m
  · rw [if_pos (by rw [e];exact beq_self_eq_true m)]
    exact wpS_pure (h n st B n1 n2 sn)
  · rw [if_neg (fun z=>e (eq_of_beq z))]
    have lt:=or.resolve_left e
    by_cases g:n > 1
    · rw [if_pos g]
      refine wpS_bind (L _ 0 (n - 1) _ B (by omega) (by omega) ?_)
      cases c:κ.blt (KK κ (arrOf st) 0) (KK κ (arrOf st) (n - 1)) with
      | true=>exact wpS_pure (h n st B n1 n2 sn)
      | false =>
        have hz:n≤(arrOf st).size:=by rw [B.sz];omega
        have eq:∀ i,0≤i→i < n→KK κ (arrOf st) i=KK κ (arrOf st) (n - 1):=fun i _ hi =>
          KeyOrd.kle_antisymm (sn i (n - 1) (by omega) (by omega)) (KeyOrd.kle_trans c (sn 0 i (by omega) hi))
        have ni:NonIncK κ (arrOf st) n:=fun i j _ hj=>by rw [eq i (by omega) (by omega),eq j (by omega) hj];exact KeyOrd.kle_refl _
        exact wpS_bind (wpS_reverse (XL L hm (by omega) (B.put (mirror_perm _ _ _ _)) (Wu (KK_mirror_equal hz eq) (zhh ni (by omega) (KeyOrd.kle_of_klt lt))) h))
    · rw [if_neg g]
      obtain rfl:n=1:=by omega
      exact XL L hm (by omega) B (zhh zdt (Nat.le_refl 1) (KeyOrd.kle_of_klt lt)) h
theorem zj6 {l u md:Nat}(h:(l+u) / 2=md)(c:¬ l ≥ u):l≤md∧md < u:=by
  have c':l < u:=Nat.lt_of_not_le c
  rw [←h]
  exact ⟨(Nat.le_div_iff_mul_le (by decide)).mpr (by rw [Nat.mul_two];exact Nat.add_le_add_left (Nat.le_of_lt c') l),(Nat.div_lt_iff_lt_mul (by decide)).mpr (by rw [Nat.mul_two];exact Nat.add_lt_add_right c' u)⟩
theorem zlU {l u md x y:Nat}(m1:l≤md)(m2:md < u)(e3:u - l≤x - y):md - l≤x - (y+1) :=
  Nat.le_trans (Nat.le_sub_one_of_lt (Nat.sub_lt_sub_right m1 m2)) (Nat.sub_le_sub_right e3 1)
theorem zlS {l u md x y:Nat}(m1:l≤md)(e3:u - l≤x - y):u - (md+1)≤x - (y+1) :=
  Nat.le_trans (Nat.sub_le_sub_left (Nat.succ_le_succ m1) u) (Nat.sub_le_sub_right e3 1)
theorem zkU (r n:Nat):min (max (max r 1) n) n=n:=Nat.min_eq_right (Nat.le_max_right _ _)
theorem zkV {r n:Nat}(r0:¬ r=0)(hr:r≤n):min (max r 1) n=r:=by
  rw [Nat.max_eq_left (Nat.pos_of_ne_zero r0),Nat.min_eq_left hr]
theorem zlu {i j r n:Nat}(hr:r=0)(hij:i≤j)(hj:j < min (max r 1) n):i=j:=by
  subst hr
  have h0:j=0:=Nat.lt_one_iff.mp (Nat.lt_of_lt_of_le hj (Nat.min_le_left _ _))
  subst h0
  exact Nat.le_zero.mp hij
theorem ziE {n r:Nat}{Q:Bool→SortSt→Prop}(L:zic prog w A E s a₀ κ k)(hn:n≤a₀.size)(hr:r≤n)(B:SB k a₀ st)(hs:SortedToK κ (arrOf st) r)
    (h:∀ t,SB k a₀ t→SortedToK κ (arrOf t) n→Q true t):wpS (model prog w) A E s (binarySort' 0 n r) Q st:=by
  rw [binarySort'_eq]
  refine wpS_bind (wpS_mono (wpS_forRange (I:=fun x c t=>(c=(none,())∧SB k a₀ t)∧SortedToK κ (arrOf t) (min x n)) (Q:=fun c t=>(c=(none,())∧SB k a₀ t)∧SortedToK κ (arrOf t) n)
    (fun x c t g1 g2 hI=>?_) (fun c t hI=>?_) ⟨⟨rfl,B⟩,?_⟩) fun c t hI=>?_)
  · obtain ⟨⟨rfl,B1⟩,sx⟩:=hI
    rw [Nat.min_eq_left (Nat.le_of_lt g2)] at sx
    have hx:x < a₀.size:=Nat.lt_of_lt_of_le g2 hn
    refine wpS_bind (wpS_mono (wpS_forRange
      (I:=fun y c t'=>t'=t∧∃ l u,c=(none,l,u)∧(l≤u∧u≤x∧u - l≤x - y)∧(∀ i,i < l→κ.kle (KK κ (arrOf t) i) (KK κ (arrOf t) x))∧∀ i,u≤i→i < x→κ.klt (KK κ (arrOf t) x) (KK κ (arrOf t) i))
      (Q:=fun c t'=>t'=t∧∃ l u,c=(none,l,u)∧l≤x∧(∀ i,i < l→κ.kle (KK κ (arrOf t) i) (KK κ (arrOf t) x))∧∀ i,l≤i→i < x→κ.klt (KK κ (arrOf t) x) (KK κ (arrOf t) i))
      (fun y c t' y1 y2 hJ=>?_) (fun c t' hJ=>?_) ⟨rfl,0,x,rfl,⟨Nat.zero_le _,Nat.le_refl _,Nat.le_refl _⟩,fun i hi=>absurd hi (Nat.not_lt_zero _),fun i i1 i2=>absurd (Nat.lt_of_le_of_lt i1 i2) (Nat.lt_irrefl _)⟩) fun c t' hJ=>?_)
    · obtain ⟨rfl,l,u,rfl,⟨e1,e2,e3⟩,lo,up⟩:=hJ
      show wpS _ _ _ _ (if l ≥ u then _ else _) _ _
      by_cases c1:l ≥ u
      · rw [if_pos c1]
        obtain rfl:l=u:=Nat.le_antisymm e1 c1
        exact wpS_pure ⟨rfl,l,l,rfl,e2,lo,up⟩
      · rw [if_neg c1]
        generalize hmd:(l+u) / 2=md
        obtain ⟨m1,m2⟩:=zj6 hmd c1
        clear hmd c1 e1
        refine wpS_bind (L _ (0+x) (0+md) _ B1 (by rw [Nat.zero_add];exact hx) (by rw [Nat.zero_add];exact Nat.lt_of_lt_of_le m2 (Nat.le_trans e2 (Nat.le_of_lt hx))) ?_)
        rw [Nat.zero_add,Nat.zero_add]
        cases c2:κ.blt (KK κ (arrOf t') x) (KK κ (arrOf t') md) with
        | true=>exact wpS_pure ⟨rfl,l,md,rfl,⟨m1,Nat.le_trans (Nat.le_of_lt m2) e2,zlU m1 m2 e3⟩,lo,fun i i1 i2=>KeyOrd.klt_of_klt_of_kle c2 (sx _ _ i1 i2)⟩
        | false=>exact wpS_pure ⟨rfl,md+1,u,rfl,⟨m2,e2,zlS m1 e3⟩,fun i i1=>KeyOrd.kle_trans (sx i md (Nat.le_of_lt_succ i1) (Nat.lt_of_lt_of_le m2 e2)) c2,up⟩
    · obtain ⟨rfl,l,u,rfl,⟨e1,e2,e3⟩,lo,up⟩:=hJ
      obtain rfl:l=u:=by omega
      exact ⟨rfl,l,l,rfl,e2,lo,up⟩
    · obtain ⟨rfl,l,u,rfl,e2,lo,up⟩:=hJ
      show wpS _ _ _ _ (do moveDown' (0+x) (0+l);pure (ForInStep.yield (none,()))) _ _
      rw [moveDown'_eq,Nat.zero_add,Nat.zero_add]
      refine wpS_bind (wpS_modify (wpS_pure ⟨⟨rfl,B1.put (bubble_perm _ _ _)⟩,?_⟩))
      have hz:x < (arrOf t').size:=by rw [B1.sz];exact hx
      rw [Nat.min_eq_left (Nat.succ_le_of_lt g2)]
      show SortedToK κ (bubble (arrOf t') x (x - l)) (x+1)
      intro i j hij hj
      rw [KK_bubble hz (Nat.sub_le _ _),KK_bubble hz (Nat.sub_le _ _),Nat.sub_sub_self e2]
      by_cases i1:i=l
      · rw [if_pos i1]
        by_cases j1:j=l
        · rw [if_pos j1];exact KeyOrd.kle_refl _
        · have lj:l < j:=Nat.lt_of_le_of_ne (by rw [←i1];exact hij) (fun e=>j1 e.symm)
          rw [if_neg j1,if_pos ⟨lj,Nat.le_of_lt_succ hj⟩];exact KeyOrd.kle_of_klt (up _ (Nat.le_sub_one_of_lt lj) (Nat.lt_of_lt_of_le (Nat.sub_lt (Nat.zero_lt_of_lt lj) Nat.one_pos) (Nat.le_of_lt_succ hj)))
      · rw [if_neg i1]
        by_cases i2:l < i∧i≤x
        · have lj:=Nat.lt_of_lt_of_le i2.1 hij
          rw [if_pos i2,if_neg (fun e=>absurd lj (by rw [e];exact Nat.lt_irrefl _)),if_pos ⟨lj,Nat.le_of_lt_succ hj⟩];exact sx _ _ (Nat.sub_le_sub_right hij 1) (Nat.lt_of_lt_of_le (Nat.sub_lt (Nat.zero_lt_of_lt lj) Nat.one_pos) (Nat.le_of_lt_succ hj))
        · rw [if_neg i2]
          have i3:i < l:=Nat.lt_of_le_of_ne (Nat.le_of_not_lt fun h=>i2 ⟨h,Nat.le_trans hij (Nat.le_of_lt_succ hj)⟩) i1
          clear i2 i1
          by_cases j1:j=l
          · rw [if_pos j1];exact lo i i3
          · rw [if_neg j1]
            by_cases j2:l < j∧j≤x
            · rw [if_pos j2];exact sx _ _ (Nat.le_sub_one_of_lt (Nat.lt_trans i3 j2.1)) (Nat.lt_of_lt_of_le (Nat.sub_lt (Nat.zero_lt_of_lt j2.1) Nat.one_pos) (Nat.le_of_lt_succ hj))
            · rw [if_neg j2];exact sx _ _ hij (Nat.lt_of_lt_of_le (Nat.lt_of_le_of_ne (Nat.le_of_not_lt fun h=>j2 ⟨h,Nat.le_of_lt_succ hj⟩) j1) e2)
  · obtain ⟨⟨e1,B1⟩,sx⟩:=hI
    rw [zkU] at sx
    exact ⟨⟨e1,B1⟩,sx⟩
  · by_cases r0:r=0
    · intro i j hij hj
      obtain rfl:i=j:=zlu r0 hij hj
      exact KeyOrd.kle_refl _
    · rw [zkV r0 hr];exact hs
  · obtain ⟨⟨rfl,B1⟩,sx⟩:=hI
    exact wpS_pure (h t B1 sx)
theorem zgI {Q:Unit→SortSt→Prop}(L:zic prog w A E s a₀ κ k)(B:SB k a₀ st)(h2:2≤a₀.size)(h64:a₀.size < 64)
    (h:∀ t,(arrOf t).Perm a₀→failedOf t=none→SortedToK κ (arrOf t) a₀.size→Q () t):wpS (model prog w) A E s sortRuns' Q st:=by
  rw [sortRuns'_eq]
  have mr:minRun' a₀.size a₀.size 0=a₀.size:=by
    cases e:a₀.size with
    | zero=>omega
    | succ f=>rw [minRun'_succ,if_pos (by omega),Nat.add_zero]
  refine wpS_bind (wpS_get ?_)
  simp only [B.sz,mr]
  let Dn:SortSt→Prop:=fun t=>(arrOf t).Perm a₀∧failedOf t=none∧pendingOf t=#[(0,a₀.size,0)]∧SortedToK κ (arrOf t) a₀.size
  have fin:∀ t,SB k a₀ t→SortedToK κ (arrOf t) a₀.size→Dn (setPending t ((pendingOf t).push (0,a₀.size,0))):=fun t B1 sx=>⟨B1.pm,B1.fl,by show (pendingOf t).push _=_;rw [B1.pd];rfl,sx⟩
  refine wpS_bind (wpS_mono (wpS_forRange (I:=fun x c t=>(x=0∧c=(none,0)∧SB k a₀ t)∨(1≤x∧c=(none,a₀.size)∧Dn t)) (Q:=fun c t=>c=(none,a₀.size)∧Dn t)
    (fun x c t g1 g2 hI=>?_) (fun c t hI=>?_) (.inl ⟨rfl,rfl,B⟩)) fun c t hI=>?_)
  · rcases hI with ⟨rfl,rfl,B1⟩ | ⟨_,rfl,D1⟩
    · show wpS _ _ _ _ (if 0 ≥ a₀.size then _ else _) _ _
      rw [if_neg (by omega)]
      simp only [Nat.sub_zero,Nat.min_self,Nat.zero_add]
      refine wpS_bind (ziO L (Nat.le_refl _) (by omega) B1 fun r t2 B2 r1 r2 s2=>?_)
      show wpS _ _ _ _ (if r < a₀.size then _ else _) _ _
      by_cases c1:r < a₀.size
      · rw [if_pos c1]
        refine wpS_bind (wpS_lift (wpAny_rule ⟨rfl,wpS_bind (ziE L (Nat.le_refl _) r2 B2 s2 fun t3 B3 s3=>?_)⟩))
        refine wpS_bind (wpS_get ?_)
        rw [show (pendingOf t3).back?=none by rw [B3.pd];rfl]
        exact wpS_bind (wpS_modify (wpS_pure (.inr ⟨by omega,rfl,fin t3 B3 s3⟩)))
      · rw [if_neg c1]
        obtain rfl:r=a₀.size:=by omega
        refine wpS_bind (wpS_get ?_)
        rw [show (pendingOf t2).back?=none by rw [B2.pd];rfl]
        exact wpS_bind (wpS_modify (wpS_pure (.inr ⟨by omega,rfl,fin t2 B2 s2⟩)))
    · show wpS _ _ _ _ (if a₀.size ≥ a₀.size then _ else _) _ _
      rw [if_pos (Nat.le_refl _)]
      exact wpS_pure ⟨rfl,D1⟩
  · rcases hI with ⟨z,_,_⟩ | ⟨_,e,D1⟩
    · omega
    · exact ⟨e,D1⟩
  · obtain ⟨rfl,d1,d2,d3,d4⟩:=hI
    refine wpS_bind (wpS_mono (wpS_forRange (I:=fun _ c t'=>t'=t∧c=(none,())) (Q:=fun c t'=>t'=t∧c=(none,())) (fun x c t' _ _ hI=>?_) (fun _ _ z=>z) ⟨rfl,rfl⟩) fun c t' hI=>?_)
    · obtain ⟨rfl,rfl⟩:=hI
      refine wpS_bind (wpS_get ?_)
      rw [if_pos (by rw [d3];exact Nat.le_refl 1)]
      exact wpS_pure ⟨rfl,rfl⟩
    · obtain ⟨rfl,rfl⟩:=hI
      exact wpS_pure (h _ d1 d2 d4)
end
end OwnSort
namespace OwnSort
open PySem PyProof.Rows
abbrev Pr:=Int × Int
def bltP (s t:Pr):Bool:=decide (s.1 < t.1∨(s.1=t.1∧s.2 < t.2))
def TP (h:Heap) (v:Value) (t:Pr):Prop:=∃ a o n tx ty,v=.ref a∧h.get? a=some o∧o.cls=.type "tuple"∧o.data=.seq #[.int t.1 tx,.int t.2 ty] n
theorem TP.uniq {h:Heap}{v:Value}{s t:Pr}(x:TP h v s)(y:TP h v t):s=t:=by
  obtain ⟨a,o,n,tx,ty,rfl,e1,_,d1⟩:=x
  obtain ⟨b,o2,n2,ux,uy,e,e2,_,d2⟩:=y
  cases e
  rw [e1] at e2
  cases e2
  rw [d1] at d2
  injection d2 with d2 _
  have:=congrArg Array.toList d2
  simp at this
  exact Prod.ext this.1.1 this.2.1
theorem TP.keep {h h':Heap}{v:Value}{t:Pr}(x:TP h v t)(k:∀ b o,h.get? b=some o→h'.get? b=some o):TP h' v t:=by
  obtain ⟨a,o,n,tx,ty,e,e1,r⟩:=x
  exact ⟨a,o,n,tx,ty,e,k _ _ e1,r⟩
open Classical in
noncomputable def keyP (h:Heap)(v:Value):Option Pr:=if x:∃ t,TP h v t then some x.choose else none
theorem keyP_of {h:Heap}{v:Value}{t:Pr}(x:TP h v t):keyP h v=some t:=by
  unfold keyP
  have y:∃ t,TP h v t:=⟨t,x⟩
  rw [dif_pos y,y.choose_spec.uniq x]
@[reducible] noncomputable def zgL (h:Heap):KeyKind where
  α:=Pr
  blt:=bltP
  irrefl a:=by unfold bltP;exact decide_eq_false (by omega)
  trans a b c h1 h2:=by unfold bltP at *;rw [decide_eq_true_eq] at *;omega
  negTrans a b c h:=by unfold bltP at *;rw [decide_eq_true_eq] at *;rw [decide_eq_true_eq];omega
  total a b h1 h2:=by
    unfold bltP at *
    rw [decide_eq_false_iff_not] at *
    exact Prod.ext (by omega) (by omega)
  keyOf:=keyP h
  dflt:=(0,0)
theorem zeR (b:Bool)(x y:Value):keyLt' (tuples' b) x y=(do
    let xs←Builtin.List.listItems x
    let ys←Builtin.List.listItems y
    for ((p,q),i) in (xs.toList.zip ys.toList).zipIdx do
      if !(← eqBool p q) then return←oneLt' (b&&i == 0) p q
    return xs.size < ys.size):=rfl
theorem zfw (v:Value):firstOfTuple' v=(do
    if (← typeOf v) != .type "tuple" then return none
    return (← Builtin.List.listItems v)[0]?):=rfl
section
variable {prog:Program}{w:World}{A:Around}{E:Value→Shared→Prop}{s:Shared}
theorem lt0 {a b:Int}{t u:Tok}{Q:Bool→Shared→Prop}(h:Q (decide (a < b)) s):wpAny (model prog w) A (oneLt' false (.int a t) (.int b u)) Q E s:=by
  rw [oneLt'_eq]
  rw [if_neg Bool.false_ne_true]
  exact wpAny_bind (PyProof.Rows.lt_int (wpAny_truthy_bool h))
theorem zk4 {x y:Value}{a b:Pr}{Q:Bool→Shared→Prop}(hx:TP s.heap x a)(hy:TP s.heap y b)(h:Q (bltP a b) s):wpAny (model prog w) A (keyLt' (tuples' true) x y) Q E s:=by
  obtain ⟨p,o,n,t1,t2,rfl,e1,_,d1⟩:=hx
  obtain ⟨q,o2,n2,u1,u2,rfl,e2,_,d2⟩:=hy
  rw [zeR]
  refine wpAny_bind (listItems_at e1 d1 (wpAny_bind (listItems_at e2 d2 ?_)))
  simp only [List.zip_cons_cons,List.zip_nil_right,List.zipIdx_cons,List.zipIdx_nil,List.forIn_cons,List.forIn_nil]
  refine wpAny_bind (wpAny_bind (wpAny_bind (SeqAt.EqAt.int_int a.1 t1 b.1 u1 prog w E _ ?_)))
  by_cases c:a.1=b.1
  · rw [show (a.1 == b.1)=true by rw [c];exact beq_self_eq_true _]
    refine wpAny_pure (wpAny_bind (wpAny_bind (SeqAt.EqAt.int_int a.2 t2 b.2 u2 prog w E _ ?_)))
    by_cases c2:a.2=b.2
    · rw [show (a.2 == b.2)=true by rw [c2];exact beq_self_eq_true _]
      refine wpAny_pure (wpAny_pure (wpAny_pure ?_))
      have:bltP a b=false:=by unfold bltP;exact decide_eq_false (by omega)
      rw [this] at h
      exact h
    · rw [show (a.2 == b.2)=false by simpa using c2]
      refine wpAny_bind (lt0 (wpAny_pure (wpAny_pure (wpAny_pure ?_))))
      have:bltP a b=decide (a.2 < b.2):=by unfold bltP;congr 1;apply propext;omega
      rw [this] at h
      exact h
  · rw [show (a.1 == b.1)=false by simpa using c]
    refine wpAny_bind (oneLt_int (wpAny_pure (wpAny_pure (wpAny_pure ?_))))
    have:bltP a b=decide (a.1 < b.1):=by unfold bltP;congr 1;apply propext;omega
    rw [this] at h
    exact h
theorem zg7 {vs:List Value}(hT:∀ v∈vs,∃ t,TP s.heap v t):zic prog w A E s (pairsOf vs) (zgL s.heap) (tuples' true):=by
  intro st i j Q B hi hj h
  have look:∀ {i:Nat},i < (pairsOf vs).size→∃ x p t,(arrOf st)[i]?=some (x,p)∧TP s.heap x t∧KK (zgL s.heap) (arrOf st) i=t:=fun {i} hi=>by
    have hi':i < (arrOf st).size:=by rw [B.sz];exact hi
    have hm:(arrOf st)[i]∈(pairsOf vs).toList:=(Array.perm_iff_toList_perm.mp B.pm).mem_iff.mp (by simp)
    rw [pairsOf_toList] at hm
    obtain ⟨t,ht⟩:=hT _ (mem_zip_self hm).2
    refine ⟨(arrOf st)[i].1,(arrOf st)[i].2,t,getElem?_pos _ i hi',ht,?_⟩
    unfold KK
    rw [getElem?_pos _ i hi']
    show (keyP s.heap (arrOf st)[i].1).getD _=t
    rw [keyP_of ht]
    rfl
  obtain ⟨x,p,a,e1,ta,ka⟩:=look hi
  obtain ⟨y,q,b,e2,tb,kb⟩:=look hj
  rw [ka,kb] at h
  rw [ltAt'_eq]
  refine wpS_bind (wpS_get ?_)
  show wpS _ _ _ _ (elem' (arrOf st) i>>=fun x=>elem' (arrOf st) j>>=fun y=>lt' x y) Q st
  rw [elem'_eq,elem'_eq,e1,e2]
  refine wpS_bind (wpS_pure (wpS_bind (wpS_pure ?_)))
  rw [lt'_eq]
  refine wpS_bind (wpS_get ?_)
  rw [B.kd]
  exact wpS_bind (wpS_lift (wpAny_attempt (zk4 ta tb ⟨rfl,wpS_pure h⟩)))
theorem za6:∀ {vs:List Value} {Q:List (Option Value)→Shared→Prop},(∀ v∈vs,∃ t,TP s.heap v t)→(∀ fs:List Value,fs.length=vs.length→(∀ f∈fs,∃ i t,f=.int i t)→Q (fs.map some) s)→wpAny (model prog w) A (vs.mapM firstOfTuple') Q E s
  | [],Q,_,h=>by rw [List.mapM_nil];exact wpAny_pure (h [] rfl (by simp))
  | v::vs,Q,hT,h=>by
    obtain ⟨t,a,o,n,t1,t2,rfl,e1,c1,d1⟩:=hT v List.mem_cons_self
    rw [List.mapM_cons,zfw]
    refine wpAny_bind (wpAny_bind (wpAny_typeOf (T:="tuple") ⟨o,e1,c1⟩ ?_))
    rw [if_neg (by simp)]
    refine wpAny_bind (listItems_at e1 d1 (wpAny_pure (wpAny_bind (za6 (fun u hu=>hT u (List.mem_cons_of_mem _ hu)) fun fs hl hf=>wpAny_pure ?_))))
    exact h (.int t.1 t1::fs) (by simp [hl]) fun f hf'=>by
      rcases List.mem_cons.mp hf' with rfl | hf'
      · exact ⟨_,_,rfl⟩
      · exact hf f hf'
theorem zcS:∀ {fs:List Value},(∀ f∈fs,∃ i t,f=.int i t)→fs.mapM typeOf=pure (fs.map fun _=>Value.type "int")
  | [],_=>by simp
  | f::fs,h=>by
    obtain ⟨i,t,rfl⟩:=h f List.mem_cons_self
    rw [List.mapM_cons,zcS fun g hg=>h g (List.mem_cons_of_mem _ hg),show typeOf (.int i t)=pure (.type "int") from rfl]
    simp
theorem zd2 {v₁:Value}{vs:List Value}{Q:SortKind→Shared→Prop}(hT:∀ v∈v₁::vs,∃ t,TP s.heap v t)(h:Q (tuples' true) s):wpAny (model prog w) A (keyKind' (v₁::vs).toArray) Q E s:=by
  rw [keyKind'_eq,List.mapM_toArray,← bind_pure_comp,bind_assoc]
  refine wpAny_bind (za6 hT fun fs hl hf=>wpAny_bind (wpAny_pure ?_))
  cases fs with
  | nil=>simp at hl
  | cons f fs =>
    rw [if_pos (by simp)]
    have ef:((f::fs).map some).toArray.filterMap id=(f::fs).toArray:=by simp
    refine wpAny_bind (wpAny_rule ?_)
    rw [ef,oneTypeOnly'_eq,List.mapM_toArray,zcS hf]
    simp only [map_pure,pure_bind]
    rw [show (List.map (fun _=>Value.type "int") (f::fs)).toArray[0]?=some (Value.type "int") by simp]
    have al:((List.map (fun _=>Value.type "int") (f::fs)).toArray.all fun x=>x == Value.type "int")=true:=by
      simp only [List.all_toArray,List.all_map,List.all_eq_true]
      intro _ _
      rfl
    simp only [al,if_true,pure_bind,Option.any_some]
    rw [show (Value.type "int" != Value.type "tuple")=true by decide +kernel]
    exact wpAny_pure h
end
end OwnSort
namespace OwnSort
open PySem PyProof.Rows
theorem TP.keepT {h h':Heap} {v:Value} {t:Pr} (x:TP h v t) (k:∀ b o,o.cls=.type "tuple"→h.get? b=some o→h'.get? b=some o):TP h' v t:=by
  obtain ⟨a,o,n,tx,ty,e,e1,c,r⟩:=x
  exact ⟨a,o,n,tx,ty,e,k _ _ c e1,c,r⟩
def zlN (h:Heap)(out:List Value):Prop:=∃ ts:List Pr,out.length=ts.length∧(∀ (i:Nat) (v:Value) (t:Pr),out[i]?=some v→ts[i]?=some t→TP h v t)∧ts.Pairwise fun a b=>bltP b a=false
theorem zfb {h h':Heap}{vs:List Value}{xs:Array Keyed}(hT:∀ v∈vs,∃ t,TP h v t)(hk:∀ v t,TP h v t→TP h' v t)(pm:xs.Perm (pairsOf vs))(hs:SortedToK (zgL h') xs (pairsOf vs).size):(xs.map (·.2)).toList.Perm vs∧zlN h (xs.map (·.2)).toList:=by
  have hl:xs.toList.Perm (vs.zip vs):=by rw [←pairsOf_toList];exact Array.perm_iff_toList_perm.mp pm
  have hm:∀ p∈xs.toList,p.1=p.2∧p.1∈vs:=fun p hp=>mem_zip_self (hl.mem_iff.mp hp)
  have e2:(xs.map (·.2)).toList=xs.toList.map (·.2):=by simp
  rw [e2]
  refine ⟨?_,xs.toList.map fun p=>(keyP h' p.1).getD (0,0),by simp,fun i v t hv ht=>?_,?_⟩
  · have:=hl.map (·.2)
    rwa [show (vs.zip vs).map (·.2)=vs from List.map_snd_zip (Nat.le_refl _)] at this
  · rw [List.getElem?_map] at hv ht
    cases hx:xs.toList[i]? with
    | none=>rw [hx] at hv;cases hv
    | some p =>
      rw [hx] at hv ht
      cases hv
      cases ht
      obtain ⟨q1,q2⟩:=hm p (List.mem_of_getElem? hx)
      obtain ⟨t,ht⟩:=hT _ q2
      show TP h p.2 ((keyP h' p.1).getD (0,0))
      rw [keyP_of (hk _ _ ht),← q1]
      exact ht
  · rw [List.pairwise_iff_getElem]
    intro i j hi hj hij
    have hi':i < xs.size:=by simpa using hi
    have hj':j < xs.size:=by simpa using hj
    have:=hs i j (Nat.le_of_lt hij) (by rw [←pm.size_eq];exact hj')
    unfold KK at this
    rw [getElem?_pos xs i hi',getElem?_pos xs j hj'] at this
    have this:bltP ((keyP h' xs[j].1).getD (0,0)) ((keyP h' xs[i].1).getD (0,0))=false:=this
    simpa using this
section
variable {prog:Program}{w:World}{A:Around}{E:Value→Shared→Prop}{s:Shared}
theorem zaJ {a:Addr} {vs:List Value} {n:Nat} {P:Fin→Shared→Prop} (ho:s.heap.get? a=some (seqObj "list" vs.toArray n)) (hT:∀ v∈vs,∃ t,TP s.heap v t) (h64:vs.length < 64)
    (h:∀ out:Array Value,out.toList.Perm vs→zlN s.heap out.toList→P (.done (.ret .none)) { s with heap:=sortedHeap s.heap a vs out }):wpAny (model prog w) A (Builtin.«list.sort» ⟨[.ref a],[]⟩) P E s:=by
  have la:a < s.heap.objs.size:=Heap.lt_size ho
  have zl:vs.toArray.size=vs.length:=List.size_toArray
  obtain ⟨e1,o1⟩:∃ e1,(s.heap.update a (Obj.mapSeq fun _=>#[])).get? a=some (seqObj "list" #[] e1):=⟨_,get?_update_seq ho (fun _=>#[])⟩
  have o6:(((s.heap.update a (Obj.mapSeq fun _=>#[])).push (seqObj "tuple" vs.toArray 0)).push (seqObj "list" #[] 0)).get? a=some (seqObj "list" #[] e1):=Heap.get?_push_of_some _ (Heap.get?_push_of_some _ o1)
  have up:∀ b o,o.cls=.type "tuple"→s.heap.get? b=some o→(((s.heap.update a (Obj.mapSeq fun _=>#[])).push (seqObj "tuple" vs.toArray 0)).push (seqObj "list" #[] 0)).get? b=some o:=fun b o c e=>by
    refine Heap.get?_push_of_some _ (Heap.get?_push_of_some _ ((Heap.get?_update_other _ _ fun z=>?_).trans e))
    subst z
    rw [ho] at e
    cases e
    exact absurd (show Value.type "list"=Value.type "tuple" from c) (by decide +kernel)
  have hT6:∀ v∈vs,∃ t,TP (((s.heap.update a (Obj.mapSeq fun _=>#[])).push (seqObj "tuple" vs.toArray 0)).push (seqObj "list" #[] 0)) v t:=fun v hv=>let ⟨t,ht⟩:=hT v hv;⟨t,ht.keepT up⟩
  rw [list_sort_plain]
  refine wpAny_bind (listItems_at ho rfl (wpAny_bind (listUpdate_at ho rfl (wpAny_bind (seqEpoch_at o1 rfl (wpAny_bind (wpAny_newTuple (wpAny_bind (wpAny_newList (wpAny_holding ?_))))))))))
  show wpAny (model prog w) A _ P E { s with heap:=((s.heap.update a (Obj.mapSeq fun _=>#[])).push (seqObj "tuple" vs.toArray 0)).push (seqObj "list" #[] 0) }
  by_cases c2:vs.toArray.size < 2
  · rw [if_pos c2,if_pos c2]
    refine wpAny_bind (wpAny_pure ?_)
    dsimp only
    rw [StateT.run_pure]
    refine wpAny_bind (wpAny_pure ?_)
    obtain ⟨r1,r2⟩:=zfb (xs:=pairsOf vs) hT (fun v t ht=>ht) (Array.Perm.refl _) (fun i j hij hj=>by
      obtain rfl:i=j:=by rw [pairsOf_size] at hj;omega
      exact KeyOrd.kle_refl _)
    refine wpAny_bind (seqEpoch_at o6 rfl (wpAny_bind (listUpdate_at o6 rfl ?_ (hsz2:=by rw [Array.size_map];show (pairsOf vs).size≤_;rw [pairsOf_size,sizeLine_eq];omega))))
    rw [show (e1 != e1)=false by simp]
    exact wpAny_pure (h _ r1 r2)
  · rw [if_neg c2,if_neg c2]
    cases vs with
    | nil=>simp at c2
    | cons v₁ rest =>
      refine wpAny_bind (zd2 hT6 ?_)
      refine wpAny_bind (wpAny_mono (zgI (st:=SortSt.mk' (tuples' true) ((v₁::rest).toArray.zip (v₁::rest).toArray) #[] 7 none) (Q:=fun _ t=>(arrOf t).Perm (pairsOf (v₁::rest))∧failedOf t=none∧SortedToK (zgL _) (arrOf t) (pairsOf (v₁::rest)).size)
        (zg7 hT6) ⟨Array.Perm.refl _,rfl,rfl,rfl⟩ (by rw [pairsOf_size];omega) (by rw [pairsOf_size];exact h64) fun t p1 p2 p3=>⟨p1,p2,p3⟩) ?_ fun _ _ e=>e)
      rintro ⟨⟨⟩,t⟩ s' ⟨rfl,p1,p2,p3⟩
      obtain ⟨r1,r2⟩:=zfb hT (fun v t ht=>ht.keepT up) p1 p3
      refine wpAny_bind (seqEpoch_at o6 rfl (wpAny_bind (listUpdate_at o6 rfl ?_ (hsz2:=by rw [Array.size_map];show (arrOf t).size≤_;rw [p1.size_eq,pairsOf_size,sizeLine_eq];omega))))
      rw [p2,show (e1 != e1)=false by simp]
      exact wpAny_pure (h _ r1 r2)
theorem own_sorted {l:Addr}{vs:List Value}{Q:Value→Shared→Prop}(hl:s.heap.IsList l vs.toArray)(hT:∀ v∈vs,∃ t,TP s.heap v t)(h64:vs.length < 64)
    (h:∀ out:Array Value,out.toList.Perm vs→zlN s.heap out.toList→Q (.ref (s.heap.objs.size+1)) { s with heap:=sortedAll s.heap vs out }):wpAny (model prog w) A (call (.builtin "sorted") [.ref l]) Q E s:=by
  have z1:((s.heap.push (seqObj "list" #[] 0)).update s.heap.objs.size (Obj.mapSeq (·++vs.toArray))).objs.size=s.heap.objs.size+1:=(Heap.size_update ..).trans (size_push' _ _)
  have oL:(((s.heap.push (seqObj "list" #[] 0)).update s.heap.objs.size (Obj.mapSeq (·++vs.toArray))).push (seqObj "list" vs.toArray 0)).get? (s.heap.objs.size+1)=some (seqObj "list" vs.toArray 0):=z1 ▸ Heap.get?_push_size _ rfl
  have up:∀ b o,s.heap.get? b=some o→(((s.heap.push (seqObj "list" #[] 0)).update s.heap.objs.size (Obj.mapSeq (·++vs.toArray))).push (seqObj "list" vs.toArray 0)).get? b=some o:=fun b o e =>
    Heap.get?_push_of_some _ ((Heap.get?_update_other _ _ fun z=>by subst z;exact absurd (Heap.lt_size e) (Nat.lt_irrefl _)).trans (Heap.get?_push_of_some _ e))
  refine Calls.call_function_entry kind_sorted plain_sorted entry_sorted (args_sorted1 _) ?_
  unfold Builtin.«sorted»
  refine wpAny_bind (m:=checkCount "sorted" 1 1 _) (wpAny_pure (wpAny_bind (collect_list hl (wpAny_bind (wpAny_newList ?_)))))
  show wpAny _ _ _ _ _ (Shared.mk (((s.heap.push (seqObj "list" #[] 0)).update s.heap.objs.size (Obj.mapSeq (·++vs.toArray))).push (seqObj "list" vs.toArray 0)) s.gens s.drawn s.toks s.os)
  rw [z1]
  refine wpAny_bind (wpAny_holding (wpAny_call_entry slot_list_sort ⟨_,oL,rfl⟩ entry_list_sort (zaJ oL (fun v hv=>let ⟨t,ht⟩:=hT v hv;⟨t,ht.keep up⟩) h64 fun out p1 p2=>⟨_,rfl,wpAny_pure ⟨_,rfl,h out p1 ?_⟩⟩) (args_list_sort _)))
  obtain ⟨ts,q1,q2,q3⟩:=p2
  refine ⟨ts,q1,fun i v t hv ht=>?_,q3⟩
  obtain ⟨t0,ht0⟩:=hT v (p1.mem_iff.mp (List.mem_of_getElem? hv))
  rw [(q2 i v t hv ht).uniq (ht0.keep up)]
  exact ht0
end
end OwnSort
namespace Dl
open PySem L2
class KK where
  K:PySem.W.Frag
inductive D where
  | non | bl (b:Bool) | int (i:Int) | str (x:Str) | tup (ds:List D) | lst (ds:List D) | scr (ns:List Int)
    | dct (z t:Bool) (ks:List (List Key)) (vs:List D)
  deriving Inhabited
section
variable [KK]
def zkH (o:HO)(t:Bool)(ks:List (List Key))(xs:List V):Prop :=
  if t=true then ∃ kvs,o=.dT kvs∧kvs.map (·.1)=ks∧kvs.map (·.2)=xs else ∃ kvs:List (Key × V),o=.dK kvs∧kvs.map (fun p=>[p.1])=ks∧kvs.map (·.2)=xs
def zb9 (H:Hp)(a:Addr)(z t:Bool)(ks:List (List Key))(xs:List V):Prop :=
  ∃ u,zkH u t ks xs∧if z=true then ∃ ob,H a=some (.frz ob u) else H a=some u
theorem zb9.mono {H H':Hp}{a:Addr}{z t:Bool}{ks:List (List Key)}{xs:List V}(s:yJ H H')(h:zb9 H a z t ks xs):zb9 H' a z t ks xs:=by
  obtain ⟨u,h1,h2⟩:=h
  refine ⟨u,h1,?_⟩
  cases z with
  | true =>
    rw [if_pos rfl] at h2 ⊢
    obtain ⟨ob,h2⟩:=h2
    exact ⟨ob,s _ _ h2⟩
  | false =>
    rw [if_neg Bool.false_ne_true] at h2 ⊢
    exact s _ _ h2
theorem zb9.rd {H:Hp}{a:Addr}{z t:Bool}{ks:List (List Key)}{xs:List V}(h:zb9 H a z t ks xs):∃ u,zkH u t ks xs∧Rd H a u:=by
  obtain ⟨u,h1,h2⟩:=h
  refine ⟨u,h1,?_⟩
  cases z with
  | true =>
    rw [if_pos rfl] at h2
    obtain ⟨ob,h2⟩:=h2
    exact .inr ⟨ob,h2⟩
  | false =>
    rw [if_neg Bool.false_ne_true] at h2
    exact .inl h2
mutual
def At (H:Hp):D→V→Prop
  | .non,v=>v=.non
  | .bl b,v=>v=.bl b
  | .int i,v=>v=.int i
  | .str x,v=>v=.str x
  | .tup ds,v=>∃ a xs,v=.ref a∧H a=some (.tup xs)∧AtL H ds xs
  | .lst ds,v=>∃ a xs,v=.ref a∧H a=some (.lst xs)∧AtL H ds xs
  | .scr ns,v=>∃ a,v=.ref a∧SqL KK.K H a (ns.map V.int)
  | .dct z t ks vs,v=>∃ a xs,v=.ref a∧zb9 H a z t ks xs∧AtL H vs xs
def AtL (H:Hp):List D→List V→Prop
  | [],xs=>xs=[]
  | d::ds,xs=>∃ x r,xs=x::r∧At H d x∧AtL H ds r
end
mutual
theorem At.mono {H H':Hp}(s:yJ H H'):∀ {d:D} {v:V},At H d v→At H' d v
  | .non,_,h=>by unfold At at h ⊢;exact h
  | .bl _,_,h=>by unfold At at h ⊢;exact h
  | .int _,_,h=>by unfold At at h ⊢;exact h
  | .str _,_,h=>by unfold At at h ⊢;exact h
  | .tup ds,_,h=>by
    unfold At at h ⊢
    obtain ⟨a,xs,e,hx,hl⟩:=h
    exact ⟨a,xs,e,s _ _ hx,AtL.mono s hl⟩
  | .lst ds,_,h=>by
    unfold At at h ⊢
    obtain ⟨a,xs,e,hx,hl⟩:=h
    exact ⟨a,xs,e,s _ _ hx,AtL.mono s hl⟩
  | .scr ns,_,h=>by
    unfold At at h ⊢
    obtain ⟨a,e,hx⟩:=h
    exact ⟨a,e,s.seq hx⟩
  | .dct z t ks vs,_,h=>by
    unfold At at h ⊢
    obtain ⟨a,xs,e,hx,hl⟩:=h
    exact ⟨a,xs,e,hx.mono s,AtL.mono s hl⟩
theorem AtL.mono {H H':Hp}(s:yJ H H'):∀ {ds:List D} {xs:List V},AtL H ds xs→AtL H' ds xs
  | [],_,h=>by unfold AtL at h ⊢;exact h
  | d::ds,_,h=>by
    unfold AtL at h ⊢
    obtain ⟨x,r,e,h1,h2⟩:=h
    exact ⟨x,r,e,At.mono s h1,AtL.mono s h2⟩
end
mutual
def noL:D→Bool
  | .tup ds=>zkF ds
  | .lst _=>false
  | .scr _=>false
  | .dct _ _ _ _=>false
  | _=>true
def zkF:List D→Bool
  | []=>true
  | d::ds=>noL d&&zkF ds
end
mutual
theorem At.flat {G F:Hp}(h:∀ q xs,G q=some (.tup xs)→F q=some (.tup xs)):∀ {d:D} {v:V},noL d=true→At G d v→At F d v
  | .non,_,_,a=>by unfold At at a ⊢;exact a
  | .bl _,_,_,a=>by unfold At at a ⊢;exact a
  | .int _,_,_,a=>by unfold At at a ⊢;exact a
  | .str _,_,_,a=>by unfold At at a ⊢;exact a
  | .tup ds,_,n,a=>by
    unfold At at a ⊢
    unfold noL at n
    obtain ⟨p,xs,e,hx,hl⟩:=a
    exact ⟨p,xs,e,h _ _ hx,AtL.flat h n hl⟩
  | .lst ds,_,n,_=>by unfold noL at n;cases n
  | .scr ds,_,n,_=>by unfold noL at n;cases n
  | .dct _ _ _ _,_,n,_=>by unfold noL at n;cases n
theorem AtL.flat {G F:Hp}(h:∀ q xs,G q=some (.tup xs)→F q=some (.tup xs)):∀ {ds:List D} {xs:List V},zkF ds=true→AtL G ds xs→AtL F ds xs
  | [],_,_,a=>by unfold AtL at a ⊢;exact a
  | d::ds,_,n,a=>by
    unfold AtL at a ⊢
    unfold zkF at n
    rw [Bool.and_eq_true] at n
    obtain ⟨x,r,e,h1,h2⟩:=a
    exact ⟨x,r,e,At.flat h n.1 h1,AtL.flat h n.2 h2⟩
end
section
variable {H H':Hp}{d:D}{ds es:List D}{v x:V}{xs ys:List V}
theorem At.int {i:Int}:At H (.int i) (.int i):=by unfold At;rfl
theorem At.bl {b:Bool}:At H (.bl b) (.bl b):=by unfold At;rfl
theorem At.non:At H .non .non:=by unfold At;rfl
theorem At.str {y:Str}:At H (.str y) (.str y):=by unfold At;rfl
theorem At.tup {a:Addr}(h:H a=some (.tup xs))(hl:AtL H ds xs):At H (.tup ds) (.ref a):=by unfold At;exact ⟨a,xs,rfl,h,hl⟩
theorem At.lst {a:Addr}(h:H a=some (.lst xs))(hl:AtL H ds xs):At H (.lst ds) (.ref a):=by unfold At;exact ⟨a,xs,rfl,h,hl⟩
theorem AtL.nil:AtL H [] []:=by unfold AtL;rfl
theorem AtL.cons (h:At H d x)(hl:AtL H ds xs):AtL H (d::ds) (x::xs):=by unfold AtL;exact ⟨x,xs,rfl,h,hl⟩
theorem At.int_inv {i:Int}(h:At H (.int i) v):v=.int i:=by unfold At at h;exact h
theorem At.bl_inv {b:Bool}(h:At H (.bl b) v):v=.bl b:=by unfold At at h;exact h
theorem At.non_inv (h:At H .non v):v=.non:=by unfold At at h;exact h
theorem At.str_inv {y:Str}(h:At H (.str y) v):v=.str y:=by unfold At at h;exact h
theorem At.tup_inv (h:At H (.tup ds) v):∃ a xs,v=.ref a∧H a=some (.tup xs)∧AtL H ds xs:=by unfold At at h;exact h
theorem At.lst_inv (h:At H (.lst ds) v):∃ a xs,v=.ref a∧H a=some (.lst xs)∧AtL H ds xs:=by unfold At at h;exact h
theorem At.scr_inv {ns:List Int}(h:At H (.scr ns) v):∃ a,v=.ref a∧SqL KK.K H a (ns.map V.int):=by unfold At at h;exact h
theorem At.dct_inv {z t:Bool}{ks:List (List Key)}{vs:List D}(h:At H (.dct z t ks vs) v):∃ a xs,v=.ref a∧zb9 H a z t ks xs∧AtL H vs xs:=by unfold At at h;exact h
theorem AtL.nil_inv (h:AtL H [] xs):xs=[]:=by unfold AtL at h;exact h
theorem AtL.cons_inv (h:AtL H (d::ds) xs):∃ x r,xs=x::r∧At H d x∧AtL H ds r:=by unfold AtL at h;exact h
theorem AtL.length:∀ {ds:List D} {xs:List V},AtL H ds xs→xs.length=ds.length
  | [],_,h=>by rw [h.nil_inv];rfl
  | _::_,_,h=>by
    obtain ⟨x,r,rfl,_,h2⟩:=h.cons_inv
    rw [List.length_cons,List.length_cons,AtL.length h2]
theorem AtL.get:∀ {ds:List D} {xs:List V} {i:Nat} {d:D},AtL H ds xs→ds[i]?=some d→∃ x,xs[i]?=some x∧At H d x
  | [],_,_,_,_,e=>by simp at e
  | _::_,_,i,_,h,e=>by
    obtain ⟨x,r,rfl,h1,h2⟩:=h.cons_inv
    cases i with
    | zero =>
      simp at e
      subst e
      exact ⟨x,rfl,h1⟩
    | succ i =>
      obtain ⟨y,hy,ha⟩:=AtL.get (i:=i) h2 (by simpa using e)
      exact ⟨y,by simpa using hy,ha⟩
theorem AtL.append:∀ {ds es:List D} {xs ys:List V},AtL H ds xs→AtL H es ys→AtL H (ds++es) (xs++ys)
  | [],_,_,_,h,k=>by rw [h.nil_inv];exact k
  | _::_,_,_,_,h,k=>by
    obtain ⟨x,r,rfl,h1,h2⟩:=h.cons_inv
    exact .cons h1 (AtL.append h2 k)
theorem AtL.snoc (h:AtL H ds xs)(k:At H d v):AtL H (ds++[d]) (xs++[v]):=h.append (.cons k .nil)
theorem AtL.take:∀ (n:Nat) {ds:List D} {xs:List V},AtL H ds xs→AtL H (ds.take n) (xs.take n)
  | 0,_,_,_=>by simpa using AtL.nil
  | n+1,[],_,h=>by rw [h.nil_inv];simpa using AtL.nil
  | n+1,_::_,_,h=>by
    obtain ⟨x,r,rfl,h1,h2⟩:=h.cons_inv
    rw [List.take_succ_cons,List.take_succ_cons]
    exact .cons h1 (AtL.take n h2)
theorem AtL.drop:∀ (n:Nat) {ds:List D} {xs:List V},AtL H ds xs→AtL H (ds.drop n) (xs.drop n)
  | 0,_,_,h=>h
  | n+1,[],_,h=>by rw [h.nil_inv];simpa using AtL.nil
  | n+1,_::_,_,h=>by
    obtain ⟨x,r,rfl,h1,h2⟩:=h.cons_inv
    rw [List.drop_succ_cons,List.drop_succ_cons]
    exact AtL.drop n h2
theorem AtL.set:∀ (n:Nat) {ds:List D} {xs:List V},AtL H ds xs→At H d v→AtL H (ds.set n d) (xs.set n v)
  | _,[],_,h,_=>by rw [h.nil_inv];simpa using AtL.nil
  | 0,_::_,_,h,k=>by
    obtain ⟨x,r,rfl,h1,h2⟩:=h.cons_inv
    exact .cons k h2
  | n+1,_::_,_,h,k=>by
    obtain ⟨x,r,rfl,h1,h2⟩:=h.cons_inv
    exact .cons h1 (AtL.set n h2 k)
theorem AtL.rep (h:AtL H ds xs):∀ k:Nat,AtL H (List.replicate k ds).flatten (List.replicate k xs).flatten
  | 0=>.nil
  | k+1=>by
    rw [List.replicate_succ,List.replicate_succ,List.flatten_cons,List.flatten_cons]
    exact h.append (AtL.rep h k)
theorem AtL.ints (ns:List Int):AtL H (ns.map D.int) (ns.map V.int):=by
  induction ns with
  | nil=>exact .nil
  | cons n r ih=>exact .cons .int ih
theorem AtL.of_ints:∀ {ns:List Int} {xs:List V},AtL H (ns.map D.int) xs→xs=ns.map V.int
  | [],_,h=>h.nil_inv
  | n::r,_,h=>by
    obtain ⟨x,r',rfl,h1,h2⟩:=AtL.cons_inv (by simpa using h)
    rw [h1.int_inv,AtL.of_ints h2]
    rfl
end
def tyN:D→String
  | .non=>"NoneType" | .bl _=>"bool" | .int _=>"int" | .str _=>"str" | .tup _=>"tuple" | .lst _=>"list" | .scr _=>"list" | .dct _ _ _ _=>"dict"
def Hid (F':Hp)(p:Addr)(o:HO):Prop:=F' p=none∨((∃ xs,o=.tup xs)∧F' p=some o)
def Keep (F H F' H':Hp):Prop:=∀ p o,F p=none→H p=some o→Hid F' p o∧H' p=some o
set_option genInjectivity false in
set_option genSizeOf false in
set_option genCtorIdx false in
structure Gr (F H F' H':Hp):Prop where
  ff:yJ F F'
  fh:yJ F' H'
  kp:Keep F H F' H'
theorem Gr.refl {F H:Hp}(s:yJ F H):Gr F H F H:=⟨yJ.refl _,s,fun _ _ a b=>⟨.inl a,b⟩⟩
theorem Gr.trans {F H F1 H1 F2 H2:Hp}(a:Gr F H F1 H1)(b:Gr F1 H1 F2 H2):Gr F H F2 H2 :=
  ⟨a.ff.trans b.ff,b.fh,fun p o e1 e2=>by
    obtain ⟨x,y⟩:=a.kp p o e1 e2
    rcases x with x | ⟨x1,x2⟩
    · exact b.kp p o x y
    · exact ⟨.inr ⟨x1,b.ff _ _ x2⟩,b.fh _ _ (b.ff _ _ x2)⟩⟩
theorem Gr.kl {F H F' H':Hp}{p:Addr}{o:HO}(g:Gr F H F' H')(n:∀ xs,o≠.tup xs)(e1:F p=none)(e2:H p=some o):F' p=none∧H' p=some o:=by
  obtain ⟨x,y⟩:=g.kp p o e1 e2
  rcases x with x | ⟨⟨xs,x1⟩,_⟩
  · exact ⟨x,y⟩
  · exact absurd x1 (n xs)
theorem Gr.alloc {F H:Hp}{p:Addr}(s:yJ F H)(h:H p=none)(o:HO):Gr F H (upd F p o) (upd H p o):=by
  have hF:F p=none:=s.free h
  refine ⟨fun b u q=>?_,fun b u q=>?_,fun b u q r=>?_⟩
  · rw [zr (zn q hF)];exact q
  · by_cases e:b=p
    · subst e;rw [zu] at q ⊢;exact q
    · rw [zr e] at q ⊢;exact s b u q
  · have e:b≠p:=zn r h
    rw [zr e];exact ⟨.inl (by rw [zr e];exact q),r⟩
theorem Gr.hide {F H:Hp}{p:Addr}(s:yJ F H)(h:H p=none)(o:HO):Gr F H F (upd H p o):=by
  refine ⟨yJ.refl _,fun b u q=>?_,fun b u q r=>?_⟩
  · rw [zr (zn (s b u q) h)];exact s b u q
  · have e:b≠p:=zn r h
    rw [zr e];exact ⟨.inl q,r⟩
theorem Gr.show {F H:Hp}{p:Addr}{o:HO}{F0 H0:Hp}(g:Gr F0 H0 F H)(h0:H0 p=none)(hF:F p=none)(h:H p=some o):Gr F0 H0 (upd F p o) H:=by
  refine ⟨fun b u q=>?_,fun b u q=>?_,fun b u q r=>?_⟩
  · have:=g.ff b u q
    rw [zr (zn this hF)];exact this
  · by_cases e:b=p
    · subst e;rw [zu] at q;rw [←q];exact h
    · rw [zr e] at q;exact g.fh b u q
  · have e:b≠p:=zn r h0
    obtain ⟨x,y⟩:=g.kp b u q r
    refine ⟨?_,y⟩
    unfold Hid
    rw [zr e]
    exact x
abbrev Ev:=List (Option D)
def VAt (F:Hp)(ρ:Ev)(σ:St):Prop:=∀ (i:Nat) (d:D),ρ[i]?=some (some d)→∃ v,σ[i]?=some (some v)∧At F d v
theorem VAt.mono {F F':Hp}{ρ:Ev}{σ:St}(h:VAt F ρ σ)(s:yJ F F'):VAt F' ρ σ:=fun i d e=>let ⟨v,e1,a⟩:=h i d e;⟨v,e1,a.mono s⟩
def RE (t:TE)(f:Ev→Option D):Prop :=
  ∀ (σ:St) (ρ:Ev) (F H:Hp) (d:D) (Q:VK),yJ F H→VAt F ρ σ→f ρ=some d→(∀ F' H' v,Gr F H F' H'→At F' d v→Q v H')→t σ H Q
def RT (t:TT)(f:Ev→Option Bool):Prop :=
  ∀ (σ:St) (ρ:Ev) (F H:Hp) (b:Bool) (Q:Bool→Hp→Prop),yJ F H→VAt F ρ σ→f ρ=some b→(∀ F' H',Gr F H F' H'→Q b H')→t σ H Q
def RA (t:TA)(f:Ev→Option (List D)):Prop :=
  ∀ (σ:St) (ρ:Ev) (F H:Hp) (ds:List D) (Q:List V→Hp→Prop),yJ F H→VAt F ρ σ→f ρ=some ds→(∀ F' H' vs,Gr F H F' H'→AtL F' ds vs→Q vs H')→t σ H Q
def RF (t:TE)(f:Ev→Option (List D)):Prop :=
  ∀ (σ:St) (ρ:Ev) (F H:Hp) (ds:List D) (Q:VK),yJ F H→VAt F ρ σ→f ρ=some ds→(∀ F' H' p xs,Gr F H F' H'→H p=none→F' p=none→H' p=some (.lst xs)→AtL F' ds xs→Q (.ref p) H')→t σ H Q
def ED (X:Cx)(e:Expr)(f:Ev→Option D):Prop:=∃ t,PE X e t∧RE t f
def TD (X:Cx)(e:Expr)(f:Ev→Option Bool):Prop:=∃ t,PT X e t∧RT t f
def WD (X:Cx)(e:Expr)(f:Ev→Option Bool):Prop:=∃ t,PW X e t∧RT t f
def AD (X:Cx)(es:List Expr)(f:Ev→Option (List D)):Prop:=∃ t,PA X es t∧RA t f
def FL (X:Cx)(e:Expr)(f:Ev→Option (List D)):Prop:=∃ t,PE X e t∧RF t f
section
variable {X:Cx}{a b c:Expr}{pos:Pos}
def xW (f:Ev→Option (List D)):Ev→Option D:=fun ρ=>(f ρ).map .lst
theorem vq {f:Ev→Option (List D)}(h:FL X a f):ED X a (xW f):=by
  obtain ⟨t,ht,r⟩:=h
  refine ⟨t,ht,fun σ ρ F H d Q s va e q=>?_⟩
  obtain ⟨ds,e1,rfl⟩:=Option.map_eq_some_iff.mp e
  refine r σ ρ F H ds Q s va e1 fun F' H' p xs g h0 hF hH hx=>?_
  have g2:=g.show h0 hF hH
  exact q _ _ _ g2 (At.lst zu (hx.mono (fun b u e=>by rw [zr (zn e hF)];exact e)))
def zf (i:Nat):Ev→Option D:=fun ρ=>(ρ[i]?).getD none
theorem za (i:Nat)(h:PE X a (zb0 i)):ED X a (zf i):=by
  refine ⟨_,h,fun σ ρ F H d Q s va e q=>?_⟩
  have e':ρ[i]?=some (some d):=by
    unfold zf at e
    cases h:ρ[i]? with
    | none=>rw [h] at e;cases e
    | some x=>rw [h] at e;cases x with
      | none=>cases e
      | some y=>cases e;rfl
  obtain ⟨v,e1,a1⟩:=va i d e'
  exact ⟨v,e1,q _ _ _ (.refl s) a1⟩
def eC (d:D):Ev→Option D:=fun _=>some d
theorem zd {i:Int}(h:PE X a (tC (.int i))):ED X a (eC (.int i)):=⟨_,h,fun _ _ _ _ _ _ s _ e q=>by cases e;exact q _ _ _ (.refl s) .int⟩
theorem YE {i:Bool}(h:PE X a (tC (.bl i))):ED X a (eC (.bl i)):=⟨_,h,fun _ _ _ _ _ _ s _ e q=>by cases e;exact q _ _ _ (.refl s) .bl⟩
theorem zft {i:Str}(h:PE X a (tC (.str i))):ED X a (eC (.str i)):=⟨_,h,fun _ _ _ _ _ _ s _ e q=>by cases e;exact q _ _ _ (.refl s) .str⟩
theorem zby (h:PE X a (tC .non)):ED X a (eC .non):=⟨_,h,fun _ _ _ _ _ _ s _ e q=>by cases e;exact q _ _ _ (.refl s) .non⟩
def OpD (r:R2)(g:D→D→Option D):Prop :=
  ∀ (F H:Hp) (x y:V) (d e z:D) (Q:VK),yJ F H→At F d x→At F e y→g d e=some z→(∀ F' H' v,Gr F H F' H'→At F' z v→Q v H')→r x y H Q
def zm (g:D→D→Option D)(f h:Ev→Option D):Ev→Option D:=fun ρ=>(f ρ).bind fun x=>(h ρ).bind fun y=>g x y
theorem zgN {r:R2}{g:D→D→Option D}{ta tb:TE}{f h:Ev→Option D}(hg:OpD r g)(ra:RE ta f)(rb:RE tb h):RE (tOp r ta tb) (zm g f h):=by
  intro σ ρ F H z Q s va e q
  obtain ⟨x,e1,e⟩:=Option.bind_eq_some_iff.mp e
  obtain ⟨y,e2,e⟩:=Option.bind_eq_some_iff.mp e
  refine ra σ ρ F H x _ s va e1 fun F1 H1 v g1 a1=>?_
  refine rb σ ρ F1 H1 y _ g1.fh (va.mono g1.ff) e2 fun F2 H2 u g2 a2=>?_
  exact hg F2 H2 v u x y z Q g2.fh (a1.mono g2.ff) a2 e fun F3 H3 w g3 a3=>q F3 H3 w ((g1.trans g2).trans g3) a3
theorem Vh {op:Operator}{r:R2}{g:D→D→Option D}{f h:Ev→Option D}(ho:OpR X (binaryOp op) r)(hg:OpD r g)(ha:ED X a f)(hb:ED X b h):ED X (.BinOp a op b pos) (zm g f h) :=
  let ⟨_,pa,ra⟩:=ha
  let ⟨_,pb,rb⟩:=hb
  ⟨_,zg6 ho pa pb,zgN hg ra rb⟩
theorem XJ {op:CmpOp}{r:R2}{g:D→D→Option D}{f h:Ev→Option D}(ho:OpR X (compareOp op) r)(hg:OpD r g)(hm:behindInMarks op b=false)(ha:ED X a f)(hb:ED X b h):ED X (.Compare a [op] [b] pos) (zm g f h) :=
  let ⟨_,pa,ra⟩:=ha
  let ⟨_,pb,rb⟩:=hb
  ⟨_,ziC ho pa pb hm,zgN hg ra rb⟩
def asB:D→Option Bool
  | .bl b=>some b
  | _=>none
theorem Wm {d:D}{b:Bool}(h:asB d=some b):d=.bl b:=by
  cases d <;> first | (cases h;rfl) | cases h
def tOf (f:Ev→Option D):Ev→Option Bool:=fun ρ=>(f ρ).bind asB
theorem zjM {t:TE}{f:Ev→Option D}(r:RE t f):RT (zi3 t) (tOf f):=by
  intro σ ρ F H b Q s va e q
  obtain ⟨x,e1,e⟩:=Option.bind_eq_some_iff.mp e
  cases Wm e
  exact r σ ρ F H _ _ s va e1 fun F1 H1 v g1 a1=>⟨b,a1.bl_inv,q F1 H1 g1⟩
theorem zJ {op:CmpOp}{r:R2}{g:D→D→Option D}{f h:Ev→Option D}(ho:OpR X (compareOp op) r)(hg:OpD r g)(hm:behindInMarks op b=false)(ha:ED X a f)(hb:ED X b h):TD X (.Compare a [op] [b] pos) (tOf (zm g f h)) :=
  let ⟨_,pa,ra⟩:=ha
  let ⟨_,pb,rb⟩:=hb
  ⟨_,zeX ho pa pb hm,zjM (zgN hg ra rb)⟩
theorem wq {f:Ev→Option D}(ha:ED X a f)(he:∀ whole,isTrue a X.env whole=(do let v←whole;standAt a.pos;holding [v] (truthy v)):=by intro _;rfl):TD X a (tOf f) :=
  let ⟨_,pa,ra⟩:=ha
  ⟨_,zh1 pa he,zjM ra⟩
def xK (f g:Ev→Option Bool):Ev→Option Bool:=fun ρ=>(f ρ).bind fun c=>if c=true then g ρ else some false
def Zt (f g:Ev→Option Bool):Ev→Option Bool:=fun ρ=>(f ρ).bind fun c=>if c=true then some true else g ρ
def yT (f:Ev→Option Bool):Ev→Option Bool:=fun ρ=>(f ρ).map (!·)
theorem Xx {f:Ev→Option Bool}(ha:TD X a f):WD X (.BoolOp .And [a] pos) f:=let ⟨_,pa,ra⟩:=ha;⟨_,zi5 pa,ra⟩
theorem Xb {f:Ev→Option Bool}(ha:TD X a f):WD X (.BoolOp .Or [a] pos) f:=let ⟨_,pa,ra⟩:=ha;⟨_,zii pa,ra⟩
theorem VP {rest:List Expr}{f g:Ev→Option Bool}(ha:TD X a f)(hb:WD X (.BoolOp .And (b::rest) pos) g):WD X (.BoolOp .And (a::b::rest) pos) (xK f g):=by
  obtain ⟨ta,pa,ra⟩:=ha
  obtain ⟨tb,pb,rb⟩:=hb
  refine ⟨_,zke pa pb,fun σ ρ F H z Q s va e q=>?_⟩
  obtain ⟨x,e1,e⟩:=Option.bind_eq_some_iff.mp e
  refine ra σ ρ F H x _ s va e1 fun F1 H1 g1=>?_
  cases x with
  | true =>
    rw [if_pos rfl] at e ⊢
    exact rb σ ρ F1 H1 z Q g1.fh (va.mono g1.ff) e fun F2 H2 g2=>q F2 H2 (g1.trans g2)
  | false =>
    rw [if_neg Bool.false_ne_true] at e ⊢
    cases e
    exact q F1 H1 g1
theorem Vp {rest:List Expr}{f g:Ev→Option Bool}(ha:TD X a f)(hb:WD X (.BoolOp .Or (b::rest) pos) g):WD X (.BoolOp .Or (a::b::rest) pos) (Zt f g):=by
  obtain ⟨ta,pa,ra⟩:=ha
  obtain ⟨tb,pb,rb⟩:=hb
  refine ⟨_,zj0 pa pb,fun σ ρ F H z Q s va e q=>?_⟩
  obtain ⟨x,e1,e⟩:=Option.bind_eq_some_iff.mp e
  refine ra σ ρ F H x _ s va e1 fun F1 H1 g1=>?_
  cases x with
  | false =>
    rw [if_neg Bool.false_ne_true] at e ⊢
    exact rb σ ρ F1 H1 z Q g1.fh (va.mono g1.ff) e fun F2 H2 g2=>q F2 H2 (g1.trans g2)
  | true =>
    rw [if_pos rfl] at e ⊢
    cases e
    exact q F1 H1 g1
theorem zb5 {f:Ev→Option Bool}(h:WD X a f):TD X a f:=let ⟨_,p,r⟩:=h;⟨_,p.pt,r⟩
theorem vf {f:Ev→Option Bool}(ha:TD X a f):TD X (.UnaryOp .Not a pos) (yT f):=by
  obtain ⟨ta,pa,ra⟩:=ha
  refine ⟨_,zh7 pa,fun σ ρ F H z Q s va e q=>?_⟩
  obtain ⟨x,e1,rfl⟩:=Option.map_eq_some_iff.mp e
  exact ra σ ρ F H x _ s va e1 fun F1 H1 g1=>q F1 H1 g1
def Y3 (f g:Ev→Option D):Ev→Option D:=fun ρ=>((f ρ).bind asB).bind fun c=>if c=true then g ρ else some (.bl false)
def eOr (f g:Ev→Option D):Ev→Option D:=fun ρ=>((f ρ).bind asB).bind fun c=>if c=true then some (.bl true) else g ρ
def Vn (f:Ev→Option D):Ev→Option D:=fun ρ=>((f ρ).bind asB).map fun c=>.bl (!c)
theorem Zu {op}{f:Ev→Option D}(ha:ED X a f):ED X (.BoolOp op [a] pos) f:=let ⟨_,pa,ra⟩:=ha;⟨_,zkP pa,ra⟩
theorem YQ {rest:List Expr}{f g:Ev→Option D}(ha:ED X a f)(hb:ED X (.BoolOp .And (b::rest) pos) g):ED X (.BoolOp .And (a::b::rest) pos) (Y3 f g):=by
  obtain ⟨ta,pa,ra⟩:=ha
  obtain ⟨tb,pb,rb⟩:=hb
  refine ⟨_,zkw pa pb,fun σ ρ F H z Q s va e q=>?_⟩
  obtain ⟨x,e1,e⟩:=Option.bind_eq_some_iff.mp e
  obtain ⟨y,e1,e2⟩:=Option.bind_eq_some_iff.mp e1
  cases Wm e2
  refine ra σ ρ F H _ _ s va e1 fun F1 H1 v g1 a1=>⟨x,a1.bl_inv,?_⟩
  cases x with
  | true =>
    rw [if_pos rfl] at e ⊢
    exact rb σ ρ F1 H1 z Q g1.fh (va.mono g1.ff) e fun F2 H2 w g2 a2=>q F2 H2 w (g1.trans g2) a2
  | false =>
    rw [if_neg Bool.false_ne_true] at e ⊢
    cases e
    exact q F1 H1 _ g1 .bl
theorem zil {f:Ev→Option D}(ha:ED X a f):ED X (.UnaryOp .Not a pos) (Vn f):=by
  obtain ⟨ta,pa,ra⟩:=ha
  refine ⟨_,zk5 pa,fun σ ρ F H z Q s va e q=>?_⟩
  obtain ⟨x,e1,rfl⟩:=Option.map_eq_some_iff.mp e
  obtain ⟨y,e1,e2⟩:=Option.bind_eq_some_iff.mp e1
  cases Wm e2
  exact ra σ ρ F H _ _ s va e1 fun F1 H1 v g1 a1=>⟨x,a1.bl_inv,q F1 H1 _ g1 .bl⟩
def eIf (t:Ev→Option Bool)(f g:Ev→Option D):Ev→Option D:=fun ρ=>(t ρ).bind fun c=>if c=true then f ρ else g ρ
def eUn (g:D→Option D)(f:Ev→Option D):Ev→Option D:=fun ρ=>(f ρ).bind g
def Wk:D→Option D
  | .int i=>some (.int (-i))
  | _=>none
theorem zea {f:Ev→Option D}(ha:ED X a f):ED X (.UnaryOp .USub a pos) (eUn Wk f):=by
  obtain ⟨ta,pa,ra⟩:=ha
  refine ⟨_,zi1 zeO pa,fun σ ρ F H z Q s va e q=>?_⟩
  obtain ⟨x,e1,e⟩:=Option.bind_eq_some_iff.mp e
  cases x <;> try cases e
  exact ra σ ρ F H _ _ s va e1 fun F1 H1 v g1 a1=>⟨_,a1.int_inv,q F1 H1 _ g1 .int⟩
def zp:Ev→Option (List D):=fun _=>some []
def zc (f:Ev→Option D)(g:Ev→Option (List D)):Ev→Option (List D):=fun ρ=>(f ρ).bind fun d=>(g ρ).map (d::·)
theorem zh:AD X [] zp:=⟨_,yB,fun _ _ _ _ _ _ s _ e q=>by cases e;exact q _ _ _ (.refl s) .nil⟩
theorem zb {e:Expr}{es:List Expr}{f:Ev→Option D}{g:Ev→Option (List D)}(ha:ED X e f)(hr:AD X es g)(hs:starEach (e::es) X.env=(false,eval e X.env)::starEach es X.env:=by rfl):AD X (e::es) (zc f g):=by
  obtain ⟨ta,pa,ra⟩:=ha
  obtain ⟨tb,pb,rb⟩:=hr
  refine ⟨_,zq pa pb hs,fun σ ρ F H z Q s va e q=>?_⟩
  obtain ⟨x,e1,e⟩:=Option.bind_eq_some_iff.mp e
  obtain ⟨ds,e2,rfl⟩:=Option.map_eq_some_iff.mp e
  refine ra σ ρ F H x _ s va e1 fun F1 H1 v g1 a1=>?_
  exact rb σ ρ F1 H1 ds _ g1.fh (va.mono g1.ff) e2 fun F2 H2 w g2 a2=>q F2 H2 _ (g1.trans g2) (.cons (a1.mono g2.ff) a2)
def lim (n:Nat):Bool:=decide (n≤sizeLine)
def wW (g:Ev→Option (List D)):Ev→Option D:=fun ρ=>(g ρ).bind fun ds=>if lim ds.length=true then some (.tup ds) else none
def xX (g:Ev→Option (List D)):Ev→Option (List D):=fun ρ=>(g ρ).bind fun ds=>if lim ds.length=true then some ds else none
theorem xm {es:List Expr}{x1}{g:Ev→Option (List D)}(h:AD X es g):ED X (.Tuple es x1 pos) (wW g):=by
  obtain ⟨ta,pa,ra⟩:=h
  refine ⟨_,zkp pa,fun σ ρ F H z Q s va e q=>?_⟩
  obtain ⟨ds,e1,e⟩:=Option.bind_eq_some_iff.mp e
  split at e <;> cases e
  rename_i hl
  refine ra σ ρ F H ds _ s va e1 fun F1 H1 vs g1 a1=>⟨by rw [a1.length];exact of_decide_eq_true hl,fun p hp=>?_⟩
  have g2:=Gr.alloc g1.fh hp (.tup vs)
  exact q _ _ _ (g1.trans g2) (.tup zu (a1.mono g2.ff))
theorem ZF {es:List Expr}{g:Ev→Option (List D)}(h:AD X es g):FL X (.List es pos) (xX g):=by
  obtain ⟨ta,pa,ra⟩:=h
  refine ⟨_,zba pa,fun σ ρ F H z Q s va e q=>?_⟩
  obtain ⟨ds,e1,e⟩:=Option.bind_eq_some_iff.mp e
  split at e <;> cases e
  rename_i hl
  refine ra σ ρ F H _ _ s va e1 fun F1 H1 vs g1 a1=>⟨by rw [a1.length];exact of_decide_eq_true hl,fun p hp=>?_⟩
  have g2:=Gr.hide g1.fh hp (.lst vs)
  have h0:H p=none:=by
    cases e:H p with
    | none=>rfl
    | some o =>
      cases e2:F p with
      | none=>rw [(g1.kp p o e2 e).2] at hp;cases hp
      | some u=>rw [g1.fh _ _ (g1.ff _ _ e2)] at hp;cases hp
  exact q _ _ _ _ (g1.trans g2) h0 (g1.fh.free hp) zu a1
end
end
end Dl
namespace Dl
open PySem L2
variable [KK]
inductive Sl where
  | no | v (d:D) | o (ds:List D) | m (t:Bool) (ks:List (List Key)) (vs:List D)
  deriving Inhabited
abbrev SE:=List Sl
def Sl.f:Sl→Option D
  | .v d=>some d
  | _=>none
def Sl.g:Sl→Option D
  | .v d=>some d
  | .o ds=>some (.lst ds)
  | .m t ks vs=>some (.dct false t ks vs)
  | .no=>none
def Sl.isO:Sl→Bool
  | .o _=>true
  | .m _ _ _=>true
  | _=>false
def visF (ρ:SE):Ev:=ρ.map Sl.f
def visG (ρ:SE):Ev:=ρ.map Sl.g
def zd5 (F:Hp)(o:HO):Sl→Prop
  | .o ds=>∃ xs,o=.lst xs∧AtL F ds xs
  | .m t ks ds=>∃ xs,zkH o t ks xs∧AtL F ds xs
  | _=>False
theorem zd5.mono {F F':Hp}{o:HO}{s:Sl}(h:zd5 F o s)(k:yJ F F'):zd5 F' o s:=by
  cases s with
  | no=>exact h
  | v d=>exact h
  | o ds=>obtain ⟨xs,e,a⟩:=h;exact ⟨xs,e,a.mono k⟩
  | m t ks ds=>obtain ⟨xs,e,a⟩:=h;exact ⟨xs,e,a.mono k⟩
theorem zd5.isO {F:Hp}{o:HO}{s:Sl}(h:zd5 F o s):s.isO=true:=by
  cases s with
  | no=>exact h.elim
  | v d=>exact h.elim
  | o ds=>rfl
  | m t ks ds=>rfl
theorem zd5.ntup {F:Hp}{o:HO}{s:Sl}(h:zd5 F o s)(xs:List V):o≠.tup xs:=by
  cases s with
  | no=>exact h.elim
  | v d=>exact h.elim
  | o ds=>obtain ⟨ys,rfl,_⟩:=h;intro e;cases e
  | m t ks ds =>
    obtain ⟨ys,e,_⟩:=h
    unfold zkH at e
    split at e
    · obtain ⟨kvs,rfl,_⟩:=e;intro e;cases e
    · obtain ⟨kvs,rfl,_⟩:=e;intro e;cases e
theorem zd5.at {F G:Hp}{o:HO}{s:Sl}{d:D}{p:Addr}(h:zd5 F o s)(e:s.g=some d)(hp:G p=some o)(k:yJ F G):At G d (.ref p):=by
  cases s with
  | no=>exact h.elim
  | v d=>exact h.elim
  | o ds =>
    cases e
    obtain ⟨xs,rfl,a⟩:=h
    exact .lst hp (a.mono k)
  | m t ks ds =>
    cases e
    obtain ⟨xs,e,a⟩:=h
    unfold At
    exact ⟨p,xs,rfl,⟨o,e,hp⟩,a.mono k⟩
set_option genInjectivity false in
set_option genSizeOf false in
set_option genCtorIdx false in
structure Rl (Fb Hb F H:Hp) (ρ:SE) (σ:St):Prop where
  gr:Gr Fb Hb F H
  vals:∀ (i:Nat) (d:D),ρ[i]?=some (.v d)→∃ v,σ[i]?=some (some v)∧At F d v
  ows:∀ (i:Nat) (s:Sl),ρ[i]?=some s→s.isO=true→∃ p o,σ[i]?=some (some (.ref p))∧Hb p=none∧F p=none∧H p=some o∧zd5 F o s
  dis:∀ (i j:Nat) (p:Addr) (s t:Sl),ρ[i]?=some s→ρ[j]?=some t→s.isO=true→t.isO=true→σ[i]?=some (some (.ref p))→σ[j]?=some (some (.ref p))→i=j
  len:ρ.length=σ.length
section
variable {Fb Hb F H F' H':Hp}{ρ ρ':SE}{σ σ':St}
theorem Rl.owns (r:Rl Fb Hb F H ρ σ)(i:Nat)(ds:List D)(e:ρ[i]?=some (.o ds)):∃ p xs,σ[i]?=some (some (.ref p))∧Hb p=none∧F p=none∧H p=some (.lst xs)∧AtL F ds xs:=by
  obtain ⟨p,o,e1,e2,e3,e4,xs,rfl,a⟩:=r.ows i _ e rfl
  exact ⟨p,xs,e1,e2,e3,e4,a⟩
theorem Rl.grow (r:Rl Fb Hb F H ρ σ)(g:Gr F H F' H'):Rl Fb Hb F' H' ρ σ:=by
  refine ⟨r.gr.trans g,fun i d e=>?_,fun i s e h=>?_,r.dis,r.len⟩
  · obtain ⟨v,e1,a⟩:=r.vals i d e
    exact ⟨v,e1,a.mono g.ff⟩
  · obtain ⟨p,o,e1,e2,e3,e4,a⟩:=r.ows i s e h
    obtain ⟨k1,k2⟩:=g.kl a.ntup e3 e4
    exact ⟨p,o,e1,e2,k1,k2,a.mono g.ff⟩
theorem Rl.visF (r:Rl Fb Hb F H ρ σ):VAt F (visF ρ) σ:=fun i d e=>by
  unfold Dl.visF at e
  rw [List.getElem?_map] at e
  cases h:ρ[i]? with
  | none=>rw [h] at e;cases e
  | some x =>
    rw [h] at e
    cases x with
    | no=>cases e
    | v d' =>
      cases e
      exact r.vals i d h
    | o ds=>cases e
    | m t ks ds=>cases e
def Own (ρ:SE)(σ:St)(p:Addr):Prop:=∃ (i:Nat) (s:Sl),ρ[i]?=some s∧s.isO=true∧σ[i]?=some (some (.ref p))
open Classical in
noncomputable def gOf (ρ:SE)(σ:St)(F H:Hp):Hp:=fun p=>if Own ρ σ p then H p else F p
open Classical in
noncomputable def fOf (ρ:SE)(σ:St)(G:Hp):Hp:=fun p=>if Own ρ σ p then none else G p
theorem Rl.own (r:Rl Fb Hb F H ρ σ){p:Addr}(h:Own ρ σ p):Hb p=none∧F p=none∧∃ o,H p=some o∧∀ xs,o≠.tup xs:=by
  obtain ⟨i,s,e1,e2,e3⟩:=h
  obtain ⟨q,o,e4,e5,e6,e7,a⟩:=r.ows i s e1 e2
  rw [e3] at e4
  cases e4
  exact ⟨e5,e6,o,e7,a.ntup⟩
theorem Rl.notown (r:Rl Fb Hb F H ρ σ){q:Addr}(h:H q=none)(j:Nat)(s:Sl)(e1:ρ[j]?=some s)(e2:s.isO=true):σ[j]?≠some (some (.ref q)):=fun e=>by
  obtain ⟨p,o,f1,_,_,f4,_⟩:=r.ows j s e1 e2
  rw [e] at f1
  cases f1
  rw [h] at f4
  cases f4
theorem Rl.notbase (r:Rl Fb Hb F H ρ σ){q:Addr}(h:H q=none):Hb q=none:=by
  cases z:Hb q with
  | none=>rfl
  | some o =>
    cases z2:Fb q with
    | none=>rw [(r.gr.kp q o z2 z).2] at h;cases h
    | some u=>rw [r.gr.fh _ _ (r.gr.ff _ _ z2)] at h;cases h
theorem Rl.fg (r:Rl Fb Hb F H ρ σ):yJ F (gOf ρ σ F H):=fun p o e=>by
  unfold gOf
  split
  · exact r.gr.fh p o e
  · exact e
theorem Rl.gh (r:Rl Fb Hb F H ρ σ):yJ (gOf ρ σ F H) H:=fun p o e=>by
  unfold gOf at e
  split at e
  · exact e
  · exact r.gr.fh p o e
theorem Rl.visG (r:Rl Fb Hb F H ρ σ):VAt (gOf ρ σ F H) (visG ρ) σ:=fun i d e=>by
  unfold Dl.visG at e
  rw [List.getElem?_map] at e
  cases h:ρ[i]? with
  | none=>rw [h] at e;cases e
  | some x =>
    rw [h] at e
    have e:x.g=some d:=Option.some.inj e
    have own:x.isO=true→∃ v,σ[i]?=some (some v)∧At (gOf ρ σ F H) d v:=fun hx=>by
      obtain ⟨p,o,e1,e2,e3,e4,a⟩:=r.ows i x h hx
      refine ⟨_,e1,a.at e ?_ r.fg⟩
      unfold gOf
      rw [if_pos ⟨i,x,h,hx,e1⟩]
      exact e4
    cases x with
    | no=>cases e
    | v d' =>
      cases e
      obtain ⟨v,e1,a⟩:=r.vals i d h
      exact ⟨v,e1,a.mono r.fg⟩
    | o ds=>exact own rfl
    | m t ks ds=>exact own rfl
theorem Rl.back {G':Hp}(r:Rl Fb Hb F H ρ σ)(g:Gr (gOf ρ σ F H) H G' H'):Gr F H (fOf ρ σ G') H'∧∀ q xs,G' q=some (.tup xs)→fOf ρ σ G' q=some (.tup xs):=by
  refine ⟨⟨fun p o e=>?_,fun p o e=>?_,fun p o e1 e2=>?_⟩,fun q xs e=>?_⟩
  · unfold fOf
    rw [if_neg (fun h=>by rw [(r.own h).2.1] at e;cases e)]
    exact g.ff p o (r.fg p o e)
  · unfold fOf at e
    split at e
    · cases e
    · exact g.fh p o e
  · by_cases h:Own ρ σ p
    · refine ⟨.inl (by unfold fOf;rw [if_pos h]),g.fh p o (g.ff p o ?_)⟩
      unfold gOf
      rw [if_pos h]
      exact e2
    · obtain ⟨x,y⟩:=g.kp p o (by unfold gOf;rw [if_neg h];exact e1) e2
      refine ⟨?_,y⟩
      unfold Hid fOf
      rw [if_neg h]
      exact x
  · unfold fOf
    rw [if_neg (fun h=>?_)]
    · exact e
    · obtain ⟨_,_,o,e2,n⟩:=r.own h
      have:G' q=some o:=g.ff q _ (by unfold gOf;rw [if_pos h];exact e2)
      rw [this] at e
      cases e
      exact n xs rfl
theorem Rl.out {G':Hp}(r:Rl Fb Hb F H ρ σ)(g:Gr (gOf ρ σ F H) H G' H'):Gr Fb Hb G' H':=by
  refine ⟨fun p o e=>g.ff p o (r.fg p o (r.gr.ff p o e)),g.fh,fun p o e1 e2=>?_⟩
  obtain ⟨k1,k2⟩:=r.gr.kp p o e1 e2
  have e3:gOf ρ σ F H p=F p:=by
    unfold gOf
    rw [if_neg (fun h=>by rw [(r.own h).1] at e2;cases e2)]
  rcases k1 with k1 | ⟨k1,k3⟩
  · exact g.kp p o (by rw [e3];exact k1) k2
  · have:=g.ff p o (by rw [e3];exact k3)
    exact ⟨.inr ⟨k1,this⟩,g.fh _ _ this⟩
theorem Rl.set (r:Rl Fb Hb F H ρ σ){i:Nat}{d:D}{v:V}(a:At F d v):Rl Fb Hb F H (ρ.set i (.v d)) (σ.set i (some v)):=by
  have nj:∀ {j:Nat} {s:Sl},(ρ.set i (.v d))[j]?=some s→s.isO=true→i≠j:=fun {j s} h ho e=>by
    subst e
    rw [List.getElem?_set] at h
    simp only [if_true] at h
    split at h <;> cases h
    cases ho
  refine ⟨r.gr,fun j e h=>?_,fun j s h ho=>?_,fun j k p s t h1 h2 o1 o2 h3 h4=>?_,by simp [r.len]⟩
  · by_cases hj:i=j
    · subst hj
      rw [List.getElem?_set] at h
      simp only [if_true] at h
      split at h
      · rename_i hl
        cases h
        refine ⟨v,?_,a⟩
        rw [List.getElem?_set]
        simp [←r.len,hl]
      · cases h
    · rw [List.getElem?_set_ne hj] at h ⊢
      exact r.vals j e h
  · have hj:=nj h ho
    rw [List.getElem?_set_ne hj] at h ⊢
    exact r.ows j s h ho
  · have a1:=nj h1 o1
    have a2:=nj h2 o2
    rw [List.getElem?_set_ne a1] at h1 h3
    rw [List.getElem?_set_ne a2] at h2 h4
    exact r.dis j k p s t h1 h2 o1 o2 h3 h4
theorem Rl.setW (r:Rl Fb Hb F H ρ σ){i:Nat}{w:Sl}{p:Addr}{o:HO}(h0:Hb p=none)(hF:F p=none)(hH:H p=some o)(a:zd5 F o w)
    (nw:∀ (j:Nat) (s:Sl),ρ[j]?=some s→s.isO=true→σ[j]?≠some (some (.ref p))):Rl Fb Hb F H (ρ.set i w) (σ.set i (some (.ref p))):=by
  have at_i:∀ {s:Sl},(ρ.set i w)[i]?=some s→i < ρ.length∧s=w:=fun {s} h=>by
    rw [List.getElem?_set] at h
    simp only [if_true] at h
    split at h
    · rename_i hl
      cases h
      exact ⟨hl,rfl⟩
    · cases h
  have st_i:i < ρ.length→(σ.set i (some (V.ref p)))[i]?=some (some (.ref p)):=fun hl=>by
    rw [List.getElem?_set]
    simp [←r.len,hl]
  refine ⟨r.gr,fun j e h=>?_,fun j s h ho=>?_,fun j k q s t h1 h2 o1 o2 h3 h4=>?_,by simp [r.len]⟩
  · by_cases hj:i=j
    · subst hj
      have e:=(at_i h).2
      have:=a.isO
      rw [←e] at this
      cases this
    · rw [List.getElem?_set_ne hj] at h ⊢
      exact r.vals j e h
  · by_cases hj:i=j
    · subst hj
      obtain ⟨hl,e⟩:=at_i h
      subst e
      exact ⟨p,o,st_i hl,h0,hF,hH,a⟩
    · rw [List.getElem?_set_ne hj] at h ⊢
      exact r.ows j s h ho
  · by_cases hj:i=j
    · subst hj
      by_cases hk:i=k
      · exact hk
      · obtain ⟨hl,_⟩:=at_i h1
        rw [st_i hl] at h3
        cases h3
        rw [List.getElem?_set_ne hk] at h2 h4
        exact absurd h4 (nw k t h2 o2)
    · by_cases hk:i=k
      · subst hk
        obtain ⟨hl,_⟩:=at_i h2
        rw [st_i hl] at h4
        cases h4
        rw [List.getElem?_set_ne hj] at h1 h3
        exact absurd h3 (nw j s h1 o1)
      · rw [List.getElem?_set_ne hj] at h1 h3
        rw [List.getElem?_set_ne hk] at h2 h4
        exact r.dis j k q s t h1 h2 o1 o2 h3 h4
theorem Rl.setO (r:Rl Fb Hb F H ρ σ){i:Nat}{ds:List D}{p:Addr}{xs:List V}(h0:Hb p=none)(hF:F p=none)(hH:H p=some (.lst xs))(a:AtL F ds xs)
    (nw:∀ (j:Nat) (s:Sl),ρ[j]?=some s→s.isO=true→σ[j]?≠some (some (.ref p))):Rl Fb Hb F H (ρ.set i (.o ds)) (σ.set i (some (.ref p))):=r.setW h0 hF hH ⟨xs,rfl,a⟩ nw
theorem Rl.mutW (r:Rl Fb Hb F H ρ σ){i:Nat}{w w':Sl}{p:Addr}{o':HO}(e:ρ[i]?=some w)(hw:w.isO=true)(e1:σ[i]?=some (some (.ref p)))(a:zd5 F o' w'):Rl Fb Hb F (upd H p o') (ρ.set i w') σ:=by
  obtain ⟨q,o,e2,h0,hF,hH,_⟩:=r.ows i w e hw
  rw [e1] at e2
  cases e2
  have hi:i < ρ.length:=(List.getElem?_eq_some_iff.mp e).1
  have neP:∀ {j:Nat} {s:Sl} {q:Addr},i≠j→ρ[j]?=some s→s.isO=true→σ[j]?=some (some (.ref q))→q≠p:=fun {j s q} hne h1 ho h2 z=>by
    subst z
    exact hne (r.dis i j q w s e h1 hw ho e1 h2)
  refine ⟨⟨r.gr.ff,fun b o z=>?_,fun b o z1 z2=>?_⟩,fun j d h=>?_,fun j s h ho=>?_,fun j k q s t h1 h2 o1 o2 h3 h4=>?_,by simp [r.len]⟩
  · rw [zr (zn z hF)]
    exact r.gr.fh b o z
  · rw [zr (zn z2 h0)]
    exact r.gr.kp b o z1 z2
  · by_cases hj:i=j
    · subst hj
      rw [List.getElem?_set_self hi] at h
      cases h
      exact (Bool.noConfusion a.isO)
    · rw [List.getElem?_set_ne hj] at h
      exact r.vals j d h
  · by_cases hj:i=j
    · subst hj
      rw [List.getElem?_set_self hi] at h
      cases h
      exact ⟨p,o',e1,h0,hF,zu,a⟩
    · rw [List.getElem?_set_ne hj] at h
      obtain ⟨q,z,f1,f2,f3,f4,f5⟩:=r.ows j s h ho
      refine ⟨q,z,f1,f2,f3,?_,f5⟩
      rw [zr (neP hj h ho f1)]
      exact f4
  · have back:∀ {j:Nat} {s:Sl},(ρ.set i w')[j]?=some s→s.isO=true→∃ s',ρ[j]?=some s'∧s'.isO=true:=fun {j s} h ho=>by
      by_cases hj:i=j
      · subst hj;exact ⟨w,e,hw⟩
      · rw [List.getElem?_set_ne hj] at h;exact ⟨s,h,ho⟩
    obtain ⟨f1,g1,g1'⟩:=back h1 o1
    obtain ⟨f2,g2,g2'⟩:=back h2 o2
    exact r.dis j k q f1 f2 g1 g2 g1' g2' h3 h4
theorem Rl.mutate (r:Rl Fb Hb F H ρ σ){i:Nat}{ds es:List D}{p:Addr}{ys:List V}(e:ρ[i]?=some (.o ds))(e1:σ[i]?=some (some (.ref p)))(a:AtL F es ys):Rl Fb Hb F (upd H p (.lst ys)) (ρ.set i (.o es)) σ :=
  r.mutW e rfl e1 ⟨ys,rfl,a⟩
def Sl.fz:Sl→Sl
  | .o ds=>.v (.lst ds)
  | .m t ks vs=>.v (.dct false t ks vs)
  | s=>s
def zlz (ρ:SE)(i:Nat):SE:=ρ.set i ((ρ[i]?).getD .no).fz
theorem Rl.freeze (r:Rl Fb Hb F H ρ σ)(i:Nat):∃ F',Rl Fb Hb F' H (zlz ρ i) σ:=by
  unfold zlz
  cases h:ρ[i]? with
  | none =>
    refine ⟨F,?_⟩
    rw [List.set_eq_of_length_le (List.getElem?_eq_none_iff.mp h)]
    exact r
  | some s =>
    have hi:i < ρ.length:=(List.getElem?_eq_some_iff.mp h).1
    have same:s.fz=s→∃ F',Rl Fb Hb F' H (ρ.set i ((some s).getD .no).fz) σ:=fun e=>by
      refine ⟨F,?_⟩
      show Rl Fb Hb F H (ρ.set i s.fz) σ
      rw [e]
      have:ρ.set i s=ρ:=by
        apply List.ext_getElem?
        intro j
        by_cases hj:i=j
        · subst hj;rw [List.getElem?_set_self hi,h]
        · rw [List.getElem?_set_ne hj]
      rw [this]
      exact r
    have give:∀ d,s.isO=true→s.g=some d→s.fz=.v d→∃ F',Rl Fb Hb F' H (ρ.set i ((some s).getD .no).fz) σ:=fun d ho hg hz=>by
      obtain ⟨p,o,e1,e2,e3,e4,a⟩:=r.ows i s h ho
      have sF:yJ F (upd F p o):=fun b u e=>by rw [zr (zn e e3)];exact e
      show ∃ F',Rl Fb Hb F' H (ρ.set i s.fz) σ
      rw [hz]
      have nj:∀ {j:Nat} {t:Sl},(ρ.set i (.v d))[j]?=some t→t.isO=true→i≠j:=fun {j t} h ht e=>by
        subst e
        rw [List.getElem?_set_self hi] at h
        cases h
        cases ht
      refine ⟨upd F p o,r.gr.show e2 e3 e4,fun j e z=>?_,fun j t z ht=>?_,fun j k q t u h1 h2 o1 o2 h3 h4=>?_,by simp [r.len]⟩
      · by_cases hj:i=j
        · subst hj
          rw [List.getElem?_set_self hi] at z
          cases z
          exact ⟨_,e1,a.at hg zu sF⟩
        · rw [List.getElem?_set_ne hj] at z
          obtain ⟨v,f1,f2⟩:=r.vals j e z
          exact ⟨v,f1,f2.mono sF⟩
      · have hj:=nj z ht
        rw [List.getElem?_set_ne hj] at z
        obtain ⟨q,y,f1,f2,f3,f4,f5⟩:=r.ows j t z ht
        refine ⟨q,y,f1,f2,?_,f4,f5.mono sF⟩
        rw [zr (fun w=>hj (r.dis i j p s t h z ho ht e1 (by rw [←w];exact f1)))]
        exact f3
      · have a1:=nj h1 o1
        have a2:=nj h2 o2
        rw [List.getElem?_set_ne a1] at h1
        rw [List.getElem?_set_ne a2] at h2
        exact r.dis j k q t u h1 h2 o1 o2 h3 h4
    cases s with
    | no=>exact same rfl
    | v d=>exact same rfl
    | o ds=>exact give _ rfl rfl rfl
    | m t ks ds=>exact give _ rfl rfl rfl
end
inductive Ctl where
  | nx (ρ:SE) | rt (d:D) | bk (ρ:SE) | ct (ρ:SE) | no
  deriving Inhabited
def SOk (Fb Hb:Hp)(E:zbe):Ctl→Prop
  | .nx ρ=>∀ F H σ,Rl Fb Hb F H ρ σ→E.nx σ H
  | .bk ρ=>∀ F H σ,Rl Fb Hb F H ρ σ→E.bk σ H
  | .ct ρ=>∀ F H σ,Rl Fb Hb F H ρ σ→E.ct σ H
  | .rt d=>∀ F H v,Gr Fb Hb F H→At F d v→E.rt v H
  | .no=>False
def RS (t:TS)(g:SE→Ctl):Prop:=∀ (Fb Hb F H:Hp) (ρ:SE) (σ:St) (E:zbe),Rl Fb Hb F H ρ σ→SOk Fb Hb E (g ρ)→t E σ H
def SD (X:Cx)(st:Stmt)(g:SE→Ctl):Prop:=∃ t,PS X st t∧RS t g
def SDs (X:Cx)(sts:List Stmt)(g:SE→Ctl):Prop:=∃ t,PSs X sts t∧RS t g
section
variable {X:Cx}{st:Stmt}{sts:List Stmt}{a b c e:Expr}{pos pos':Pos}
def zP:SE→Ctl:=.nx
def zL (g h:SE→Ctl):SE→Ctl:=fun ρ=>match g ρ with
  | .nx ρ'=>h ρ'
  | .rt d=>.rt d
  | .bk ρ'=>.bk ρ'
  | .ct ρ'=>.ct ρ'
  | .no=>.no
theorem zG:SDs X [] zP:=⟨_,zfp,fun _ _ F H ρ σ E r h=>h F H σ r⟩
theorem zj {g h:SE→Ctl}(h1:SD X st g)(h2:SDs X sts h):SDs X (st::sts) (zL g h):=by
  obtain ⟨t,p,r⟩:=h1
  obtain ⟨u,p2,r2⟩:=h2
  refine ⟨_,vn p p2,fun Fb Hb F H ρ σ E rl k=>?_⟩
  refine r Fb Hb F H ρ σ { E with nx:=u E } rl ?_
  unfold zL at k
  cases e:g ρ with
  | nx ρ' =>
    rw [e] at k
    exact fun F' H' σ' rl'=>r2 Fb Hb F' H' ρ' σ' E rl' k
  | rt d=>rw [e] at k;exact k
  | bk d=>rw [e] at k;exact k
  | ct d=>rw [e] at k;exact k
  | no=>rw [e] at k;exact k
theorem zk {g:SE→Ctl}(h1:SD X st g):SDs X [st] g:=let ⟨_,p,r⟩:=h1;⟨_,Xy p,r⟩
def sFz (i:Nat)(g:SE→Ctl):SE→Ctl:=fun ρ=>g (zlz ρ i)
theorem XV {g:SE→Ctl}(i:Nat)(h:SDs X sts g):SDs X sts (sFz i g):=by
  obtain ⟨t,p,r⟩:=h
  refine ⟨_,p,fun Fb Hb F H ρ σ E rl k=>?_⟩
  obtain ⟨F',rl'⟩:=rl.freeze i
  exact r Fb Hb F' H _ σ E rl' k
def sNo:SE→Ctl:=fun _=>.no
theorem X9:SD X st sNo:=⟨_,zc4,fun _ _ _ _ _ _ _ _ h=>h.elim⟩
def yR (f:Ev→Option D):SE→Ctl:=fun ρ=>match f (visG ρ) with
  | some d=>.rt d
  | none=>.no
theorem zB {f:Ev→Option D}(h:ED X e f):SD X (.Return (some e) pos) (yR f):=by
  obtain ⟨t,p,r⟩:=h
  refine ⟨_,zaZ p,fun Fb Hb F H ρ σ E rl k=>?_⟩
  unfold yR at k
  cases h:f (visG ρ) with
  | none=>rw [h] at k;exact k.elim
  | some d =>
    rw [h] at k
    exact r σ _ _ H d _ rl.gh rl.visG h fun F' H' v g av=>k F' H' v (rl.out g) av
def YM:SE→Ctl:=fun _=>.rt .non
def vEv (m:Bool)(f:Ev→Option D)(ρ:SE):Option D:=if m=true then (f (visG ρ)).bind fun d=>if noL d=true then some d else none else f (visF ρ)
theorem RE.at {Fb Hb F H:Hp}{ρ:SE}{σ:St}{m:Bool}{f:Ev→Option D}{t:TE}{d:D}{Q:VK}(r:RE t f)(rl:Rl Fb Hb F H ρ σ)(h:vEv m f ρ=some d)(q:∀ F' H' v,Gr F H F' H'→At F' d v→Q v H'):t σ H Q:=by
  unfold vEv at h
  cases m with
  | false =>
    rw [if_neg Bool.false_ne_true] at h
    exact r σ _ _ H d _ rl.gr.fh rl.visF h q
  | true =>
    rw [if_pos rfl] at h
    obtain ⟨d',h1,h2⟩:=Option.bind_eq_some_iff.mp h
    split at h2 <;> cases h2
    rename_i hn
    refine r σ _ _ H d _ rl.gh rl.visG h1 fun F' H' v g av=>?_
    obtain ⟨g2,fl⟩:=rl.back g
    exact q _ H' v g2 (av.flat fl hn)
def xB (m:Bool)(i:Nat)(f:Ev→Option D):SE→Ctl:=fun ρ=>match vEv m f ρ with
  | some d=>.nx (ρ.set i (.v d))
  | none=>.no
theorem yb {m:Bool}{i:Nat}{x:Str}{f:Ev→Option D}(hN:X.N.Nodup)(hi:X.N[i]?=some x)(hx:Loc X.env.scope x)(he:ED X e f)(hs:swapsWith e (some (.Name x pos')) pos.line X.env=pure false:=by rfl)
    (hf:X.fn x=true∨X.env.scope.names.lookup x=some .local:=by first | exact .inl rfl | exact .inr rfl | assumption):SD X (.Assign [.Name x pos'] e pos) (xB m i f):=by
  obtain ⟨t,p,r⟩:=he
  refine ⟨_,VO hN hi hx p hs hf,fun Fb Hb F H ρ σ E rl k=>?_⟩
  unfold xB at k
  cases h:vEv m f ρ with
  | none=>rw [h] at k;exact k.elim
  | some d =>
    rw [h] at k
    exact r.at rl h fun F' H' v g av=>k F' H' _ ((rl.grow g).set av)
def Zy (f:Ev→Option D):SE→Ctl:=fun ρ=>match f (visG ρ) with
  | some _=>.nx ρ
  | none=>.no
theorem ZR {f:Ev→Option D}(he:ED X e f)(hs:swapsWith e none pos.line X.env=pure false:=by rfl):SD X (.Expr e pos) (Zy f):=by
  obtain ⟨t,p,r⟩:=he
  refine ⟨_,WS p hs,fun Fb Hb F H ρ σ E rl k=>?_⟩
  unfold Zy at k
  cases h:f (visG ρ) with
  | none=>rw [h] at k;exact k.elim
  | some d =>
    rw [h] at k
    exact r σ _ _ H d _ rl.gh rl.visG h fun F' H' v g av=>k _ H' σ (rl.grow (rl.back g).1)
def Zf (i:Nat)(f:Ev→Option (List D)):SE→Ctl:=fun ρ=>match f (visF ρ) with
  | some ds=>.nx (ρ.set i (.o ds))
  | none=>.no
theorem Y6 {i:Nat}{x:Str}{f:Ev→Option (List D)}(hN:X.N.Nodup)(hi:X.N[i]?=some x)(hx:Loc X.env.scope x)(he:FL X e f)(hs:swapsWith e (some (.Name x pos')) pos.line X.env=pure false:=by rfl)
    (hf:X.fn x=true∨X.env.scope.names.lookup x=some .local:=by first | exact .inl rfl | exact .inr rfl | assumption):SD X (.Assign [.Name x pos'] e pos) (Zf i f):=by
  obtain ⟨t,p,r⟩:=he
  refine ⟨_,VO hN hi hx p hs hf,fun Fb Hb F H ρ σ E rl k=>?_⟩
  unfold Zf at k
  cases h:f (visF ρ) with
  | none=>rw [h] at k;exact k.elim
  | some ds =>
    rw [h] at k
    refine r σ _ _ H ds _ rl.gr.fh rl.visF h fun F' H' q xs g h0 hF hH hx=>?_
    have rl2:=rl.grow g
    exact k F' H' _ (rl2.setO (rl.notbase h0) hF hH hx (rl.notown h0))
def sIf (t:Ev→Option Bool)(g h:SE→Ctl):SE→Ctl:=fun ρ=>match t (visG ρ) with
  | some true=>g ρ
  | some false=>h ρ
  | none=>.no
theorem xo {as bs:List Stmt}{t:Ev→Option Bool}{g h:SE→Ctl}(hc:TD X c t)(ha:SDs X as g)(hb:SDs X bs h):SD X (.If c as bs pos) (sIf t g h):=by
  obtain ⟨tc,pc,rc⟩:=hc
  obtain ⟨ta,pa,ra⟩:=ha
  obtain ⟨tb,pb,rb⟩:=hb
  refine ⟨_,zit pc pa pb,fun Fb Hb F H ρ σ E rl k=>?_⟩
  unfold sIf at k
  cases h:t (visG ρ) with
  | none=>rw [h] at k;exact k.elim
  | some d =>
    rw [h] at k
    refine rc σ _ _ H d _ rl.gh rl.visG h fun F' H' g=>?_
    have rl2:=rl.grow (rl.back g).1
    cases d with
    | true=>rw [if_pos rfl];exact ra Fb Hb _ H' ρ σ E rl2 k
    | false=>rw [if_neg Bool.false_ne_true];exact rb Fb Hb _ H' ρ σ E rl2 k
def YG (t:Ev→Option Bool)(g:SE→Ctl):Nat→SE→Ctl
  | 0,_=>.no
  | n+1,ρ=>match t (visG ρ) with
    | some true=>match g ρ with
      | .nx ρ'=>YG t g n ρ'
      | .ct ρ'=>YG t g n ρ'
      | .bk ρ'=>.nx ρ'
      | .rt d=>.rt d
      | .no=>.no
    | some false=>.nx ρ
    | none=>.no
theorem zaw {as:List Stmt}{t:Ev→Option Bool}{g:SE→Ctl}(n:Nat)(hp:PassesOwn (model X.prog X.w) X.A X.env X.xe)(hc:TD X c t)(ha:SDs X as g):SD X (.While c as [] pos) (YG t g n):=by
  obtain ⟨tc,pc,rc⟩:=hc
  obtain ⟨ta,pa,ra⟩:=ha
  refine ⟨_,zgY hp pc pa,fun Fb Hb F H ρ σ E rl k=>?_⟩
  refine ⟨fun m σ H=>∃ F ρ,Rl Fb Hb F H ρ σ∧SOk Fb Hb E (YG t g m ρ),⟨n,F,ρ,rl,k⟩,?_⟩
  rintro m σ H ⟨F,ρ,rl,k⟩
  cases m with
  | zero=>exact k.elim
  | succ m =>
    unfold YG at k
    cases h:t (visG ρ) with
    | none=>rw [h] at k;exact k.elim
    | some d =>
      rw [h] at k
      refine rc σ _ _ H d _ rl.gh rl.visG h fun F' H' gr=>?_
      have rl2:=rl.grow (rl.back gr).1
      cases d with
      | false=>rw [if_neg Bool.false_ne_true];exact k _ H' σ rl2
      | true =>
        rw [if_pos rfl]
        refine ⟨fun σ H=>∃ F ρ,Rl Fb Hb F H ρ σ∧SOk Fb Hb E (YG t g m ρ),fun σ' H' w=>⟨m,Nat.lt_succ_self m,w⟩,?_⟩
        refine ra Fb Hb _ H' ρ σ _ rl2 ?_
        dsimp only at k
        cases hg:g ρ with
        | nx ρ'=>rw [hg] at k;exact fun F2 H2 σ2 r2=>⟨F2,ρ',r2,k⟩
        | ct ρ'=>rw [hg] at k;exact fun F2 H2 σ2 r2=>⟨F2,ρ',r2,k⟩
        | bk ρ'=>rw [hg] at k;exact k
        | rt d=>rw [hg] at k;exact k
        | no=>rw [hg] at k;exact k.elim
def RG (t:TG)(b:D→SE→Option SE):Prop:=∀ (Fb Hb F H:Hp) (ρ ρ':SE) (σ:St) (d:D) (v:V) (Q:St→Hp→Prop),Rl Fb Hb F H ρ σ→At F d v→b d ρ=some ρ'→(∀ σ',Rl Fb Hb F H ρ' σ'→Q σ' H)→t v σ H Q
def RGs (t:TGs)(b:List D→SE→Option SE):Prop:=∀ (Fb Hb F H:Hp) (ρ ρ':SE) (σ:St) (ds:List D) (vs:List V) (Q:St→Hp→Prop),Rl Fb Hb F H ρ σ→AtL F ds vs→b ds ρ=some ρ'→(∀ σ',Rl Fb Hb F H ρ' σ'→Q σ' H)→t vs σ H Q
def BD (X:Cx)(tg:Expr)(b:D→SE→Option SE):Prop:=∃ t,PG X tg t∧RG t b
def BDs (X:Cx)(tgs:List Expr)(b:List D→SE→Option SE):Prop:=∃ t,PGs X tgs t∧RGs t b
def yo (i:Nat):D→SE→Option SE:=fun d ρ=>some (ρ.set i (.v d))
theorem zU {i:Nat}(h:PG X a (Y7 i)):BD X a (yo i):=by
  refine ⟨_,h,fun Fb Hb F H ρ ρ' σ d v Q rl av e q=>?_⟩
  cases e
  exact q _ (rl.set av)
def X6:List D→SE→Option SE
  | [],ρ=>some ρ
  | _,_=>none
def xv (b:D→SE→Option SE)(c:List D→SE→Option SE):List D→SE→Option SE
  | d::ds,ρ=>(b d ρ).bind (c ds)
  | [],_=>none
theorem XG:BDs X [] X6:=by
  refine ⟨_,zcG,fun Fb Hb F H ρ ρ' σ ds vs Q rl av e q=>?_⟩
  cases ds with
  | nil=>cases e;exact ⟨av.nil_inv,q _ rl⟩
  | cons _ _=>cases e
theorem xg {es:List Expr}{b:D→SE→Option SE}{c:List D→SE→Option SE}(h1:BD X e b)(h2:BDs X es c)
    (hs:(assignEach (e::es) X.env).map (·.2)=assign e X.env::(assignEach es X.env).map (·.2):=by rfl):BDs X (e::es) (xv b c):=by
  obtain ⟨t,p,r⟩:=h1
  obtain ⟨u,p2,r2⟩:=h2
  refine ⟨_,Xi p p2 hs,fun Fb Hb F H ρ ρ' σ ds vs Q rl av e q=>?_⟩
  cases ds with
  | nil=>cases e
  | cons d ds =>
    obtain ⟨x,xs,rfl,a1,a2⟩:=av.cons_inv
    obtain ⟨ρ1,e1,e2⟩:=Option.bind_eq_some_iff.mp e
    exact ⟨x,xs,rfl,r Fb Hb F H ρ ρ1 σ d x _ rl a1 e1 fun σ1 rl1=>r2 Fb Hb F H ρ1 ρ' σ1 ds xs Q rl1 a2 e2 q⟩
def XX (n:Nat)(c:List D→SE→Option SE):D→SE→Option SE
  | .tup ds,ρ=>if ds.length=n then c ds ρ else none
  | _,_=>none
theorem V0 {es:List Expr}{k:Nat}{n:Nat}{c:List D→SE→Option SE}(hc:X.calm=true)(h:BDs X es c)
    (hn:(assignEach es X.env).length=n:=by rfl) (hst:(assignEach es X.env).findIdx? (·.1)=none:=by rfl):BD X (.Tuple es k pos) (XX n c):=by
  obtain ⟨t,p,r⟩:=h
  refine ⟨_,zfc hc p hn hst,fun Fb Hb F H ρ ρ' σ d v Q rl av e q=>?_⟩
  cases d with
  | tup ds =>
    unfold XX at e
    dsimp only at e
    split at e
    · rename_i hl
      obtain ⟨a,xs,rfl,hx,al⟩:=av.tup_inv
      exact ⟨a,xs,rfl,SqT.of (rl.gr.fh _ _ hx),by rw [al.length];exact hl,r Fb Hb F H ρ ρ' σ ds xs Q rl al e q⟩
    · cases e
  | _=>cases e
def zaV (m:Bool)(f:Ev→Option D)(b:D→SE→Option SE):SE→Ctl:=fun ρ=>match (vEv m f ρ).bind fun d=>b d ρ with
  | some ρ'=>.nx ρ'
  | none=>.no
def ZK (m:Bool)(i:Nat)(fk fe:Ev→Option D):SE→Ctl:=fun ρ=>match (vEv m fe ρ).bind fun d=>(fk (visG ρ)).bind fun k=>match ρ[i]?,k with
    | some (.o ds),.int k=>(ixN ds.length k).map fun j=>ρ.set i (.o (ds.set j d))
    | _,_=>none with
  | some ρ'=>.nx ρ'
  | none=>.no
theorem VY {m:Bool}{i:Nat}{ko:Expr}{fk fe:Ev→Option D}(he:ED X e fe)(ho:PE X a (zb0 i))(hk:ED X ko fk)(hs:swapsWithSole [.Subscript a ko pos'] e pos.line X.env=pure false:=by rfl)(hw:swappedStores [.Subscript a ko pos'] e X.env=pure none:=by rfl)
    (h1:(assignEach [.Subscript a ko pos'] X.env).map (·.2)=[assign (.Subscript a ko pos') X.env]:=by rfl)
    (ha:∀ v,assign (.Subscript a ko pos') X.env v=(do
      let ov←holding [v] (eval a X.env)
      let iv←holding [v,ov] (eval ko X.env)
      standAt pos'
      holding [v,ov,iv] (setItem ov iv v)
      release [v,ov,iv] []):=by intro _;rfl):SD X (.Assign [.Subscript a ko pos'] e pos) (ZK m i fk fe):=by
  obtain ⟨t,p,r⟩:=he
  obtain ⟨tk,pk,rk⟩:=hk
  refine ⟨_,zkB p (zkJ ho pk zg9 ha) hs hw h1,fun Fb Hb F H ρ σ E rl k=>?_⟩
  unfold ZK at k
  cases h:(vEv m fe ρ).bind fun d=>(fk (visG ρ)).bind fun k=>match ρ[i]?,k with
    | some (.o ds),.int k=>(ixN ds.length k).map fun j=>ρ.set i (.o (ds.set j d))
    | _,_=>none with
  | none=>rw [h] at k;exact k.elim
  | some ρ' =>
    rw [h] at k
    obtain ⟨d,e1,e2⟩:=Option.bind_eq_some_iff.mp h
    obtain ⟨kd,e3,e2⟩:=Option.bind_eq_some_iff.mp e2
    cases hs:ρ[i]? with
    | none=>rw [hs] at e2;cases e2
    | some sl =>
      rw [hs] at e2
      cases sl with
      | no=>cases e2
      | v _=>cases e2
      | m _ _ _=>cases e2
      | o ds =>
        cases kd with
        | int kk =>
          obtain ⟨j,e4,rfl⟩:=Option.map_eq_some_iff.mp e2
          refine r.at rl e1 fun F' H' v g av=>?_
          have rl2:=rl.grow g
          obtain ⟨q,xs,f1,_⟩:=rl2.owns i ds hs
          refine ⟨_,f1,?_⟩
          refine rk σ _ _ H' _ _ rl2.gh rl2.visG e3 fun F3 H3 v3 g3 av3=>?_
          obtain ⟨gb,_⟩:=rl2.back g3
          have rl3:=rl2.grow gb
          obtain ⟨q3,xs3,f1',_,_,f4,f5⟩:=rl3.owns i ds hs
          rw [f1] at f1'
          cases f1'
          refine ⟨q,xs3,kk,j,rfl,av3.int_inv,f4,by rw [f5.length];exact e4,?_⟩
          exact k _ _ σ (rl3.mutate hs f1 (f5.set j (av.mono gb.ff)))
        | _=>cases e2
end
end Dl
namespace L2
open PySem PySem.Spec PyProof.Rows
section
variable {X:Cx}{tg:Expr}
def iSeq (K:PySem.W.Frag)(tl:TE):TI:=fun σ H R=>tl σ H fun x H1=>(∃ a,x=.ref a∧(∃ xs,SqL K H1 a xs)∧R (Itl K a) H1)∨(∃ a,x=.ref a∧(∃ xs,SqT K H1 a xs)∧R (Itt K a) H1)
theorem zlk {l:Expr}{tl:TE}(hl:PE X l tl):PI X tg l (iSeq X.K tl):=by
  intro pins s σ H R I h
  refine thn (hl pins s σ H _ I h) fun v s1 hh9=>?_
  obtain ⟨x,H1,I1,r1,q1⟩:=hh9
  rcases q1 with ⟨a,e,⟨xs,hq⟩,q⟩ | ⟨a,e,⟨xs,hq⟩,q⟩
  · subst e
    cases r1
    obtain ⟨its,rv,p,hz⟩:=I1.list hq
    refine wpAny_pyIter_list p.isList ?_
    refine ⟨s1.heap.objs.size,[s1.heap.objs.size],_,_,H1,rfl,I1.kept (t':=s1.toks) fun b o e=>Heap.get?_push_of_some _ e,zfn a _,⟨_,Heap.get?_push_size _ rfl,rfl,rfl⟩,fun b hb=>?_,q⟩
    have e:b=s1.heap.objs.size:=by simpa using hb
    subst e
    exact I1.fpOk (Nat.le_refl _) (I1.hok.fresh (Nat.le_refl _))
  · subst e
    cases r1
    obtain ⟨its,rv,p,hz⟩:=I1.tuple hq
    refine wpAny_pyIter_tuple (show s1.heap.IsTuple a its.toArray from p) ?_
    refine ⟨s1.heap.objs.size,[s1.heap.objs.size],_,_,H1,rfl,I1.kept (t':=s1.toks) fun b o e=>Heap.get?_push_of_some _ e,zdr a _,⟨_,Heap.get?_push_size _ rfl,rfl,rfl⟩,fun b hb=>?_,q⟩
    have e:b=s1.heap.objs.size:=by simpa using hb
    subst e
    exact I1.fpOk (Nat.le_refl _) (I1.hok.fresh (Nat.le_refl _))
end
end L2
namespace Dl
open PySem L2
variable [KK]
def zjJ (J:It)(F:Hp)(ds:List D):Prop:=∀ (i:Nat) (F2 H2:Hp),yJ F F2→yJ F2 H2→(i=ds.length→J.stop i H2) ∧
  ∀ d,ds[i]?=some d→J.go i H2∧∀ x H3,J.yld i H2 x H3→∃ F3,Gr F2 H2 F3 H3∧At F3 d x
def RI (wi:TI)(f:Ev→Option (List D)):Prop :=
  ∀ (σ:St) (ρ:Ev) (F H:Hp) (ds:List D) (R:It→Hp→Prop),yJ F H→VAt F ρ σ→f ρ=some ds→(∀ F' H' J,Gr F H F' H'→zjJ J F' ds→R J H')→wi σ H R
def ID (X:Cx)(tg iter:Expr)(f:Ev→Option (List D)):Prop:=∃ wi,PI X tg iter wi∧RI wi f
def wj:D→Option (List D)
  | .lst ds=>some ds
  | .tup ds=>some ds
  | _=>none
section
variable {X:Cx}{tg a b c e:Expr}{pos:Pos}
theorem zj3 {K:PySem.W.Frag}{F:Hp}{p:Addr}{xs:List V}{ds:List D}(h:F p=some (.lst xs))(al:AtL F ds xs):zjJ (Itl K p) F ds:=by
  intro i F2 H2 s1 s2
  have q:SqL K H2 p xs:=SqL.of (s2 _ _ (s1 _ _ h))
  refine ⟨fun hl=>⟨xs,q,by rw [al.length,hl];exact Nat.le_refl _⟩,fun d hd=>?_⟩
  obtain ⟨x,hx,ax⟩:=al.get hd
  refine ⟨⟨xs,x,q,hx⟩,fun y H3 hy=>?_⟩
  obtain ⟨rfl,hy⟩:=hy
  have:=hy xs q
  rw [hx] at this
  cases this
  exact ⟨F2,.refl s2,ax.mono s1⟩
theorem zkk {K:PySem.W.Frag}{F:Hp}{p:Addr}{xs:List V}{ds:List D}(h:F p=some (.tup xs))(al:AtL F ds xs):zjJ (Itt K p) F ds:=by
  intro i F2 H2 s1 s2
  have q:SqT K H2 p xs:=SqT.of (s2 _ _ (s1 _ _ h))
  refine ⟨fun hl=>⟨xs,q,by rw [al.length,hl];exact Nat.le_refl _⟩,fun d hd=>?_⟩
  obtain ⟨x,hx,ax⟩:=al.get hd
  refine ⟨⟨xs,x,q,hx⟩,fun y H3 hy=>?_⟩
  obtain ⟨rfl,hy⟩:=hy
  have:=hy xs q
  rw [hx] at this
  cases this
  exact ⟨F2,.refl s2,ax.mono s1⟩
def iOf (f:Ev→Option D):Ev→Option (List D):=fun ρ=>(f ρ).bind wj
theorem xU {f:Ev→Option D}(ha:ED X a f):ID X tg a (iOf f):=by
  obtain ⟨t,p,r⟩:=ha
  refine ⟨_,zlk p,fun σ ρ F H ds R s va e q=>?_⟩
  obtain ⟨d,e1,e2⟩:=Option.bind_eq_some_iff.mp e
  refine r σ ρ F H d _ s va e1 fun F1 H1 v g1 a1=>?_
  cases d <;> try cases e2
  · obtain ⟨p,xs,rfl,hx,al⟩:=a1.tup_inv
    exact .inr ⟨p,rfl,⟨xs,SqT.of (g1.fh _ _ hx)⟩,q F1 H1 _ g1 (zkk hx al)⟩
  · obtain ⟨p,xs,rfl,hx,al⟩:=a1.lst_inv
    exact .inl ⟨p,rfl,⟨xs,SqL.of (g1.fh _ _ hx)⟩,q F1 H1 _ g1 (zj3 hx al)⟩
def XY (lo:Int)(n:Nat):List D:=(List.range n).map fun k:Nat=>.int (lo+k)
theorem zgd {F:Hp}(lo:Int)(n:Nat):zjJ (Itr lo n) F (XY lo n):=by
  intro i F2 H2 s1 s2
  have hlen:(XY lo n).length=n:=by unfold XY;simp
  refine ⟨fun hl=>by rw [hlen] at hl;rw [hl];exact Nat.le_refl _,fun d hd=>?_⟩
  have hi:i < n:=by
    have:=(List.getElem?_eq_some_iff.mp hd).1
    omega
  refine ⟨hi,fun y H3 hy=>?_⟩
  obtain ⟨rfl,rfl⟩:=hy
  refine ⟨F2,.refl s2,?_⟩
  unfold XY at hd
  rw [List.getElem?_map,List.getElem?_range hi] at hd
  cases hd
  exact .int
@[irreducible] def zgu (j:Int):Bool:=decide (-(2 ^ 62)≤j∧j < 2 ^ 62)
omit [KK] in
theorem yF {j:Int}:zgu j=true↔-(2 ^ 62)≤j∧j < 2 ^ 62:=by unfold zgu;exact decide_eq_true_iff
def Zz:List D→Option (List D)
  | [.int j]=>if zgu j=true then some (XY 0 j.toNat) else none
  | _=>none
def Zr:List D→Option (List D)
  | [.int i,.int j]=>if zgu i=true∧zgu j=true then some (XY i (j - i).toNat) else none
  | _=>none
def Vi (g:List D→Option (List D))(f:Ev→Option (List D)):Ev→Option (List D):=fun ρ=>(f ρ).bind g
theorem zfl {p:Pos} {f:Ev→Option (List D)} (hg:Gl X "range") (hm:X.mg "range"=none) (ha:AD X [a,b] f) (hs:starEach [a,b] X.env=[(false,eval a X.env),(false,eval b X.env)]:=by rfl) (hs2:starEach [b] X.env=[(false,eval b X.env)]:=by rfl) :
    ID X tg (.Call (.Name "range" p) [a,b] [] pos) (Vi Zr f):=by
  obtain ⟨t,pa,r⟩:=ha
  refine ⟨_,zbs hg hm pa hs hs2,fun σ ρ F H ds R s va e q=>?_⟩
  obtain ⟨d,e1,e2⟩:=Option.bind_eq_some_iff.mp e
  refine r σ ρ F H d _ s va e1 fun F1 H1 v g1 a1=>?_
  unfold Zr at e2
  split at e2
  · split at e2
    · cases e2
      rename_i hc
      obtain ⟨x,r',rfl,ax,ar⟩:=a1.cons_inv
      obtain ⟨y,r',rfl,ay,ar⟩:=ar.cons_inv
      cases ar.nil_inv
      exact ⟨_,_,by rw [ax.int_inv,ay.int_inv],⟨(yF.mp hc.1).1,(yF.mp hc.1).2,(yF.mp hc.2).1,(yF.mp hc.2).2⟩,q F1 H1 _ g1 (zgd _ _)⟩
    · cases e2
  · cases e2
def Xm (n:Nat):List D→List D
  | []=>[]
  | d::ds=>.tup [.int n,d]::Xm (n+1) ds
omit [KK] in
theorem vG (ds:List D):∀ (n i:Nat),(Xm n ds)[i]?=(ds[i]?).map fun d=>.tup [.int ((n+i:Nat):Int),d]:=by
  induction ds with
  | nil=>intro n i;simp [Xm]
  | cons d ds ih =>
    intro n i
    cases i with
    | zero=>simp [Xm]
    | succ i =>
      show (Xm (n+1) ds)[i]?=(ds[i]?).map _
      rw [ih]
      have:n+1+i=n+(i+1):=by omega
      rw [this]
omit [KK] in
theorem wV (ds:List D):∀ n,(Xm n ds).length=ds.length:=by
  induction ds with
  | nil=>intro n;rfl
  | cons d ds ih=>intro n;simp [Xm,ih]
def yW (f:Ev→Option (List D)):Ev→Option (List D):=fun ρ=>(f ρ).bind fun as=>match as with
  | [d]=>(wj d).map (Xm 0)
  | _=>none
theorem W7 {es:List Expr} {k:Nat} {tp p:Pos} {f:Ev→Option (List D)} (hg:Gl X "enumerate") (hm:X.mg "enumerate"=none) (hb:bootBuiltins "enumerate"=some (.type "enumerate")) (ha:AD X [a] f)
    (hs:starEach [a] X.env=[(false,eval a X.env)]:=by rfl):ID X (.Tuple es k tp) (.Call (.Name "enumerate" p) [a] [] pos) (yW f):=by
  obtain ⟨t,pa,r⟩:=ha
  refine ⟨_,zjB hg hm hb pa hs,fun σ ρ F H ds R s va e q=>?_⟩
  obtain ⟨as,e1,e2⟩:=Option.bind_eq_some_iff.mp e
  refine r σ ρ F H as _ s va e1 fun F1 H1 v g1 a1=>?_
  split at e2
  · obtain ⟨x,r',rfl,ax,ar⟩:=a1.cons_inv
    cases ar.nil_inv
    obtain ⟨es,e3,rfl⟩:=Option.map_eq_some_iff.mp e2
    rename_i d
    cases d <;> try cases e3
    · obtain ⟨p,xs,rfl,hx,al⟩:=ax.tup_inv
      refine ⟨p,rfl,.inr ⟨xs,SqT.of (g1.fh _ _ hx),q F1 H1 _ g1 fun i F2 H2 s1 s2=>?_⟩⟩
      have qq:SqT X.K H2 p xs:=SqT.of (s2 _ _ (s1 _ _ hx))
      refine ⟨fun hl=>⟨xs,qq,by rw [al.length,hl,wV];exact Nat.le_refl _⟩,fun d hd=>?_⟩
      rw [vG] at hd
      obtain ⟨d',hd',rfl⟩:=Option.map_eq_some_iff.mp hd
      obtain ⟨x,hxi,ax⟩:=al.get hd'
      refine ⟨⟨xs,x,qq,hxi⟩,fun y H3 hy=>?_⟩
      obtain ⟨T,y,rfl,hT,rfl,hy⟩:=hy
      have:=hy xs qq
      rw [hxi] at this
      cases this
      have g3:=Gr.alloc s2 hT (.tup [.int i,x])
      exact ⟨_,g3,.tup zu (.cons (by rw [Nat.zero_add];exact .int) (.cons (ax.mono (s1.trans g3.ff)) .nil))⟩
    · obtain ⟨p,xs,rfl,hx,al⟩:=ax.lst_inv
      refine ⟨p,rfl,.inl ⟨xs,g1.fh _ _ hx,q F1 H1 _ g1 fun i F2 H2 s1 s2=>?_⟩⟩
      have qq:SqL X.K H2 p xs:=SqL.of (s2 _ _ (s1 _ _ hx))
      refine ⟨fun hl=>⟨xs,qq,by rw [al.length,hl,wV];exact Nat.le_refl _⟩,fun d hd=>?_⟩
      rw [vG] at hd
      obtain ⟨d',hd',rfl⟩:=Option.map_eq_some_iff.mp hd
      obtain ⟨x,hxi,ax⟩:=al.get hd'
      refine ⟨⟨xs,x,qq,hxi⟩,fun y H3 hy=>?_⟩
      obtain ⟨T,y,rfl,hT,rfl,hy⟩:=hy
      have:=hy xs qq
      rw [hxi] at this
      cases this
      have g3:=Gr.alloc s2 hT (.tup [.int i,x])
      exact ⟨_,g3,.tup zu (.cons (by rw [Nat.zero_add];exact .int) (.cons (ax.mono (s1.trans g3.ff)) .nil))⟩
  · cases e2
def hb2 (F1 Hb:Hp):Hp:=fun p=>match F1 p with
  | some o=>some o
  | none=>Hb p
theorem Wc {F1 Hb:Hp}{p:Addr}(h:F1 p=none):hb2 F1 Hb p=Hb p:=by unfold hb2;rw [h]
theorem zht {F1 Hb:Hp}{p:Addr}{o:HO}(h:F1 p=some o):hb2 F1 Hb p=some o:=by unfold hb2;rw [h]
theorem Gr.up {Fb Hb F1 H1 F H:Hp}(g1:Gr Fb Hb F1 H1)(g:Gr F1 (hb2 F1 Hb) F H):Gr Fb Hb F H:=by
  refine ⟨g1.ff.trans g.ff,g.fh,fun p o e1 e2=>?_⟩
  rcases (g1.kp p o e1 e2).1 with n | ⟨n1,n2⟩
  · exact g.kp p o n (by rw [Wc n];exact e2)
  · exact ⟨.inr ⟨n1,g.ff _ _ n2⟩,g.fh _ _ (g.ff _ _ n2)⟩
theorem Gr.dn {Fb Hb F1 F H:Hp}(g:Gr Fb Hb F H)(s1:yJ Fb F1)(s:yJ F1 F):Gr F1 (hb2 F1 Hb) F H:=by
  refine ⟨s,g.fh,fun p o e1 e2=>?_⟩
  rw [Wc e1] at e2
  exact g.kp p o (s1.free e1) e2
theorem Rl.up {Fb Hb F1 H1 F H:Hp}{ρ:SE}{σ:St}(g1:Gr Fb Hb F1 H1)(r:Rl F1 (hb2 F1 Hb) F H ρ σ):Rl Fb Hb F H ρ σ:=by
  refine ⟨g1.up r.gr,r.vals,fun i s e ho=>?_,r.dis,r.len⟩
  obtain ⟨p,o,e1,e2,e3⟩:=r.ows i s e ho
  refine ⟨p,o,e1,?_,e3⟩
  cases h:F1 p with
  | none=>rw [Wc h] at e2;exact e2
  | some o=>rw [zht h] at e2;cases e2
theorem Rl.dn {Fb Hb F1 F H:Hp}{ρ:SE}{σ:St}(r:Rl Fb Hb F H ρ σ)(s1:yJ Fb F1)(s:yJ F1 F):Rl F1 (hb2 F1 Hb) F H ρ σ:=by
  refine ⟨r.gr.dn s1 s,r.vals,fun i t e ho=>?_,r.dis,r.len⟩
  obtain ⟨p,o,e1,e2,e3,e4⟩:=r.ows i t e ho
  refine ⟨p,o,e1,?_,e3,e4⟩
  rw [Wc (s.free e3)]
  exact e2
def zf3 (b:D→SE→Option SE)(g:SE→Ctl):List D→SE→Ctl
  | [],ρ=>.nx ρ
  | d::ds,ρ=>match b d ρ with
    | none=>.no
    | some ρ1=>match g ρ1 with
      | .nx ρ'=>zf3 b g ds ρ'
      | .ct ρ'=>zf3 b g ds ρ'
      | .bk ρ'=>.nx ρ'
      | .rt d=>.rt d
      | .no=>.no
def Zv (f:Ev→Option (List D))(b:D→SE→Option SE)(g:SE→Ctl):SE→Ctl:=fun ρ=>match f (visF ρ) with
  | some ds=>zf3 b g ds ρ
  | none=>.no
theorem zfI {Fb Hb F1 H1:Hp}{ρ:SE}{σ:St}{E:zbe}{J:It}{g:TG}{tb:TS}{ds:List D}{b:D→SE→Option SE}{gb:SE→Ctl}(hit:zjJ J F1 ds)(rg:RG g b)(rb:RS tb gb)(rl0:Rl Fb Hb F1 H1 ρ σ)(k:SOk Fb Hb E (zf3 b gb ds ρ)) :
    ∃ W:Nat→Nat→St→Hp→Prop,(∃ m,W 0 m σ H1)∧∀ i m σ H,W i m σ H →
      (J.stop i H∧E.nx σ H)∨(J.go i H∧∃ N:St→Hp→Prop,(∀ σ' H',N σ' H'→∃ m',m' < m∧W (i+1) m' σ' H')∧∀ x H',J.yld i H x H'→g x σ H' fun σ2 H2=>tb { E with nx:=N,ct:=N,bk:=E.nx } σ2 H2):=by
  refine ⟨fun i m σ H=>m=ds.length - i∧i≤ds.length∧∃ F ρ,yJ F1 F∧Rl Fb Hb F H ρ σ∧SOk Fb Hb E (zf3 b gb (ds.drop i) ρ),⟨ds.length,by simp,Nat.zero_le _,F1,ρ,yJ.refl _,rl0,k⟩,?_⟩
  rintro i m σ H ⟨rfl,hi,F,ρ,s1,rl,k⟩
  obtain ⟨stop,go⟩:=hit i F H s1 rl.gr.fh
  by_cases hlt:i < ds.length
  · have hd:ds.drop i=ds[i]::ds.drop (i+1):=List.drop_eq_getElem_cons hlt
    rw [hd] at k
    unfold zf3 at k
    obtain ⟨g1,g2⟩:=go ds[i] (by simp [hlt])
    refine .inr ⟨g1,fun σ H=>∃ F ρ,yJ F1 F∧Rl Fb Hb F H ρ σ∧SOk Fb Hb E (zf3 b gb (ds.drop (i+1)) ρ),fun σ' H' w=>⟨ds.length - (i+1),by omega,rfl,hlt,w⟩,fun x H' hy=>?_⟩
    obtain ⟨F3,g3,a3⟩:=g2 x H' hy
    cases hb:b ds[i] ρ with
    | none=>rw [hb] at k;exact k.elim
    | some ρ1 =>
      rw [hb] at k
      dsimp only at k
      refine rg Fb Hb F3 H' ρ ρ1 σ _ x _ (rl.grow g3) a3 hb fun σ2 rl2=>?_
      have s3:=s1.trans g3.ff
      refine rb F1 (hb2 F1 Hb) F3 H' ρ1 σ2 _ (rl2.dn rl0.gr.ff s3) ?_
      cases hg:gb ρ1 with
      | nx ρ'=>rw [hg] at k;exact fun F4 H4 σ4 r4=>⟨F4,ρ',r4.gr.ff,r4.up rl0.gr,k⟩
      | ct ρ'=>rw [hg] at k;exact fun F4 H4 σ4 r4=>⟨F4,ρ',r4.gr.ff,r4.up rl0.gr,k⟩
      | bk ρ'=>rw [hg] at k;exact fun F4 H4 σ4 r4=>k F4 H4 σ4 (r4.up rl0.gr)
      | rt d=>rw [hg] at k;exact fun F4 H4 v g4 a4=>k F4 H4 v (rl0.gr.up g4) a4
      | no=>rw [hg] at k;exact k.elim
  · have e:i=ds.length:=by omega
    subst e
    rw [List.drop_length] at k
    exact .inl ⟨stop rfl,k F H σ rl⟩
theorem Zq {iter:Expr}{body:List Stmt}{f:Ev→Option (List D)}{b:D→SE→Option SE}{g:SE→Ctl}(hp:PassesOwn (model X.prog X.w) X.A X.env X.xe)(hc:X.calm=true)(hi:ID X tg iter f)(hg:BD X tg b)(hb:SDs X body g)
    (hs:∀ x,foldedSetIterable iter X.env x=pure x:=by intro _;rfl):SD X (.For tg iter body [] pos) (Zv f b g):=by
  obtain ⟨wi,pi,ri⟩:=hi
  obtain ⟨tg',pg,rg⟩:=hg
  obtain ⟨tb,pb,rb⟩:=hb
  refine ⟨_,zfE hp hc pi pg pb hs,fun Fb Hb F H ρ σ E rl k=>?_⟩
  unfold Zv at k
  cases h:f (visF ρ) with
  | none=>rw [h] at k;exact k.elim
  | some ds =>
    rw [h] at k
    exact ri σ _ _ H ds _ rl.gr.fh rl.visF h fun F1 H1 J g1 ok=>zfI ok rg rb (rl.grow g1) k
end
def lcD (b:D→Option (List (Option D)))(t:Ev→Option Bool)(f:Ev→Option D)(ρ:Ev):List D→Option (List D)
  | []=>some []
  | d::ds=>(b d).bind fun own=>(t (own++ρ)).bind fun c=>if c=true then (f (own++ρ)).bind fun y=>(lcD b t f ρ ds).map (y::·) else lcD b t f ρ ds
def fLC (i:Ev→Option (List D))(b:D→Option (List (Option D)))(t:Ev→Option Bool)(f:Ev→Option D):Ev→Option (List D):=fun ρ=>(i ρ).bind fun ds=>if lim ds.length=true then lcD b t f ρ ds else none
def b1:D→Option (List (Option D)):=fun d=>some [some d]
def b2:D→Option (List (Option D))
  | .tup [x,y]=>some [some x,some y]
  | _=>none
def RB (n:Nat)(t:TG)(b:D→Option (List (Option D))):Prop:=∀ (σ:St) (ρ:Ev) (F H:Hp) (d:D) (v:V) (own:List (Option D)) (Q:St→Hp→Prop),yJ F H→VAt F ρ σ→At F d v→b d=some own→(∀ σ',VAt F (own++ρ) σ'→Q σ' H)→t v (List.replicate n none++σ) H Q
def yg:Ev→Option Bool:=fun _=>some true
theorem zkK:RT tYes yg:=fun _ _ _ _ _ _ s _ e q=>by cases e;exact q _ _ (.refl s)
theorem zho {wi:TI}{n:Nat}{g:TG}{tt:TT}{te:TE}{fi:Ev→Option (List D)}{b:D→Option (List (Option D))}{ft:Ev→Option Bool}{fe:Ev→Option D}(ri:RI wi fi)(rg:RB n g b)(rt:RT tt ft)(re:RE te fe) :
    RF (tLC wi n g tt te) (fLC fi b ft fe):=by
  intro σ ρ F H out Q s va e q
  obtain ⟨ds,e1,e2⟩:=Option.bind_eq_some_iff.mp e
  split at e2 <;> try cases e2
  rename_i hlim
  have hlim:ds.length≤sizeLine:=of_decide_eq_true hlim
  refine ri σ ρ F H ds _ s va e1 fun F1 H1 J g1 ok=>?_
  intro P hP
  have hF1:F1 P=none:=g1.fh.free hP
  have hH0:H P=none:=by
    cases e:H P with
    | none=>rfl
    | some o =>
      cases e2:F P with
      | none=>rw [(g1.kp P o e2 e).2] at hP;cases hP
      | some u=>rw [g1.fh _ _ (g1.ff _ _ e2)] at hP;cases hP
  refine ⟨fun i m ys H2=>m=ds.length - i∧i≤ds.length∧∃ F2 done,Gr F1 H1 F2 H2∧Gr F1 (upd H1 P (.lst [])) F2 (upd H2 P (.lst []))∧F2 P=none∧H2 P=some (.lst ys)∧AtL F2 done ys∧done.length≤i∧∃ more,lcD b ft fe ρ (ds.drop i)=some more∧done++more=out,⟨ds.length,by simp,Nat.zero_le _,F1,[],Gr.hide g1.fh hP _,?_,hF1,zu,.nil,Nat.zero_le _,out,e2,rfl⟩,?_⟩
  · rw [zex]
    exact .refl fun b u z=>by rw [zr (zn z hF1)];exact g1.fh b u z
  rintro i m ys H2 ⟨rfl,hi,F2,done,g2,g2',hF2,hH2,al,hdl,more,hm,hout⟩
  obtain ⟨stop,go⟩:=ok i F2 H2 g2.ff g2.fh
  by_cases hlt:i < ds.length
  · have hd:ds.drop i=ds[i]::ds.drop (i+1):=List.drop_eq_getElem_cons hlt
    rw [hd] at hm
    unfold lcD at hm
    obtain ⟨own,hb,hm⟩:=Option.bind_eq_some_iff.mp hm
    obtain ⟨cb,hc,hm⟩:=Option.bind_eq_some_iff.mp hm
    obtain ⟨k1,k2⟩:=go ds[i] (by simp [hlt])
    refine .inr ⟨k1,by rw [al.length];omega,fun x H3 hy=>?_⟩
    obtain ⟨F3,g3,a3⟩:=k2 x H3 hy
    refine rg σ ρ F3 H3 ds[i] x own _ g3.fh (va.mono (g1.ff.trans (g2.ff.trans g3.ff))) a3 hb fun σ4 va4=>?_
    refine rt σ4 _ F3 H3 cb _ g3.fh va4 hc fun F5 H5 g5=>?_
    have g35:=g3.trans g5
    obtain ⟨n5,h5⟩:=g35.kl (fun _ e=>by cases e) hF2 hH2
    have keep2:∀ {F6 H6:Hp} {o:HO},Gr F2 H2 F6 H6→F6 P=none→Gr F1 (upd H1 P (.lst [])) F6 (upd (upd H6 P o) P (.lst [])):=fun {F6 H6 o} g6 n6=>by
      rw [zex]
      refine ⟨g2.ff.trans g6.ff,fun b u z=>?_,fun b u z1 z2=>?_⟩
      · rw [zr (zn z n6)];exact g6.fh b u z
      · by_cases hbP:b=P
        · subst hbP
          rw [zu] at z2 ⊢
          exact ⟨.inl n6,z2⟩
        · rw [zr hbP] at z2 ⊢
          exact (g2.trans g6).kp b u z1 z2
    have keep1:∀ {F6 H6:Hp} {o:HO},Gr F2 H2 F6 H6→F6 P=none→Gr F1 H1 F6 (upd H6 P o):=fun {F6 H6 o} g6 n6=>by
      refine ⟨g2.ff.trans g6.ff,fun b u z=>?_,fun b u z1 z2=>?_⟩
      · rw [zr (zn z n6)];exact g6.fh b u z
      · rw [zr (zn z2 hP)]
        exact (g2.trans g6).kp b u z1 z2
    cases cb with
    | false =>
      rw [if_neg Bool.false_ne_true] at hm ⊢
      have ups:H5=upd H5 P (.lst ys):=by
        funext b
        by_cases hbP:b=P
        · subst hbP;rw [zu];exact h5
        · rw [zr hbP]
      refine ⟨ds.length - (i+1),by omega,rfl,hlt,F5,done,?_,?_,n5,h5,al.mono g35.ff,by omega,more,hm,hout⟩
      · rw [ups];exact keep1 g35 n5
      · have:=keep2 (o:=.lst ys) g35 n5
        rw [←ups] at this
        exact this
    | true =>
      rw [if_pos rfl] at hm ⊢
      obtain ⟨y,hy,hm⟩:=Option.bind_eq_some_iff.mp hm
      obtain ⟨rest,hm',rfl⟩:=Option.map_eq_some_iff.mp hm
      refine re σ4 _ F5 H5 y _ g5.fh (va4.mono g5.ff) hy fun F6 H6 v g6 a6=>?_
      have g36:=g35.trans g6
      obtain ⟨n6,h6⟩:=g36.kl (fun _ e=>by cases e) hF2 hH2
      refine ⟨h6,ds.length - (i+1),by omega,rfl,hlt,F6,done++[y],keep1 g36 n6,keep2 g36 n6,n6,zu,(al.mono g36.ff).snoc a6,by rw [List.length_append];simp;omega,rest,hm',by rw [←hout,List.append_assoc];rfl⟩
  · have e:i=ds.length:=by omega
    subst e
    rw [List.drop_length] at hm
    cases hm
    rw [List.append_nil] at hout
    subst hout
    exact .inl ⟨stop rfl,q F2 H2 P ys (g1.trans g2) hH0 hF2 hH2 al⟩
theorem rb1:RB 1 (Y7 0) b1:=by
  intro σ ρ F H d v own Q s va av e q
  cases e
  refine q _ fun i d' h=>?_
  cases i with
  | zero=>cases h;exact ⟨v,rfl,av⟩
  | succ i=>exact va i d' h
theorem rb2 {K:PySem.W.Frag}:RB 2 (zlw K 2 (zcd (Y7 0) (zcd (Y7 1) zly))) b2:=by
  intro σ ρ F H d v own Q s va av e q
  unfold b2 at e
  split at e <;> cases e
  obtain ⟨p,xs,rfl,hx,al⟩:=av.tup_inv
  obtain ⟨x,r,rfl,ax,al⟩:=al.cons_inv
  obtain ⟨y,r,rfl,ay,al⟩:=al.cons_inv
  cases al.nil_inv
  refine ⟨p,_,rfl,SqT.of (s _ _ hx),rfl,x,_,rfl,y,_,rfl,rfl,?_⟩
  refine q _ fun i d' h=>?_
  match i,h with
  | 0,h=>cases h;exact ⟨x,rfl,ax⟩
  | 1,h=>cases h;exact ⟨y,rfl,ay⟩
  | i+2,h=>exact va i d' h
def tCan (f:Ev→Option D):TE:=fun σ H Q=>∃ ρ F d,yJ F H∧VAt F ρ σ∧f ρ=some d∧∀ F' H' v,Gr F H F' H'→At F' d v→Q v H'
def zlo (f:Ev→Option Bool):TT:=fun σ H Q=>∃ ρ F d,yJ F H∧VAt F ρ σ∧f ρ=some d∧∀ F' H',Gr F H F' H'→Q d H'
theorem ED.can {X:Cx}{e:Expr}{f:Ev→Option D}(h:ED X e f):PE X e (tCan f):=by
  obtain ⟨t,p,r⟩:=h
  rintro pins s σ H Q I ⟨ρ,F,d,h1,h2,h3,h4⟩
  exact p pins s σ H Q I (r σ ρ F H d Q h1 h2 h3 h4)
theorem TD.can {X:Cx}{e:Expr}{f:Ev→Option Bool}(h:TD X e f):PT X e (zlo f):=by
  obtain ⟨t,p,r⟩:=h
  rintro pins s σ H Q I ⟨ρ,F,d,h1,h2,h3,h4⟩
  exact p pins s σ H Q I (r σ ρ F H d Q h1 h2 h3 h4)
theorem zcN {f:Ev→Option D}:RE (tCan f) f:=fun _ ρ F _ d _ h1 h2 h3 h4=>⟨ρ,F,d,h1,h2,h3,h4⟩
theorem zgh {f:Ev→Option Bool}:RT (zlo f) f:=fun _ ρ F _ d _ h1 h2 h3 h4=>⟨ρ,F,d,h1,h2,h3,h4⟩
theorem Y8 {X:Cx}{elt tg iter:Expr}{L M:List Str}{scope:Scope}{cl:List (Str × Addr)}{pos:Pos}{fi:Ev→Option (List D)}{b:D→Option (List (Option D))}{fe:Ev→Option D}{g:TG}
    (hc:X.calm=true) (S:wD X L M scope cl) (hi:ID X tg iter fi)
    (hgS:∀ (σ:St) (v:V) (H:Hp) (Q:St→Hp→Prop),g v (List.replicate L.length none++σ) H Q→g v (List.replicate L.length none++σ) H (fun σ2 H2=>ZO (List.replicate L.length none++σ) σ2∧Q σ2 H2))
    (hrb:RB L.length g b)
    (hg:∀ s₀ H₀ ex pn,PG (zaT X L M scope cl s₀ H₀ ex pn) tg g) (he:∀ s₀ H₀ ex pn,ED (zaT X L M scope cl s₀ H₀ ex pn) elt fe)
    (hs:∀ x,foldedSetIterable iter X.env x=pure x:=by intro _;rfl):FL X (.ListComp elt [⟨tg,iter,[],0⟩] scope pos) (fLC fi b yg fe):=by
  obtain ⟨wi,pi,ri⟩:=hi
  exact ⟨_,zid hc S pi hgS hg (fun _ _ _ _=>ziz) (fun _ _ _ _=>(he _ _ _ _).can) hs,zho ri hrb zkK zcN⟩
theorem zez {X:Cx}{elt tg iter c:Expr}{L M:List Str}{scope:Scope}{cl:List (Str × Addr)}{pos:Pos}{fi:Ev→Option (List D)}{b:D→Option (List (Option D))}{ft:Ev→Option Bool}{fe:Ev→Option D}{g:TG}
    (hc:X.calm=true) (S:wD X L M scope cl) (hi:ID X tg iter fi)
    (hgS:∀ (σ:St) (v:V) (H:Hp) (Q:St→Hp→Prop),g v (List.replicate L.length none++σ) H Q→g v (List.replicate L.length none++σ) H (fun σ2 H2=>ZO (List.replicate L.length none++σ) σ2∧Q σ2 H2))
    (hrb:RB L.length g b)
    (hg:∀ s₀ H₀ ex pn,PG (zaT X L M scope cl s₀ H₀ ex pn) tg g) (ht:∀ s₀ H₀ ex pn,TD (zaT X L M scope cl s₀ H₀ ex pn) c ft) (he:∀ s₀ H₀ ex pn,ED (zaT X L M scope cl s₀ H₀ ex pn) elt fe)
    (hs:∀ x,foldedSetIterable iter X.env x=pure x:=by intro _;rfl):FL X (.ListComp elt [⟨tg,iter,[c],0⟩] scope pos) (fLC fi b ft fe):=by
  obtain ⟨wi,pi,ri⟩:=hi
  exact ⟨_,zid hc S pi hgS hg (fun _ _ _ _=>zcD (ht _ _ _ _).can) (fun _ _ _ _=>(he _ _ _ _).can) hs,zho ri hrb zgh zcN⟩
theorem zk9 {t:TE}{f:Ev→Option (List D)}(r:RF t f):RE t (xW f):=by
  intro σ ρ F H d Q s va e q
  obtain ⟨ds,e1,rfl⟩:=Option.map_eq_some_iff.mp e
  refine r σ ρ F H ds Q s va e1 fun F' H' p xs g h0 hF hH hx=>?_
  have g2:=g.show h0 hF hH
  exact q _ _ _ g2 (At.lst zu (hx.mono (fun b u e=>by rw [zr (zn e hF)];exact e)))
def FLS (X:Cx)(i:Nat)(st:Stmt)(f:Ev→Option (List D)):Prop:=∃ t,PS X st (zi8 t (Y7 i))∧RF t f
theorem ziY {m:Bool}{i:Nat}{st:Stmt}{f:Ev→Option (List D)}(he:FLS X i st f):SD X st (xB m i (xW f)):=by
  obtain ⟨t,p,r⟩:=he
  refine ⟨_,p,fun Fb Hb F H ρ σ E rl k=>?_⟩
  unfold xB at k
  cases h:vEv m (xW f) ρ with
  | none=>rw [h] at k;exact k.elim
  | some d =>
    rw [h] at k
    exact (zk9 r).at rl h fun F' H' v g av=>k F' H' _ ((rl.grow g).set av)
theorem zgc {i:Nat}{x:Str}{px spos:Pos}{X:Cx}{elt tg iter c:Expr}{L M:List Str}{scope:Scope}{cl:List (Str × Addr)}{pos:Pos}{fi:Ev→Option (List D)}{b:D→Option (List (Option D))}{ft:Ev→Option Bool}{fe:Ev→Option D}{g:TG}
    (hN:X.N.Nodup) (hi':X.N[i]?=some x) (hx:Loc X.env.scope x) (hc:X.calm=true) (S:wD X L M scope cl) (hi:ID X tg iter fi)
    (hgS:∀ (σ:St) (v:V) (H:Hp) (Q:St→Hp→Prop),g v (List.replicate L.length none++σ) H Q→g v (List.replicate L.length none++σ) H (fun σ2 H2=>ZO (List.replicate L.length none++σ) σ2∧Q σ2 H2))
    (hrb:RB L.length g b)
    (hg:∀ s₀ H₀ ex pn,PG (zaT X L M scope cl s₀ H₀ ex pn) tg g) (ht:∀ s₀ H₀ ex pn,TD (zaT X L M scope cl s₀ H₀ ex pn) c ft) (he:∀ s₀ H₀ ex pn,ED (zaT X L M scope cl s₀ H₀ ex pn) elt fe)
    (hs:∀ x,foldedSetIterable iter X.env x=pure x:=by intro _;rfl)
    (hsw:swapsWith (.ListComp elt [⟨tg,iter,[c],0⟩] scope pos) (some (.Name x px)) spos.line X.env=pure true:=by rfl)
    (hf:X.fn x=true∨X.env.scope.names.lookup x=some .local:=by first | exact .inl rfl | exact .inr rfl | assumption):FLS X i (.Assign [.Name x px] (.ListComp elt [⟨tg,iter,[c],0⟩] scope pos) spos) (fLC fi b ft fe):=by
  obtain ⟨wi,pi,ri⟩:=hi
  exact ⟨_,zkN hN hi' hx hc S pi hgS hg (fun _ _ _ _=>zcD (ht _ _ _ _).can) (fun _ _ _ _=>(he _ _ _ _).can) hs hsw hf,zho ri hrb zgh zcN⟩
def fnD (n:Nat)(g:SE→Ctl)(ds:List D):Option D:=match g (ds.map .v++List.replicate (n - ds.length) .no) with
  | .rt d=>some d
  | .nx _=>some .non
  | _=>none
def spD (m:Nat)(p:List D→Option D):Sp:=fun vs H Q _=>∃ ds d F,ds.length=m∧yJ F H∧AtL F ds vs∧p ds=some d∧∀ F' H' v,Gr F H F' H'→At F' d v→Q v H'
theorem zah {F H:Hp}{N:List Str}{ds:List D}{vs:List V}(s:yJ F H)(a:AtL F ds vs):Rl F H F H (ds.map .v++List.replicate (N.length - ds.length) .no) (L2.start N vs):=by
  have hl:=a.length
  have noO:∀ (i:Nat) (t:Sl),(ds.map Sl.v++List.replicate (N.length - ds.length) Sl.no)[i]?=some t→t.isO=true→False:=fun i t h ho=>by
    by_cases hi:i < ds.length
    · rw [List.getElem?_append_left (by simpa using hi),List.getElem?_map] at h
      cases e:ds[i]? with
      | none=>rw [e] at h;cases h
      | some d=>rw [e] at h;cases h;cases ho
    · rw [List.getElem?_append_right (by simpa using hi),List.getElem?_replicate] at h
      split at h <;> cases h
      cases ho
  refine ⟨.refl s,fun i d h=>?_,fun i t h ho=>(noO i t h ho).elim,fun i j p t u h _ ho=>(noO i t h ho).elim,?_⟩
  · by_cases hi:i < ds.length
    · rw [List.getElem?_append_left (by simpa using hi),List.getElem?_map] at h
      cases e:ds[i]? with
      | none=>rw [e] at h;cases h
      | some d' =>
        rw [e] at h
        cases h
        obtain ⟨x,hx,ax⟩:=a.get e
        refine ⟨x,?_,ax⟩
        unfold L2.start
        rw [List.getElem?_append_left (by simpa [hl] using hi),List.getElem?_map,hx]
        rfl
    · rw [List.getElem?_append_right (by simpa using hi),List.getElem?_replicate] at h
      split at h <;> cases h
  · unfold L2.start
    simp [hl]
theorem xj {P:Program}{w:World}{K:PySem.W.Frag}{mg:Str→Option Value}{base:Heap}{x qual:Str}{st:Stmt}{f:Addr}{fd:FuncData}{N ps:List Str}{k:Nat}{g:SE→Ctl}(Fu:Fun K x qual st f fd)(S:zx N ps (zg st))
    (hb:∀ (cdv:Value) (A:Around) (outer:List Env) (s:Shared) (H:Hp) (E:XK),YO k (A.deeper (PyProof.Rows.envOfC qual (zg st) s.heap.objs.size f cdv))→SDs (VF CX0 P w K mg base N qual (zg st) f cdv A outer s H E).nox (zv st) g) :
    xE P w K mg base CX0 (k+1) f fd ps (spD ps.length (fnD N.length g)):=by
  refine Fu.ok S (fun vs H Q E h=>?_) fun cdv A outer s H vs Q E hr h=>?_
  · obtain ⟨ds,d,F,hl,_,a,_⟩:=h
    rw [a.length];exact hl
  · obtain ⟨ds,d,F,hl,sm,a,e,q⟩:=h
    obtain ⟨t,p,r⟩:=hb cdv A outer s H E hr
    refine ⟨t,p,r F H F H _ _ _ (zah sm a) ?_⟩
    unfold fnD at e
    cases hg:g (ds.map .v++List.replicate (N.length - ds.length) .no) with
    | rt d'=>rw [hg] at e;cases e;exact fun F' H' v g av=>q F' H' v g av
    | nx ρ=>rw [hg] at e;cases e;exact fun F' H' σ rl=>q F' H' _ rl.gr .non
    | bk ρ=>rw [hg] at e;cases e
    | ct ρ=>rw [hg] at e;cases e
    | no=>rw [hg] at e;cases e
theorem vV {P:Program}{w:World}{K:PySem.W.Frag}{mg:Str→Option Value}{base:Heap}{f:Addr}{fd:FuncData}{ps:List Str}{k m:Nat}{p q:List D→Option D}(F:xE P w K mg base CX0 k f fd ps (spD m p))(h:∀ ds d,ds.length=m→q ds=some d→p ds=some d):xE P w K mg base CX0 k f fd ps (spD m q) :=
  F.imp fun vs H Q E ⟨ds,d,F',h1,h2,h3,h4,h5⟩=>⟨ds,d,F',h1,h2,h3,h ds d h1 h4,h5⟩
def zt (m:Nat)(p:List D→Option D)(f:Ev→Option (List D)):Ev→Option D:=fun ρ=>(f ρ).bind fun ds=>if ds.length=m then p ds else none
theorem zo {X:Cx}{x:Str}{k m:Nat}{f:Addr}{fd:FuncData}{ps:List Str}{p:List D→Option D}{e:Expr}{es:List Expr}{pp pos:Pos}{fa:Ev→Option (List D)}(F:xE X.prog X.w X.K X.mg X.base CX0 k f fd ps (spD m p))(hr:YO k X.A)(hg:Gl X x)(hm:X.mg x=some (.ref f))(hk:PySem.W.keepIn X.K (.ref f)=true)(hb:Vv X.K fd ps [])
    (ha:AD X (e::es) fa) (hdb:(x == ("__debug__":Str))=false:=by decide) (he:starEach (e::es) X.env=(false,eval e X.env)::starEach es X.env:=by rfl) (hpl:(backTo pos (starEach es X.env)).any (·.1)=false:=by rfl) :
    ED X (.Call (.Name x pp) (e::es) [] pos) (zt m p fa):=by
  obtain ⟨t,pa,r⟩:=ha
  refine ⟨_,zcn F hr hg hm hk hb .nil zln pa hdb he hpl,fun σ ρ F0 H d Q s va e q=>?_⟩
  obtain ⟨ds,e1,e2⟩:=Option.bind_eq_some_iff.mp e
  split at e2 <;> try cases e2
  rename_i hl
  refine r σ ρ F0 H ds _ s va e1 fun F1 H1 vs g1 a1=>?_
  refine ⟨ds,d,F1,hl,g1.fh,by rw [List.append_nil];exact a1,e2,fun F' H' v g av=>q F' H' v (g1.trans g) av⟩
end Dl
namespace Dl
open PySem L2
variable [KK]
section
variable {X:Cx}{a b c e:Expr}{pos:Pos}
theorem zA:bootBuiltins "isinstance"=some (.builtin "isinstance"):=by decide +kernel
theorem ZB:bootBuiltins "len"=some (.builtin "len"):=by decide +kernel
theorem zbx:bootBuiltins "min"=some (.builtin "min"):=by decide +kernel
theorem zeI:bootBuiltins "max"=some (.builtin "max"):=by decide +kernel
theorem zbD:bootBuiltins "sorted"=some (.builtin "sorted"):=by decide +kernel
theorem zeM:bootBuiltins "sum"=some (.builtin "sum"):=by decide +kernel
theorem zh0:bootBuiltins "all"=some (.builtin "all"):=by decide +kernel
theorem zkY:bootBuiltins "any"=some (.builtin "any"):=by decide +kernel
theorem zih:bootBuiltins "int"=some (.type "int"):=by decide +kernel
theorem zfM:bootBuiltins "bool"=some (.type "bool"):=by decide +kernel
theorem ym:bootBuiltins "tuple"=some (.type "tuple"):=by decide +kernel
theorem zfN:bootBuiltins "list"=some (.type "list"):=by decide +kernel
theorem wQ:bootBuiltins "enumerate"=some (.type "enumerate"):=by decide +kernel
theorem zkW:bootBuiltins "zip"=some (.type "zip"):=by decide +kernel
theorem zjR:bootBuiltins "set"=some (.type "set"):=by decide +kernel
def Wf (C:Int→Int→Bool)(g:Int→Int→Int):D→D→Option D
  | .int i,.int j=>if C i j=true then some (.int (g i j)) else none
  | _,_=>none
def vD (g:Int→Int→Int):D→D→Option D
  | .int i,.int j=>some (.int (g i j))
  | _,_=>none
def WL (g:Int→Int→Bool):D→D→Option D
  | .int i,.int j=>some (.bl (g i j))
  | _,_=>none
theorem Wg {C:Int→Int→Prop}{Cb:Int→Int→Bool}{g:Int→Int→Int}(h:∀ i j,Cb i j=true→C i j):OpD (rI C fun i j=>.int (g i j)) (Wf Cb g):=by
  intro F H x y d e z Q s ax ay ez q
  cases d <;> try cases ez
  cases e <;> try cases ez
  unfold Wf at ez
  dsimp only at ez
  split at ez <;> cases ez
  rename_i hc
  exact ⟨_,_,ax.int_inv,ay.int_inv,h _ _ hc,q F H _ (.refl s) .int⟩
theorem zbo {g:Int→Int→Int}:OpD (rI0 fun i j=>.int (g i j)) (vD g):=by
  intro F H x y d e z Q s ax ay ez q
  cases d <;> try cases ez
  cases e <;> try cases ez
  exact ⟨_,_,ax.int_inv,ay.int_inv,q F H _ (.refl s) .int⟩
theorem yq {g:Int→Int→Bool}:OpD (rI0 fun i j=>.bl (g i j)) (WL g):=by
  intro F H x y d e z Q s ax ay ez q
  cases d <;> try cases ez
  cases e <;> try cases ez
  exact ⟨_,_,ax.int_inv,ay.int_inv,q F H _ (.refl s) .bl⟩
theorem zbI {r r':R2}{g g':D→D→Option D}(h:OpD r g)(h':OpD r' g'):OpD (fun x y H Q=>r x y H Q∨r' x y H Q) (fun d e=>(g d e).or (g' d e)):=by
  intro F H x y d e z Q s ax ay ez q
  dsimp only at ez
  cases hg:g d e with
  | some z'=>rw [hg] at ez;cases ez;exact .inl (h F H x y d e z Q s ax ay hg q)
  | none=>rw [hg] at ez;exact .inr (h' F H x y d e z Q s ax ay ez q)
def zjO:D→D→Option D
  | .tup a,.tup b=>if lim (a.length+b.length)=true then some (.tup (a++b)) else none
  | _,_=>none
def zk6:D→D→Option (List D)
  | .lst a,.lst b=>if lim (a.length+b.length)=true then some (a++b) else none
  | _,_=>none
def zfS (d e:D):Option D:=(zk6 d e).map .lst
def zkf:D→D→Option D
  | .str a,.str b=>if lim (a.length+b.length)=true then some (.str (a++b)) else none
  | _,_=>none
theorem zhC {K:PySem.W.Frag}:OpD (zhZ K) zjO:=by
  intro F H x y d e z Q s ax ay ez q
  cases d <;> try cases ez
  cases e <;> try cases ez
  unfold zjO at ez
  dsimp only at ez
  split at ez <;> cases ez
  rename_i hl
  obtain ⟨p,xs,rfl,hx,al⟩:=ax.tup_inv
  obtain ⟨p2,ys,rfl,hy,bl⟩:=ay.tup_inv
  refine ⟨p,p2,xs,ys,rfl,rfl,SqT.of (s _ _ hx),SqT.of (s _ _ hy),by rw [al.length,bl.length];exact of_decide_eq_true hl,fun e1=>?_,fun _ e2=>?_,fun _ _ r hr=>?_⟩
  · subst e1
    have:(_:List D)=[]:=List.length_eq_zero_iff.mp al.length.symm
    subst this
    exact q F H _ (.refl s) (.tup hy bl)
  · subst e2
    have:(_:List D)=[]:=List.length_eq_zero_iff.mp bl.length.symm
    subst this
    rw [List.append_nil] at q
    exact q F H _ (.refl s) (.tup hx al)
  · have g:=Gr.alloc s hr (.tup (xs++ys))
    exact q _ _ _ g (.tup zu ((al.append bl).mono g.ff))
theorem zgT:OpD zl8 zfS:=by
  intro F H x y d e z Q s ax ay ez q
  cases d <;> try cases ez
  cases e <;> try cases ez
  unfold zfS zk6 at ez
  dsimp only at ez
  split at ez <;> cases ez
  rename_i hl
  obtain ⟨p,xs,rfl,hx,al⟩:=ax.lst_inv
  obtain ⟨p2,ys,rfl,hy,bl⟩:=ay.lst_inv
  refine ⟨p,p2,xs,ys,rfl,rfl,s _ _ hx,s _ _ hy,by rw [al.length,bl.length];exact of_decide_eq_true hl,fun r hr=>?_⟩
  have g:=Gr.alloc s hr (.lst (xs++ys))
  exact q _ _ _ g (.lst zu ((al.append bl).mono g.ff))
theorem zg1:OpD (fun x y H Q=>∃ i j,x=.str i∧y=.str j∧i.length+j.length≤sizeLine∧Q (.str (i++j)) H) zkf:=by
  intro F H x y d e z Q s ax ay ez q
  cases d <;> try cases ez
  cases e <;> try cases ez
  unfold zkf at ez
  dsimp only at ez
  split at ez <;> cases ez
  rename_i hl
  exact ⟨_,_,ax.str_inv,ay.str_inv,of_decide_eq_true hl,q F H _ (.refl s) .str⟩
def xD:D→D→Option D
  | .int i,.int j=>some (.int (i+j))
  | .tup a,.tup b=>if lim (a.length+b.length)=true then some (.tup (a++b)) else none
  | .lst a,.lst b=>if lim (a.length+b.length)=true then some (.lst (a++b)) else none
  | .str a,.str b=>if lim (a.length+b.length)=true then some (.str (a++b)) else none
  | _,_=>none
theorem zcj {r:R2}{g g':D→D→Option D}(h:OpD r g)(k:∀ d e z,g' d e=some z→g d e=some z):OpD r g':=fun F H x y d e z Q s ax ay ez q=>h F H x y d e z Q s ax ay (k d e z ez) q
theorem yf {f h:Ev→Option D}(ha:ED X a f)(hb:ED X b h):ED X (.BinOp a .Add b pos) (zm xD f h) :=
  Vh (((zjG.or zhv).or zcT).or zdL) (zcj (zbI (zbI (zbI (zbo (g:=fun i j=>i+j)) zhC) zgT) zg1) fun d e z h=>by
    cases d <;> try cases h
    all_goals cases e <;> try cases h
    · rfl
    · unfold xD at h;dsimp only at h;split at h <;> cases h;rename_i hl;simp [vD,zjO,hl,zfS,zk6,zkf]
    · unfold xD at h;dsimp only at h;split at h <;> cases h;rename_i hl;simp [vD,zjO,hl,zfS,zk6,zkf]
    · unfold xD at h;dsimp only at h;split at h <;> cases h;rename_i hl;simp [vD,zjO,hl,zfS,zk6,zkf]) ha hb
theorem zd0 {F H F1 H1:Hp}{p:Addr}(g1:Gr F H F1 H1)(hp:H1 p=none):H p=none:=by
  cases e:H p with
  | none=>rfl
  | some o =>
    cases e2:F p with
    | none=>rw [(g1.kp p o e2 e).2] at hp;cases hp
    | some u=>rw [g1.fh _ _ (g1.ff _ _ e2)] at hp;cases hp
def WQ (i j:Int):Bool:=decide ((-(2 ^ 64) < i∧i < 2 ^ 64)∨(-(2 ^ 64) < j∧j < 2 ^ 64))
def xY:D→D→Option (List D)
  | .lst a,.int k=>if -(2 ^ 63)≤k∧k < 2 ^ 63∧lim (a.length*k.toNat)=true then some (List.replicate k.toNat a).flatten else none
  | _,_=>none
def zgR (d e:D):Option D:=(xY d e).map .lst
def Yu:D→D→Option D
  | .int i,.int j=>if WQ i j=true then some (.int (i*j)) else none
  | .lst a,.int k=>if -(2 ^ 63)≤k∧k < 2 ^ 63∧lim (a.length*k.toNat)=true then some (.lst (List.replicate k.toNat a).flatten) else none
  | _,_=>none
theorem zhf:OpD rRep zgR:=by
  intro F H x y d e z Q s ax ay ez q
  cases d <;> try cases ez
  cases e <;> try cases ez
  unfold zgR xY at ez
  dsimp only at ez
  split at ez <;> cases ez
  rename_i hl
  obtain ⟨p,xs,rfl,hx,al⟩:=ax.lst_inv
  refine ⟨p,_,xs,rfl,ay.int_inv,s _ _ hx,hl.1,hl.2.1,by rw [al.length];exact of_decide_eq_true hl.2.2,fun r hr=>?_⟩
  rename_i ds k
  have g:=Gr.alloc s hr (.lst (List.replicate k.toNat xs).flatten)
  exact q _ _ _ g (.lst zu ((al.rep _).mono g.ff))
theorem XM {f h:Ev→Option D}(ha:ED X a f)(hb:ED X b h):ED X (.BinOp a .Mult b pos) (zm Yu f h) :=
  Vh (zlm.or zkn) (zcj (zbI (Wg (Cb:=WQ) (g:=fun i j=>i*j) fun i j h=>by have h':=of_decide_eq_true (show decide ((-(2 ^ 64) < i∧i < 2 ^ 64)∨(-(2 ^ 64) < j∧j < 2 ^ 64))=true from h);exact h') zhf) fun d e z h=>by
    cases d <;> try cases h
    all_goals cases e <;> try cases h
    · unfold Yu at h;dsimp only at h;split at h <;> cases h;rename_i hl;simp [Wf,hl]
    · unfold Yu at h;dsimp only at h;split at h <;> cases h;rename_i hl;show (zgR _ _)=_;unfold zgR xY;dsimp only;rw [if_pos hl];rfl) ha hb
def YW:=vD fun i j=>i - j
def y6:=Wf (fun _ j=>decide (0 < j∧j < 1606938044258990275541962092341162602522202993782792835301376)) fun i j=>i / j
def xu:=Wf (fun _ j=>decide (0 < j)) fun i j=>i % j
def zjD:=Wf (fun _ j=>decide (0≤j)) fun i j=>i / 2 ^ j.toNat
theorem Z5 {f h:Ev→Option D}(ha:ED X a f)(hb:ED X b h):ED X (.BinOp a .Sub b pos) (zm YW f h):=Vh zld zbo ha hb
theorem zg0:OpR X (binaryOp .FloorDiv) (rI (fun _ j=>0 < j∧j < 1606938044258990275541962092341162602522202993782792835301376) fun i j=>.int (i / j)):=opI fun i j _ _ _ _ _ hc q=>by
  have h1:(0:Int) < j:=hc.1
  have h2:j < 1606938044258990275541962092341162602522202993782792835301376:=hc.2
  refine PyProof.Rows.floordiv_int (by omega) (by rw [Int.fdiv_eq_ediv_of_nonneg i (by omega)];exact q) (.inl (PyProof.noPylong_of_log2 ?_))
  have h0:j.natAbs≠0:=by omega
  have h3:j.natAbs < 1606938044258990275541962092341162602522202993782792835301376:=by omega
  have h4:j.natAbs.log2 < 200:=(Nat.log2_lt h0).mpr h3
  omega
theorem ZJ {f h:Ev→Option D}(ha:ED X a f)(hb:ED X b h):ED X (.BinOp a .FloorDiv b pos) (zm y6 f h):=Vh zg0 (Wg fun _ _ h=>by have h':=of_decide_eq_true h;exact h') ha hb
theorem wk {f h:Ev→Option D}(ha:ED X a f)(hb:ED X b h):ED X (.BinOp a .Mod b pos) (zm xu f h):=Vh zlq (Wg fun _ _ h=>by have h':=of_decide_eq_true h;exact h') ha hb
theorem zkr {f h:Ev→Option D}(ha:ED X a f)(hb:ED X b h):ED X (.BinOp a .RShift b pos) (zm zjD f h):=Vh zj4 (Wg fun _ _ h=>by have h':=of_decide_eq_true h;exact h') ha hb
def ltD:=WL fun i j=>decide (i < j)
def leD:=WL fun i j=>decide (i≤j)
def gtD:=WL fun i j=>decide (j < i)
def geD:=WL fun i j=>decide (j≤i)
def eqS:D→D→Option Bool
  | .non,.non=>some true
  | .int i,.int j=>some (decide (i=j))
  | .bl i,.bl j=>some (decide (i=j))
  | .str i,.str j=>some (decide (i=j))
  | .non,.int _=>some false | .int _,.non=>some false | .non,.bl _=>some false | .bl _,.non=>some false | .non,.str _=>some false | .str _,.non=>some false
  | .int _,.str _=>some false | .str _,.int _=>some false | .bl _,.str _=>some false | .str _,.bl _=>some false
  | _,_=>none
def eqD (d e:D):Option D:=(eqS d e).map .bl
def neD (d e:D):Option D:=(eqS d e).map fun c=>.bl (!c)
theorem zhW:OpD rEq eqD:=by
  intro F H x y d e z Q s ax ay ez q
  obtain ⟨c,e1,rfl⟩:=Option.map_eq_some_iff.mp ez
  cases d <;> cases e <;> try cases e1
  · cases ax.non_inv;cases ay.non_inv;exact ⟨rfl,q F H _ (.refl s) .bl⟩
  · cases ax.non_inv;cases ay.bl_inv;exact ⟨rfl,q F H _ (.refl s) .bl⟩
  · cases ax.non_inv;cases ay.int_inv;exact ⟨rfl,q F H _ (.refl s) .bl⟩
  · cases ax.non_inv;cases ay.str_inv;exact ⟨rfl,q F H _ (.refl s) .bl⟩
  · cases ax.bl_inv;cases ay.non_inv;exact ⟨rfl,q F H _ (.refl s) .bl⟩
  · cases ax.bl_inv;cases ay.bl_inv;refine ⟨rfl,?_⟩;rw [show ∀ i j:Bool,decide (V.bl i=V.bl j)=decide (i=j) from fun i j=>by simp];exact q F H _ (.refl s) .bl
  · cases ax.bl_inv;cases ay.str_inv;exact ⟨rfl,q F H _ (.refl s) .bl⟩
  · cases ax.int_inv;cases ay.non_inv;exact ⟨rfl,q F H _ (.refl s) .bl⟩
  · cases ax.int_inv;cases ay.int_inv;refine ⟨rfl,?_⟩;rw [show ∀ i j:Int,decide (V.int i=V.int j)=decide (i=j) from fun i j=>by simp];exact q F H _ (.refl s) .bl
  · cases ax.int_inv;cases ay.str_inv;exact ⟨rfl,q F H _ (.refl s) .bl⟩
  · cases ax.str_inv;cases ay.non_inv;exact ⟨rfl,q F H _ (.refl s) .bl⟩
  · cases ax.str_inv;cases ay.bl_inv;exact ⟨rfl,q F H _ (.refl s) .bl⟩
  · cases ax.str_inv;cases ay.int_inv;exact ⟨rfl,q F H _ (.refl s) .bl⟩
  · cases ax.str_inv;cases ay.str_inv;refine ⟨rfl,?_⟩;rw [show ∀ i j:Str,decide (V.str i=V.str j)=decide (i=j) from fun i j=>by simp];exact q F H _ (.refl s) .bl
theorem ZC:OpD rNe neD:=by
  intro F H x y d e z Q s ax ay ez q
  obtain ⟨c,e1,rfl⟩:=Option.map_eq_some_iff.mp ez
  have:=zhW F H x y d e (.bl c) (fun v H'=>∃ b,v=.bl b∧Q (.bl (!b)) H') s ax ay (by unfold eqD;rw [e1];rfl) fun F' H' v g av=>⟨c,av.bl_inv,q F' H' _ g .bl⟩
  obtain ⟨h1,b,h2,h3⟩:=this
  cases h2
  exact ⟨h1,h3⟩
def zaU:D→D→Option D
  | d,.non=>some (.bl (match d with | .non=>true | _=>false))
  | .bl a,.bl b=>some (.bl (a == b))
  | _,_=>none
def zO:D→D→Option D
  | d,.non=>some (.bl (match d with | .non=>false | _=>true))
  | .bl a,.bl b=>some (.bl (!(a == b)))
  | _,_=>none
theorem ziI {F:Hp}{d:D}{x:V}(h:At F d x):decide (x=V.non)=(match d with | .non=>true | _=>false):=by
  cases d with
  | non=>cases h.non_inv;rfl
  | bl b=>cases h.bl_inv;rfl
  | int b=>cases h.int_inv;rfl
  | str b=>cases h.str_inv;rfl
  | tup ds=>obtain ⟨a,xs,rfl,_⟩:=h.tup_inv;rfl
  | lst ds=>obtain ⟨a,xs,rfl,_⟩:=h.lst_inv;rfl
  | scr ds=>obtain ⟨a,rfl,_⟩:=h.scr_inv;rfl
  | dct z t ks vs=>obtain ⟨a,xs,rfl,_⟩:=h.dct_inv;rfl
theorem Xu:OpD (fun x y H Q=>(y=.non∧Q (.bl (!decide (x=.non))) H)∨∃ i j,x=.bl i∧y=.bl j∧Q (.bl (!(i == j))) H) zO:=by
  intro F H x y d e z Q s ax ay ez q
  unfold zO at ez
  split at ez
  · cases ez
    refine .inl ⟨ay.non_inv,?_⟩
    rw [ziI ax]
    have:=q F H _ (.refl s) .bl
    cases d <;> exact this
  · cases ez
    exact .inr ⟨_,_,ax.bl_inv,ay.bl_inv,q F H _ (.refl s) .bl⟩
  · cases ez
theorem WK:OpR X (compareOp .IsNot) (fun x y H Q=>(y=.non∧Q (.bl (!decide (x=.non))) H)∨∃ i j,x=.bl i∧y=.bl j∧Q (.bl (!(i == j))) H):=ziq.or zcp
def xz (g g':D→D→Option D)(f h k:Ev→Option D):Ev→Option D:=fun ρ=>(f ρ).bind fun x=>(h ρ).bind fun y=>((g x y).bind asB).bind fun c=>if c=true then (k ρ).bind fun z=>g' y z else some (.bl false)
theorem zhz {r r':R2}{g g':D→D→Option D}{ta tb tc:TE}{f h k:Ev→Option D}(hg:OpD r g)(hg':OpD r' g')(ra:RE ta f)(rb:RE tb h)(rc:RE tc k):RE (zff r r' ta tb tc) (xz g g' f h k):=by
  intro σ ρ F H z Q s va e q
  obtain ⟨x,e1,e⟩:=Option.bind_eq_some_iff.mp e
  obtain ⟨y,e2,e⟩:=Option.bind_eq_some_iff.mp e
  obtain ⟨c,e3,e⟩:=Option.bind_eq_some_iff.mp e
  obtain ⟨cd,e3,e4⟩:=Option.bind_eq_some_iff.mp e3
  cases Wm e4
  refine ra σ ρ F H x _ s va e1 fun F1 H1 v g1 a1=>?_
  refine rb σ ρ F1 H1 y _ g1.fh (va.mono g1.ff) e2 fun F2 H2 u g2 a2=>?_
  refine hg F2 H2 v u x y _ _ g2.fh (a1.mono g2.ff) a2 e3 fun F3 H3 w g3 a3=>⟨c,a3.bl_inv,?_⟩
  have g123:=(g1.trans g2).trans g3
  cases c with
  | true =>
    rw [if_pos rfl] at e ⊢
    obtain ⟨z',e5,e6⟩:=Option.bind_eq_some_iff.mp e
    refine rc σ ρ F3 H3 z' _ g3.fh (va.mono g123.ff) e5 fun F4 H4 w4 g4 a4=>?_
    exact hg' F4 H4 u w4 y z' z Q g4.fh (a2.mono (g3.ff.trans g4.ff)) a4 e6 fun F5 H5 w5 g5 a5=>q F5 H5 w5 ((g123.trans g4).trans g5) a5
  | false =>
    rw [if_neg Bool.false_ne_true] at e ⊢
    cases e
    exact q F3 H3 _ g123 .bl
theorem zhS {op op':CmpOp}{r r':R2}{g g':D→D→Option D}{f h k:Ev→Option D}(ho:OpR X (compareOp op) r)(ho':OpR X (compareOp op') r')(hg:OpD r g)(hg':OpD r' g')(ha:ED X a f)(hb:ED X b h)(hc:ED X c k)
    (pch:∀ {ta tb tc:TE},PE X a ta→PE X b tb→PE X c tc→PE X (.Compare a [op,op'] [b,c] pos) (zff r r' ta tb tc)):ED X (.Compare a [op,op'] [b,c] pos) (xz g g' f h k) :=
  let ⟨_,pa,ra⟩:=ha
  let ⟨_,pb,rb⟩:=hb
  let ⟨_,pc,rc⟩:=hc
  ⟨_,pch pa pb pc,zhz hg hg' ra rb rc⟩
def zcL:List D→Option (List Int)
  | []=>some []
  | .int b::ds=>(zcL ds).map (b::·)
  | _=>none
omit [KK] in
theorem WG:∀ {ds:List D} {bs:List Int},zcL ds=some bs→ds=bs.map .int
  | [],bs,h=>by cases h;rfl
  | d::ds,bs,h=>by
    cases d <;> try cases h
    obtain ⟨cs,h1,rfl⟩:=Option.map_eq_some_iff.mp h
    rw [WG h1]
    rfl
def leT:D→D→Option D
  | .tup a,.tup b=>(zcL a).bind fun ns=>(zcL b).map fun ms=>.bl (HT.lexLe ns ms)
  | _,_=>none
theorem zgr {K:PySem.W.Frag}:OpD (rLeT K) leT:=by
  intro F H x y d e z Q s ax ay ez q
  cases d <;> try cases ez
  cases e <;> try cases ez
  obtain ⟨ns,e1,e2⟩:=Option.bind_eq_some_iff.mp ez
  obtain ⟨ms,e3,rfl⟩:=Option.map_eq_some_iff.mp e2
  rw [WG e1] at ax
  rw [WG e3] at ay
  obtain ⟨p,xs,rfl,hx,al⟩:=ax.tup_inv
  obtain ⟨p2,ys,rfl,hy,bl⟩:=ay.tup_inv
  cases al.of_ints
  cases bl.of_ints
  exact ⟨p,p2,ns,ms,rfl,rfl,SqT.of (s _ _ hx),SqT.of (s _ _ hy),q F H _ (.refl s) .bl⟩
def ixD:D→D→Option D
  | .lst ds,.int i=>atI ds i
  | .tup ds,.int i=>atI ds i
  | .scr ns,.int i=>(atI ns i).map .int
  | _,_=>none
theorem AtL.atI {F:Hp}{ds:List D}{xs:List V}{i:Int}{d:D}(al:AtL F ds xs)(h:L2.atI ds i=some d):∃ x,L2.atI xs i=some x∧At F d x:=by
  unfold L2.atI at h ⊢
  obtain ⟨j,e1,e2⟩:=Option.bind_eq_some_iff.mp h
  obtain ⟨x,hx,ax⟩:=al.get e2
  exact ⟨x,by rw [al.length,e1];exact hx,ax⟩
theorem zki:OpD (rIx KK.K) ixD:=by
  intro F H x y d e z Q s ax ay ez q
  cases e <;> try (cases d <;> cases ez)
  cases ay.int_inv
  cases d with
  | lst ds =>
    obtain ⟨p,xs,rfl,hx,al⟩:=ax.lst_inv
    obtain ⟨v,e1,av⟩:=al.atI ez
    exact .inl ⟨p,xs,_,v,rfl,rfl,SqL.of (s _ _ hx),e1,q F H _ (.refl s) av⟩
  | tup ds =>
    obtain ⟨p,xs,rfl,hx,al⟩:=ax.tup_inv
    obtain ⟨v,e1,av⟩:=al.atI ez
    exact .inr (.inl ⟨p,xs,_,v,rfl,rfl,SqT.of (s _ _ hx),e1,q F H _ (.refl s) av⟩)
  | scr ns =>
    obtain ⟨p,rfl,hx⟩:=ax.scr_inv
    obtain ⟨n,e1,rfl⟩:=Option.map_eq_some_iff.mp ez
    refine .inl ⟨p,ns.map V.int,_,.int n,rfl,rfl,s.seq hx,?_,q F H _ (.refl s) .int⟩
    unfold L2.atI at e1 ⊢
    rw [List.length_map]
    obtain ⟨j,e2,e3⟩:=Option.bind_eq_some_iff.mp e1
    rw [e2]
    show (ns.map V.int)[j]?=_
    rw [List.getElem?_map,e3]
    rfl
  | _=>cases ez
theorem zF {f h:Ev→Option D}(ha:ED X a f)(hb:ED X b h)(hs:zev b)(hK:X.K=KK.K:=by rfl):ED X (.Subscript a b pos) (zm ixD f h) :=
  let ⟨_,pa,ra⟩:=ha
  let ⟨_,pb,rb⟩:=hb
  ⟨_,zlV zkO pa pb hs,zgN (by rw [hK];exact zki) ra rb⟩
def V7 {α:Type}(xs:List α)(lo hi:Option Int):List α:=(xs.drop (HT.sIx xs.length 0 lo)).take (HT.sIx xs.length xs.length hi - HT.sIx xs.length 0 lo)
theorem AtL.cut {F:Hp}{ds:List D}{xs:List V}{lo hi:Option Int}(al:AtL F ds xs):AtL F (V7 ds lo hi) (zcm xs lo hi):=by
  unfold V7 zcm
  rw [al.length]
  exact (al.drop _).take _
def OD (X:Cx)(e:Option Expr)(f:Ev→Option (Option Int)):Prop:=∃ t,PO X e t∧∀ (σ:St) (ρ:Ev) (F H:Hp) (i:Option Int) (Q:Option Int→Hp→Prop),yJ F H→VAt F ρ σ→f ρ=some i→(∀ F' H',Gr F H F' H'→Q i H')→t σ H Q
def yS:Ev→Option (Option Int):=fun _=>some none
def asI:D→Option Int
  | .int i=>some i
  | _=>none
def yA (f:Ev→Option D):Ev→Option (Option Int):=fun ρ=>((f ρ).bind asI).map some
theorem vF:OD X none yS:=⟨_,zjl,fun _ _ _ _ _ _ s _ e q=>by cases e;exact q _ _ (.refl s)⟩
theorem vA {f:Ev→Option D}(h:ED X e f):OD X (some e) (yA f):=by
  obtain ⟨t,p,r⟩:=h
  refine ⟨_,ze7 p,fun σ ρ F H i Q s va e q=>?_⟩
  obtain ⟨j,e1,rfl⟩:=Option.map_eq_some_iff.mp e
  obtain ⟨d,e1,e2⟩:=Option.bind_eq_some_iff.mp e1
  cases d <;> cases e2
  exact r σ ρ F H _ _ s va e1 fun F1 H1 v g1 a1=>⟨_,a1.int_inv,q F1 H1 g1⟩
def slD:D→Option Int→Option Int→Option D
  | .lst ds,lo,hi=>some (.lst (V7 ds lo hi))
  | .scr ns,lo,hi=>some (.lst ((V7 ns lo hi).map .int))
  | .tup ds,lo,hi=>some (.tup (V7 ds lo hi))
  | _,_,_=>none
def eSl (g:D→Option Int→Option Int→Option D)(f:Ev→Option D)(l h:Ev→Option (Option Int)):Ev→Option D:=fun ρ=>(f ρ).bind fun d=>(l ρ).bind fun lo=>(h ρ).bind fun hi=>g d lo hi
omit [KK] in
theorem zhd {ns:List Int}{lo hi:Option Int}:zcm (ns.map V.int) lo hi=(V7 ns lo hi).map V.int:=by
  unfold zcm V7
  rw [List.length_map,List.map_take,List.map_drop]
end
end Dl
namespace L2
open PySem PySem.Spec PyProof.Rows
def rSlN:V→Option Int→Option Int→Hp→VK→Prop:=fun x lo hi H Q=>∃ a xs,x=.ref a∧H a=some (.tup xs)∧(zcm xs lo hi=xs→Q (.ref a) H)∧∀ p,H p=none→Q (.ref p) (upd H p (.tup (zcm xs lo hi)))
theorem zi6 {X:Cx}:SlR X rSlN:=by
  intro pins s σ H x v vl vu lo hi sl Q I rx hs pl pu h
  obtain ⟨a,xs,rfl,hx,q1,q2⟩:=h
  by_cases hw:HT.sIx xs.length 0 lo=0∧HT.sIx xs.length xs.length hi=xs.length
  · cases rx
    obtain ⟨its,r,ht,hz⟩:=I.tuple (SqT.of hx)
    have hlen:its.toArray.size=xs.length:=by rw [List.size_toArray];exact r.length.symm
    refine ⟨"tuple",_,PyProof.Rows.slot_tuple_getitem.lookup,ht.typeIs,?_⟩
    refine HT.own_getItem_whole ht hs pl pu (by rw [hlen];exact hw) ⟨.ref a,H,I,rfl,q1 ?_⟩
    unfold zcm
    rw [hw.1,hw.2,List.drop_zero,Nat.sub_zero,List.take_length]
  · exact zko pins s σ H (.ref a) v vl vu lo hi sl Q I rx hs pl pu ⟨a,xs,rfl,SqT.of hx,hw,q2⟩
end L2
namespace Dl
open PySem L2
variable [KK]
section
variable {X:Cx}{a b c e:Expr}{pos:Pos}
theorem wb {lo hi:Option Expr}{p2:Pos}{f:Ev→Option D}{l h:Ev→Option (Option Int)}(ha:ED X a f)(hl:OD X lo l)(hh:OD X hi h)(hK:X.K=KK.K:=by rfl):ED X (.Subscript a (.Slice lo hi none p2) pos) (eSl slD f l h):=by
  obtain ⟨ta,pa,ra⟩:=ha
  obtain ⟨tl,ppl,rl⟩:=hl
  obtain ⟨th,ph,rh⟩:=hh
  refine ⟨_,zgD (ziW.or zi6) pa ppl ph,fun σ ρ F H z Q s va e q=>?_⟩
  obtain ⟨d,e1,e⟩:=Option.bind_eq_some_iff.mp e
  obtain ⟨i,e2,e⟩:=Option.bind_eq_some_iff.mp e
  obtain ⟨j,e3,e⟩:=Option.bind_eq_some_iff.mp e
  refine ra σ ρ F H d _ s va e1 fun F1 H1 v g1 a1=>?_
  refine rl σ ρ F1 H1 i _ g1.fh (va.mono g1.ff) e2 fun F2 H2 g2=>?_
  refine rh σ ρ F2 H2 j _ g2.fh (va.mono (g1.ff.trans g2.ff)) e3 fun F3 H3 g3=>?_
  have g123:=(g1.trans g2).trans g3
  have a3:=a1.mono (g2.ff.trans g3.ff)
  cases d <;> try cases e
  · obtain ⟨p,xs,rfl,hx,al⟩:=a3.tup_inv
    refine .inr ⟨p,xs,rfl,g3.fh _ _ hx,fun ec=>?_,fun r hr=>?_⟩
    · have:=al.cut (lo:=i) (hi:=j)
      rw [ec] at this
      exact q F3 H3 _ g123 (.tup hx this)
    · have g:=Gr.alloc g3.fh hr (.tup (zcm xs i j))
      exact q _ _ _ (g123.trans g) (.tup zu (al.cut.mono g.ff))
  · obtain ⟨p,xs,rfl,hx,al⟩:=a3.lst_inv
    refine .inl ⟨p,xs,rfl,SqL.of (g3.fh _ _ hx),fun r hr=>?_⟩
    have g:=Gr.alloc g3.fh hr (.lst (zcm xs i j))
    exact q _ _ _ (g123.trans g) (.lst zu (al.cut.mono g.ff))
  · rename_i ns _ _
    obtain ⟨p,rfl,hx⟩:=a3.scr_inv
    refine .inl ⟨p,_,rfl,(by rw [hK];exact g3.fh.seq hx),fun r hr=>?_⟩
    rw [zhd]
    have g:=Gr.alloc g3.fh hr (.lst ((V7 ns i j).map V.int))
    exact q _ _ _ (g123.trans g) (.lst zu (.ints _))
def CaD (r:List V→Hp→VK→Prop)(g:List D→Option D):Prop:=∀ (F H:Hp) (vs:List V) (ds:List D) (z:D) (Q:VK),yJ F H→AtL F ds vs→g ds=some z→(∀ F' H' v,Gr F H F' H'→At F' z v→Q v H')→r vs H Q
def eFn (g:List D→Option D)(f:Ev→Option (List D)):Ev→Option D:=fun ρ=>(f ρ).bind g
def fFn (g:List D→Option (List D))(f:Ev→Option (List D)):Ev→Option (List D):=fun ρ=>(f ρ).bind g
theorem zK {x:Str}{id:String}{p:Pos}{es:List Expr}{r:List V→Hp→VK→Prop}{g:List D→Option D}{f:Ev→Option (List D)}(hc:YL X (.builtin id) r)(hg:CaD r g)(hgl:Gl X x)(hm:X.mg x=none)(hv:bootBuiltins x=some (.builtin id))(ha:AD X (e::es) f)
    (hn:x≠"__name__":=by decide) (hdb:(x == ("__debug__":Str))=false:=by decide) (he:starEach (e::es) X.env=(false,eval e X.env)::starEach es X.env:=by rfl) (hpl:(backTo pos (starEach es X.env)).any (·.1)=false:=by rfl) :
    ED X (.Call (.Name x p) (e::es) [] pos) (eFn g f):=by
  obtain ⟨t,pa,ra⟩:=ha
  refine ⟨_,yl hc hgl hm hv pa hn hdb he hpl,fun σ ρ F H z Q s va e q=>?_⟩
  obtain ⟨ds,e1,e2⟩:=Option.bind_eq_some_iff.mp e
  refine ra σ ρ F H ds _ s va e1 fun F1 H1 vs g1 a1=>?_
  exact hg F1 H1 vs ds z Q g1.fh a1 e2 fun F' H' v g av=>q F' H' v (g1.trans g) av
theorem xr {x:Str}{T:String}{p:Pos}{es:List Expr}{r:List V→Hp→VK→Prop}{g:List D→Option D}{f:Ev→Option (List D)}(hc:YL X (.type T) r)(hg:CaD r g)(hgl:Gl X x)(hm:X.mg x=none)(hv:bootBuiltins x=some (.type T))(ha:AD X (e::es) f)
    (hn:x≠"__name__":=by decide) (hdb:(x == ("__debug__":Str))=false:=by decide) (he:starEach (e::es) X.env=(false,eval e X.env)::starEach es X.env:=by rfl) (hpl:(backTo pos (starEach es X.env)).any (·.1)=false:=by rfl) :
    ED X (.Call (.Name x p) (e::es) [] pos) (eFn g f):=by
  obtain ⟨t,pa,ra⟩:=ha
  refine ⟨_,zbA hc hgl hm hv pa hn hdb he hpl,fun σ ρ F H z Q s va e q=>?_⟩
  obtain ⟨ds,e1,e2⟩:=Option.bind_eq_some_iff.mp e
  refine ra σ ρ F H ds _ s va e1 fun F1 H1 vs g1 a1=>?_
  exact hg F1 H1 vs ds z Q g1.fh a1 e2 fun F' H' v g av=>q F' H' v (g1.trans g) av
def Zo:List D→Option D
  | [.lst ds]=>some (.int ds.length)
  | [.tup ds]=>some (.int ds.length)
  | [.scr ds]=>some (.int ds.length)
  | _=>none
theorem v4:CaD (fun xs H Q=>∃ p ys,xs=[.ref p]∧(SqL KK.K H p ys∨SqT KK.K H p ys)∧Q (.int ys.length) H) Zo:=by
  intro F H vs ds z Q s al e q
  unfold Zo at e
  split at e <;> cases e
  all_goals
    obtain ⟨x,r,rfl,ax,ar⟩:=al.cons_inv
    cases ar.nil_inv
  · obtain ⟨p,xs,rfl,hx,bl⟩:=ax.lst_inv
    exact ⟨p,xs,rfl,.inl (SqL.of (s _ _ hx)),by rw [bl.length];exact q F H _ (.refl s) .int⟩
  · obtain ⟨p,xs,rfl,hx,bl⟩:=ax.tup_inv
    exact ⟨p,xs,rfl,.inr (SqT.of (s _ _ hx)),by rw [bl.length];exact q F H _ (.refl s) .int⟩
  · obtain ⟨p,rfl,hx⟩:=ax.scr_inv
    exact ⟨p,_,rfl,.inl ((s.seq hx)),by rw [List.length_map];exact q F H _ (.refl s) .int⟩
def zhR:List D→Option D
  | [.int i,.int j]=>some (.int (if j > i then j else i))
  | _=>none
def zhr:List D→Option D
  | [.int i,.int j]=>some (.int (if j < i then j else i))
  | _=>none
theorem zcK {g:Int→Int→Int}:CaD (fun xs H Q=>∃ i j,xs=[.int i,.int j]∧Q (.int (g i j)) H) (fun ds=>match ds with | [.int i,.int j]=>some (.int (g i j)) | _=>none):=by
  intro F H vs ds z Q s al e q
  dsimp only at e
  split at e <;> cases e
  obtain ⟨x,r,rfl,ax,ar⟩:=al.cons_inv
  obtain ⟨y,r,rfl,ay,ar⟩:=ar.cons_inv
  cases ar.nil_inv
  exact ⟨_,_,by rw [ax.int_inv,ay.int_inv],q F H _ (.refl s) .int⟩
theorem zc9:CaD (fun xs H Q=>∃ i j,xs=[.int i,.int j]∧Q (.int (if j > i then j else i)) H) zhR:=zcK (g:=fun i j=>if j > i then j else i)
theorem zc1:CaD (fun xs H Q=>∃ i j,xs=[.int i,.int j]∧Q (.int (if j < i then j else i)) H) zhr:=zcK (g:=fun i j=>if j < i then j else i)
def zS:List D→Option D
  | [.lst ds]=>some (.tup ds)
  | [.tup ds]=>some (.tup ds)
  | _=>none
theorem xt {K:PySem.W.Frag}:CaD (fun xs H Q=>∃ p ys,xs=[.ref p]∧((SqL K H p ys∧∀ l,H l=none→Q (.ref l) (upd H l (.tup ys)))∨(SqT K H p ys∧Q (.ref p) H))) zS:=by
  intro F H vs ds z Q s al e q
  unfold zS at e
  split at e <;> cases e
  all_goals
    obtain ⟨x,r,rfl,ax,ar⟩:=al.cons_inv
    cases ar.nil_inv
  · obtain ⟨p,xs,rfl,hx,bl⟩:=ax.lst_inv
    refine ⟨p,xs,rfl,.inl ⟨SqL.of (s _ _ hx),fun l hl=>?_⟩⟩
    have g:=Gr.alloc s hl (.tup xs)
    exact q _ _ _ g (.tup zu (bl.mono g.ff))
  · obtain ⟨p,xs,rfl,hx,bl⟩:=ax.tup_inv
    exact ⟨p,xs,rfl,.inr ⟨SqT.of (s _ _ hx),q F H _ (.refl s) (.tup hx bl)⟩⟩
def wo:List D→Option (List D)
  | [.lst ds]=>some ds
  | [.tup ds]=>some ds
  | [.scr ns]=>some (ns.map .int)
  | _=>none
theorem XA {p:Pos} {f:Ev→Option (List D)} (hgl:Gl X "list") (hm:X.mg "list"=none) (ha:AD X [e] f) (hK:X.K=KK.K:=by rfl)
    (he:starEach [e] X.env=(false,eval e X.env)::starEach [] X.env:=by rfl) (hpl:(backTo pos (starEach [] X.env)).any (·.1)=false:=by rfl):FL X (.Call (.Name "list" p) [e] [] pos) (fFn wo f):=by
  obtain ⟨t,pa,ra⟩:=ha
  refine ⟨_,zbA zaX hgl hm zfN pa (by decide) (by decide) he hpl,fun σ ρ F H z Q s va e q=>?_⟩
  obtain ⟨ds,e1,e2⟩:=Option.bind_eq_some_iff.mp e
  refine ra σ ρ F H ds _ s va e1 fun F1 H1 vs g1 a1=>?_
  unfold wo at e2
  split at e2 <;> cases e2
  all_goals
    obtain ⟨x,r,rfl,ax,ar⟩:=a1.cons_inv
    cases ar.nil_inv
  · obtain ⟨p,xs,rfl,hx,bl⟩:=ax.lst_inv
    exact ⟨p,xs,rfl,.inl (SqL.of (g1.fh _ _ hx)),fun l hl=>q _ _ _ _ (g1.trans (Gr.hide g1.fh hl _)) (zd0 g1 hl) (g1.fh.free hl) zu bl⟩
  · obtain ⟨p,xs,rfl,hx,bl⟩:=ax.tup_inv
    exact ⟨p,xs,rfl,.inr (SqT.of (g1.fh _ _ hx)),fun l hl=>q _ _ _ _ (g1.trans (Gr.hide g1.fh hl _)) (zd0 g1 hl) (g1.fh.free hl) zu bl⟩
  · obtain ⟨p,rfl,hx⟩:=ax.scr_inv
    exact ⟨p,_,rfl,.inl (by rw [hK];exact g1.fh.seq hx),fun l hl=>q _ _ _ _ (g1.trans (Gr.hide g1.fh hl _)) (zd0 g1 hl) (g1.fh.free hl) zu (.ints _)⟩
inductive TyD (K:PySem.W.Frag) (H:Hp):V→Value→Prop where
  | of {v:V} {t:Value} (h:zc6 K H v t):TyD K H v t
  | dd {a:Addr} {u:HO} (h:Rd H a u) (d:(∃ kvs,u=.dK kvs)∨∃ kvs,u=.dT kvs):TyD K H (.ref a) (.type "dict")
theorem zaW {X:Cx}:YL X (.builtin "isinstance") (fun xs H Q=>∃ x n t b,xs=[x,.ty n]∧TyD X.K H x t∧PySem.W.kitOne X.K t (.type n)=some b∧Q (.bl b) H):=by
  intro pins s σ H xs us Q I r h
  obtain ⟨x,n,t,b,rfl,ty,e,q⟩:=h
  cases ty with
  | of ty=>exact zca pins s σ H _ us Q I r ⟨x,n,t,b,rfl,ty,e,q⟩
  | @dd a u h d =>
    cases r with
    | cons r1 r2 =>
      cases r2 with
      | cons r3 r4 =>
        cases r4
        cases r1
        cases r3
        have ok:=h.ok I.hok
        rcases d with ⟨kvs,rfl⟩ | ⟨kvs,rfl⟩
        · obtain ⟨_,_,vs,_,p⟩:=(show wu X.prog X.w H s.heap a (.dK kvs) from ok)
          obtain ⟨o,es,ep,h1,h2,_⟩:=p
          exact PySem.W.kia_one PySem.W.kitx_dict I.kIn ⟨o,h1,h2.1⟩ e (fun z=>nomatch z) fun tk=>⟨.bl b,H,I.tok tk,rfl,q⟩
        · obtain ⟨_,_,xs,_,o,es,ep,h1,h2,_⟩:=(show wu X.prog X.w H s.heap a (.dT kvs) from ok)
          exact PySem.W.kia_one PySem.W.kitx_dict I.kIn ⟨o,h1,h2.1⟩ e (fun z=>nomatch z) fun tk=>⟨.bl b,H,I.tok tk,rfl,q⟩
theorem At.ty {K:PySem.W.Frag}{F H:Hp}(s:yJ F H):∀ {d:D} {v:V},At F d v→(∀ ns,d≠.scr ns)→TyD K H v (.type (tyN d))
  | .non,_,h,_=>by cases h.non_inv;exact .of .non
  | .bl b,_,h,_=>by cases h.bl_inv;exact .of (.bl b)
  | .int i,_,h,_=>by cases h.int_inv;exact .of (.int i)
  | .str x,_,h,_=>by cases h.str_inv;exact .of (.str x)
  | .tup ds,_,h,_=>by obtain ⟨a,xs,rfl,e,_⟩:=h.tup_inv;exact .of (.tup (s _ _ e))
  | .lst ds,_,h,_=>by obtain ⟨a,xs,rfl,e,_⟩:=h.lst_inv;exact .of (.lst (s _ _ e))
  | .scr ns,_,_,n=>absurd rfl (n ns)
  | .dct z t ks vs,_,h,_=>by
    obtain ⟨a,xs,rfl,d,_⟩:=h.dct_inv
    obtain ⟨u,e1,e2⟩:=(d.mono s).rd
    exact .dd e2 (by
      unfold zkH at e1
      split at e1
      · obtain ⟨kvs,rfl,_⟩:=e1;exact .inr ⟨kvs,rfl⟩
      · obtain ⟨kvs,rfl,_⟩:=e1;exact .inl ⟨kvs,rfl⟩)
inductive Ty where
  | int | bool | tuple | list | str
def Ty.nm:Ty→String
  | .int=>"int" | .bool=>"bool" | .tuple=>"tuple" | .list=>"list" | .str=>"str"
def isT:Ty→D→Bool
  | .int,.int _=>true | .int,.bl _=>true
  | .bool,.bl _=>true
  | .tuple,.tup _=>true
  | .list,.lst _=>true
  | .str,.str _=>true
  | _,_=>false
def xL (n:Ty):D→Option D
  | .scr _=>none
  | d=>some (.bl (isT n d))
theorem zjN (K:PySem.W.Frag)(n:Ty)(d:D)(h:∀ ns,d≠.scr ns):PySem.W.kitOne K (.type (tyN d)) (.type n.nm)=some (isT n d):=by
  cases n <;> cases d <;> first | exact absurd rfl (h _) | kernel_rfl
theorem yM {p:Pos} {f:Ev→Option D} (n:Ty) (hgl:Gl X "isinstance") (hm:X.mg "isinstance"=none) (ha:ED X a f) (hb:PE X b (tC (.ty n.nm)))
    (hs:starEach [a,b] X.env=(false,eval a X.env)::starEach [b] X.env:=by rfl) (hs2:starEach [b] X.env=(false,eval b X.env)::starEach [] X.env:=by rfl) (hpl:(backTo pos (starEach [b] X.env)).any (·.1)=false:=by rfl) :
    ED X (.Call (.Name "isinstance" p) [a,b] [] pos) (eUn (xL n) f):=by
  obtain ⟨t,pa,ra⟩:=ha
  refine ⟨_,yl zaW hgl hm zA (zq pa (zq hb yB hs2) hs) (by decide) (by decide) hs hpl,fun σ ρ F H z Q s va e q=>?_⟩
  obtain ⟨d,e1,e2⟩:=Option.bind_eq_some_iff.mp e
  refine ra σ ρ F H d _ s va e1 fun F1 H1 v g1 a1=>?_
  have ns:∀ ns,d≠.scr ns:=fun ns h=>by subst h;cases e2
  have e3:z=.bl (isT n d):=by
    cases d <;> first | exact (Option.some.inj e2).symm | exact absurd rfl (ns _)
  subst e3
  exact ⟨v,n.nm,_,_,rfl,a1.ty g1.fh ns,zjN _ n d ns,q F1 H1 _ g1 .bl⟩
def ZS (m:Bool)(i:Nat)(f:Ev→Option D):SE→Ctl:=fun ρ=>match (vEv m f ρ).bind fun d=>match ρ[i]? with
    | some (.o ds)=>if decide (ds.length < sizeLine)=true then some (ρ.set i (.o (ds++[d]))) else none
    | _=>none with
  | some ρ'=>.nx ρ'
  | none=>.no
theorem W2 {m:Bool}{i:Nat}{p pos':Pos}{f:Ev→Option D}(ho:PE X a (zb0 i))(he:ED X e f)
    (hp:∀ {ta:TE} {t:TA},PE X a ta→PA X [e] t→PE X (.Call (.Attribute a "append" p) [e] [] pos') (tBM X.K "list" zer ta t)) (hsw:swapsWith (.Call (.Attribute a "append" p) [e] [] pos') none pos.line X.env=pure false:=by rfl)
    (hs:starEach [e] X.env=(false,eval e X.env)::starEach [] X.env:=by rfl):SD X (.Expr (.Call (.Attribute a "append" p) [e] [] pos') pos) (ZS m i f):=by
  obtain ⟨t,pe,re⟩:=he
  refine ⟨_,WS (hp ho (zq pe yB hs)) hsw,fun Fb Hb F H ρ σ E rl k=>?_⟩
  unfold ZS at k
  cases h:(vEv m f ρ).bind fun d=>match ρ[i]? with
    | some (.o ds)=>if decide (ds.length < sizeLine)=true then some (ρ.set i (.o (ds++[d]))) else none
    | _=>none with
  | none=>rw [h] at k;exact k.elim
  | some ρ' =>
    rw [h] at k
    obtain ⟨d,e1,e2⟩:=Option.bind_eq_some_iff.mp h
    cases hs:ρ[i]? with
    | none=>rw [hs] at e2;cases e2
    | some sl =>
      rw [hs] at e2
      cases sl with
      | no=>cases e2
      | v _=>cases e2
      | m _ _ _=>cases e2
      | o ds =>
        dsimp only at e2
        split at e2 <;> cases e2
        rename_i hl
        obtain ⟨q,xs,f1,f2,f3,f4,f5⟩:=rl.owns i ds hs
        refine ⟨_,f1,.inl ⟨rfl,xs,SqL.of f4⟩,?_⟩
        refine re.at rl e1 fun F' H' v g av=>?_
        have rl2:=rl.grow g
        obtain ⟨q2,xs2,f1',_,_,f4',f5'⟩:=rl2.owns i ds hs
        rw [f1] at f1'
        cases f1'
        refine ⟨q,xs2,v,rfl,rfl,f4',by rw [f5'.length];exact of_decide_eq_true hl,?_⟩
        exact k _ _ σ (rl2.mutate hs f1 (f5'.snoc av))
def WU (i:Nat)(f:Ev→Option D):SE→Ctl:=fun ρ=>match (f (visF ρ)).bind fun d=>match ρ[i]?,d with
    | some (.o ds),.lst es=>if lim (ds.length+es.length)=true then some (ρ.set i (.o (ds++es))) else none
    | _,_=>none with
  | some ρ'=>.nx ρ'
  | none=>.no
theorem zks {i:Nat}{p pos':Pos}{f:Ev→Option D}(ho:PE X a (zb0 i))(he:ED X e f)
    (hp:∀ {ta:TE} {t:TA},PE X a ta→PA X [e] t→PE X (.Call (.Attribute a "extend" p) [e] [] pos') (tBM X.K "list" zfL ta t)) (hsw:swapsWith (.Call (.Attribute a "extend" p) [e] [] pos') none pos.line X.env=pure false:=by rfl)
    (hs:starEach [e] X.env=(false,eval e X.env)::starEach [] X.env:=by rfl):SD X (.Expr (.Call (.Attribute a "extend" p) [e] [] pos') pos) (WU i f):=by
  obtain ⟨t,pe,re⟩:=he
  refine ⟨_,WS (hp ho (zq pe yB hs)) hsw,fun Fb Hb F H ρ σ E rl k=>?_⟩
  unfold WU at k
  cases h:(f (visF ρ)).bind fun d=>match ρ[i]?,d with
    | some (.o ds),.lst es=>if lim (ds.length+es.length)=true then some (ρ.set i (.o (ds++es))) else none
    | _,_=>none with
  | none=>rw [h] at k;exact k.elim
  | some ρ' =>
    rw [h] at k
    obtain ⟨d,e1,e2⟩:=Option.bind_eq_some_iff.mp h
    cases hs:ρ[i]? with
    | none=>rw [hs] at e2;cases e2
    | some sl =>
      rw [hs] at e2
      cases sl with
      | no=>cases e2
      | v _=>cases e2
      | m _ _ _=>cases e2
      | o ds =>
        cases d with
        | lst es =>
          dsimp only at e2
          split at e2 <;> cases e2
          rename_i hl
          obtain ⟨q,xs,f1,f2,f3,f4,f5⟩:=rl.owns i ds hs
          refine ⟨_,f1,.inl ⟨rfl,xs,SqL.of f4⟩,?_⟩
          refine re σ _ _ H _ _ rl.gr.fh rl.visF e1 fun F' H' v g av=>?_
          have rl2:=rl.grow g
          obtain ⟨q2,xs2,f1',_,_,f4',f5'⟩:=rl2.owns i ds hs
          rw [f1] at f1'
          cases f1'
          obtain ⟨pb,zs,rfl,hz,bl⟩:=av.lst_inv
          refine ⟨q,pb,xs2,zs,rfl,rfl,f4',g.fh _ _ hz,by rw [f5'.length,bl.length];exact of_decide_eq_true hl,?_⟩
          exact k _ _ σ (rl2.mutate hs f1 (f5'.append bl))
        | _=>cases e2
end
end Dl
namespace Dl
open PySem L2
variable [KK]
def okE:Nat→D→Bool
  | _,.scr _=>false
  | _,.dct _ _ _ _=>false
  | 0,.tup _=>false
  | 0,.lst _=>false
  | n+1,.tup ds=>ds.all (okE n)
  | n+1,.lst ds=>ds.all (okE n)
  | _,_=>true
def eqN:Nat→D→D→Bool
  | _,.non,.non=>true
  | _,.bl a,.bl b=>a == b
  | _,.bl a,.int b=>(if a then 1 else 0) == b
  | _,.int a,.bl b=>a == (if b then 1 else 0)
  | _,.int a,.int b=>a == b
  | _,.str a,.str b=>a == b
  | n+1,.tup a,.tup b=>(List.zipWith (eqN n) a b).all id&&a.length == b.length
  | n+1,.lst a,.lst b=>(List.zipWith (eqN n) a b).all id&&a.length == b.length
  | _,_,_=>false
omit [KK] in
theorem WX {n:Nat}:∀ (a b:List D),(List.zipWith (eqN n) a b).all id=(List.range (min a.length b.length)).all fun j=>eqN n (a.getD j .non) (b.getD j .non):=by
  intro a b
  have:List.zipWith (eqN n) a b=(List.range (min a.length b.length)).map fun j=>eqN n (a.getD j .non) (b.getD j .non):=by
    apply List.ext_getElem
    · simp
    · intro i h1 h2
      simp at h1 h2
      have g1:i < a.length:=Nat.lt_of_lt_of_le h1 (Nat.min_le_left _ _)
      have g2:i < b.length:=Nat.lt_of_lt_of_le h1 (Nat.min_le_right _ _)
      simp [g1,g2]
  rw [this,List.all_map]
  rfl
omit [KK] in
def vOf:D→V
  | .bl b=>.bl b
  | .int i=>.int i
  | .str t=>.str t
  | _=>.non
theorem w8 {F:Hp}{d:D}{x:V}(h:okE 0 d=true)(a:At F d x):x=vOf d:=by
  cases d with
  | non=>exact a.non_inv
  | bl b=>exact a.bl_inv
  | int b=>exact a.int_inv
  | str b=>exact a.str_inv
  | _=>cases h
omit [KK] in
theorem Wa {d:D}(h:okE 0 d=true):zds (vOf d)=true:=by
  cases d <;> first | rfl | cases h
omit [KK] in
theorem zal {d:D}{p:Addr}(h:okE 0 d=true)(e:vOf d=.ref p):False:=by
  cases d <;> first | (cases h;done) | (cases e;done)
def dOfV:V→D
  | .bl b=>.bl b
  | .int i=>.int i
  | .str t=>.str t
  | _=>.non
omit [KK] in
theorem zfd {d:D}(h:okE 0 d=true):dOfV (vOf d)=d:=by
  cases d <;> first | rfl | (cases h;done)
omit [KK] in
theorem zfm {d e:D}(h1:okE 0 d=true)(h2:okE 0 e=true)(h:vOf d=vOf e):d=e:=by
  rw [←zfd h1,h,zfd h2]
omit [KK] in
theorem wT {n:Nat}{d:D}(h:okE (n+1) d=true):okE 0 d=true∨(∃ ds,d=.tup ds∧ds.all (okE n)=true)∨∃ ds,d=.lst ds∧ds.all (okE n)=true:=by
  cases d with
  | tup ds=>exact .inr (.inl ⟨ds,rfl,h⟩)
  | lst ds=>exact .inr (.inr ⟨ds,rfl,h⟩)
  | scr _=>cases h
  | dct _ _ _ _=>cases h
  | _=>exact .inl rfl
theorem zfP {F:Hp}{n:Nat}(ih:∀ {d e:D} {v:V},okE n d=true→okE n e=true→At F d v→At F e v→d=e):∀ {xs:List V} {ds es:List D},ds.all (okE n)=true→es.all (okE n)=true→AtL F ds xs→AtL F es xs→ds=es:=by
  intro xs
  induction xs with
  | nil =>
    intro ds es _ _ a1 a2
    exact (List.length_eq_zero_iff.mp a1.length.symm).trans (List.length_eq_zero_iff.mp a2.length.symm).symm
  | cons x xs ih2 =>
    intro ds es h1 h2 a1 a2
    cases ds with
    | nil=>cases a1.nil_inv
    | cons d ds=>cases es with
      | nil=>cases a2.nil_inv
      | cons e es =>
        obtain ⟨y,r,e1,b1,c1⟩:=a1.cons_inv
        obtain ⟨y2,r2,e2,b2,c2⟩:=a2.cons_inv
        cases e1
        cases e2
        rw [List.all_cons,Bool.and_eq_true] at h1 h2
        rw [ih2 h1.2 h2.2 c1 c2,ih h1.1 h2.1 b1 b2]
theorem zh2 {F:Hp}:∀ (n:Nat) {d e:D} {v:V},okE n d=true→okE n e=true→At F d v→At F e v→d=e:=by
  intro n
  induction n with
  | zero =>
    intro d e v h1 h2 a1 a2
    exact zfm h1 h2 ((w8 h1 a1).symm.trans (w8 h2 a2))
  | succ n ih =>
    intro d e v h1 h2 a1 a2
    rcases wT h1 with f1 | ⟨ds,rfl,k1⟩ | ⟨ds,rfl,k1⟩
    · have e1:=w8 f1 a1
      rcases wT h2 with f2 | ⟨es,rfl,_⟩ | ⟨es,rfl,_⟩
      · exact zfm f1 f2 (e1.symm.trans (w8 f2 a2))
      · obtain ⟨p,xs,e2,_⟩:=a2.tup_inv
        exact (zal f1 (e1.symm.trans e2)).elim
      · obtain ⟨p,xs,e2,_⟩:=a2.lst_inv
        exact (zal f1 (e1.symm.trans e2)).elim
    · obtain ⟨p,xs,e0,hx,al⟩:=a1.tup_inv
      rcases wT h2 with f2 | ⟨es,rfl,k2⟩ | ⟨es,rfl,k2⟩
      · exact (zal f2 ((w8 f2 a2).symm.trans e0)).elim
      · obtain ⟨q,ys,e1,hy,bl⟩:=a2.tup_inv
        cases e0.symm.trans e1
        cases hx.symm.trans hy
        rw [zfP ih k1 k2 al bl]
      · obtain ⟨q,ys,e1,hy,bl⟩:=a2.lst_inv
        cases e0.symm.trans e1
        cases hx.symm.trans hy
    · obtain ⟨p,xs,e0,hx,al⟩:=a1.lst_inv
      rcases wT h2 with f2 | ⟨es,rfl,k2⟩ | ⟨es,rfl,k2⟩
      · exact (zal f2 ((w8 f2 a2).symm.trans e0)).elim
      · obtain ⟨q,ys,e1,hy,bl⟩:=a2.tup_inv
        cases e0.symm.trans e1
        cases hx.symm.trans hy
      · obtain ⟨q,ys,e1,hy,bl⟩:=a2.lst_inv
        cases e0.symm.trans e1
        cases hx.symm.trans hy
        rw [zfP ih k1 k2 al bl]
omit [KK] in
theorem zha:∀ (n:Nat) {d:D},okE n d=true→eqN n d d=true:=by
  intro n
  induction n with
  | zero =>
    intro d h
    cases d with
    | tup _=>cases h
    | lst _=>cases h
    | scr _=>cases h
    | dct _ _ _ _=>cases h
    | _=>first | rfl | exact decide_eq_true rfl | exact beq_self_eq_true _
  | succ n ih =>
    have ihl:∀ {ds:List D},ds.all (okE n)=true→(List.zipWith (eqN n) ds ds).all id=true:=by
      intro ds
      induction ds with
      | nil=>intro _;rfl
      | cons d ds ih2 =>
        intro h
        rw [List.all_cons,Bool.and_eq_true] at h
        rw [List.zipWith_cons_cons,List.all_cons,ih2 h.2,Bool.and_true]
        exact ih h.1
    intro d h
    cases d with
    | tup ds=>show ((List.zipWith (eqN n) ds ds).all id&&ds.length == ds.length)=true;rw [ihl h];simp
    | lst ds=>show ((List.zipWith (eqN n) ds ds).all id&&ds.length == ds.length)=true;rw [ihl h];simp
    | scr _=>cases h
    | dct _ _ _ _=>cases h
    | _=>first | rfl | exact decide_eq_true rfl | exact beq_self_eq_true _
theorem zh8 {F:Hp}(n:Nat){d e:D}{v:V}(h1:okE n d=true)(h2:okE n e=true)(a1:At F d v)(a2:At F e v):eqN n d e=true:=by
  rw [zh2 n h1 h2 a1 a2]
  exact zha n h2
omit [KK] in
theorem xn {n:Nat}{ds:List D}{j:Nat}(h:ds.all (okE n)=true)(hj:j < ds.length):okE n (ds.getD j .non)=true:=by
  have:ds.getD j .non=ds[j]:=by simp [hj]
  rw [this]
  exact List.all_eq_true.mp h _ (List.getElem_mem hj)
theorem AtL.nth {F:Hp}{ds:List D}{xs:List V}{us:List Value}{j:Nat}(al:AtL F ds xs)(r:yr xs us)(h:j < us.length):∃ x,At F (ds.getD j .non) x∧xZ x us[j]:=by
  have hl:=al.length
  have hl2:=r.length
  have hj:j < ds.length:=by omega
  obtain ⟨x,hx,ax⟩:=al.get (i:=j) (d:=ds[j]) (by simp [hj])
  obtain ⟨u,hu,ru⟩:=r.get hx
  refine ⟨x,by rw [show ds.getD j .non=ds[j] by simp [hj]];exact ax,?_⟩
  have:us[j]?=some us[j]:=by simp [h]
  rw [hu] at this
  cases this
  exact ru
omit [KK] in
theorem zcU {n:Nat}{d e:D}(h1:okE 0 d=true)(h2:okE 0 e=true):eqN n d e=eqV (vOf d) (vOf e):=by
  cases n <;> cases d <;> first | (cases h1;done) | skip
  all_goals cases e <;> first | (cases h2;done) | rfl
omit [KK] in
theorem zcY {n:Nat}{d:D}(ds:List D)(h:okE 0 d=true):eqN (n+1) d (.tup ds)=false∧eqN (n+1) d (.lst ds)=false∧eqN (n+1) (.tup ds) d=false∧eqN (n+1) (.lst ds) d=false:=by
  cases d <;> first | exact ⟨rfl,rfl,rfl,rfl⟩ | cases h
omit [KK] in
theorem zai {A:Around}{s:Shared}{d:D}{u:Value}{p:Addr}{its:Array Value}(h:okE 0 d=true)(r:xZ (vOf d) u)(hu:A.units < cLine) :
    (s.heap.IsTuple p its→SeqAt.EqAt A s u (.ref p) false∧SeqAt.EqAt A s (.ref p) u false)∧(s.heap.IsList p its→SeqAt.EqAt A s u (.ref p) false∧SeqAt.EqAt A s (.ref p) u false):=by
  cases d with
  | non=>cases r;exact ⟨fun ht=>⟨.none_tuple ht hu,.tuple_none ht hu⟩,fun ht=>⟨.none_list ht hu,.list_none ht hu⟩⟩
  | bl b=>cases r;exact ⟨fun ht=>⟨.bool_tuple b ht hu,.tuple_bool b ht hu⟩,fun ht=>⟨.bool_list b ht hu,.list_bool b ht hu⟩⟩
  | int b=>obtain ⟨t,rfl⟩:=r;exact ⟨fun ht=>⟨.int_tuple b t ht hu,.tuple_int b t ht hu⟩,fun ht=>⟨.int_list b t ht hu,.list_int b t ht hu⟩⟩
  | str b=>obtain ⟨t,rfl⟩:=r;exact ⟨fun ht=>⟨.str_tuple b t ht hu,.tuple_str b t ht hu⟩,fun ht=>⟨.str_list b t ht hu,.list_str b t ht hu⟩⟩
  | _=>cases h
theorem zaB {X:Cx}{pins:List (Addr × Obj)}{σ:St}{F H:Hp}{s:Shared}(I:Inv X pins σ H s)(sm:yJ F H){ds:List D}{x:V}{u:Value}(a:At F (.tup ds) x)(r:xZ x u):∃ p its xs,u=.ref p∧x=.ref p∧yr xs its∧AtL F ds xs∧s.heap.IsTuple p its.toArray:=by
  obtain ⟨p,xs,rfl,hx,al⟩:=a.tup_inv
  cases r
  obtain ⟨its,rv,ht,hz⟩:=I.tuple (SqT.of (sm _ _ hx))
  exact ⟨p,its,xs,rfl,rfl,rv,al,ht⟩
theorem zau {X:Cx}{pins:List (Addr × Obj)}{σ:St}{F H:Hp}{s:Shared}(I:Inv X pins σ H s)(sm:yJ F H){ds:List D}{x:V}{u:Value}(a:At F (.lst ds) x)(r:xZ x u):∃ p its xs,u=.ref p∧x=.ref p∧yr xs its∧AtL F ds xs∧s.heap.IsList p its.toArray:=by
  obtain ⟨p,xs,rfl,hx,al⟩:=a.lst_inv
  cases r
  obtain ⟨its,rv,ht,hz⟩:=I.list (SqL.of (sm _ _ hx))
  exact ⟨p,its,xs,rfl,rfl,rv,al,ht.isList⟩
omit [KK] in
theorem zf8 {n:Nat}(ds es:List D):((List.zipWith (eqN n) ds es).all id&&ds.length == es.length)=((List.range (min ds.length es.length)).all (fun j=>eqN n (ds.getD j .non) (es.getD j .non))&&ds.length == es.length):=by rw [WX]
theorem WI {X:Cx}{pins:List (Addr × Obj)}{σ:St}{F H:Hp}{s:Shared}(I:Inv X pins σ H s)(sm:yJ F H):∀ (n:Nat) {A:Around} {d e:D} {x y:V} {u v:Value},okE n d=true→okE n e=true→At F d x→At F e y→xZ x u→xZ y v→A.units+n < cLine→SeqAt.EqAt A s u v (eqN n d e):=by
  intro n
  induction n with
  | zero =>
    intro A d e x y u v h1 h2 a1 a2 r1 r2 hu
    cases w8 h1 a1
    cases w8 h2 a2
    rw [zcU h1 h2]
    exact ze0 r1 r2 (Wa h1) (Wa h2)
  | succ n ih =>
    intro A d e x y u v h1 h2 a1 a2 r1 r2 hu
    have hu0:A.units < cLine:=Nat.lt_of_le_of_lt (Nat.le_add_right _ _) hu
    have hu1:A.units+1+n < cLine:=by rw [Nat.add_assoc,Nat.add_comm 1 n];exact hu
    rcases wT h1 with f1 | ⟨ds,rfl,k1⟩ | ⟨ds,rfl,k1⟩
    · cases w8 f1 a1
      rcases wT h2 with f2 | ⟨es,rfl,k2⟩ | ⟨es,rfl,k2⟩
      · cases w8 f2 a2
        rw [zcU f1 f2]
        exact ze0 r1 r2 (Wa f1) (Wa f2)
      · obtain ⟨q,its2,ys,rfl,_,_,_,ht2⟩:=zaB I sm a2 r2
        rw [(zcY es f1).1]
        exact ((zai f1 r1 hu0).1 ht2).1
      · obtain ⟨q,its2,ys,rfl,_,_,_,ht2⟩:=zau I sm a2 r2
        rw [(zcY es f1).2.1]
        exact ((zai f1 r1 hu0).2 ht2).1
    · obtain ⟨p,its,xs,rfl,hxp,rv,al,ht⟩:=zaB I sm a1 r1
      rcases wT h2 with f2 | ⟨es,rfl,k2⟩ | ⟨es,rfl,k2⟩
      · cases w8 f2 a2
        rw [(zcY ds f2).2.2.1]
        exact ((zai f2 r2 hu0).1 ht).2
      · obtain ⟨q,its2,ys,rfl,hyq,rv2,bl,ht2⟩:=zaB I sm a2 r2
        by_cases hpq:p=q
        · subst hpq
          rw [hxp] at a1
          rw [hyq] at a2
          rw [zh8 (n+1) h1 h2 a1 a2]
          exact .same _
        · have hl1:its.toArray.size=ds.length:=by rw [List.size_toArray,← rv.length,al.length]
          have hl2:its2.toArray.size=es.length:=by rw [List.size_toArray,← rv2.length,bl.length]
          have:=SeqAt.RcAt.tuples (A:=A) (e:=fun j=>eqN n (ds.getD j .non) (es.getD j .non)) ht ht2 hu0 fun j g1 g2=>by
            obtain ⟨x',ax,rx⟩:=al.nth rv (j:=j) g1
            obtain ⟨y',ay,ry⟩:=bl.nth rv2 (j:=j) g2
            exact ih (xn k1 (hl1 ▸ g1)) (xn k2 (hl2 ▸ g2)) ax ay rx ry hu1
          rw [hl1,hl2] at this
          rw [show eqN (n+1) (.tup ds) (.tup es)=_ from zf8 ds es]
          exact SeqAt.EqAt.of_refs hpq this
      · obtain ⟨q,its2,ys,rfl,_,_,_,ht2⟩:=zau I sm a2 r2
        exact .tuple_list ht ht2 hu0
    · obtain ⟨p,its,xs,rfl,hxp,rv,al,ht⟩:=zau I sm a1 r1
      rcases wT h2 with f2 | ⟨es,rfl,k2⟩ | ⟨es,rfl,k2⟩
      · cases w8 f2 a2
        rw [(zcY ds f2).2.2.2]
        exact ((zai f2 r2 hu0).2 ht).2
      · obtain ⟨q,its2,ys,rfl,_,_,_,ht2⟩:=zaB I sm a2 r2
        exact .list_tuple ht ht2 hu0
      · obtain ⟨q,its2,ys,rfl,hyq,rv2,bl,ht2⟩:=zau I sm a2 r2
        by_cases hpq:p=q
        · subst hpq
          rw [hxp] at a1
          rw [hyq] at a2
          rw [zh8 (n+1) h1 h2 a1 a2]
          exact .same _
        · have hl1:its.toArray.size=ds.length:=by rw [List.size_toArray,← rv.length,al.length]
          have hl2:its2.toArray.size=es.length:=by rw [List.size_toArray,← rv2.length,bl.length]
          rw [show eqN (n+1) (.lst ds) (.lst es)=_ from zf8 ds es]
          by_cases hle:ds.length=es.length
          · have:=SeqAt.RcAt.lists (A:=A) (e:=fun j=>eqN n (ds.getD j .non) (es.getD j .non)) ht ht2 (by rw [hl1,hl2,hle]) hu0 fun j g1 g2=>by
              obtain ⟨x',ax,rx⟩:=al.nth rv (j:=j) g1
              obtain ⟨y',ay,ry⟩:=bl.nth rv2 (j:=j) g2
              exact ih (xn k1 (hl1 ▸ g1)) (xn k2 (hl2 ▸ g2)) ax ay rx ry hu1
            rw [hl1] at this
            rw [←hle,Nat.min_self,beq_self_eq_true,Bool.and_true]
            exact SeqAt.EqAt.of_refs hpq this
          · have:=SeqAt.RcAt.lists_lengths (A:=A) ht ht2 (by rw [hl1,hl2];exact bne_iff_ne.mpr hle) hu0
            rw [beq_eq_false_iff_ne.mpr hle,Bool.and_false]
            exact SeqAt.EqAt.of_refs hpq this
def zfq (d:D)(es:List D):Option Bool:=if okE 20 d=true∧es.all (okE 20)=true then some (es.any fun e=>eqN 20 e d) else none
def inD (d e:D):Option D:=(wj e).bind fun es=>(zfq d es).map .bl
def zeH (d e:D):Option D:=(wj e).bind fun es=>(zfq d es).map fun b=>.bl (!b)
open Classical in
noncomputable def X7 (F:Hp)(d:D)(u:Value):Bool:=decide (∃ d0 x,At F d0 x∧xZ x u∧okE 20 d0=true∧eqN 20 d0 d=true)
open Classical in
theorem XB {F:Hp}{d d0:D}{x:V}{u:Value}(a:At F d0 x)(r:xZ x u)(k:okE 20 d0=true):X7 F d u=eqN 20 d0 d:=by
  unfold X7
  cases h:eqN 20 d0 d with
  | true=>exact decide_eq_true ⟨d0,x,a,r,k,h⟩
  | false =>
    refine decide_eq_false ?_
    rintro ⟨d1,y,a1,r1,k1,h1⟩
    have e:=r1.inj r
    subst e
    rw [zh2 20 k1 k a1 a] at h1
    rw [h1] at h
    cases h
theorem Z7 {F:Hp}{d:D}:∀ {ds:List D} {xs:List V} {us:List Value},AtL F ds xs→yr xs us→ds.all (okE 20)=true→us.any (X7 F d)=ds.any fun e=>eqN 20 e d
  | [],_,_,al,r,_=>by cases al.nil_inv;cases r;rfl
  | e::ds,_,_,al,r,k=>by
    obtain ⟨x,xs,rfl,a1,a2⟩:=al.cons_inv
    cases r with
    | cons r1 r2 =>
      rw [List.all_cons,Bool.and_eq_true] at k
      rw [List.any_cons,List.any_cons,XB a1 r1 k.1,Z7 a2 r2 k.2]
section
variable {X:Cx}
def zlC (neg:Bool):R2:=fun x y H Q=>∃ F d e es b,yJ F H∧At F d x∧At F e y∧wj e=some es∧zfq d es=some b∧Q (.bl (if neg then !b else b)) H
theorem VZ {k:Nat}(hr:YO k X.A):OpR X (compareOp .In) (zlC false):=by
  intro pins s σ H x y v u Q I rx ry h
  obtain ⟨F,d,e,es,b,sm,a1,a2,hs,hb,q⟩:=h
  unfold zfq at hb
  split at hb <;> cases hb
  rename_i hk
  have hu:X.A.in1.units+20 < cLine:=by have:=hr.un;show X.A.units+1+20 < cLine;omega
  have mem:∀ {xs:List V} {us:List Value},AtL F es xs→yr xs us→∀ z∈us,SeqAt.EqAt X.A.in1 s z v (X7 F d z):=fun {xs us} al r z hz=>by
    obtain ⟨j,hj,rfl⟩:=List.getElem_of_mem hz
    obtain ⟨x',ax,rx'⟩:=al.nth r hj
    have hj':j < es.length:=by have:=al.length;have:=r.length;omega
    have k2:=xn hk.2 hj'
    rw [XB ax rx' k2]
    exact WI I sm 20 k2 hk.1 ax a1 rx' rx hu
  cases e <;> cases hs
  · obtain ⟨p,xs,rfl,hx,al⟩:=a2.tup_inv
    cases ry
    obtain ⟨its,r,pl,hz⟩:=I.tuple (SqT.of (sm _ _ hx))
    refine SeqAt.in_tupleAt (X7 F d) pl (fun z hz=>mem al r z (by simpa using hz)) ⟨.bl _,H,I,rfl,?_⟩
    rw [show its.toArray.any (X7 F d)=its.any (X7 F d) by simp,Z7 al r hk.2]
    exact q
  · obtain ⟨p,xs,rfl,hx,al⟩:=a2.lst_inv
    cases ry
    obtain ⟨its,r,pl,hz⟩:=I.list (SqL.of (sm _ _ hx))
    refine SeqAt.in_listAt (X7 F d) pl.isList (fun z hz=>mem al r z (by simpa using hz)) ⟨.bl _,H,I,rfl,?_⟩
    rw [show its.toArray.any (X7 F d)=its.any (X7 F d) by simp,Z7 al r hk.2]
    exact q
theorem zeU {k:Nat}(hr:YO k X.A):OpR X (compareOp .NotIn) (zlC true):=by
  intro pins s σ H x y v u Q I rx ry h
  obtain ⟨F,d,e,es,b,sm,a1,a2,hs,hb,q⟩:=h
  unfold zfq at hb
  split at hb <;> cases hb
  rename_i hk
  have hu:X.A.in1.units+20 < cLine:=by have:=hr.un;show X.A.units+1+20 < cLine;omega
  have mem:∀ {xs:List V} {us:List Value},AtL F es xs→yr xs us→∀ z∈us,SeqAt.EqAt X.A.in1 s z v (X7 F d z):=fun {xs us} al r z hz=>by
    obtain ⟨j,hj,rfl⟩:=List.getElem_of_mem hz
    obtain ⟨x',ax,rx'⟩:=al.nth r hj
    have hj':j < es.length:=by have:=al.length;have:=r.length;omega
    have k2:=xn hk.2 hj'
    rw [XB ax rx' k2]
    exact WI I sm 20 k2 hk.1 ax a1 rx' rx hu
  cases e <;> cases hs
  · obtain ⟨p,xs,rfl,hx,al⟩:=a2.tup_inv
    cases ry
    obtain ⟨its,r,pl,hz⟩:=I.tuple (SqT.of (sm _ _ hx))
    refine SeqAt.notIn_tupleAt (X7 F d) pl (fun z hz=>mem al r z (by simpa using hz)) ⟨.bl _,H,I,rfl,?_⟩
    rw [show its.toArray.any (X7 F d)=its.any (X7 F d) by simp,Z7 al r hk.2]
    exact q
  · obtain ⟨p,xs,rfl,hx,al⟩:=a2.lst_inv
    cases ry
    obtain ⟨its,r,pl,hz⟩:=I.list (SqL.of (sm _ _ hx))
    refine SeqAt.notIn_listAt (X7 F d) pl.isList (fun z hz=>mem al r z (by simpa using hz)) ⟨.bl _,H,I,rfl,?_⟩
    rw [show its.toArray.any (X7 F d)=its.any (X7 F d) by simp,Z7 al r hk.2]
    exact q
theorem VD:OpD (zlC false) inD:=by
  intro F H x y d e z Q s ax ay ez q
  obtain ⟨es,e1,e2⟩:=Option.bind_eq_some_iff.mp ez
  obtain ⟨b,e3,rfl⟩:=Option.map_eq_some_iff.mp e2
  exact ⟨F,d,e,es,b,s,ax,ay,e1,e3,q F H _ (.refl s) .bl⟩
theorem zfO:OpD (zlC true) zeH:=by
  intro F H x y d e z Q s ax ay ez q
  obtain ⟨es,e1,e2⟩:=Option.bind_eq_some_iff.mp ez
  obtain ⟨b,e3,rfl⟩:=Option.map_eq_some_iff.mp e2
  exact ⟨F,d,e,es,b,s,ax,ay,e1,e3,q F H _ (.refl s) .bl⟩
def eqG (d e:D):Option Bool:=match d,e with
  | .tup _,.tup _=>if okE 20 d=true∧okE 20 e=true then some (eqN 20 d e) else none
  | .lst _,.lst _=>if okE 20 d=true∧okE 20 e=true then some (eqN 20 d e) else none
  | _,_=>eqS d e
def Xj (d e:D):Option D:=(eqG d e).map .bl
def zlE:R2:=fun x y H Q=>∃ F d e,yJ F H∧At F d x∧At F e y∧((∃ ds es,d=.tup ds∧e=.tup es)∨(∃ ds es,d=.lst ds∧e=.lst es))∧okE 20 d=true∧okE 20 e=true∧Q (.bl (eqN 20 d e)) H
theorem zka {k:Nat}(hr:YO k X.A):OpR X (compareOp .Eq) zlE:=by
  intro pins s σ H x y v u Q I rx ry h
  obtain ⟨F,d,e,sm,a1,a2,hk,k1,k2,q⟩:=h
  have hu:X.A.units+30 < cLine:=by have:=hr.un;omega
  rcases hk with ⟨ds,es,rfl,rfl⟩ | ⟨ds,es,rfl,rfl⟩
  · obtain ⟨p,xs,rfl,hx,al⟩:=a1.tup_inv
    obtain ⟨p2,ys,rfl,hy,bl⟩:=a2.tup_inv
    cases rx
    cases ry
    obtain ⟨its,r,ht,hz⟩:=I.tuple (SqT.of (sm _ _ hx))
    obtain ⟨its2,r2,ht2,hz2⟩:=I.tuple (SqT.of (sm _ _ hy))
    have hl1:its.toArray.size=ds.length:=by rw [List.size_toArray,← r.length,al.length]
    have hl2:its2.toArray.size=es.length:=by rw [List.size_toArray,← r2.length,bl.length]
    refine SeqAt.eq_tupleAt (e:=fun j=>eqN 19 (ds.getD j .non) (es.getD j .non)) (show s.heap.IsTuple p its.toArray from ht) (show s.heap.IsTuple p2 its2.toArray from ht2) (by omega) (fun j g1 g2=>?_) ⟨.bl _,H,I,rfl,?_⟩
    · obtain ⟨x',ax,rx⟩:=al.nth r (j:=j) (by simpa using g1)
      obtain ⟨y',ay,ry⟩:=bl.nth r2 (j:=j) (by simpa using g2)
      exact WI I sm 19 (xn k1 (by rw [←hl1];exact g1)) (xn k2 (by rw [←hl2];exact g2)) ax ay (by simpa using rx) (by simpa using ry) (Nat.lt_of_le_of_lt (show X.A.units+20≤X.A.units+30 from Nat.add_le_add_left (by decide) _) hu)
    · rw [hl1,hl2,← WX]
      exact q
  · obtain ⟨p,xs,rfl,hx,al⟩:=a1.lst_inv
    obtain ⟨p2,ys,rfl,hy,bl⟩:=a2.lst_inv
    cases rx
    cases ry
    obtain ⟨its,r,ht,hz⟩:=I.list (SqL.of (sm _ _ hx))
    obtain ⟨its2,r2,ht2,hz2⟩:=I.list (SqL.of (sm _ _ hy))
    have hl1:its.toArray.size=ds.length:=by rw [List.size_toArray,← r.length,al.length]
    have hl2:its2.toArray.size=es.length:=by rw [List.size_toArray,← r2.length,bl.length]
    have e1:eqN 20 (.lst ds) (.lst es)=((List.range (min ds.length es.length)).all (fun j=>eqN 19 (ds.getD j .non) (es.getD j .non))&&ds.length == es.length):=by
      show ((List.zipWith (eqN 19) ds es).all id&&ds.length == es.length)=_
      rw [WX]
    by_cases hle:ds.length=es.length
    · refine SeqAt.eq_listAt (e:=fun j=>eqN 19 (ds.getD j .non) (es.getD j .non)) ht.isList ht2.isList (by rw [hl1,hl2];exact hle) (Nat.lt_of_le_of_lt (Nat.le_add_right _ 30) hu) (fun j g1 g2=>?_) ⟨.bl _,H,I,rfl,?_⟩
      · obtain ⟨x',ax,rx⟩:=al.nth r (j:=j) (by simpa using g1)
        obtain ⟨y',ay,ry⟩:=bl.nth r2 (j:=j) (by simpa using g2)
        exact WI I sm 19 (xn k1 (by rw [←hl1];exact g1)) (xn k2 (by rw [←hl2];exact g2)) ax ay (by simpa using rx) (by simpa using ry) (Nat.lt_of_le_of_lt (show X.A.units+20≤X.A.units+30 from Nat.add_le_add_left (by decide) _) hu)
      · rw [hl1]
        rw [e1,← hle,Nat.min_self] at q
        simpa using q
    · refine SeqAt.eq_list_lengthsAt ht.isList ht2.isList (by rw [hl1,hl2];simpa using hle) (Nat.lt_of_le_of_lt (Nat.le_add_right _ 30) hu) ⟨.bl _,H,I,rfl,?_⟩
      have:(ds.length == es.length)=false:=by simpa using hle
      rw [e1,this,Bool.and_false] at q
      exact q
theorem zjx:OpD zlE (fun d e=>match d,e with
  | .tup _,.tup _=>if okE 20 d=true∧okE 20 e=true then some (.bl (eqN 20 d e)) else none
  | .lst _,.lst _=>if okE 20 d=true∧okE 20 e=true then some (.bl (eqN 20 d e)) else none
  | _,_=>none):=by
  intro F H x y d e z Q s ax ay ez q
  dsimp only at ez
  split at ez
  · split at ez <;> cases ez
    rename_i hk
    exact ⟨F,_,_,s,ax,ay,.inl ⟨_,_,rfl,rfl⟩,hk.1,hk.2,q F H _ (.refl s) .bl⟩
  · split at ez <;> cases ez
    rename_i hk
    exact ⟨F,_,_,s,ax,ay,.inr ⟨_,_,rfl,rfl⟩,hk.1,hk.2,q F H _ (.refl s) .bl⟩
  · cases ez
theorem YH {k:Nat}(hr:YO k X.A):OpR X (compareOp .Eq) (fun x y H Q=>rEq x y H Q∨zlE x y H Q):=zlH.or (zka hr)
theorem w6:OpD (fun x y H Q=>rEq x y H Q∨zlE x y H Q) Xj:=by
  refine zcj (zbI zhW zjx) fun d e z h=>?_
  obtain ⟨b,hb,rfl⟩:=Option.map_eq_some_iff.mp h
  unfold eqG at hb
  split at hb
  · split at hb <;> cases hb
    rename_i hk
    show (Option.or none (if okE 20 _=true∧okE 20 _=true then some (D.bl (eqN 20 _ _)) else none))=_
    rw [if_pos hk]
    rfl
  · split at hb <;> cases hb
    rename_i hk
    show (Option.or none (if okE 20 _=true∧okE 20 _=true then some (D.bl (eqN 20 _ _)) else none))=_
    rw [if_pos hk]
    rfl
  · show ((eqD d e).or _)=_
    unfold eqD
    rw [hb]
    rfl
theorem ZY {pins:List (Addr × Obj)}{σ:St}{H:Hp}{s:Shared}{a:Addr}{xs:List V}{A:Around}{Q:Value→Shared→Prop}{E:Value→Shared→Prop}(I:Inv X pins σ H s)(hh:A.handled=none)(h:SqL X.K H a xs∨SqT X.K H a xs)
    (k:∀ (it:Addr) (its:List Value) (fp wr:List Addr) (St:Nat→Heap→Prop) (s₂:Shared),yr xs its→Walks X.prog X.w A it fp wr its.length (fun i v=>its[i]?=some v) St→St 0 s₂.heap→(∀ b∈fp,b < s₂.heap.objs.size) →
      (∀ (h':Heap) (tk:Nat),(∀ b o,b∉wr→s₂.heap.get? b=some o→h'.get? b=some o)→Inv X pins σ H { s₂ with heap:=h',toks:=tk })→Q (.ref it) s₂) :
    wpAny (model X.prog X.w) A (pyIter (.ref a)) Q E s:=by
  have back:∀ {o:Obj} {s₂:Shared},s₂={ s with heap:=s.heap.push o }→∀ (h':Heap) (tk:Nat),(∀ b u,b∉[s.heap.objs.size]→s₂.heap.get? b=some u→h'.get? b=some u)→Inv X pins σ H { s₂ with heap:=h',toks:=tk }:=fun {o s₂} e h' tk kk=>by
    subst e
    exact I.kept (t':=tk) fun b u z=>kk b u (by simpa using Nat.ne_of_lt (Heap.lt_size z)) (Heap.get?_push_of_some _ z)
  rcases h with h | h
  · obtain ⟨its,rv,p,hz⟩:=I.list h
    have lt:a < s.heap.objs.size:=by obtain ⟨o,n,ho,_⟩:=p;exact Heap.lt_size ho
    refine wpAny_pyIter_list p.isList ?_
    have W:=Walks.list (prog:=X.prog) (w:=X.w) (A:=A) hh s.heap.objs.size a (Nat.ne_of_lt lt) its.toArray
    refine k s.heap.objs.size its [s.heap.objs.size,a] [s.heap.objs.size] (fun i h=>h.IsListIter s.heap.objs.size a i∧h.IsList a its.toArray) _ rv (by simpa using W) ⟨⟨_,Heap.get?_push_size _ rfl,rfl,rfl⟩,p.isList.at fun o e=>Heap.get?_push_of_some _ e⟩ (fun b hb=>?_) (back rfl)
    show b < (s.heap.push _).objs.size
    rw [Heap.size_push]
    rcases List.mem_cons.mp hb with rfl | hb
    · exact Nat.lt_succ_self _
    · rw [List.mem_singleton.mp hb];exact Nat.lt_succ_of_lt lt
  · obtain ⟨its,rv,p,hz⟩:=I.tuple h
    have p':s.heap.IsTuple a its.toArray:=p
    have lt:a < s.heap.objs.size:=by obtain ⟨o,ho,_⟩:=p;exact Heap.lt_size ho
    refine wpAny_pyIter_tuple p' ?_
    have W:=Walks.tuple (prog:=X.prog) (w:=X.w) (A:=A) hh s.heap.objs.size a (Nat.ne_of_lt lt) its.toArray
    refine k s.heap.objs.size its [s.heap.objs.size,a] [s.heap.objs.size] (fun i h=>h.IsTupleIter s.heap.objs.size a i∧h.IsTuple a its.toArray) _ rv (by simpa using W) ⟨⟨_,Heap.get?_push_size _ rfl,rfl,rfl⟩,p'.at fun o e=>Heap.get?_push_of_some _ e⟩ (fun b hb=>?_) (back rfl)
    show b < (s.heap.push _).objs.size
    rw [Heap.size_push]
    rcases List.mem_cons.mp hb with rfl | hb
    · exact Nat.lt_succ_self _
    · rw [List.mem_singleton.mp hb];exact Nat.lt_succ_of_lt lt
end
end Dl
namespace Dl
open PySem L2
variable [KK]
omit [KK] in
theorem zeG {bs:List Bool}:(List.range bs.length).all (fun i=>bs.getD i false)=bs.all id:=by
  have:bs=(List.range bs.length).map fun i=>bs.getD i false:=by
    apply List.ext_getElem
    · simp
    · intro i h1 h2
      simp [h1]
  conv=>rhs;rw [this]
  rw [List.all_map]
  rfl
omit [KK] in
theorem zd8 {bs:List Bool}:(List.range bs.length).any (fun i=>bs.getD i false)=bs.any id:=by
  have:bs=(List.range bs.length).map fun i=>bs.getD i false:=by
    apply List.ext_getElem
    · simp
    · intro i h1 h2
      simp [h1]
  conv=>rhs;rw [this]
  rw [List.any_map]
  rfl
omit [KK] in
theorem zga:∀ (ns:List Int) (n:Nat),n≤ns.length→preSum (fun i=>ns.getD i 0) n=(ns.take n).sum:=by
  intro ns n
  induction n with
  | zero=>intro _;simp [preSum]
  | succ n ih =>
    intro h
    show preSum (fun i=>ns.getD i 0) n+ns.getD n 0=_
    rw [ih (by omega),List.take_succ,List.sum_append]
    have:ns[n]?=some ns[n]:=by simp [show n < ns.length by omega]
    simp [this]
section
variable {X:Cx}
omit [KK] in
theorem zeB {bs:List Bool}{its:List Value}{i:Nat}{v:Value}(r:yr (bs.map V.bl) its)(h:its[i]?=some v):v=.bool (bs.getD i false):=by
  have hl:=r.length
  have hi:i < its.length:=(List.getElem?_eq_some_iff.mp h).1
  rw [List.length_map] at hl
  obtain ⟨u,hu,ru⟩:=r.get (i:=i) (x:=.bl (bs[i]'(by omega))) (by rw [List.getElem?_map];simp [show i < bs.length by omega])
  rw [h] at hu
  cases hu
  cases ru
  simp [show i < bs.length by omega]
omit [KK] in
theorem Yv {ns:List Int}{its:List Value}{i:Nat}{v:Value}(r:yr (ns.map V.int) its)(h:its[i]?=some v):∃ t,v=.int (ns.getD i 0) t:=by
  have hl:=r.length
  have hi:i < its.length:=(List.getElem?_eq_some_iff.mp h).1
  rw [List.length_map] at hl
  obtain ⟨u,hu,ru⟩:=r.get (i:=i) (x:=.int (ns[i]'(by omega))) (by rw [List.getElem?_map];simp [show i < ns.length by omega])
  rw [h] at hu
  cases hu
  obtain ⟨t,rfl⟩:=ru
  exact ⟨t,by simp [show i < ns.length by omega]⟩
theorem zaY (hc:X.calm=true):YL X (.builtin "all") (fun xs H Q=>∃ (p:Addr) (bs:List Bool),xs=[.ref p]∧(SqL X.K H p (bs.map V.bl)∨SqT X.K H p (bs.map V.bl))∧Q (.bl (bs.all id)) H):=by
  intro pins s σ H xs us Q I r h
  obtain ⟨p,bs,rfl,hq,q⟩:=h
  obtain ⟨u,rfl,ru⟩:=Vu r
  cases ru
  refine call_all_walk (ZY I (I.ok.hd hc) hq fun it its fp wr St s₂ rv W st fpl back=>?_)
  have hl:=rv.length
  rw [List.length_map] at hl
  refine ⟨it,fp,wr,_,_,St,fun i=>bs.getD i false,rfl,W,st,fun i v s Q E hv hQ=>?_,fun h' tk kk=>⟨.bl _,H,back h' tk kk,rfl,?_⟩⟩
  · rw [zeB rv hv]
    exact wpAny_truthy_bool hQ
  · rw [←hl,zeG]
    exact q
theorem zgg (hc:X.calm=true):YL X (.builtin "any") (fun xs H Q=>∃ (p:Addr) (bs:List Bool),xs=[.ref p]∧(SqL X.K H p (bs.map V.bl)∨SqT X.K H p (bs.map V.bl))∧Q (.bl (bs.any id)) H):=by
  intro pins s σ H xs us Q I r h
  obtain ⟨p,bs,rfl,hq,q⟩:=h
  obtain ⟨u,rfl,ru⟩:=Vu r
  cases ru
  refine call_any_walk (ZY I (I.ok.hd hc) hq fun it its fp wr St s₂ rv W st fpl back=>?_)
  have hl:=rv.length
  rw [List.length_map] at hl
  refine ⟨it,fp,wr,_,_,St,fun i=>bs.getD i false,rfl,W,st,fun i v s Q E hv hQ=>?_,fun h' tk kk=>⟨.bl _,H,back h' tk kk,rfl,?_⟩⟩
  · rw [zeB rv hv]
    exact wpAny_truthy_bool hQ
  · rw [←hl,zd8]
    exact q
theorem WZ (hc:X.calm=true):YL X (.builtin "sum") (fun xs H Q=>∃ (p:Addr) (ns:List Int),xs=[.ref p]∧(SqL X.K H p (ns.map V.int)∨SqT X.K H p (ns.map V.int))∧Q (.int ns.sum) H):=by
  intro pins s σ H xs us Q I r h
  obtain ⟨p,ns,rfl,hq,q⟩:=h
  obtain ⟨u,rfl,ru⟩:=Vu r
  cases ru
  refine call_sum_walkG (ZY I (I.ok.hd hc) hq fun it its fp wr St s₂ rv W st fpl back=>?_)
  have hl:=rv.length
  rw [List.length_map] at hl
  refine ⟨it,fp,wr,_,_,St,fun i=>ns.getD i 0,rfl,W,st,fpl,fun i v hv=>Yv rv hv,fun h' tk t' kk=>⟨.int ns.sum,H,back h' tk kk,?_,q⟩⟩
  refine ⟨t',?_⟩
  rw [←hl,zga ns _ (Nat.le_refl _),List.take_length]
def zg5 (ns:List Int):Int:=(ns.max?).getD 0
def zaA (ns:List Int):Int:=(ns.min?).getD 0
omit [KK] in
theorem zeY (f:Nat→Int):∀ k i,i≤k→f i≤f (argBest (fun i j=>decide (f j < f i)) k)∧argBest (fun i j=>decide (f j < f i)) k≤k:=by
  intro k
  induction k with
  | zero => intro i hi; have : i = 0 := by omega
            subst this;exact ⟨Int.le_refl _,Nat.le_refl _⟩
  | succ k ih =>
    intro i hi
    unfold argBest
    obtain ⟨h1,h2⟩:=ih (min i k) (Nat.min_le_right _ _)
    split
    · rename_i hc
      have hc:f (argBest (fun i j=>decide (f j < f i)) k) < f (k+1):=of_decide_eq_true hc
      refine ⟨?_,Nat.le_refl _⟩
      by_cases hik:i≤k
      · rw [Nat.min_eq_left hik] at h1;omega
      · have:i=k+1:=by omega
        subst this;exact Int.le_refl _
    · rename_i hc
      have hc:¬ f (argBest (fun i j=>decide (f j < f i)) k) < f (k+1):=fun z=>hc (decide_eq_true z)
      refine ⟨?_,by omega⟩
      by_cases hik:i≤k
      · rw [Nat.min_eq_left hik] at h1;exact h1
      · have:i=k+1:=by omega
        subst this;omega
omit [KK] in
theorem zla {ns:List Int}{m:Int}(h1:m∈ns)(h2:∀ x∈ns,x≤m):zg5 ns=m:=by
  unfold zg5
  rw [List.max?_eq_some_iff.mpr ⟨h1,h2⟩]
  rfl
omit [KK] in
theorem zk0 {ns:List Int}{m:Int}(h1:m∈ns)(h2:∀ x∈ns,m≤x):zaA ns=m:=by
  unfold zaA
  rw [List.min?_eq_some_iff.mpr ⟨h1,h2⟩]
  rfl
omit [KK] in
theorem getD_mem {ns:List Int}{k:Nat}(h:k < ns.length):ns.getD k 0∈ns:=by
  rw [List.getD_eq_getElem?_getD,List.getElem?_eq_getElem h]
  exact List.getElem_mem h
omit [KK] in
theorem getD_at {ns:List Int}{k:Nat}(h:k < ns.length):ns.getD k 0=ns[k]:=by
  rw [List.getD_eq_getElem?_getD,List.getElem?_eq_getElem h]
  rfl
theorem zfG (hc:X.calm=true):YL X (.builtin "max") (fun xs H Q=>∃ (p:Addr) (ns:List Int),xs=[.ref p]∧(SqL X.K H p (ns.map V.int)∨SqT X.K H p (ns.map V.int))∧ns≠[]∧Q (.int (zg5 ns)) H):=by
  intro pins s σ H xs us Q I r h
  obtain ⟨p,ns,rfl,hq,hne,q⟩:=h
  obtain ⟨u,rfl,ru⟩:=Vu r
  cases ru
  refine call_max_walk (ZY I (I.ok.hd hc) hq fun it its fp wr St s₂ rv W st fpl back=>?_)
  have hl:=rv.length
  rw [List.length_map] at hl
  have hpos:0 < ns.length:=List.length_pos_iff.mpr hne
  refine ⟨it,fp,wr,_,_,St,fun i j=>decide (ns.getD j 0 < ns.getD i 0),rfl,W,st,fpl,by omega,fun i j vi vj s Q E hi hj hQ=>?_,fun v h' tk hv kk=>?_⟩
  · obtain ⟨t1,rfl⟩:=Yv rv hi
    obtain ⟨t2,rfl⟩:=Yv rv hj
    exact PyProof.Rows.gt_int hQ
  · obtain ⟨t,rfl⟩:=Yv rv hv
    refine ⟨.int (zg5 ns),H,back h' tk kk,⟨t,?_⟩,q⟩
    have key:=zeY (fun i=>ns.getD i 0) (its.length - 1)
    have hb:argBest (fun i j=>decide (ns.getD j 0 < ns.getD i 0)) (its.length - 1) < ns.length:=by
      have:=(key 0 (Nat.zero_le _)).2
      omega
    rw [zla (m:=ns.getD (argBest (fun i j=>decide (ns.getD j 0 < ns.getD i 0)) (its.length - 1)) 0)]
    · exact getD_mem hb
    · intro x hx
      obtain ⟨j,hj,rfl⟩:=List.getElem_of_mem hx
      have:=(key j (by omega)).1
      rw [←getD_at hj]
      exact this
theorem W3 (hc:X.calm=true):YL X (.builtin "min") (fun xs H Q=>∃ (p:Addr) (ns:List Int),xs=[.ref p]∧(SqL X.K H p (ns.map V.int)∨SqT X.K H p (ns.map V.int))∧ns≠[]∧Q (.int (zaA ns)) H):=by
  intro pins s σ H xs us Q I r h
  obtain ⟨p,ns,rfl,hq,hne,q⟩:=h
  obtain ⟨u,rfl,ru⟩:=Vu r
  cases ru
  refine call_min_walk (ZY I (I.ok.hd hc) hq fun it its fp wr St s₂ rv W st fpl back=>?_)
  have hl:=rv.length
  rw [List.length_map] at hl
  have hpos:0 < ns.length:=List.length_pos_iff.mpr hne
  refine ⟨it,fp,wr,_,_,St,fun i j=>decide (ns.getD i 0 < ns.getD j 0),rfl,W,st,fpl,by omega,fun i j vi vj s Q E hi hj hQ=>?_,fun v h' tk hv kk=>?_⟩
  · obtain ⟨t1,rfl⟩:=Yv rv hi
    obtain ⟨t2,rfl⟩:=Yv rv hj
    exact PyProof.Rows.lt_int hQ
  · obtain ⟨t,rfl⟩:=Yv rv hv
    refine ⟨.int (zaA ns),H,back h' tk kk,⟨t,?_⟩,q⟩
    have key:=zeY (fun i=>- ns.getD i 0) (its.length - 1)
    have e0:(fun i j=>decide (ns.getD i 0 < ns.getD j 0))=fun i j=>decide (-ns.getD j 0 < -ns.getD i 0):=by
      funext i j
      congr 1
      apply propext
      constructor <;> intro h <;> omega
    rw [e0]
    have hb:argBest (fun i j=>decide (-ns.getD j 0 < -ns.getD i 0)) (its.length - 1) < ns.length:=by
      have:=(key 0 (Nat.zero_le _)).2
      omega
    rw [zk0 (m:=ns.getD (argBest (fun i j=>decide (-ns.getD j 0 < -ns.getD i 0)) (its.length - 1)) 0)]
    · exact getD_mem hb
    · intro x hx
      obtain ⟨j,hj,rfl⟩:=List.getElem_of_mem hx
      have:=(key j (by omega)).1
      rw [←getD_at hj]
      omega
def zgx:List D→Option (List Bool)
  | []=>some []
  | .bl b::ds=>(zgx ds).map (b::·)
  | _=>none
def zd7:List D→Option (List Int)
  | []=>some []
  | .int b::ds=>(zd7 ds).map (b::·)
  | _=>none
omit [KK] in
theorem zcb:∀ {ds:List D} {bs:List Bool},zgx ds=some bs→ds=bs.map .bl
  | [],bs,h=>by cases h;rfl
  | d::ds,bs,h=>by
    cases d <;> try cases h
    obtain ⟨cs,h1,rfl⟩:=Option.map_eq_some_iff.mp h
    rw [zcb h1]
    rfl
omit [KK] in
theorem Vg:∀ {ds:List D} {bs:List Int},zd7 ds=some bs→ds=bs.map .int
  | [],bs,h=>by cases h;rfl
  | d::ds,bs,h=>by
    cases d <;> try cases h
    obtain ⟨cs,h1,rfl⟩:=Option.map_eq_some_iff.mp h
    rw [Vg h1]
    rfl
omit [KK] in
theorem zcO (bs:List Bool):zgx (bs.map .bl)=some bs:=by
  induction bs with
  | nil=>rfl
  | cons b r ih=>show (zgx (r.map .bl)).map (b::·)=_;rw [ih];rfl
omit [KK] in
theorem Wo (bs:List Int):zd7 (bs.map .int)=some bs:=by
  induction bs with
  | nil=>rfl
  | cons b r ih=>show (zd7 (r.map .int)).map (b::·)=_;rw [ih];rfl
theorem AtL.of_bls {H:Hp}:∀ {ns:List Bool} {xs:List V},AtL H (ns.map D.bl) xs→xs=ns.map V.bl
  | [],_,h=>h.nil_inv
  | n::r,_,h=>by
    obtain ⟨x,r',rfl,h1,h2⟩:=AtL.cons_inv (by simpa using h)
    rw [h1.bl_inv,AtL.of_bls h2]
    rfl
def ziV {α:Type}(as:List D→Option α)(g:α→Option D):List D→Option D
  | [d]=>((wj d).bind as).bind g
  | _=>none
theorem Wq {K:PySem.W.Frag}{F H:Hp}{vs:List V}{ds:List D}{z:D}{α:Type}{as:List D→Option α}{g:α→Option D}(s:yJ F H)(al:AtL F ds vs)(e:ziV as g ds=some z) :
    ∃ p es xs b,vs=[.ref p]∧(SqL K H p xs∨SqT K H p xs)∧AtL F es xs∧as es=some b∧g b=some z:=by
  unfold ziV at e
  split at e
  · obtain ⟨b,e1,e2⟩:=Option.bind_eq_some_iff.mp e
    obtain ⟨es,e3,e4⟩:=Option.bind_eq_some_iff.mp e1
    obtain ⟨x,r,rfl,ax,ar⟩:=al.cons_inv
    cases ar.nil_inv
    rename_i d
    cases d <;> cases e3
    · obtain ⟨p,xs,rfl,hx,bl⟩:=ax.tup_inv
      exact ⟨p,_,xs,b,rfl,.inr (SqT.of (s _ _ hx)),bl,e4,e2⟩
    · obtain ⟨p,xs,rfl,hx,bl⟩:=ax.lst_inv
      exact ⟨p,_,xs,b,rfl,.inl (SqL.of (s _ _ hx)),bl,e4,e2⟩
  · cases e
def zjC:=ziV zgx fun bs=>some (.bl (bs.all id))
def zl3:=ziV zgx fun bs=>some (.bl (bs.any id))
def zim:=ziV zd7 fun ns=>some (.int ns.sum)
def zj9:=ziV zd7 fun ns=>if ns=[] then none else some (.int (zg5 ns))
def zdz:=ziV zd7 fun ns=>if ns=[] then none else some (.int (zaA ns))
theorem zeL {K:PySem.W.Frag}:CaD (fun xs H Q=>∃ (p:Addr) (bs:List Bool),xs=[.ref p]∧(SqL K H p (bs.map V.bl)∨SqT K H p (bs.map V.bl))∧Q (.bl (bs.all id)) H) zjC:=by
  intro F H vs ds z Q s al e q
  obtain ⟨p,es,xs,bs,rfl,hq,bl,e1,e2⟩:=Wq (K:=K) s al e
  cases e2
  rw [zcb e1] at bl
  rw [bl.of_bls] at hq
  exact ⟨p,bs,rfl,hq,q F H _ (.refl s) .bl⟩
theorem zjn {K:PySem.W.Frag}:CaD (fun xs H Q=>∃ (p:Addr) (bs:List Bool),xs=[.ref p]∧(SqL K H p (bs.map V.bl)∨SqT K H p (bs.map V.bl))∧Q (.bl (bs.any id)) H) zl3:=by
  intro F H vs ds z Q s al e q
  obtain ⟨p,es,xs,bs,rfl,hq,bl,e1,e2⟩:=Wq (K:=K) s al e
  cases e2
  rw [zcb e1] at bl
  rw [bl.of_bls] at hq
  exact ⟨p,bs,rfl,hq,q F H _ (.refl s) .bl⟩
theorem zbS {K:PySem.W.Frag}:CaD (fun xs H Q=>∃ (p:Addr) (ns:List Int),xs=[.ref p]∧(SqL K H p (ns.map V.int)∨SqT K H p (ns.map V.int))∧Q (.int ns.sum) H) zim:=by
  intro F H vs ds z Q s al e q
  obtain ⟨p,es,xs,bs,rfl,hq,bl,e1,e2⟩:=Wq (K:=K) s al e
  cases e2
  rw [Vg e1] at bl
  rw [bl.of_ints] at hq
  exact ⟨p,bs,rfl,hq,q F H _ (.refl s) .int⟩
theorem zg2 {K:PySem.W.Frag}:CaD (fun xs H Q=>∃ (p:Addr) (ns:List Int),xs=[.ref p]∧(SqL K H p (ns.map V.int)∨SqT K H p (ns.map V.int))∧ns≠[]∧Q (.int (zg5 ns)) H) zj9:=by
  intro F H vs ds z Q s al e q
  obtain ⟨p,es,xs,bs,rfl,hq,bl,e1,e2⟩:=Wq (K:=K) s al e
  split at e2 <;> cases e2
  rename_i hne
  rw [Vg e1] at bl
  rw [bl.of_ints] at hq
  exact ⟨p,bs,rfl,hq,hne,q F H _ (.refl s) .int⟩
theorem zag {K:PySem.W.Frag}:CaD (fun xs H Q=>∃ (p:Addr) (ns:List Int),xs=[.ref p]∧(SqL K H p (ns.map V.int)∨SqT K H p (ns.map V.int))∧ns≠[]∧Q (.int (zaA ns)) H) zdz:=by
  intro F H vs ds z Q s al e q
  obtain ⟨p,es,xs,bs,rfl,hq,bl,e1,e2⟩:=Wq (K:=K) s al e
  split at e2 <;> cases e2
  rename_i hne
  rw [Vg e1] at bl
  rw [bl.of_ints] at hq
  exact ⟨p,bs,rfl,hq,hne,q F H _ (.refl s) .int⟩
end
end Dl
namespace Dl
open PySem L2
variable [KK]
section
variable {X:Cx}{tg a b c e:Expr}{pos:Pos}
def zd1:List D→List D→List D
  | x::xs,y::ys=>.tup [x,y]::zd1 xs ys
  | _,_=>[]
omit [KK] in
theorem zdi:∀ (xs ys:List D) (i:Nat),(zd1 xs ys)[i]?=match xs[i]?,ys[i]? with | some x,some y=>some (.tup [x,y]) | _,_=>none
  | [],ys,i=>by simp [zd1]
  | x::xs,[],i=>by simp [zd1]
  | x::xs,y::ys,0=>by simp [zd1]
  | x::xs,y::ys,i+1=>by simpa [zd1] using zdi xs ys i
omit [KK] in
theorem WC:∀ (xs ys:List D),xs.length≤ys.length→(zd1 xs ys).length=xs.length
  | [],ys,_=>by simp [zd1]
  | x::xs,[],h=>by simp at h
  | x::xs,y::ys,h=>by simp [zd1,WC xs ys (by simpa using h)]
def vK (f:Ev→Option (List D)):Ev→Option (List D):=fun ρ=>(f ρ).bind fun as=>match as with
  | [d,e]=>(wj d).bind fun xs=>(wj e).bind fun ys=>if xs.length≤ys.length then some (zd1 xs ys) else none
  | _=>none
theorem zk1 {K:PySem.W.Frag}{F H:Hp}{d:D}{v:V}{ds:List D}(s:yJ F H)(h:At F d v)(e:wj d=some ds):∃ b p xs,v=.ref p∧(∀ {F' H':Hp},yJ F F'→yJ F' H'→Sq b K H' p xs)∧AtL F ds xs:=by
  cases d <;> cases e
  · obtain ⟨p,xs,rfl,hx,al⟩:=h.tup_inv
    exact ⟨false,p,xs,rfl,fun s1 s2=>SqT.of (s2 _ _ (s1 _ _ hx)),al⟩
  · obtain ⟨p,xs,rfl,hx,al⟩:=h.lst_inv
    exact ⟨true,p,xs,rfl,fun s1 s2=>SqL.of (s2 _ _ (s1 _ _ hx)),al⟩
theorem zlb {es:List Expr} {k:Nat} {tp p:Pos} {f:Ev→Option (List D)} (hg:Gl X "zip") (hm:X.mg "zip"=none) (ha:AD X [a,b] f)
    (hs:starEach [a,b] X.env=[(false,eval a X.env),(false,eval b X.env)]:=by rfl) (hs2:starEach [b] X.env=[(false,eval b X.env)]:=by rfl):ID X (.Tuple es k tp) (.Call (.Name "zip" p) [a,b] [] pos) (vK f):=by
  obtain ⟨t,pa,r⟩:=ha
  refine ⟨_,zlr hg hm zkW pa hs hs2,fun σ ρ F H ds R s va e q=>?_⟩
  obtain ⟨as,e1,e2⟩:=Option.bind_eq_some_iff.mp e
  refine r σ ρ F H as _ s va e1 fun F1 H1 v g1 a1=>?_
  split at e2
  · obtain ⟨x,r',rfl,ax,ar⟩:=a1.cons_inv
    obtain ⟨y,r',rfl,ay,ar⟩:=ar.cons_inv
    cases ar.nil_inv
    obtain ⟨xs,e3,e2'⟩:=Option.bind_eq_some_iff.mp e2
    obtain ⟨ys,e4,e2''⟩:=Option.bind_eq_some_iff.mp e2'
    clear e2 e2' e
    split at e2'' <;> cases e2''
    rename_i hle
    obtain ⟨b1,p1,us,rfl,sq1,al⟩:=zk1 (K:=X.K) g1.fh ax e3
    obtain ⟨b2,p2,ws,rfl,sq2,bl⟩:=zk1 (K:=X.K) g1.fh ay e4
    refine ⟨b1,b2,p1,p2,us,ws,rfl,sq1 (yJ.refl _) g1.fh,sq2 (yJ.refl _) g1.fh,q F1 H1 _ g1 fun i F2 H2 s1 s2=>?_⟩
    have q1:=sq1 s1 s2
    have q2:=sq2 s1 s2
    refine ⟨fun hl=>⟨us,q1,by rw [hl,WC _ _ hle,al.length]⟩,fun d hd=>?_⟩
    rw [zdi] at hd
    cases h1:xs[i]? with
    | none=>rw [h1] at hd;cases hd
    | some x =>
      cases h2:ys[i]? with
      | none=>rw [h1,h2] at hd;cases hd
      | some y =>
        rw [h1,h2] at hd
        cases hd
        obtain ⟨u,hu,au⟩:=al.get h1
        obtain ⟨u2,hu2,au2⟩:=bl.get h2
        refine ⟨⟨us,ws,u,u2,q1,q2,hu,hu2⟩,fun z H3 hz=>?_⟩
        obtain ⟨T,x',y',rfl,hT,rfl,hx',hy'⟩:=hz
        have e5:=hx' us q1
        have e6:=hy' ws q2
        rw [hu] at e5
        rw [hu2] at e6
        cases e5
        cases e6
        have g3:=Gr.alloc s2 hT (.tup [u,u2])
        exact ⟨_,g3,.tup zu (.cons (au.mono (s1.trans g3.ff)) (.cons (au2.mono (s1.trans g3.ff)) .nil))⟩
  · cases e2
def xM (g:List D→Option (List D))(f:Ev→Option (List D))(b:D→SE→Option SE)(h:SE→Ctl):SE→Ctl:=fun ρ=>match (f (visG ρ)).bind g with
  | some ds=>zf3 b h ds ρ
  | none=>.no
theorem Zi {p pos':Pos} {body:List Stmt} {f:Ev→Option (List D)} {b':D→SE→Option SE} {g:SE→Ctl} (hp:PassesOwn (model X.prog X.w) X.A X.env X.xe) (hc:X.calm=true) (hgl:Gl X "range") (hm:X.mg "range"=none) (ha:AD X [a] f) (hg:BD X tg b') (hb:SDs X body g)
    (hs0:starEach [a] X.env=[(false,eval a X.env)]:=by rfl) (hs:∀ x,foldedSetIterable (.Call (.Name "range" p) [a] [] pos) X.env x=pure x:=by intro _;rfl):SD X (.For tg (.Call (.Name "range" p) [a] [] pos) body [] pos') (xM Zz f b' g):=by
  obtain ⟨t,pa,r⟩:=ha
  obtain ⟨tg',pg,rg⟩:=hg
  obtain ⟨tb,pb,rb⟩:=hb
  refine ⟨_,zfE hp hc (zfZ hgl hm pa hs0) pg pb hs,fun Fb Hb F H ρ σ E rl k=>?_⟩
  unfold xM at k
  cases h:(f (visG ρ)).bind Zz with
  | none=>rw [h] at k;exact k.elim
  | some ds =>
    rw [h] at k
    obtain ⟨as,e1,e2⟩:=Option.bind_eq_some_iff.mp h
    refine r σ _ _ H as _ rl.gh rl.visG e1 fun F1 H1 vs g1 a1=>?_
    have rl2:=rl.grow (rl.back g1).1
    unfold Zz at e2
    split at e2
    · split at e2 <;> cases e2
      rename_i hc
      obtain ⟨x,r',rfl,ax,ar⟩:=a1.cons_inv
      cases ar.nil_inv
      exact ⟨_,by rw [ax.int_inv],(yF.mp hc).1,(yF.mp hc).2,zfI (zgd 0 _) rg rb rl2 k⟩
    · cases e2
theorem zhn {p pos':Pos} {body:List Stmt} {f:Ev→Option (List D)} {b':D→SE→Option SE} {g:SE→Ctl} (hp:PassesOwn (model X.prog X.w) X.A X.env X.xe) (hc:X.calm=true) (hgl:Gl X "range") (hm:X.mg "range"=none) (ha:AD X [a,b] f) (hg:BD X tg b') (hb:SDs X body g)
    (hs0:starEach [a,b] X.env=[(false,eval a X.env),(false,eval b X.env)]:=by rfl) (hs2:starEach [b] X.env=[(false,eval b X.env)]:=by rfl) (hs:∀ x,foldedSetIterable (.Call (.Name "range" p) [a,b] [] pos) X.env x=pure x:=by intro _;rfl):SD X (.For tg (.Call (.Name "range" p) [a,b] [] pos) body [] pos') (xM Zr f b' g):=by
  obtain ⟨t,pa,r⟩:=ha
  obtain ⟨tg',pg,rg⟩:=hg
  obtain ⟨tb,pb,rb⟩:=hb
  refine ⟨_,zfE hp hc (zbs hgl hm pa hs0 hs2) pg pb hs,fun Fb Hb F H ρ σ E rl k=>?_⟩
  unfold xM at k
  cases h:(f (visG ρ)).bind Zr with
  | none=>rw [h] at k;exact k.elim
  | some ds =>
    rw [h] at k
    obtain ⟨as,e1,e2⟩:=Option.bind_eq_some_iff.mp h
    refine r σ _ _ H as _ rl.gh rl.visG e1 fun F1 H1 vs g1 a1=>?_
    have rl2:=rl.grow (rl.back g1).1
    unfold Zr at e2
    split at e2
    · split at e2 <;> cases e2
      rename_i hc
      obtain ⟨x,r',rfl,ax,ar⟩:=a1.cons_inv
      obtain ⟨y,r',rfl,ay,ar⟩:=ar.cons_inv
      cases ar.nil_inv
      exact ⟨_,_,by rw [ax.int_inv,ay.int_inv],⟨(yF.mp hc.1).1,(yF.mp hc.1).2,(yF.mp hc.2).1,(yF.mp hc.2).2⟩,zfI (zgd _ _) rg rb rl2 k⟩
    · cases e2
end
def zgm (K:PySem.W.Frag):Sp:=fun vs H Q _=>∃ (a:Addr) (ns:List Int),vs=[.ref a]∧SqL K H a (ns.map V.int)∧ns.length≤63∧∀ H',Q (.bl true) H'
end Dl
namespace Dl
open PySem L2
theorem zkc {P:Program}{w:World}{K:PySem.W.Frag}{mg:Str→Option Value}{base:Heap}{f:Addr}{fd:FuncData}{ps:List Str}{k:Nat}{p:List D→Option D}(F:xE P w K mg base CX0 k f fd ps (@spD ⟨K⟩ 1 p))(h:∀ ns:List Int,ns.length≤63→p [.scr ns]=some (.bl true)) :
    xE P w K mg base CX0 k f fd ps (zgm K):=by
  letI:KK:=⟨K⟩
  refine F.imp fun vs H Q E hs=>?_
  obtain ⟨a,ns,rfl,hq,hl,q⟩:=hs
  refine ⟨[.scr ns],.bl true,H,rfl,yJ.refl _,.cons ?_ .nil,h ns hl,fun F' H' v _ av=>?_⟩
  · unfold At
    exact ⟨a,rfl,hq⟩
  · rw [av.bl_inv]
    exact q H'
structure Def (K:PySem.W.Frag) (mg:Str→Option Value) (x:Str) (st:Stmt) (ps:List Str) (f:Addr) (fd:FuncData):Prop where
  fn:Fun K x x st f fd
  bd:Vv K fd ps []
  at_:mg x=some (.ref f)
theorem Def.kp {K:PySem.W.Frag}{mg:Str→Option Value}{x:Str}{st:Stmt}{ps:List Str}{f:Addr}{fd:FuncData}(d:Def K mg x st ps f fd):PySem.W.keepIn K (.ref f)=true:=d.fn.kp
end Dl
namespace Dl
open PySem L2
inductive Ctl.w:Ctl→(SE→Prop)→(SE→Prop)→(SE→Prop)→(D→Prop)→Prop where
  | nx {ρ:SE} {n b k:SE→Prop} {r:D→Prop}:n ρ→Ctl.w (.nx ρ) n b k r
  | bk {ρ:SE} {n b k:SE→Prop} {r:D→Prop}:b ρ→Ctl.w (.bk ρ) n b k r
  | ct {ρ:SE} {n b k:SE→Prop} {r:D→Prop}:k ρ→Ctl.w (.ct ρ) n b k r
  | rt {d:D} {n b k:SE→Prop} {r:D→Prop}:r d→Ctl.w (.rt d) n b k r
section
variable {ρ:SE}{d:D}{n b k:SE→Prop}{r:D→Prop}
theorem Ctl.w.nxi (h:Ctl.w (.nx ρ) n b k r):n ρ:=by cases h;assumption
theorem Ctl.w.bki (h:Ctl.w (.bk ρ) n b k r):b ρ:=by cases h;assumption
theorem Ctl.w.cti (h:Ctl.w (.ct ρ) n b k r):k ρ:=by cases h;assumption
theorem Ctl.w.rti (h:Ctl.w (.rt d) n b k r):r d:=by cases h;assumption
theorem Ctl.w.noi (h:Ctl.w .no n b k r):False:=by cases h
end
abbrev noP:SE→Prop:=fun _=>False
section
variable {g h:SE→Ctl}{ρ ρ':SE}{n b k:SE→Prop}{r:D→Prop}
theorem yp (e:(g ρ).w (fun ρ'=>(h ρ').w n b k r) b k r):(zL g h ρ).w n b k r:=by
  unfold zL
  cases hg:g ρ with
  | nx ρ'=>rw [hg] at e;exact e.nxi
  | bk ρ'=>rw [hg] at e;exact .bk e.bki
  | ct ρ'=>rw [hg] at e;exact .ct e.cti
  | rt d=>rw [hg] at e;exact .rt e.rti
  | no=>rw [hg] at e;exact e.noi.elim
theorem zI (e:g ρ=.nx ρ')(q:(h ρ').w n b k r):(zL g h ρ).w n b k r:=yp (by rw [e];exact .nx q)
theorem vR (e:g ρ=.nx ρ')(q:n ρ'):(g ρ).w n b k r:=by rw [e];exact .nx q
theorem ZQ {d:D}(e:g ρ=.rt d)(q:r d):(g ρ).w n b k r:=by rw [e];exact .rt q
theorem Zn {t:Ev→Option Bool}{c:Bool}(e:t (visG ρ)=some c)(h1:c=true→(g ρ).w n b k r)(h2:c=false→(h ρ).w n b k r):(sIf t g h ρ).w n b k r:=by
  unfold sIf
  rw [e]
  cases c with
  | true=>exact h1 rfl
  | false=>exact h2 rfl
theorem zh4 {i:Nat}(e:zlz ρ i=ρ')(q:(g ρ').w n b k r):(sFz i g ρ).w n b k r:=by
  unfold sFz
  rw [e]
  exact q
theorem zfh {bd:D→SE→Option SE}(I:Nat→SE→Prop):∀ (ds:List D) (j:Nat) (ρ:SE),I j ρ →
    (∀ i d ρ,ds[i]?=some d→I (j+i) ρ→∃ ρ1,bd d ρ=some ρ1∧(g ρ1).w (I (j+i+1)) n (I (j+i+1)) r)→(∀ ρ,I (j+ds.length) ρ→n ρ)→(zf3 bd g ds ρ).w n b k r
  | [],j,ρ,h0,_,fin=>.nx (fin ρ h0)
  | d::ds,j,ρ,h0,step,fin=>by
    obtain ⟨ρ1,e1,e2⟩:=step 0 d ρ rfl h0
    unfold zf3
    rw [e1]
    dsimp only
    have next:∀ ρ',I (j+1) ρ'→(zf3 bd g ds ρ').w n b k r:=fun ρ' h'=>zfh I ds (j+1) ρ' h'
      (fun i d' ρ hd hI=>by
        have:=step (i+1) d' ρ (by simpa using hd) (by rw [show j+(i+1)=j+1+i by omega];exact hI)
        rwa [show j+(i+1)+1=j+1+i+1 by omega] at this)
      (fun ρ hI=>fin ρ (by rw [List.length_cons,show j+(ds.length+1)=j+1+ds.length by omega];exact hI))
    cases hg:g ρ1 with
    | nx ρ'=>rw [hg] at e2;exact next ρ' e2.nxi
    | ct ρ'=>rw [hg] at e2;exact next ρ' e2.cti
    | bk ρ'=>rw [hg] at e2;exact .nx e2.bki
    | rt d'=>rw [hg] at e2;exact .rt e2.rti
    | no=>rw [hg] at e2;exact e2.noi.elim
theorem Vo {f:Ev→Option (List D)}{bd:D→SE→Option SE}{ds:List D}(I:Nat→SE→Prop)(e:f (visF ρ)=some ds)(h0:I 0 ρ)
    (step:∀ i d ρ,ds[i]?=some d→I i ρ→∃ ρ1,bd d ρ=some ρ1∧(g ρ1).w (I (i+1)) n (I (i+1)) r) (fin:∀ ρ,I ds.length ρ→n ρ):(Zv f bd g ρ).w n b k r:=by
  unfold Zv
  rw [e]
  exact zfh I ds 0 ρ h0 (fun i d ρ hd hI=>by rw [Nat.zero_add] at hI ⊢;exact step i d ρ hd hI) (fun ρ hI=>fin ρ (by rw [Nat.zero_add] at hI;exact hI))
theorem Ww {f:Ev→Option (List D)}{bd:D→SE→Option SE}{rg:List D→Option (List D)}{lo:Int}{c:Nat}(I:Nat→SE→Prop)(e:(f (visG ρ)).bind rg=some (XY lo c))(h0:I 0 ρ)
    (step:∀ (i:Nat) ρ,i < c→I i ρ→∃ ρ1,bd (.int (lo+i)) ρ=some ρ1∧(g ρ1).w (I (i+1)) n (I (i+1)) r) (fin:∀ ρ,I c ρ→n ρ):(xM rg f bd g ρ).w n b k r:=by
  unfold xM
  rw [e]
  refine zfh I (XY lo c) 0 ρ h0 (fun i d ρ hd hI=>?_) (fun ρ hI=>fin ρ ?_)
  · rw [Nat.zero_add] at hI ⊢
    unfold XY at hd
    rw [List.getElem?_map] at hd
    by_cases hi:i < c
    · rw [List.getElem?_range hi] at hd
      cases hd
      exact step i ρ hi hI
    · rw [List.getElem?_eq_none (by simpa using hi)] at hd
      cases hd
  · rw [Nat.zero_add] at hI
    rwa [show (XY lo c).length=c by unfold XY;simp] at hI
theorem zaS {t:Ev→Option Bool}(I:SE→Prop)(μ:SE→Nat)(step:∀ ρ,I ρ→∃ c,t (visG ρ)=some c∧(c=true→(g ρ).w (fun ρ'=>I ρ'∧μ ρ' < μ ρ) n (fun ρ'=>I ρ'∧μ ρ' < μ ρ) r)∧(c=false→n ρ)):∀ (fu:Nat) (ρ:SE),I ρ→μ ρ < fu→(YG t g fu ρ).w n b k r
  | 0,ρ,_,hf=>by omega
  | fu+1,ρ,hI,hf=>by
    obtain ⟨c,e,q1,q2⟩:=step ρ hI
    unfold YG
    rw [e]
    cases c with
    | false=>exact .nx (q2 rfl)
    | true =>
      have q:=q1 rfl
      dsimp only
      cases hg:g ρ with
      | nx ρ'=>rw [hg] at q;exact zaS I μ step fu ρ' q.nxi.1 (by have:=q.nxi.2;omega)
      | ct ρ'=>rw [hg] at q;exact zaS I μ step fu ρ' q.cti.1 (by have:=q.cti.2;omega)
      | bk ρ'=>rw [hg] at q;exact .nx q.bki
      | rt d'=>rw [hg] at q;exact .rt q.rti
      | no=>rw [hg] at q;exact q.noi.elim
end
theorem Vx {m:Nat}{g:SE→Ctl}{ds:List D}{d:D}{ρ:SE}(e:ds.map .v++List.replicate (m - ds.length) .no=ρ)(q:(g ρ).w (fun _=>d=.non) noP noP (fun d'=>d'=d)):fnD m g ds=some d:=by
  unfold fnD
  rw [e]
  cases hg:g ρ with
  | nx ρ'=>rw [hg] at q;rw [show d=.non from q.nxi]
  | rt d'=>rw [hg] at q;rw [show d'=d from q.rti]
  | bk _=>rw [hg] at q;exact q.bki.elim
  | ct _=>rw [hg] at q;exact q.cti.elim
  | no=>rw [hg] at q;exact q.noi.elim
theorem zcZ {m:Bool}{i:Nat}{f:Ev→Option D}{ρ:SE}{ds:List D}{d:D}(h1:vEv m f ρ=some d)(h2:ρ[i]?=some (.o ds))(h3:ds.length≤1000):ZS m i f ρ=.nx (ρ.set i (.o (ds++[d]))):=by
  unfold ZS
  rw [h1,h2]
  show (match (if decide (ds.length < sizeLine)=true then some (ρ.set i (.o (ds++[d]))) else none) with | some ρ'=>Ctl.nx ρ' | none=>Ctl.no)=_
  rw [if_pos (decide_eq_true (Y4 h3))]
theorem WB {b:D→Option (List (Option D))}{t:Ev→Option Bool}{f:Ev→Option D}{ρ:Ev}{α:Type}(c:α→D)(y:α→D):∀ (xs:List α),(∀ x∈xs,∃ own,b (c x)=some own∧t (own++ρ)=some true∧f (own++ρ)=some (y x))→lcD b t f ρ (xs.map c)=some (xs.map y)
  | [],_=>rfl
  | x::xs,h=>by
    obtain ⟨own,h1,h2,h3⟩:=h x List.mem_cons_self
    show lcD b t f ρ (c x::xs.map c)=_
    unfold lcD
    rw [h1]
    simp only [Option.bind_some,h2,if_true,h3,WB c y xs fun z hz=>h z (List.mem_cons_of_mem _ hz)]
    rfl
theorem Xo {b:D→Option (List (Option D))}{t:Ev→Option Bool}{f:Ev→Option D}{ρ:Ev}{α:Type}(c:α→D)(p:α→Bool)(y:α→D):∀ (xs:List α),(∀ x∈xs,∃ own,b (c x)=some own∧t (own++ρ)=some (p x)∧(p x=true→f (own++ρ)=some (y x)))→lcD b t f ρ (xs.map c)=some ((xs.filter p).map y)
  | [],_=>rfl
  | x::xs,h=>by
    obtain ⟨own,h1,h2,h3⟩:=h x List.mem_cons_self
    have ih:=Xo c p y xs fun z hz=>h z (List.mem_cons_of_mem _ hz)
    show lcD b t f ρ (c x::xs.map c)=_
    unfold lcD
    rw [h1]
    simp only [Option.bind_some,h2]
    cases hp:p x with
    | false =>
      rw [if_neg Bool.false_ne_true,ih,List.filter_cons,if_neg (by rw [hp];exact Bool.false_ne_true)]
    | true =>
      rw [if_pos rfl,h3 hp,ih,List.filter_cons,if_pos hp]
      rfl
mutual
def noS:D→Bool
  | .tup ds=>zgw ds
  | .lst ds=>zgw ds
  | .scr _=>false
  | _=>true
def zgw:List D→Bool
  | []=>true
  | d::ds=>noS d&&zgw ds
end
theorem Yq:∀ {ds:List D} {i:Nat} {d:D},zgw ds=true→ds[i]?=some d→noS d=true
  | [],_,_,_,h=>by simp at h
  | d::ds,i,e,h,he=>by
    unfold zgw at h
    rw [Bool.and_eq_true] at h
    cases i with
    | zero=>simp at he;subst he;exact h.1
    | succ i=>exact Yq h.2 (by simpa using he)
theorem vS {n:Nat}(h:n≤1000):lim n=true:=by
  unfold lim
  exact decide_eq_true (Nat.le_of_lt (Y4 h))
theorem zcg (lo:Int)(n:Nat):(XY lo n).length=n:=by unfold XY;simp
end Dl
namespace Dl
open PySem L2
abbrev Pr:=Int × Int
def prD (t:Pr):D:=.tup [.int t.1,.int t.2]
def zlv:D→Option Pr
  | .tup [.int a,.int b]=>some (a,b)
  | _=>none
def zcA:List D→Option (List Pr)
  | []=>some []
  | d::ds=>(zlv d).bind fun t=>(zcA ds).map (t::·)
theorem zjp {d:D}{t:Pr}(h:zlv d=some t):d=prD t:=by
  unfold zlv at h
  split at h
  · cases h;rfl
  · cases h
theorem zdj:∀ {ds:List D} {ts:List Pr},zcA ds=some ts→ds=ts.map prD
  | [],ts,h=>by cases h;rfl
  | d::ds,ts,h=>by
    unfold zcA at h
    obtain ⟨t,h1,h2⟩:=Option.bind_eq_some_iff.mp h
    obtain ⟨us,h3,rfl⟩:=Option.map_eq_some_iff.mp h2
    rw [zjp h1,zdj h3]
    rfl
theorem zei (ts:List Pr):zcA (ts.map prD)=some ts:=by
  induction ts with
  | nil=>rfl
  | cons t ts ih =>
    show (zlv (prD t)).bind (fun u=>(zcA (ts.map prD)).map (u::·))=_
    rw [ih]
    rfl
def zjE (a b:Pr):Bool:=!OwnSort.bltP b a
def Vc (ts:List Pr):List Pr:=ts.mergeSort zjE
def leI (a b:Int):Bool:=decide (a≤b)
def zgB (ns:List Int):List Int:=ns.mergeSort leI
theorem VH {a b:Pr}:OwnSort.bltP b a=false↔zjE a b=true:=by unfold zjE;simp
theorem vP {a b:Pr}:zjE a b=true↔a.1 < b.1∨(a.1=b.1∧a.2≤b.2):=by
  rw [←VH]
  unfold OwnSort.bltP
  rw [decide_eq_false_iff_not]
  omega
theorem zdJ {ts us:List Pr}(p:us.Perm ts)(h:us.Pairwise fun a b=>OwnSort.bltP b a=false):us=Vc ts:=by
  refine List.Perm.eq_of_pairwise (le:=fun a b=>zjE a b=true) (fun a b _ _ h1 h2=>?_) (h.imp fun x=>VH.mp x) ?_ (p.trans (List.mergeSort_perm _ _).symm)
  · rw [vP] at h1 h2
    exact Prod.ext (by omega) (by omega)
  · exact List.pairwise_mergeSort (fun a b c h1 h2=>by rw [vP] at *;omega) (fun a b=>by rw [Bool.or_eq_true,vP,vP];omega) _
theorem zdK {ts us:List Int}(p:us.Perm ts)(h:us.Pairwise (·≤·)):us=zgB ts:=by
  refine List.Perm.eq_of_pairwise (le:=fun a b=>leI a b=true) (fun a b _ _ h1 h2=>?_) (h.imp fun x=>decide_eq_true x) ?_ (p.trans (List.mergeSort_perm _ _).symm)
  · unfold leI at h1 h2
    rw [decide_eq_true_eq] at h1 h2
    omega
  · exact List.pairwise_mergeSort (fun a b c h1 h2=>by unfold leI at *;rw [decide_eq_true_eq] at *;omega) (fun a b=>by unfold leI;rw [Bool.or_eq_true,decide_eq_true_eq,decide_eq_true_eq];omega) _
def WY:List D→Option (List D)
  | [.lst ds]=>if ds.length < 64 then match zcA ds with
      | some ts=>some ((Vc ts).map prD)
      | none=>match zd7 ds with
        | some ns=>some ((zgB ns).map .int)
        | none=>none
    else none
  | _=>none
variable [KK]
section
variable {X:Cx}{e:Expr}{pos:Pos}
theorem At.pr_inv {F:Hp}{t:Pr}{v:V}(h:At F (prD t) v):∃ a,v=.ref a∧F a=some (.tup [.int t.1,.int t.2]):=by
  obtain ⟨a,xs,rfl,hx,al⟩:=h.tup_inv
  obtain ⟨x,r,rfl,a1,al⟩:=al.cons_inv
  obtain ⟨y,r,rfl,a2,al⟩:=al.cons_inv
  cases al.nil_inv
  cases a1.int_inv
  cases a2.int_inv
  exact ⟨a,rfl,hx⟩
theorem zbg (hc:X.calm=true):YL X (.builtin "sorted") (fun xs H Q=>∃ F p ys ds out,xs=[.ref p]∧yJ F H∧H p=some (.lst ys)∧AtL F ds ys∧WY [.lst ds]=some out∧∀ l zs,H l=none→AtL F out zs→Q (.ref l) (upd H l (.lst zs))):=by
  intro pins s σ H xs us Q I r h
  obtain ⟨F,p,ys,ds,out,rfl,sm,hp,al,hs,q⟩:=h
  obtain ⟨u,rfl,ru⟩:=Vu r
  cases ru
  obtain ⟨its,rv,pl,hz⟩:=I.list (SqL.of hp)
  have hlen:its.length=ds.length:=by rw [←rv.length,al.length]
  unfold WY at hs
  dsimp only at hs
  split at hs <;> try cases hs
  rename_i h64
  have fin:∀ (zs:List V) (ws:List Value),zs.length < 64→yr zs ws→AtL F out zs→EP X pins σ Q (.ref (s.heap.objs.size+1)) { s with heap:=PyProof.Rows.sortedAll s.heap its ws.toArray }:=fun zs ws hl rz az=>by
    have hn:H (s.heap.objs.size+1)=none:=I.hok.fresh (Nat.le_succ _)
    obtain ⟨ep,he⟩:=PyProof.Rows.sortedAll_at s.heap its ws.toArray
    refine ⟨.ref (s.heap.objs.size+1),upd H (s.heap.objs.size+1) (.lst zs),I.laid (t':=s.toks) (fun b o z=>PyProof.Rows.sortedAll_old z) (Nat.le_succ _) ?_,rfl,q _ zs hn az⟩
    exact ⟨Nat.le_of_lt (Y4 (by omega)),ws,ep,rz,he⟩
  split at hs
  · rename_i ts hts
    cases hs
    have eds:=zdj hts
    subst eds
    have look:∀ {v:Value},v∈its→∃ a t,v=.ref a∧t∈ts∧F a=some (.tup [.int t.1,.int t.2])∧OwnSort.TP s.heap v t:=fun {v} hv=>by
      obtain ⟨j,hj,rfl⟩:=List.getElem_of_mem hv
      have hj2:j < ts.length:=by rw [List.length_map] at hlen;omega
      obtain ⟨x,hx,ax⟩:=al.get (i:=j) (d:=prD ts[j]) (by rw [List.getElem?_map];simp [hj2])
      obtain ⟨a,rfl,ha⟩:=ax.pr_inv
      obtain ⟨v,hv,rvv⟩:=rv.get hx
      have e1:its[j]?=some its[j]:=by simp [hj]
      rw [hv] at e1
      cases e1
      have e2:its[j]=.ref a:=rvv
      refine ⟨a,ts[j],e2,List.getElem_mem hj2,ha,?_⟩
      obtain ⟨us,ru,⟨o,ho,hcl,n,hd⟩,_⟩:=I.tuple (SqT.of (sm _ _ ha))
      obtain ⟨u1,u2,rfl,r1,r2⟩:=zbZ ru
      obtain ⟨t1,rfl⟩:=r1
      obtain ⟨t2,rfl⟩:=r2
      exact ⟨a,o,n,t1,t2,e2,ho,hcl,hd⟩
    refine OwnSort.own_sorted pl.isList (fun v hv=>let ⟨a,t,_,_,_,ht⟩:=look hv;⟨t,ht⟩) (by omega) fun o2 pm ri=>?_
    obtain ⟨us,l1,l2,l3⟩:=ri
    have hlo:o2.toList.length=ts.length:=by rw [pm.length_eq,hlen,List.length_map]
    -- the values' addresses
    have zsOf:∀ (ws:List Value) (vs:List Pr),ws.length=vs.length→(∀ w∈ws,w∈its)→(∀ (i:Nat) v t,ws[i]?=some v→vs[i]?=some t→OwnSort.TP s.heap v t)→∃ zs:List V,yr zs ws∧AtL F (vs.map prD) zs:=by
      intro ws
      induction ws with
      | nil =>
        intro vs hl _ _
        cases vs with
        | nil=>exact ⟨[],.nil,.nil⟩
        | cons _ _=>simp at hl
      | cons w ws ih =>
        intro vs hl hm ht
        cases vs with
        | nil=>simp at hl
        | cons t vs =>
          obtain ⟨zs,z1,z2⟩:=ih vs (by simpa using hl) (fun w' hw'=>hm w' (List.mem_cons_of_mem _ hw')) (fun i v t h1 h2=>ht (i+1) v t (by simpa using h1) (by simpa using h2))
          obtain ⟨a,t',rfl,_,ha,htp⟩:=look (hm w List.mem_cons_self)
          have et:t'=t:=htp.uniq (ht 0 _ t rfl rfl)
          subst et
          exact ⟨.ref a::zs,.cons rfl z1,.cons (.tup ha (.cons .int (.cons .int .nil))) z2⟩
    obtain ⟨zs,z1,z2⟩:=zsOf o2.toList us l1 (fun w hw=>pm.mem_iff.mp hw) l2
    have keysPerm:us.Perm ts:=by
      -- by the keys of the values
      have kv:∀ (ws:List Value) (vs:List Pr),ws.length=vs.length→(∀ (i:Nat) v t,ws[i]?=some v→vs[i]?=some t→OwnSort.TP s.heap v t)→vs=ws.map fun v=>(OwnSort.keyP s.heap v).getD (0,0):=by
        intro ws
        induction ws with
        | nil=>intro vs hl _;cases vs with
          | nil=>rfl
          | cons _ _=>simp at hl
        | cons w ws ih =>
          intro vs hl ht
          cases vs with
          | nil=>simp at hl
          | cons t vs =>
            rw [List.map_cons,OwnSort.keyP_of (ht 0 w t rfl rfl),← ih vs (by simpa using hl) fun i v t h1 h2=>ht (i+1) v t (by simpa using h1) (by simpa using h2)]
            rfl
      rw [kv _ _ l1 l2,kv its ts (by rw [hlen,List.length_map]) fun i v t h1 h2=>?_]
      · exact pm.map _
      · obtain ⟨x,hx,ax⟩:=al.get (i:=i) (d:=prD t) (by rw [List.getElem?_map,h2];rfl)
        obtain ⟨a,rfl,ha⟩:=ax.pr_inv
        obtain ⟨v',hv',rvv⟩:=rv.get hx
        rw [h1] at hv'
        cases hv'
        obtain ⟨us',ru',⟨o,ho,hcl,n,hd⟩,_⟩:=I.tuple (SqT.of (sm _ _ ha))
        obtain ⟨u1,u2,rfl,r1,r2⟩:=zbZ ru'
        obtain ⟨t1,rfl⟩:=r1
        obtain ⟨t2,rfl⟩:=r2
        exact ⟨a,o,n,t1,t2,rvv,ho,hcl,hd⟩
    have e3:=zdJ keysPerm l3
    rw [e3] at z2
    have:=fin zs o2.toList (by rw [z1.length];rw [List.length_map] at h64;omega) z1 z2
    simpa using this
  · split at hs <;> try cases hs
    rename_i ns hns
    have eds:=Vg hns
    subst eds
    have hI:PyProof.Rows.IntsAre its ns:=Xv (by rw [←al.of_ints];exact rv)
    refine PyProof.Rows.sorted_ints pl.isList hI (by omega) fun o2 ns' h1 h2 h3=>?_
    have e3:=zdK h2 h3
    subst e3
    have z1:yr ((zgB ns).map V.int) o2.toList:=WW h1
    have:=fin ((zgB ns).map V.int) o2.toList (by rw [List.length_map,h2.length_eq];rw [List.length_map] at h64;omega) z1 (.ints _)
    simpa using this
theorem zbB {p:Pos} {f:Ev→Option (List D)} (hc:X.calm=true) (hgl:Gl X "sorted") (hm:X.mg "sorted"=none) (ha:AD X [e] f)
    (he:starEach [e] X.env=(false,eval e X.env)::starEach [] X.env:=by rfl) (hpl:(backTo pos (starEach [] X.env)).any (·.1)=false:=by rfl):FL X (.Call (.Name "sorted" p) [e] [] pos) (fFn WY f):=by
  obtain ⟨t,pa,ra⟩:=ha
  refine ⟨_,yl (zbg hc) hgl hm zbD pa (by decide) (by decide) he hpl,fun σ ρ F H z Q s va e q=>?_⟩
  obtain ⟨ds,e1,e2⟩:=Option.bind_eq_some_iff.mp e
  refine ra σ ρ F H ds _ s va e1 fun F1 H1 vs g1 a1=>?_
  have e2':=e2
  unfold WY at e2'
  split at e2'
  · obtain ⟨x,r,rfl,ax,ar⟩:=a1.cons_inv
    cases ar.nil_inv
    obtain ⟨p,ys,rfl,hx,bl⟩:=ax.lst_inv
    exact ⟨F1,p,ys,_,z,rfl,g1.fh,g1.fh _ _ hx,bl,e2,fun l zs hl az=>q _ _ _ _ (g1.trans (Gr.hide g1.fh hl _)) (zd0 g1 hl) (g1.fh.free hl) zu az⟩
  · cases e2'
end
end Dl
namespace Dl
open PySem L2
variable [KK]
end Dl
namespace L2
open PySem PySem.Spec PyProof.Rows
section
variable {X:Cx}
def zeZ:V→List V→Hp→VK→Prop:=fun x vs H Q=>∃ l xs i y,x=.ref l∧vs=[.int i,y]∧H l=some (.lst xs)∧xs.length < sizeLine∧0≤i∧i < 2 ^ 63∧Q .non (upd H l (.lst (xs.take i.toNat++y::xs.drop i.toNat)))
theorem zix (its:List Value)(u:Value)(x:Int)(h0:0≤x) :
    (fun xs:Array Value=>have k:=if x < 0 then (x+((xs.size:Nat):Int)).toNat else min x.toNat xs.size;(xs.extract 0 k).push u++xs.extract k) its.toArray=(its.take x.toNat++u::its.drop x.toNat).toArray:=by
  have hn:¬ x < 0:=by omega
  apply Array.ext'
  simp only [if_neg hn]
  by_cases c:x.toNat≤its.length
  · simp [Nat.min_eq_left c]
    exact List.take_of_length_le (by rw [List.length_drop];exact Nat.le_refl _)
  · have e:min x.toNat its.length=its.length:=by omega
    have e1:its.take x.toNat=its:=List.take_of_length_le (by omega)
    have e2:its.drop x.toNat=[]:=List.drop_eq_nil_of_le (by omega)
    simp [e,e1,e2]
theorem ze9:MtM X "list.insert" zeZ:=by
  intro pins s σ H x vs v us Q I rx rv h
  obtain ⟨l,xs,i,y,rfl,rfl,hH,hz,h0,h1,q⟩:=h
  cases rx
  obtain ⟨u,w,rfl,ru,rw'⟩:=rv.two
  obtain ⟨t,rfl⟩:=ru
  obtain ⟨z,its,n,r,hl,e⟩:=I.lstM hH
  have hfit:¬(!Builtin.List.listFitsIndex i)=true:=by
    have:Builtin.List.listFitsIndex i=true:=fitsIndex_both (by omega) h1
    rw [this]
    exact Bool.false_ne_true
  refine call_meets F.slot_list_insert ⟨_,e,rfl⟩ F.entry_list_insert (F.args_list_insert_3 _ _ _) (AutoListH.list_insert_list_int_val_1 l its.toArray n i t w hfit (by rw [List.size_toArray];omega)) ⟨e,?_⟩
  refine ⟨.non,_,I.lset (its':=its.take i.toNat++w::its.drop i.toNat) hH e (zix its w i h0) ((r.take _).append (.cons rw' (r.drop _))) ?_,rfl,q⟩
  rw [List.length_append,List.length_cons,List.length_take,List.length_drop]
  omega
end
end L2
namespace Dl
open PySem L2
section
variable [KK]{X:Cx}{a e k:Expr}{pos:Pos}
def zlD (ds:List D)(i:Int)(d:D):List D:=ds.take i.toNat++d::ds.drop i.toNat
def zk8 (m:Bool)(i:Nat)(fk f:Ev→Option D):SE→Ctl:=fun ρ=>match (vEv m fk ρ).bind fun kd=>(vEv m f ρ).bind fun d=>match ρ[i]?,kd with
    | some (.o ds),.int j=>if (decide (ds.length < sizeLine)&&decide (0≤j∧j < 2 ^ 63))=true then some (ρ.set i (.o (zlD ds j d))) else none
    | _,_=>none with
  | some ρ'=>.nx ρ'
  | none=>.no
theorem zkL {m:Bool}{i:Nat}{p pos':Pos}{fk f:Ev→Option D}(ho:PE X a (zb0 i))(hk:ED X k fk)(he:ED X e f)
    (hp:∀ {ta:TE} {t:TA},PE X a ta→PA X [k,e] t→PE X (.Call (.Attribute a "insert" p) [k,e] [] pos') (tBM X.K "list" zeZ ta t)) (hsw:swapsWith (.Call (.Attribute a "insert" p) [k,e] [] pos') none pos.line X.env=pure false:=by rfl)
    (hs:starEach [k,e] X.env=(false,eval k X.env)::starEach [e] X.env:=by rfl) (hs2:starEach [e] X.env=(false,eval e X.env)::starEach [] X.env:=by rfl):SD X (.Expr (.Call (.Attribute a "insert" p) [k,e] [] pos') pos) (zk8 m i fk f):=by
  obtain ⟨tk,pk,rk⟩:=hk
  obtain ⟨t,pe,re⟩:=he
  refine ⟨_,WS (hp ho (zq pk (zq pe yB hs2) hs)) hsw,fun Fb Hb F H ρ σ E rl kk=>?_⟩
  unfold zk8 at kk
  cases h:(vEv m fk ρ).bind fun kd=>(vEv m f ρ).bind fun d=>match ρ[i]?,kd with
    | some (.o ds),.int j=>if (decide (ds.length < sizeLine)&&decide (0≤j∧j < 2 ^ 63))=true then some (ρ.set i (.o (zlD ds j d))) else none
    | _,_=>none with
  | none=>rw [h] at kk;exact kk.elim
  | some ρ' =>
    rw [h] at kk
    obtain ⟨kd,e0,e2⟩:=Option.bind_eq_some_iff.mp h
    obtain ⟨d,e1,e2⟩:=Option.bind_eq_some_iff.mp e2
    cases hs:ρ[i]? with
    | none=>rw [hs] at e2;cases e2
    | some sl =>
      rw [hs] at e2
      cases sl with
      | no=>cases e2
      | v _=>cases e2
      | m _ _ _=>cases e2
      | o ds =>
        cases kd with
        | int j =>
          dsimp only at e2
          split at e2 <;> cases e2
          rename_i hl
          rw [Bool.and_eq_true] at hl
          have hj:=of_decide_eq_true hl.2
          obtain ⟨q,xs,f1,f2,f3,f4,f5⟩:=rl.owns i ds hs
          refine ⟨_,f1,.inl ⟨rfl,xs,SqL.of f4⟩,?_⟩
          refine rk.at rl e0 fun F0 H0 vk g0 ak=>?_
          have rl1:=rl.grow g0
          refine re.at rl1 e1 fun F' H' v g av=>?_
          have rl2:=rl1.grow g
          obtain ⟨q2,xs2,f1',_,_,f4',f5'⟩:=rl2.owns i ds hs
          rw [f1] at f1'
          cases f1'
          cases ak.int_inv
          refine ⟨q,xs2,j,v,rfl,rfl,f4',by rw [f5'.length];exact of_decide_eq_true hl.1,hj.1,hj.2,?_⟩
          exact kk _ _ σ (rl2.mutate hs f1 ((f5'.take _).append (.cons av (f5'.drop _))))
        | _=>cases e2
end
end Dl
namespace Dl
open PySem L2
theorem zls {m:Bool}{i:Nat}{fk f:Ev→Option D}{ρ:SE}{ds:List D}{d:D}{k:Int}(h0:vEv m fk ρ=some (.int k))(h1:vEv m f ρ=some d)(h2:ρ[i]?=some (.o ds))(h3:ds.length≤1000)(h4:0≤k)(h5:k≤1000):zk8 m i fk f ρ=.nx (ρ.set i (.o (zlD ds k d))):=by
  unfold zk8
  rw [h0,h1,h2]
  show (match (if (decide (ds.length < sizeLine)&&decide (0≤k∧k < 2 ^ 63))=true then some (ρ.set i (.o (zlD ds k d))) else none) with | some ρ'=>Ctl.nx ρ' | none=>Ctl.no)=_
  have hs:ds.length < sizeLine:=Y4 h3
  rw [if_pos (by rw [decide_eq_true hs,decide_eq_true ⟨h4,by omega⟩];rfl)]
end Dl
namespace L2
open PySem PySem.Spec PyProof.Rows
section
variable {X:Cx}{tg:Expr}
end
end L2
namespace Dl
open PySem L2
section
variable [KK]{X:Cx}{a b c e:Expr}{tg:Expr}{pos:Pos}
end
end Dl
namespace Dl
open PySem L2
variable [KK]
def zlF (m:Nat)(p:List D→Option (List D)):Sp:=fun vs H Q _=>∃ ds es F,ds.length=m∧yJ F H∧AtL F ds vs∧p ds=some es∧∀ F' H' q xs,Gr F H F' H'→H q=none→F' q=none→H' q=some (.lst xs)→AtL F' es xs→Q (.ref q) H'
def SDO (X:Cx)(sts:List Stmt)(g:SE→Ctl)(i:Nat):Prop:=∃ t,PSs X sts t∧∀ (Fb Hb F H:Hp) (ρ:SE) (σ:St) (E:zbe),Rl Fb Hb F H ρ σ→∀ (ρ':SE) (es:List D),g ρ=.nx ρ'→ρ'[i]?=some (.o es) →
  (∀ F' H' q xs,Gr Fb Hb F' H'→Hb q=none→F' q=none→H' q=some (.lst xs)→AtL F' es xs→E.rt (.ref q) H')→t E σ H
section
variable {X:Cx}{st:Stmt}{sts:List Stmt}{a e:Expr}{pos:Pos}
theorem ziu {i:Nat}(h:PE X e (zb0 i)):SDO X [.Return (some e) pos] zP i:=by
  refine ⟨_,Xy (zaZ h),fun Fb Hb F H ρ σ E rl ρ' es hg hi k=>?_⟩
  cases hg
  obtain ⟨p,xs,f1,f2,f3,f4,f5⟩:=rl.owns i es hi
  exact ⟨_,f1,k F H p xs rl.gr f2 f3 f4 f5⟩
theorem Yw {g h:SE→Ctl}{i:Nat}(h1:SD X st g)(h2:SDO X sts h i):SDO X (st::sts) (zL g h) i:=by
  obtain ⟨t,p,r⟩:=h1
  obtain ⟨u,p2,r2⟩:=h2
  refine ⟨_,vn p p2,fun Fb Hb F H ρ σ E rl ρ' es hg hi k=>?_⟩
  refine r Fb Hb F H ρ σ { E with nx:=u E } rl ?_
  unfold zL at hg
  cases e:g ρ with
  | nx ρ1 =>
    rw [e] at hg
    exact fun F' H' σ' rl'=>r2 Fb Hb F' H' ρ1 σ' E rl' ρ' es hg hi k
  | rt d=>rw [e] at hg;cases hg
  | bk d=>rw [e] at hg;cases hg
  | ct d=>rw [e] at hg;cases hg
  | no=>rw [e] at hg;cases hg
end
def zkh (n:Nat)(g:SE→Ctl)(i:Nat)(ds:List D):Option (List D):=match g (ds.map .v++List.replicate (n - ds.length) .no) with
  | .nx ρ=>match ρ[i]? with
    | some (.o es)=>some es
    | _=>none
  | _=>none
theorem zkD {P:Program}{w:World}{K:PySem.W.Frag}{mg:Str→Option Value}{base:Heap}{x qual:Str}{st:Stmt}{f:Addr}{fd:FuncData}{N ps:List Str}{k:Nat}{g:SE→Ctl}{i:Nat}(Fu:Fun K x qual st f fd)(S:zx N ps (zg st))
    (hb:∀ (cdv:Value) (A:Around) (outer:List Env) (s:Shared) (H:Hp) (E:XK),YO k (A.deeper (PyProof.Rows.envOfC qual (zg st) s.heap.objs.size f cdv))→SDO (VF CX0 P w K mg base N qual (zg st) f cdv A outer s H E).nox (zv st) g i) :
    xE P w K mg base CX0 (k+1) f fd ps (zlF ps.length (zkh N.length g i)):=by
  refine Fu.ok S (fun vs H Q E h=>?_) fun cdv A outer s H vs Q E hr h=>?_
  · obtain ⟨ds,d,F,hl,_,a,_⟩:=h
    rw [a.length];exact hl
  · obtain ⟨ds,es,F,hl,sm,a,e,q⟩:=h
    obtain ⟨t,p,r⟩:=hb cdv A outer s H E hr
    unfold zkh at e
    cases hg:g (ds.map .v++List.replicate (N.length - ds.length) .no) with
    | nx ρ =>
      rw [hg] at e
      dsimp only at e
      cases hi:ρ[i]? with
      | none=>rw [hi] at e;cases e
      | some sl =>
        rw [hi] at e
        cases sl with
        | no=>cases e
        | v _=>cases e
        | m _ _ _=>cases e
        | o es' =>
          cases e
          exact ⟨t,p,r F H F H _ _ _ (zah sm a) ρ es hg hi fun F' H' q' xs g h0 hF hH hx=>q F' H' q' xs g h0 hF hH hx⟩
    | rt d'=>rw [hg] at e;cases e
    | bk ρ=>rw [hg] at e;cases e
    | ct ρ=>rw [hg] at e;cases e
    | no=>rw [hg] at e;cases e
theorem zkS {P:Program}{w:World}{K:PySem.W.Frag}{mg:Str→Option Value}{base:Heap}{f:Addr}{fd:FuncData}{ps:List Str}{k m:Nat}{p:List D→Option (List D)}(F:xE P w K mg base CX0 k f fd ps (zlF m p)):xE P w K mg base CX0 k f fd ps (spD m fun ds=>(p ds).map .lst) :=
  F.imp fun vs H Q E ⟨ds,d,F',h1,h2,h3,h4,h5⟩=>by
    obtain ⟨es,e1,rfl⟩:=Option.map_eq_some_iff.mp h4
    exact ⟨ds,es,F',h1,h2,h3,e1,fun F2 H2 q xs g h0 hF hH hx=>h5 _ _ _ (g.show h0 hF hH) (At.lst zu (hx.mono (fun b u e=>by rw [zr (zn e hF)];exact e)))⟩
def zcM (m:Nat)(p:List D→Option (List D))(f:Ev→Option (List D)):Ev→Option (List D):=fun ρ=>(f ρ).bind fun ds=>if ds.length=m then p ds else none
theorem zjw {X:Cx}{x:Str}{k m:Nat}{f:Addr}{fd:FuncData}{ps:List Str}{p:List D→Option (List D)}{e:Expr}{es:List Expr}{pp pos:Pos}{fa:Ev→Option (List D)}(F:xE X.prog X.w X.K X.mg X.base CX0 k f fd ps (zlF m p))(hr:YO k X.A)(hg:Gl X x)(hm:X.mg x=some (.ref f))(hk:PySem.W.keepIn X.K (.ref f)=true)(hb:Vv X.K fd ps [])
    (ha:AD X (e::es) fa) (hdb:(x == ("__debug__":Str))=false:=by decide) (he:starEach (e::es) X.env=(false,eval e X.env)::starEach es X.env:=by rfl) (hpl:(backTo pos (starEach es X.env)).any (·.1)=false:=by rfl) :
    FL X (.Call (.Name x pp) (e::es) [] pos) (zcM m p fa):=by
  obtain ⟨t,pa,r⟩:=ha
  refine ⟨_,zcn F hr hg hm hk hb .nil zln pa hdb he hpl,fun σ ρ F0 H d Q s va e q=>?_⟩
  obtain ⟨ds,e1,e2⟩:=Option.bind_eq_some_iff.mp e
  split at e2 <;> try cases e2
  rename_i hl
  refine r σ ρ F0 H ds _ s va e1 fun F1 H1 vs g1 a1=>?_
  refine ⟨ds,d,F1,hl,g1.fh,by rw [List.append_nil];exact a1,e2,fun F' H' q' xs g h0 hF hH hx=>q F' H' q' xs (g1.trans g) (zd0 g1 h0) hF hH hx⟩
omit [KK] in
theorem zi7 {m:Nat}{g:SE→Ctl}{i:Nat}{ds:List D}{ρ:SE}(R:List D→Prop)(e:ds.map .v++List.replicate (m - ds.length) .no=ρ)(q:(g ρ).w (fun ρ'=>∃ es,ρ'[i]?=some (.o es)∧R es) noP noP (fun _=>False)):∃ es,zkh m g i ds=some es∧R es:=by
  unfold zkh
  rw [e]
  cases hg:g ρ with
  | nx ρ' =>
    rw [hg] at q
    obtain ⟨es,h1,h2⟩:=q.nxi
    exact ⟨es,by dsimp only;rw [h1],h2⟩
  | bk ρ'=>rw [hg] at q;exact q.bki.elim
  | ct ρ'=>rw [hg] at q;exact q.cti.elim
  | rt d=>rw [hg] at q;exact q.rti.elim
  | no=>rw [hg] at q;exact q.noi.elim
end Dl
namespace Dl
open PySem L2
variable [KK]
section
variable {X:Cx}{a b:Expr}{pos:Pos}
end
end Dl
namespace Dl
open PySem L2
variable [KK]
section
variable {X:Cx}{a e:Expr}
def zfQ:V→List V→Hp→VK→Prop:=fun x vs H Q=>∃ G d ds y l xs j,x=.ref l∧vs=[y]∧yJ G H∧G l=some (.lst xs)∧AtL G ds xs∧At G d y∧okE 20 d=true∧ds.all (okE 20)=true∧j < ds.length∧eqN 20 (ds.getD j .non) d=true∧(∀ m,m < j→eqN 20 (ds.getD m .non) d=false)∧Q (.int (j:Int)) H
def zek:V→List V→Hp→VK→Prop:=fun x vs H Q=>∃ G d ds y l xs,x=.ref l∧vs=[y]∧yJ G H∧G l=some (.lst xs)∧AtL G ds xs∧At G d y∧okE 20 d=true∧ds.all (okE 20)=true∧Q (.int ((ds.countP fun e=>eqN 20 e d:Nat):Int)) H
theorem V1 {F:Hp}{d:D}:∀ {ds:List D} {xs:List V} {us:List Value},AtL F ds xs→yr xs us→ds.all (okE 20)=true→us.countP (X7 F d)=ds.countP fun e=>eqN 20 e d
  | [],_,_,al,r,_=>by cases al.nil_inv;cases r;rfl
  | e::ds,_,_,al,r,k=>by
    obtain ⟨x,xs,rfl,a1,a2⟩:=al.cons_inv
    cases r with
    | cons r1 r2 =>
      rw [List.all_cons,Bool.and_eq_true] at k
      rw [List.countP_cons,List.countP_cons,XB a1 r1 k.1,V1 a2 r2 k.2]
theorem We {k:Nat}{pins:List (Addr × Obj)}{s:Shared}{σ:St}{H G:Hp}{d:D}{ds:List D}{y:V}{u:Value}{xs:List V}{us:List Value}(hr:YO k X.A)(I:Inv X pins σ H s)(sm:yJ G H)(kd:okE 20 d=true)(kds:ds.all (okE 20)=true)(ad:At G d y)(ru:xZ y u)(al:AtL G ds xs)(r:yr xs us):∀ z∈us,SeqAt.EqAt X.A.in1 s z u (X7 G d z):=fun z hz=>by
  have hu:X.A.in1.units+20 < cLine:=by have:=hr.un;show X.A.units+1+20 < cLine;omega
  obtain ⟨j,hj,rfl⟩:=List.getElem_of_mem hz
  obtain ⟨x',ax,rx'⟩:=al.nth r hj
  have hj':j < ds.length:=by have:=al.length;have:=r.length;omega
  have k2:=xn kds hj'
  rw [XB ax rx' k2]
  exact WI I sm 20 k2 kd ax ad rx' ru hu
theorem ze1 {k:Nat} (hr:YO k X.A):MtM X "list.count" zek:=by
  intro pins s σ H x vs v us Q I rx rv h
  obtain ⟨G,d,ds,y,l,xs,rfl,rfl,sm,hx,al,ad,kd,kds,q⟩:=h
  cases rx
  obtain ⟨u,rfl,ru⟩:=rv.one
  obtain ⟨z,its,n,r,hl,e⟩:=I.lstM (sm _ _ hx)
  have mem:=We hr I sm kd kds ad ru al r
  refine call_meets PySem.F.slot_list_count ⟨_,e,rfl⟩ PySem.F.entry_list_count (PySem.F.args_list_count_2 _ _) (SeqAt.list_countAt l its.toArray n none #[] u (X7 G d)) ⟨e,fun y hy=>mem y (by simpa using hy),?_⟩
  refine ⟨.int _,H,I.tok _,⟨_,rfl⟩,?_⟩
  have:(its.toArray.toList.countP (X7 G d))=ds.countP fun e=>eqN 20 e d:=V1 al r kds
  rw [this]
  exact q
theorem Wt {k:Nat} (hr:YO k X.A):MtM X "list.index" zfQ:=by
  intro pins s σ H x vs v us Q I rx rv h
  obtain ⟨G,d,ds,y,l,xs,j,rfl,rfl,sm,hx,al,ad,kd,kds,hj,hit,hno,q⟩:=h
  cases rx
  obtain ⟨u,rfl,ru⟩:=rv.one
  obtain ⟨z,its,n,r,hl,e⟩:=I.lstM (sm _ _ hx)
  have mem:=We hr I sm kd kds ad ru al r
  have hlen:its.length=ds.length:=by rw [←hl,al.length]
  have ans:∀ m (hm:m < its.length),X7 G d its[m]=eqN 20 (ds.getD m .non) d:=fun m hm=>by
    obtain ⟨x',ax,rx'⟩:=al.nth r hm
    exact XB ax rx' (xn kds (by omega))
  have hsm:((j:Nat):Int) < 2 ^ 63 - 1:=by
    have h1:j < sizeLine:=by have:=al.length;omega
    have h2:(sizeLine:Int) < 2 ^ 63 - 1:=by decide
    omega
  refine call_meets PySem.F.slot_list_index ⟨_,e,rfl⟩ PySem.F.entry_list_index (PySem.F.args_list_index_2 _ _) (SeqAt.list_indexAt l its.toArray n none #[] u (X7 G d) j (by rw [List.size_toArray];omega) hsm ?_ ?_) ⟨e,fun y hy=>mem y (by simpa using hy),?_⟩
  · show X7 G d its[j]=true
    rw [ans j (by omega)]
    exact hit
  · intro m hm hlt
    show X7 G d its[m]=false
    rw [ans m (by omega)]
    exact hno m hlt
  · exact ⟨.int (j:Int),H,I.tok _,⟨_,rfl⟩,q⟩
def zib (c d:D):Option D:=match c with
  | .lst ds=>if okE 20 d=true∧ds.all (okE 20)=true then (ds.findIdx? fun e=>eqN 20 e d).map fun (j:Nat)=>D.int (j:Int) else none
  | _=>none
def zjF (c d:D):Option D:=match c with
  | .lst ds=>if okE 20 d=true∧ds.all (okE 20)=true then some (.int ((ds.countP fun e=>eqN 20 e d:Nat):Int)) else none
  | _=>none
def zcC (m:D→D→Option D)(f:Ev→Option D)(g:Ev→Option (List D)):Ev→Option D:=fun ρ=>(f ρ).bind fun c=>(g ρ).bind fun ds=>match ds with
  | [d]=>m c d
  | _=>none
theorem zhQ {p pos':Pos}{f:Ev→Option D}{g:Ev→Option (List D)}(ha:ED X a f)(he:AD X [e] g)
    (hp:∀ {ta:TE} {t:TA},PE X a ta→PA X [e] t→PE X (.Call (.Attribute a "count" p) [e] [] pos') (tBM X.K "list" zek ta t)):ED X (.Call (.Attribute a "count" p) [e] [] pos') (zcC zjF f g):=by
  obtain ⟨ta,pa,ra⟩:=ha
  obtain ⟨t,pe,re⟩:=he
  refine ⟨_,hp pa pe,fun σ ρ F H z Q s va h0 q=>?_⟩
  obtain ⟨c,e1,h1⟩:=Option.bind_eq_some_iff.mp h0
  obtain ⟨as,e2,h⟩:=Option.bind_eq_some_iff.mp h1
  clear h0 h1
  split at h
  · rename_i d
    unfold zjF at h
    split at h
    · rename_i ds
      split at h <;> cases h
      rename_i hk
      refine ra σ ρ F H _ _ s va e1 fun F1 H1 v g1 a1=>?_
      obtain ⟨l,xs,rfl,hx,al⟩:=a1.lst_inv
      refine ⟨.inl ⟨rfl,xs,SqL.of (g1.fh _ _ hx)⟩,?_⟩
      refine re σ ρ F1 H1 _ _ g1.fh (va.mono g1.ff) e2 fun F2 H2 vs g2 a2=>?_
      obtain ⟨y,r',rfl,ay,ar⟩:=a2.cons_inv
      cases ar.nil_inv
      exact ⟨F2,d,ds,y,l,xs,rfl,rfl,g2.fh,g2.ff _ _ hx,al.mono g2.ff,ay,hk.1,hk.2,q F2 H2 _ (g1.trans g2) .int⟩
    · cases h
  · cases h
theorem zat {p pos':Pos}{f:Ev→Option D}{g:Ev→Option (List D)}(ha:ED X a f)(he:AD X [e] g)
    (hp:∀ {ta:TE} {t:TA},PE X a ta→PA X [e] t→PE X (.Call (.Attribute a "index" p) [e] [] pos') (tBM X.K "list" zfQ ta t)):ED X (.Call (.Attribute a "index" p) [e] [] pos') (zcC zib f g):=by
  obtain ⟨ta,pa,ra⟩:=ha
  obtain ⟨t,pe,re⟩:=he
  refine ⟨_,hp pa pe,fun σ ρ F H z Q s va h0 q=>?_⟩
  obtain ⟨c,e1,h1⟩:=Option.bind_eq_some_iff.mp h0
  obtain ⟨as,e2,h⟩:=Option.bind_eq_some_iff.mp h1
  clear h0 h1
  split at h
  · rename_i d
    unfold zib at h
    split at h
    · rename_i ds
      split at h
      · rename_i hk
        obtain ⟨j,hj,rfl⟩:=Option.map_eq_some_iff.mp h
        obtain ⟨j1,j2,j3⟩:=List.findIdx?_eq_some_iff_getElem.mp hj
        refine ra σ ρ F H _ _ s va e1 fun F1 H1 v g1 a1=>?_
        obtain ⟨l,xs,rfl,hx,al⟩:=a1.lst_inv
        refine ⟨.inl ⟨rfl,xs,SqL.of (g1.fh _ _ hx)⟩,?_⟩
        refine re σ ρ F1 H1 _ _ g1.fh (va.mono g1.ff) e2 fun F2 H2 vs g2 a2=>?_
        obtain ⟨y,r',rfl,ay,ar⟩:=a2.cons_inv
        cases ar.nil_inv
        have gd:∀ m (hm:m < ds.length),ds.getD m .non=ds[m]:=fun m hm=>by rw [List.getD_eq_getElem?_getD,List.getElem?_eq_getElem hm];rfl
        refine ⟨F2,d,ds,y,l,xs,j,rfl,rfl,g2.fh,g2.ff _ _ hx,al.mono g2.ff,ay,hk.1,hk.2,j1,?_,?_,q F2 H2 _ (g1.trans g2) .int⟩
        · rw [gd j j1];exact j2
        · intro m hm
          rw [gd m (by omega)]
          have:=j3 m hm
          simpa using this
      · cases h
    · cases h
  · cases h
end
end Dl
namespace Dl
open PySem L2
section
variable [KK]
section
variable {κ:Type}[DecidableEq κ](f:κ→List Key)(hf:∀ a b,f a=f b→a=b)
include hf
end
section
variable {X:Cx}{a b c:Expr}{pos apos:Pos}
end
section
variable {X:Cx}{a e ko:Expr}{pos pos':Pos}{st:Stmt}
def zhJ (i:Nat)(f:Ev→Option (List D)):SE→Ctl:=fun ρ=>match f (visG ρ) with
  | some ds=>if zkF ds=true then .nx (ρ.set i (.v (.lst ds))) else .no
  | none=>.no
theorem zjh {i:Nat}{t:TE}{f:Ev→Option (List D)}(r:RF t f):RS (zi8 t (Y7 i)) (zhJ i f):=fun Fb Hb F H ρ σ E rl k=>by
  unfold zhJ at k
  cases h:f (visG ρ) with
  | none=>rw [h] at k;exact k.elim
  | some ds =>
    rw [h] at k
    dsimp only at k
    split at k
    · rename_i hn
      refine r σ _ _ H ds _ rl.gh rl.visG h fun F' H' q xs g h0 hF hH hx=>?_
      obtain ⟨gb,fl⟩:=rl.back g
      have rl2:=rl.grow gb
      have hF2:fOf ρ σ F' q=none:=by
        unfold fOf
        split
        · rfl
        · exact hF
      have g2:=gb.show h0 hF2 hH
      exact k _ _ _ ((rl.grow g2).set (.lst zu ((hx.flat fl hn).mono fun b u e=>by rw [zr (zn e hF2)];exact e)))
    · exact k.elim
theorem zgZ {i:Nat}{f:Ev→Option (List D)}(he:FLS X i st f):SD X st (zhJ i f):=by
  obtain ⟨t,p,r⟩:=he
  exact ⟨_,p,zjh r⟩
end
end
end Dl
namespace Dl
open PySem L2
variable [KK]
section
variable {X:Cx}{a b e:Expr}{pos pos':Pos}
end
end Dl
namespace Dl
open PySem L2
variable [KK]
section
variable {X:Cx}
def rNeL:R2:=fun x y H Q=>∃ F ds es,yJ F H∧At F (.lst ds) x∧At F (.lst es) y∧okE 20 (.lst ds)=true∧okE 20 (.lst es)=true∧Q (.bl (!eqN 20 (.lst ds) (.lst es))) H
theorem zlj {k:Nat}(hr:YO k X.A):OpR X (compareOp .NotEq) rNeL:=by
  intro pins s σ H x y v u Q I rx ry h
  obtain ⟨F,ds,es,sm,a1,a2,k1,k2,q⟩:=h
  have hu:X.A.units+30 < cLine:=by have:=hr.un;omega
  obtain ⟨p,xs,rfl,hx,al⟩:=a1.lst_inv
  obtain ⟨p2,ys,rfl,hy,bl⟩:=a2.lst_inv
  cases rx
  cases ry
  obtain ⟨its,r,ht,hz⟩:=I.list (SqL.of (sm _ _ hx))
  obtain ⟨its2,r2,ht2,hz2⟩:=I.list (SqL.of (sm _ _ hy))
  have hl1:its.toArray.size=ds.length:=by rw [List.size_toArray,← r.length,al.length]
  have hl2:its2.toArray.size=es.length:=by rw [List.size_toArray,← r2.length,bl.length]
  have e1:eqN 20 (.lst ds) (.lst es)=((List.range (min ds.length es.length)).all (fun j=>eqN 19 (ds.getD j .non) (es.getD j .non))&&ds.length == es.length):=by
    show ((List.zipWith (eqN 19) ds es).all id&&ds.length == es.length)=_
    rw [WX]
  by_cases hle:ds.length=es.length
  · refine SeqAt.RcNeAt.lists (e:=fun j=>eqN 19 (ds.getD j .non) (es.getD j .non)) ht.isList ht2.isList (by rw [hl1,hl2];exact hle) (Nat.lt_of_le_of_lt (Nat.le_add_right _ 30) hu) (fun j g1 g2=>?_) _ _ _ _ ⟨.bl _,H,I,rfl,?_⟩
    · obtain ⟨x',ax,rx⟩:=al.nth r (j:=j) (by simpa using g1)
      obtain ⟨y',ay,ry⟩:=bl.nth r2 (j:=j) (by simpa using g2)
      exact WI I sm 19 (xn k1 (by rw [←hl1];exact g1)) (xn k2 (by rw [←hl2];exact g2)) ax ay (by simpa using rx) (by simpa using ry) (Nat.lt_of_le_of_lt (show X.A.units+20≤X.A.units+30 from Nat.add_le_add_left (by decide) _) hu)
    · rw [hl1]
      rw [e1,← hle,Nat.min_self] at q
      simpa using q
  · refine SeqAt.RcNeAt.lists_lengths ht.isList ht2.isList (by rw [hl1,hl2];simpa using hle) (Nat.lt_of_le_of_lt (Nat.le_add_right _ 30) hu) _ _ _ _ ⟨.bl _,H,I,rfl,?_⟩
    have:(ds.length == es.length)=false:=by simpa using hle
    rw [e1,this,Bool.and_false] at q
    exact q
end
def zkI:D→D→Option D
  | .lst ds,.lst es=>if (okE 20 (.lst ds)&&okE 20 (.lst es))=true then some (.bl (!eqN 20 (.lst ds) (.lst es))) else none
  | _,_=>none
theorem ziS:OpD rNeL zkI:=by
  intro F H x y d e z Q s ax ay ez q
  unfold zkI at ez
  split at ez
  · split at ez <;> cases ez
    rename_i hk
    rw [Bool.and_eq_true] at hk
    exact ⟨F,_,_,s,ax,ay,hk.1,hk.2,q F H _ (.refl s) .bl⟩
  · cases ez
end Dl
namespace L2
open PySem PySem.Spec PyProof.Rows
section
variable {prog:Program}{w:World}{A:Around}{E:Value→Shared→Prop}{s:Shared}{d it:Addr}{o:Obj}{es:Array DictEntry}{ep i:Nat}
end
section
variable {X:Cx}{tg:Expr}
end
end L2
namespace Dl
open PySem L2
section
variable [KK]
section
variable {X:Cx}{tg a b e k v:Expr}{pos pos':Pos}{sts:List Stmt}
end
end
end Dl
namespace OwnRep
open PySem Builtin
theorem zjr {α:Type}{M:Model}{A:Around}{E:Value→Shared→Prop}{s:Shared}{c:Bool}{a b:Sem α}{Q:α→Shared→Prop}(hc:c=false)(h:wpAny M A b Q E s):wpAny M A (if c=true then a else b) Q E s:=by rw [hc,if_neg Bool.false_ne_true];exact h
theorem noFill_tuple_mul:fillsNumberSlot (.type "tuple") "mul"=pure false :=
  fillsNumberSlot_seq (id:="tuple.__mul__") (r:=some (.builtin "tuple.__rmul__")) F.slot_tuple_mul.lookup (by decide +kernel) F.slot_tuple_rmul.lookup (by decide +kernel)
theorem repeat_tuple:seqRepeat? (.type "tuple")=pure (some (.builtin "tuple.__mul__")):=by
  unfold seqRepeat?
  rw [seqSlot_of (T:="tuple") (name:="__mul__") (id:="tuple.__mul__") F.slot_tuple_mul.lookup (by decide +kernel),seqSlot_of (T:="tuple") (name:="__rmul__") (id:="tuple.__rmul__") F.slot_tuple_rmul.lookup (by decide +kernel)]
  rfl
theorem int_rmul_tuple (a:Int)(t:Tok)(l:Addr)(items:Array Value)(n:Nat)(dd:Option Addr)(sl:Array (Option Value)) :
    Meets (Builtin.«int.__rmul__» ⟨[.int a t,.ref l],[]⟩) (fun _ R s=>s.heap.get? l=some { cls:=.type "tuple",dict:=dd,data:=.seq items n,slots:=sl }∧R (.ok (.ret Value.notImplemented)) s) :=
  .of_wp fun prog w A R s h=>by obtain ⟨hp,g,d,tk,os⟩:=s;obtain ⟨hl,h⟩:=h;wp_walk;exact ⟨_,rfl,h⟩
theorem tmul_same (l:Addr)(items:Array Value)(n:Nat)(dd:Option Addr)(sl:Array (Option Value))(x:Int)(u:Tok)(hc0:(decide (x < -(2 ^ 63))||decide (x ≥ 2 ^ 63))=false)(hc1:(items.isEmpty||x == 1)=true) :
    Meets (Builtin.«tuple.__mul__» ⟨[.ref l,.int x u],[]⟩) (fun _ R s=>s.heap.get? l=some { cls:=.type "tuple",dict:=dd,data:=.seq items n,slots:=sl }∧R (.ok (.ret (Value.ref l))) s) :=
  .of_wp fun prog w A R s h=>by obtain ⟨hp,g,d,tk,os⟩:=s;obtain ⟨hl,h⟩:=h;wp_walk;refine zjr hc0 ?_;wp_walk;exact ⟨_,rfl,h⟩
theorem tmul_none (l:Addr)(items:Array Value)(n:Nat)(dd:Option Addr)(sl:Array (Option Value))(x:Int)(u:Tok)(hc0:(decide (x < -(2 ^ 63))||decide (x ≥ 2 ^ 63))=false)(hc1:(items.isEmpty||x == 1)=false)(hc2:(decide (x≤0)||items.isEmpty)=true) :
    Meets (Builtin.«tuple.__mul__» ⟨[.ref l,.int x u],[]⟩) (fun _ R s=>s.heap.get? l=some { cls:=.type "tuple",dict:=dd,data:=.seq items n,slots:=sl }∧R (.ok (.ret (Value.ref s.heap.objs.size))) { s with heap:=s.heap.push { cls:=.type "tuple",data:=.seq #[] },toks:=s.toks }) :=
  .of_wp fun prog w A R s h=>by obtain ⟨hp,g,d,tk,os⟩:=s;obtain ⟨hl,h⟩:=h;wp_walk;refine zjr hc0 ?_;wp_walk;exact ⟨_,rfl,h⟩
theorem tmul_some (l:Addr)(items:Array Value)(n:Nat)(dd:Option Addr)(sl:Array (Option Value))(x:Int)(u:Tok)(hc0:(decide (x < -(2 ^ 63))||decide (x ≥ 2 ^ 63))=false)(hc1:(items.isEmpty||x == 1)=false)(hc2:(decide (x≤0)||items.isEmpty)=false)(hc3:¬ (items.size:Int)*x > (2 ^ 63 - 1) / 8)(hc4:Builtin.Tuple.tupleTooMany ((items.size:Int)*x)=false)(hc5:(List.foldl (fun x1 x2=>x1++x2) #[] (List.replicate x.toNat items)).size≤sizeLine) :
    Meets (Builtin.«tuple.__mul__» ⟨[.ref l,.int x u],[]⟩) (fun _ R s=>s.heap.get? l=some { cls:=.type "tuple",dict:=dd,data:=.seq items n,slots:=sl }∧R (.ok (.ret (Value.ref s.heap.objs.size))) { s with heap:=s.heap.push { cls:=.type "tuple",data:=.seq (List.foldl (fun x1 x2=>x1++x2) #[] (List.replicate x.toNat items)) },toks:=s.toks }) :=
  .of_wp fun prog w A R s h=>by obtain ⟨hp,g,d,tk,os⟩:=s;obtain ⟨hl,h⟩:=h;wp_walk;refine zjr hc0 ?_;wp_walk;refine wpAny_ite_false (decide_eq_false hc3) ?_;wp_walk;exact ⟨_,rfl,h⟩
end OwnRep
namespace L2
open PySem
section
variable {X:Cx}
def zlg (K:PySem.W.Frag):R2:=fun x y H Q=>∃ a k xs,x=.ref a∧y=.int k∧SqT K H a xs∧xs≠[]∧-(2 ^ 63)≤k∧k < 2 ^ 63∧xs.length*k.toNat≤sizeLine ∧
  (k=1→Q (.ref a) H)∧(k≠1→∀ p,H p=none→Q (.ref p) (upd H p (.tup (List.replicate k.toNat xs).flatten)))
theorem zi9:OpR X (binaryOp .Mult) (zlg X.K):=by
  intro pins s σ H x y v u Q I rx ry h
  obtain ⟨a,k,xs,rfl,rfl,ha,hx,h1,h2,hz,q1,q2⟩:=h
  cases rx
  obtain ⟨t,rfl⟩:=ry
  obtain ⟨its,r,⟨⟨cls,dd,dat,sl⟩,e,hc,n,hd⟩,_⟩:=I.tuple ha
  simp only at hc hd
  subst hc hd
  have hne:its.toArray.isEmpty=false:=by
    cases its with
    | nil=>exact absurd (r.nil_iff.mp rfl) hx
    | cons _ _=>rfl
  have hc0:(decide (k < -(2 ^ 63))||decide (k ≥ 2 ^ 63))=false:=by
    rw [decide_eq_false (by omega),decide_eq_false (by omega)];rfl
  have hnew:∀ m:Nat,List.foldl (fun x1 x2=>x1++x2) #[] (List.replicate m its.toArray)=(List.replicate m its).flatten.toArray:=fun m=>by
    have:=W5 its m []
    rw [List.nil_append] at this
    exact this
  have hl:((List.replicate k.toNat its).flatten).length≤sizeLine:=by rw [W9,← r.length,Nat.mul_comm];exact hz
  have go:∀ {Q':Value→Shared→Prop},wpAny (model X.prog X.w) X.A (call (.builtin "tuple.__mul__") [.ref a,.int k t]) Q' X.xe s→wpAny (model X.prog X.w) X.A (binaryOp .Mult (.ref a) (.int k t)) Q' X.xe s:=fun {Q'} w =>
    wpAny_binaryOp_repeat_ref (T:="tuple") (U:="int") (by decide) ⟨_,e,rfl⟩ (fun s'=>typeIs_int s' k t) OwnRep.noFill_tuple_mul F.fills_int_mul F.slot_int_rmul OwnRep.repeat_tuple F.slot_int_index.lookup
      (call_meets F.slot_int_rmul (typeIs_int s k t) F.entry_int_rmul (F.args_int_rmul_2 _ _) (OwnRep.int_rmul_tuple k t a its.toArray n dd sl) ⟨e,rfl,⟨_,e,rfl⟩,w⟩)
  by_cases c1:k=1
  · exact go (call_meets F.slot_tuple_mul ⟨_,e,rfl⟩ F.entry_tuple_mul (F.args_tuple_mul_2 _ _) (OwnRep.tmul_same a its.toArray n dd sl k t hc0 (by rw [c1];simp)) ⟨e,⟨.ref a,H,I,rfl,q1 c1⟩⟩)
  have hc1:(its.toArray.isEmpty||k == 1)=false:=by rw [hne,Bool.false_or];exact beq_eq_false_iff_ne.mpr c1
  have fin:∀ (us:List Value),us=(List.replicate k.toNat its).flatten→EP X pins σ Q (.ref s.heap.objs.size) { s with heap:=s.heap.push { cls:=.type "tuple",data:=.seq us.toArray },toks:=s.toks }:=fun us hu=>by
    refine ⟨.ref s.heap.objs.size,_,I.laid (t':=s.toks) (o:=.tup (List.replicate k.toNat xs).flatten) (fun b ob q=>Heap.get?_push_of_some _ q) (Nat.le_refl _) ?_,rfl,q2 c1 _ (I.hok.fresh (Nat.le_refl _))⟩
    refine ⟨by rw [W9,Nat.mul_comm];exact hz,us,?_,PyProof.Rows.IsTup.new _ _⟩
    rw [hu]
    exact r.rep k.toNat
  by_cases c2:k≤0
  · refine go (call_meets F.slot_tuple_mul ⟨_,e,rfl⟩ F.entry_tuple_mul (F.args_tuple_mul_2 _ _) (OwnRep.tmul_none a its.toArray n dd sl k t hc0 hc1 (by rw [decide_eq_true c2];rfl)) ⟨e,fin [] ?_⟩)
    rw [show k.toNat=0 by omega]
    rfl
  · have hsz:(its.toArray.size:Int)*k≤(sizeLine:Int):=by
      have:((its.length*k.toNat:Nat):Int)≤(sizeLine:Int):=by rw [←r.length];exact Int.ofNat_le.mpr hz
      rw [Int.natCast_mul,Int.toNat_of_nonneg (by omega)] at this
      exact this
    refine go (call_meets F.slot_tuple_mul ⟨_,e,rfl⟩ F.entry_tuple_mul (F.args_tuple_mul_2 _ _) (OwnRep.tmul_some a its.toArray n dd sl k t hc0 hc1 (by rw [hne,Bool.or_false];exact decide_eq_false c2) ?_ ?_ ?_) ⟨e,?_⟩)
    · have:(sizeLine:Int)≤(2 ^ 63 - 1) / 8:=by decide
      omega
    · unfold Builtin.Tuple.tupleTooMany
      exact decide_eq_false (by omega)
    · rw [hnew,List.size_toArray]
      exact hl
    · rw [hnew]
      exact fin _ rfl
end
end L2
namespace Dl
open PySem L2
section
variable [KK]
def zch:D→D→Option D
  | .tup a,.int k=>if a≠[]∧-(2 ^ 63)≤k∧k < 2 ^ 63∧lim (a.length*k.toNat)=true then some (.tup (List.replicate k.toNat a).flatten) else none
  | _,_=>none
theorem zhM {K:PySem.W.Frag}:OpD (zlg K) zch:=by
  intro F H x y d e z Q s ax ay ez q
  cases d <;> try cases ez
  cases e <;> try cases ez
  rename_i ds k
  unfold zch at ez
  dsimp only at ez
  split at ez <;> cases ez
  rename_i hl
  obtain ⟨p,xs,rfl,hx,al⟩:=ax.tup_inv
  refine ⟨p,k,xs,rfl,ay.int_inv,SqT.of (s _ _ hx),fun e=>hl.1 ?_,hl.2.1,hl.2.2.1,by rw [al.length];exact of_decide_eq_true hl.2.2.2,fun e=>?_,fun _ r hr=>?_⟩
  · subst e
    exact List.length_eq_zero_iff.mp al.length.symm
  · subst e
    refine q F H _ (.refl s) ?_
    show At F (.tup (List.replicate 1 ds).flatten) _
    rw [show (List.replicate 1 ds).flatten=ds by simp]
    exact .tup hx al
  · have g:=Gr.alloc s hr (.tup (List.replicate k.toNat xs).flatten)
    exact q _ _ _ g (.tup zu ((al.rep _).mono g.ff))
section
variable {X:Cx}{a b:Expr}{pos:Pos}
theorem zgj {f h:Ev→Option D}(ha:ED X a f)(hb:ED X b h):ED X (.BinOp a .Mult b pos) (zm zch f h):=Vh zi9 zhM ha hb
end
end
end Dl
namespace L2
open PySem PySem.Spec PyProof.Rows
def zd6 (X:Cx)(x0:Str)(M:List Str)(scope:Scope)(cl:List (Str × Addr))(s₀:Shared)(H₀:Hp)(ex:List Addr)(pn:List (Addr × Obj)):Cx :=
  { X with N:=[x0]++M,s₀:=s₀,H₀:=H₀,env:=compEnvC scope ((x0,s₀.heap.objs.size+1)::cl) s₀.heap.objs.size X.env,outer:=X.stack,stack:=X.stack,ex:=ex,fn:=fun y=>y == x0,pn:=pn,xe:=fun _ _=>False }
set_option genInjectivity false in
set_option genSizeOf false in
set_option genCtorIdx false in
structure Zb (X:Cx) (x0:Str) (M:List Str) (scope:Scope) (cl:List (Str × Addr)):Prop where
  clos:closureFor scope X.env=pure cl
  laid:∀ n,cellsFrom n scope.names cl=(x0,n)::cl
  push:∀ h,pushCells h scope.names=h.push { cls:=.type "cell",data:=.cell none }
  kind:scope.kind=.function
  names:∀ y∈scope.names,y.2=.local→scope.names.lookup y.1=some .local
  sub:∀ y c,cl.lookup y=some c→X.env.cells.lookup y=some c
  has:∀ y,((relabel scope X.env).names.lookup y=some .cell∨(relabel scope X.env).names.lookup y=some .free)→y=x0∨∃ c,cl.lookup y=some c
  mlen:M.length=X.N.length
  ne:∀ (i:Nat) y,M[i]?=some y→Vis (relabel scope X.env) y→y≠x0
  msk:∀ (i:Nat) y,M[i]?=some y→Vis (relabel scope X.env) y→X.N[i]?=some y
  vis:∀ (i:Nat) y,M[i]?=some y→Vis (relabel scope X.env) y→((relabel scope X.env).names.lookup y=some .cell∨(relabel scope X.env).names.lookup y=some .free)
  out:∀ (i:Nat) y,M[i]?=some y→Vis (relabel scope X.env) y→Vis X.env.scope y∧X.env.kindOf y≠some .local
theorem ZH (x0:Str)(a:Addr)(cl:List (Str × Addr))(y:Str):((x0,a)::cl).lookup y=if y=x0 then some a else cl.lookup y:=by
  rw [List.lookup_cons]
  by_cases h:y=x0
  · rw [if_pos h,show (y == x0)=true from beq_iff_eq.mpr h]
  · rw [if_neg h,show (y == x0)=false from beq_eq_false_iff_ne.mpr h]
theorem V6 {M:Model} {A:Around} {E:Value→Shared→Prop} {s:Shared} {scope:Scope} {globals:Addr} {cl:List (Str × Addr)} {qual:Str} {env:Env} {x0:Str} {Q:Env→Shared→Prop} (laid:∀ n,cellsFrom n scope.names cl=(x0,n)::cl) (push:∀ h,pushCells h scope.names=h.push { cls:=.type "cell",data:=.cell none })
    (hQ:Q (newEnv scope s.heap.objs.size globals ((x0,s.heap.objs.size+1)::cl) qual none .none (some env) builtinsNs) { s with heap:=(s.heap.push { cls:=.type "dict",data:=.dict #[] }).push { cls:=.type "cell",data:=.cell none } }) :
    wpAny M A (newFunctionEnv scope globals cl [] qual none .none (some env)) Q E s:=by
  simp only [newFunctionEnv,Option.isSome_some,if_true]
  refine wpAny_bind (wpAny_alloc ?_)
  refine wpAny_bind (wpAny_layCells _ (fun name kind cells=>by cases hkc:kind == NameKind.cell <;> simp [hkc]) _ _ _ _ ?_)
  rw [laid,push,show ({ s with heap:=s.heap.push { cls:=.type "dict",data:=.dict #[] } }:Shared).heap.objs.size=s.heap.objs.size+1 from Heap.size_push ..]
  simp only [List.forIn_nil]
  exact wpAny_bind (wpAny_pure (wpAny_pure hQ))
theorem zgP {use:Option (Value→Sem Unit)}{Qf:Value→Shared→Prop}{X:Cx}{elt tg iter:Expr}{ifs:List Expr}{x0:Str}{M:List Str}{scope:Scope}{cl:List (Str × Addr)}{pos:Pos}{wi:TI}{g:TG}{tt:TT}{te:TE}
    (hc:X.calm=true) (S:Zb X x0 M scope cl) (hi:PI X tg iter wi)
    (hgS:∀ (σ:St) (v:V) (H:Hp) (Q:St→Hp→Prop),g v (List.replicate 1 none++σ) H Q→g v (List.replicate 1 none++σ) H (fun σ2 H2=>ZO (List.replicate 1 none++σ) σ2∧Q σ2 H2))
    (hg:∀ s₀ H₀ ex pn,PG (zd6 X x0 M scope cl s₀ H₀ ex pn) tg g) (ht:∀ s₀ H₀ ex pn,PIf (zd6 X x0 M scope cl s₀ H₀ ex pn) ifs tt) (he:∀ s₀ H₀ ex pn,PE (zd6 X x0 M scope cl s₀ H₀ ex pn) elt te)
    (hs:∀ x,foldedSetIterable iter X.env x=pure x:=by intro _;rfl) :
    ∀ (pos':Pos) (pins:List (Addr × Obj)) (s:Shared) (σ:St) (H:Hp) (Q:VK),Inv X pins σ H s→tLC wi 1 g tt te σ H Q →
      (∀ (D C:Addr) (H':Hp) (s':Shared),Inv X pins σ H' s'→(∃ m,s'.heap.Ns C m)→zbR X pins H' C→Q (.ref D) H'→compPost (model X.prog X.w) X.A X.xe use Qf (.ref D) C (.ok .next) s') →
      wpAny (model X.prog X.w) X.A (comprehension (.ListComp elt [⟨tg,iter,ifs,0⟩] scope pos) scope X.env pos' (newList []) false (eval iter X.env) use) Qf X.xe s:=by
  intro pos' pins s σ H Q I h fin
  refine wpAny_comprehension_free (use:=use) rfl hs S.clos S.kind S.names (thn (hi pins s σ H _ I h) fun v s1 h1=>thn h1 fun itv s2 h2=>?_)
  obtain ⟨it,fp,tn,J,H2,e,I2,T,st2,f2,q⟩:=h2
  subst e
  have hD:H2 s2.heap.objs.size=none:=I2.hok.fresh (Nat.le_refl _)
  obtain ⟨W,⟨m0,w0⟩,turn⟩:=q _ hD
  refine wpAny_newObj_type (V6 S.laid S.push ?_)
  have I3:Inv X pins σ (upd H2 s2.heap.objs.size (.lst [])) { s2 with heap:=s2.heap.push { cls:=.type "list",data:=.seq ([]:List Value).toArray } }:=by
    refine I2.laid (t':=s2.toks) (fun b u e=>Heap.get?_push_of_some _ e) (Nat.le_refl _) ?_
    exact ⟨Nat.zero_le _,[],0,.nil,Heap.get?_push_size _ rfl⟩
  generalize hs3:({ s2 with heap:=s2.heap.push { cls:=.type "list",data:=.seq ([]:List Value).toArray } }:Shared)=s3 at I3 ⊢
  generalize hh1:(s3.heap.push { cls:=.type "dict",data:=.dict #[] }).push { cls:=.type "cell",data:=.cell none }=h₁
  have hns₁:h₁.Ns s3.heap.objs.size fun _=>none:=by
    rw [←hh1]
    exact (Heap.Ns.new s3.heap (.type "dict")).keeps fun b o e=>Heap.get?_push_of_some _ e
  have hcell₁:h₁.IsCell (s3.heap.objs.size+1) none:=by
    rw [←hh1]
    refine ⟨{ cls:=.type "cell",data:=.cell none },?_,rfl⟩
    rw [←show (s3.heap.push { cls:=.type "dict",data:=.dict #[] }).objs.size=s3.heap.objs.size+1 from Heap.size_push ..]
    exact Heap.get?_push_size _ rfl
  have hobj:∀ b∈fp,b < s2.heap.objs.size:=fun b hb=>by
    obtain ⟨o,ho,_⟩:=T.obj _ _ st2 b hb
    exact Heap.lt_size ho
  have hz3:s3.heap.objs.size=s2.heap.objs.size+1:=by rw [←hs3];exact Heap.size_push ..
  have k23:∀ b o,s2.heap.get? b=some o→s3.heap.get? b=some o:=fun b o e=>by rw [←hs3];exact Heap.get?_push_of_some _ e
  have k34:∀ b o,s3.heap.get? b=some o→h₁.get? b=some o:=fun b o e=>by rw [←hh1];exact Heap.get?_push_of_some _ (Heap.get?_push_of_some _ e)
  generalize hH3:upd H2 s2.heap.objs.size (.lst [])=H3 at I3 w0
  have hfp3:∀ b∈fp,H3 b=none:=fun b hb=>by
    rw [←hH3,zr (Nat.ne_of_lt (hobj b hb))]
    exact (f2 b hb).1
  have nfs:∀ b∈fp,b∉frs X.stack:=fun b hb z=>by
    obtain ⟨_,n1,n2,_⟩:=f2 b hb
    rcases List.mem_cons.mp (I3.stkSub b z) with e | e
    · exact n1 e
    · exact n2 e
  let Y:Cx:=zd6 X x0 M scope cl s3 H3 fp (X.pn++pins)
  have old:∀ y c,cl.lookup y=some c→c≠s3.heap.objs.size+1:=fun y c e z=>by
    obtain ⟨v,o,ho,_⟩:=I3.cell y c (S.sub y c e)
    have:=Heap.lt_size ho
    rw [z] at this
    exact absurd this (Nat.not_lt.mpr (Nat.le_succ _))
  have OkY:Y.Ok:=by
    refine ⟨I.ok.mod,S.kind,I.ok.glob,I.ok.blt,Nat.le_refl _,?inj,?has,?cab,I.ok.hd,I.ok.frames,.inl rfl,?exf,
      fun b o e=>I3.bs b o e,Nat.le_trans I.ok.bsz I3.sz,?noex,nfs,I3.stack,I3.stkFree⟩
    case inj =>
      intro x y c h1 h2
      have h1:((x0,s3.heap.objs.size+1)::cl).lookup x=some c:=h1
      have h2:((x0,s3.heap.objs.size+1)::cl).lookup y=some c:=h2
      rw [ZH] at h1 h2
      by_cases ex:x=x0
      · by_cases ey:y=x0
        · rw [ex,ey]
        · rw [if_pos ex] at h1
          rw [if_neg ey] at h2
          exact absurd (Option.some.inj h1) (old y c h2).symm
      · rw [if_neg ex] at h1
        by_cases ey:y=x0
        · rw [if_pos ey] at h2
          exact absurd (Option.some.inj h2) (old x c h1).symm
        · rw [if_neg ey] at h2
          exact I.ok.inj x y c (S.sub x c h1) (S.sub y c h2)
    case has =>
      intro x hx
      show ∃ c,((x0,s3.heap.objs.size+1)::cl).lookup x=some c
      rw [ZH]
      rcases S.has x hx with e | ⟨c,e⟩
      · rw [if_pos e];exact ⟨_,rfl⟩
      · split
        · exact ⟨_,rfl⟩
        · exact ⟨c,e⟩
    case cab =>
      intro x c hf h1
      have h1:((x0,s3.heap.objs.size+1)::cl).lookup x=some c:=h1
      rw [ZH,if_pos (beq_iff_eq.mp hf)] at h1
      cases h1
      exact Nat.le_succ _
    case exf =>
     refine fun b hb=>⟨?_,fun x c e z=>?_⟩
     · show b≠s3.heap.objs.size
       exact Nat.ne_of_lt (Nat.lt_of_lt_of_le (hobj b hb) (by rw [hz3];exact Nat.le_succ _))
     · have e:((x0,s3.heap.objs.size+1)::cl).lookup x=some c:=e
       rw [ZH] at e
       split at e
       · cases e
         have h1:=hobj b hb
         rw [hz3] at z
         rw [←z] at h1
         exact absurd h1 (Nat.not_lt.mpr (Nat.le_trans (Nat.le_succ _) (Nat.le_succ _)))
       · exact (f2 b hb).2.2.2.2.1 x c (S.sub x c e) z
    case noex =>
      intro b o e hb
      rcases (f2 b hb).2.2.2.1 with z | z
      · exact I.ok.noex b o e z
      · have h1:=Heap.lt_size e
        have h2:=I.ok.bsz
        exact absurd (Nat.lt_of_lt_of_le h1 (Nat.le_trans h2 z)) (Nat.lt_irrefl _)
  have I4:Inv Y [] (List.replicate 1 none++σ) H3 { s3 with heap:=h₁ }:=by
    refine ⟨OkY,rfl,I3.bare,Un.kept k34,⟨_,hns₁,fun i y v e1 e2 e3=>?_⟩,fun x c e=>?_,I3.hok.fresh (Nat.le_refl _),fun x c e=>?freeC,fun p hp=>?_,I3.hok.kept k34,?_⟩
    · have hi:¬ i < 1:=fun hlt=>by
        rw [List.getElem?_append_left (by simpa using hlt),List.getElem?_replicate] at e2
        split at e2 <;> cases e2
      have e0':M[i - 1]?=some y:=by
        have e1:([x0]++M)[i]?=some y:=e1
        rw [List.getElem?_append_right (show 1≤i by omega)] at e1
        exact e1
      have e2':σ[i - 1]?=some (some v):=by rw [List.getElem?_append_right (by simpa using Nat.le_of_not_lt hi)] at e2;simpa using e2
      have e1':=S.msk _ y e0' e3
      obtain ⟨ov,ok⟩:=S.out _ y e0' e3
      obtain ⟨m,hn,hl⟩:=I3.loc
      obtain ⟨u,ru,lk⟩:=hl _ y v e1' e2' ov
      refine ⟨u,ru,?_⟩
      rcases lk with ⟨hk,_⟩ | ⟨_,c,hc',hcell⟩
      · exact absurd hk ok
      · have kn:=S.vis _ y e0' e3
        obtain ⟨c',hc2⟩:=(S.has y kn).resolve_left (S.ne _ y e0' e3)
        have:=S.sub y c' hc2
        rw [hc'] at this
        cases this
        refine .inr ⟨kn,c,(show ((x0,s3.heap.objs.size+1)::cl).lookup y=some c by rw [ZH,if_neg (S.ne _ y e0' e3)];exact hc2),?_⟩
        obtain ⟨o,ho,hd⟩:=hcell
        exact ⟨o,k34 _ _ ho,hd⟩
    · have e:((x0,s3.heap.objs.size+1)::cl).lookup x=some c:=e
      rw [ZH] at e
      split at e
      · cases e
        exact ⟨_,hcell₁⟩
      · obtain ⟨v,o,ho,hd⟩:=I3.cell x c (S.sub x c e)
        exact ⟨v,o,k34 _ _ ho,hd⟩
    · have e:((x0,s3.heap.objs.size+1)::cl).lookup x=some c:=e
      rw [ZH] at e
      split at e
      · cases e
        exact I3.hok.fresh (Nat.le_succ _)
      · exact I3.freeC x c (S.sub x c e)
    · have hp':p∈X.pn++pins:=by simpa [Y,zd6] using hp
      obtain ⟨a1,a2,a3,a4,a5⟩:=I3.pin p hp'
      refine ⟨k34 _ _ a1,a2,Nat.ne_of_lt (Heap.lt_size a1),fun z=>?_,a5⟩
      rcases List.mem_cons.mp (I3.stkSub p.1 z) with e | e
      · exact a3 e
      · exact a4 e
    · show (List.replicate 1 none++σ).length=([x0]++M).length
      rw [List.length_append,List.length_append,List.length_replicate,I.len,S.mlen]
      rfl
  have fpY:∀ {H':Hp},(∀ b∈fp,H' b=none)→∀ b∈fp,zbR Y [] H' b:=fun {H'} hn b hb=>by
    refine ⟨hn b hb,(OkY.exf b hb).1,nfs b hb,.inl hb,(OkY.exf b hb).2,fun p hp=>?_⟩
    have hp':p∈X.pn++pins:=by simpa [Y,zd6] using hp
    exact (f2 b hb).2.2.2.2.2 p hp'
  have st4:tn 0 h₁:=T.keep _ _ _ st2 fun b hb o e=>k34 b o (k23 b o e)
  -- behind the loop
  have back:∀ (H':Hp) (s':Shared),Inv Y [] (List.replicate 1 none++σ) H' s'→Q (.ref s2.heap.objs.size) H'→compPost (model X.prog X.w) X.A X.xe use Qf (.ref s2.heap.objs.size) s3.heap.objs.size (.ok .next) s':=fun H' s' J' q'=>by
    obtain ⟨m,hn,_⟩:=J'.loc
    refine fin _ _ H' s' (I3.call' (ch:=fp) J'.os J'.base J'.hok J'.bare fun b hb=>?_) ⟨m,hn⟩ (I3.fpOk (Nat.le_refl _) J'.free) q'
    obtain ⟨_,n1,_,n3,n4,n5⟩:=f2 b hb
    exact ⟨n3,n1,n4,n5⟩
  have loop:codeAny (model X.prog X.w) X.A (.compLoop (.ListComp elt [⟨tg,iter,ifs,0⟩] scope pos) 0 (.ref it) (.ref s2.heap.objs.size) (compEnvC scope ((x0,s3.heap.objs.size+1)::cl) s3.heap.objs.size X.env))
      (compPost (model X.prog X.w) X.A X.xe use Qf (.ref s2.heap.objs.size) s3.heap.objs.size) { s3 with heap:=h₁ }:=by
    refine vg (fun n s'=>∃ i ys H',Inv Y [] (List.replicate 1 none++σ) H' s'∧tn i s'.heap∧(∀ b∈fp,H' b=none)∧W i n ys H') ?_ m0 ⟨0,[],H3,I4,st4,hfp3,w0⟩
    rintro n s5 ⟨i,ys,H5,I5,st5,fr5,w5⟩
    rcases turn i n ys H5 w5 with ⟨stop,qn⟩ | ⟨go,hlen,step⟩
    · refine thn (T.done Y rfl rfl rfl hc i [] s5 _ H5 _ I5 (fpY fr5) st5 stop) fun r s6 hh9=>?_
      obtain ⟨hr,I6⟩:=hh9
      subst hr
      exact back H5 s6 I6 qn
    · refine thn (T.item Y rfl rfl rfl hc i [] s5 _ H5 _ I5 (fpY fr5) st5 go) fun r s6 hh9=>?_
      obtain ⟨u,hr,h6⟩:=hh9
      subst hr
      refine thn h6 fun _ s7 hh9=>?_
      obtain ⟨x,H7,I7,r7,y7,st7,fr7⟩:=hh9
      have I7':=I7.pinned (fpY fr7) (T.obj _ _ st7)
      have g7:=hgS σ x H7 _ (step x H7 y7)
      refine thn (hg _ _ _ _ _ s7 _ H7 x u _ I7' r7 g7) fun _ s8 hh9=>?_
      obtain ⟨σ8,H8,I8,sub8,q8⟩:=hh9
      have again:∀ {σ9:St} {H9:Hp} {s9:Shared} {zs:List V},Inv Y ([]++XQ fp s7.heap) σ9 H9 s9→ZO (List.replicate 1 none++σ) σ9→(∃ m',m' < n∧W (i+1) m' zs H9) →
          ∃ m,m < n∧∃ i ys H',Inv Y [] (List.replicate 1 none++σ) H' s9∧tn i s9.heap∧(∀ b∈fp,H' b=none)∧W i m ys H':=fun {σ9 H9 s9 zs} I9 sub9 w9=>by
        obtain ⟨m',hm,w9⟩:=w9
        refine ⟨m',hm,i+1,zs,H9,(I9.sub sub9).unpinned,T.keep _ _ _ st7 fun b hb o e=>(I9.pin (b,o) (List.mem_append_right _ (List.mem_append_right _ (wt hb e)))).1,fun b hb=>?_,w9⟩
        obtain ⟨o,e,d⟩:=T.obj _ _ st7 b hb
        exact (I9.pin (b,o) (List.mem_append_right _ (List.mem_append_right _ (wt hb e)))).2.1
      refine thn (ht _ _ _ _ _ s8 σ8 H8 _ I8 q8) fun b s9 hh9=>?_
      obtain ⟨H9,I9,q9⟩:=hh9
      cases b with
      | false =>
        rw [if_neg Bool.false_ne_true] at q9
        rw [if_neg Bool.false_ne_true]
        exact again I9 sub8 q9
      | true =>
        rw [if_pos rfl] at q9
        rw [if_pos rfl]
        refine thn (he _ _ _ _ _ s9 σ8 H9 _ I9 q9) fun y s10 hh9=>?_
        obtain ⟨yv,H10,I10,r10,hD10,w10⟩:=hh9
        obtain ⟨z10,its,k,rv,e10⟩:ys.length≤sizeLine∧∃ (its:List Value) (n:Nat),yr ys its∧s10.heap.get? s2.heap.objs.size=some { cls:=.type "list",data:=.seq its.toArray n }:=I10.hok _ _ hD10
        have hl10:s10.heap.PlainList s2.heap.objs.size its.toArray:=⟨k,e10⟩
        refine wpAny_list_append_plain (hsz:=by rw [List.size_toArray,← rv.length];exact z10) hl10 fun h11 hl11 sb11=>?_
        obtain ⟨k',e11⟩:=hl11
        have I11:Inv Y ([]++XQ fp s7.heap) σ8 (upd H10 s2.heap.objs.size (.lst (ys++[yv]))) { s10 with heap:=h11 }:=by
          refine I10.write (x:=s2.heap.objs.size) (e:=s2.heap.objs.size) (t':=s10.toks) (by rw [hD10];exact True.intro) (.inl rfl) (fun b u hb e=>(sb11.2 b hb).trans e) ⟨_,e11⟩ ?_
          refine ⟨by rw [List.length_append];show ys.length+1≤sizeLine;exact hlen,its++[y],k',rv.append (.cons r10 .nil),?_⟩
          rw [e11]
          simp
        exact again I11 sub8 w10
  exact codeAny_compStart_list loop (T.self _ 0 _ _ _ st4 loop)
theorem zky {X:Cx}{elt tg iter:Expr}{ifs:List Expr}{x0:Str}{M:List Str}{scope:Scope}{cl:List (Str × Addr)}{pos:Pos}{wi:TI}{g:TG}{tt:TT}{te:TE}
    (hc:X.calm=true) (S:Zb X x0 M scope cl) (hi:PI X tg iter wi)
    (hgS:∀ (σ:St) (v:V) (H:Hp) (Q:St→Hp→Prop),g v (List.replicate 1 none++σ) H Q→g v (List.replicate 1 none++σ) H (fun σ2 H2=>ZO (List.replicate 1 none++σ) σ2∧Q σ2 H2))
    (hg:∀ s₀ H₀ ex pn,PG (zd6 X x0 M scope cl s₀ H₀ ex pn) tg g) (ht:∀ s₀ H₀ ex pn,PIf (zd6 X x0 M scope cl s₀ H₀ ex pn) ifs tt) (he:∀ s₀ H₀ ex pn,PE (zd6 X x0 M scope cl s₀ H₀ ex pn) elt te)
    (hs:∀ x,foldedSetIterable iter X.env x=pure x:=by intro _;rfl) :
    PE X (.ListComp elt [⟨tg,iter,ifs,0⟩] scope pos) (tLC wi 1 g tt te):=by
  intro pins s σ H Q I h
  rw [eval_ListComp]
  refine zgP hc S hi hgS hg ht he hs _ pins s σ H Q I h fun D C H' s' I' ⟨m,hn⟩ f q=>⟨m,hn,fun h' sb=>⟨.ref D,_,I'.letGo f sb,rfl,q⟩⟩
def VX (names rn dn:List (Str × NameKind))(x0:Str)(N M cn:List Str):Bool :=
  names.all (fun y=>decide (y.2=.local→names.lookup y.1=some .local)) &&
  rn.all (fun y=>decide ((y.2=.cell∨y.2=.free)→y.1=x0∨y.1∈cn)) &&
  (M.length == N.length)&&(M.zip N).all (fun p=>decide ((rn.lookup p.1=some .local∨rn.lookup p.1=some .cell∨rn.lookup p.1=some .free)→p.1=p.2)) &&
  M.all (fun y=>decide ((rn.lookup y=some .local∨rn.lookup y=some .cell∨rn.lookup y=some .free) →
    y≠x0∧(rn.lookup y=some .cell∨rn.lookup y=some .free)∧(dn.lookup y=some .local∨dn.lookup y=some .cell∨dn.lookup y=some .free)∧dn.lookup y≠some .local))
theorem zkv {X:Cx}{x0:Str}{N M cn:List Str}{scope:Scope}{cl:List (Str × Addr)}{rn dn:List (Str × NameKind)}(hr:(relabel scope X.env).names=rn)(hd:X.env.scope.names=dn)(hN:X.N=N)
    (clos:closureFor scope X.env=pure cl) (laid:∀ n,cellsFrom n scope.names cl=(x0,n)::cl) (push:∀ h,pushCells h scope.names=h.push { cls:=.type "cell",data:=.cell none }) (kind:scope.kind=.function) (hc:cl.map Prod.fst=cn) (good:VX scope.names rn dn x0 N M cn=true) (sub:∀ p∈cl,X.env.cells.lookup p.1=some p.2):Zb X x0 M scope cl:=by
  unfold VX at good
  simp only [Bool.and_eq_true,List.all_eq_true,decide_eq_true_eq] at good
  obtain ⟨⟨⟨⟨g2,g3⟩,g5⟩,g6⟩,g4⟩:=good
  have g5:M.length=N.length:=by simpa using g5
  refine ⟨clos,laid,push,kind,g2,fun y c h=>sub (y,c) (PySem.mem_of_lookup h),fun y h=>?_,by rw [hN];exact g5,fun i y e v=>?_,fun i y e v=>?_,fun i y e v=>?_,fun i y e v=>?_⟩
  · rw [hr] at h
    have hy:y=x0∨y∈cn:=by
      rcases h with h | h
      · exact g3 _ (PySem.mem_of_lookup h) (.inl rfl)
      · exact g3 _ (PySem.mem_of_lookup h) (.inr rfl)
    exact hy.imp id fun hy=>v6 (by rw [hc];exact hy)
  · unfold Vis at v
    rw [hr] at v
    exact (g4 y (List.mem_of_getElem? e) v).1
  · unfold Vis at v
    rw [hr] at v
    have hi:=(List.getElem?_eq_some_iff.mp e).1
    have hj:i < N.length:=by rw [←g5];exact hi
    have hz:(M.zip N)[i]?=some (y,N[i]):=by
      rw [List.getElem?_zip_eq_some]
      exact ⟨e,List.getElem?_eq_getElem hj⟩
    have:=g6 _ (List.mem_of_getElem? hz) v
    rw [hN,List.getElem?_eq_getElem hj]
    exact congrArg some this.symm
  · unfold Vis at v
    rw [hr] at v ⊢
    exact (g4 y (List.mem_of_getElem? e) v).2.1
  · unfold Vis at v
    rw [hr] at v
    obtain ⟨_,_,k1,k2⟩:=g4 y (List.mem_of_getElem? e) v
    refine ⟨?_,?_⟩
    · unfold Vis;rw [hd];exact k1
    · show X.env.scope.names.lookup y≠_;rw [hd];exact k2
end L2
namespace Dl
open PySem L2
variable [KK]
theorem ziy {X:Cx}{elt tg iter c:Expr}{x0:Str}{M:List Str}{scope:Scope}{cl:List (Str × Addr)}{pos:Pos}{fi:Ev→Option (List D)}{b:D→Option (List (Option D))}{ft:Ev→Option Bool}{fe:Ev→Option D}{g:TG}
    (hc:X.calm=true) (S:Zb X x0 M scope cl) (hi:ID X tg iter fi)
    (hgS:∀ (σ:St) (v:V) (H:Hp) (Q:St→Hp→Prop),g v (List.replicate 1 none++σ) H Q→g v (List.replicate 1 none++σ) H (fun σ2 H2=>ZO (List.replicate 1 none++σ) σ2∧Q σ2 H2))
    (hrb:RB 1 g b)
    (hg:∀ s₀ H₀ ex pn,PG (zd6 X x0 M scope cl s₀ H₀ ex pn) tg g) (ht:∀ s₀ H₀ ex pn,TD (zd6 X x0 M scope cl s₀ H₀ ex pn) c ft) (he:∀ s₀ H₀ ex pn,ED (zd6 X x0 M scope cl s₀ H₀ ex pn) elt fe)
    (hs:∀ x,foldedSetIterable iter X.env x=pure x:=by intro _;rfl):FL X (.ListComp elt [⟨tg,iter,[c],0⟩] scope pos) (fLC fi b ft fe):=by
  obtain ⟨wi,pi,ri⟩:=hi
  exact ⟨_,zky hc S pi hgS hg (fun _ _ _ _=>zcD (ht _ _ _ _).can) (fun _ _ _ _=>(he _ _ _ _).can) hs,zho ri hrb zgh zcN⟩
end Dl
namespace PySem
open Sem (wp)
namespace OwnRev
end OwnRev
section
variable {prog:Program}{w:World}{A:Around}{E:Value→Shared→Prop}{s:Shared}
end
end PySem
namespace L2
open PySem PySem.Spec PyProof.Rows
end L2
namespace Dl
open PySem L2 PySem.Spec PyProof.Rows
variable [KK]{X:Cx}{e:Expr}
end Dl
namespace OwnSet
open PySem
def ksOf (m:Nat):List Nat:=(List.range 8).filter fun i=>m.testBit i
def tabOf (led:Bool)(ks:List Nat):SetTable:={ mask:=if ks.length≤4 then 7 else 31,place:=ks.toArray,dummies:=#[],finger:=0,led:=led,moves:=if ks.length≤4 then 0 else 1,plain:=true }
def ZA (led:Bool)(ks:List Nat)(k:Nat):SetTable:={ tabOf led ks with place:=(ks.filter (· < k)++k::ks.filter (k < ·)).toArray }
theorem zhE:∀ (m:_root_.Fin 256) (k:_root_.Fin 8),m.val.testBit k.val=false→ksOf (m.val ||| 1 <<< k.val)=(ksOf m.val).filter (· < k.val)++k.val::(ksOf m.val).filter (k.val < ·):=by decide +kernel
theorem zdR:∀ (m:_root_.Fin 256) (k:_root_.Fin 8),m.val.testBit k.val=false→∀ led:Bool,(tabOf led (ksOf m.val)).freeSlot (k.val:Int)=some (k.val,false):=by decide +kernel
theorem zgt:∀ (m:_root_.Fin 256) (k:_root_.Fin 8),m.val.testBit k.val=false→∀ led:Bool,(tabOf led (ksOf m.val)).put k.val=(ZA led (ksOf m.val) k.val,((ksOf m.val).filter (· < k.val)).length):=by decide +kernel
theorem VV:∀ (m:_root_.Fin 256) (k:_root_.Fin 8),m.val.testBit k.val=false→∀ led:Bool,(ZA led (ksOf m.val) k.val).fits ((ksOf m.val).length+1)=true∧(ZA led (ksOf m.val) k.val).tooFull=decide ((ksOf m.val).length=4):=by decide +kernel
theorem zf2:∀ (m:_root_.Fin 256) (k:_root_.Fin 8),m.val.testBit k.val=false→∀ led:Bool,(ksOf m.val).length≠4→ZA led (ksOf m.val) k.val=tabOf led (ksOf (m.val ||| 1 <<< k.val)):=by decide +kernel
theorem zcH:∀ (m:_root_.Fin 256),(ksOf m.val).length=5→∀ (k:_root_.Fin 8) (led:Bool),((ksOf m.val).contains k.val)=true→(ZA led ((ksOf m.val).filter (·≠k.val)) k.val).relaid ((ksOf m.val).map fun i:Nat=>(i:Int)).toArray (SetTable.grown 5)=some (tabOf led (ksOf m.val),#[0,1,2,3,4]):=by decide +kernel
theorem W6:∀ (m:_root_.Fin 256) (i:_root_.Fin 9),i.val≤(ksOf m.val).length→SetTable.below (ksOf m.val).toArray (if i.val=0 then 0 else (ksOf m.val).getD (i.val - 1) 0+1)=i.val:=by decide +kernel
end OwnSet
namespace OwnSet
open PySem
theorem VI:∀ (m:_root_.Fin 256) (k:_root_.Fin 8),m.val.testBit k.val=false→ksOf m.val=(ksOf m.val).filter (· < k.val)++(ksOf m.val).filter (k.val < ·)∧(ksOf m.val).all (fun j=>decide (j≠k.val))=true∧(ksOf m.val).length≤7:=by decide +kernel
def esL (ks:List Nat)(tk:Nat→Tok):List (Int × Value):=ks.map fun k:Nat=>((k:Int),Value.int (k:Int) (tk k))
def Yc (ks:List Nat)(tk:Nat→Tok):Array (Int × Value):=(esL ks tk).toArray
theorem yy (ks:List Nat)(tk:Nat→Tok):(Yc ks tk).size=ks.length:=by unfold Yc esL;rw [List.size_toArray,List.length_map]
def yE (h:Heap) (a:Addr) (led:Bool) (m:Nat):Prop:=∃ (ep:Nat) (tk:Nat→Tok),h.get? a=some { cls:=.type "set",dict:=none,data:=.set (Yc (ksOf m) tk) ep (tabOf led (ksOf m)),slots:=#[] }
theorem zaQ {α:Type}(xs:List α)(p:Nat)(x:α):SetTable.insertAt xs.toArray p x=(xs.take p++x::xs.drop p).toArray:=by
  unfold SetTable.insertAt
  apply Array.ext'
  simp
  exact List.take_of_length_le (by rw [List.length_drop];exact Nat.le_refl _)
theorem zj2 {m k:Nat}(hm:m < 256)(hk:k < 8)(hb:m.testBit k=false)(tk:Nat→Tok)(t0:Tok) :
    SetTable.insertAt (Yc (ksOf m) tk) ((ksOf m).filter (· < k)).length ((k:Int),Value.int (k:Int) t0)=Yc (ksOf (m ||| 1 <<< k)) (fun j=>if j=k then t0 else tk j):=by
  obtain ⟨s1,s2,_⟩:=VI ⟨m,hm⟩ ⟨k,hk⟩ hb
  have s3:=zhE ⟨m,hm⟩ ⟨k,hk⟩ hb
  simp only at s1 s2 s3
  have e:∀ ks:List Nat,(∀ j∈ks,j≠k)→esL ks (fun j=>if j=k then t0 else tk j)=esL ks tk:=fun ks h=>by
    unfold esL
    exact List.map_congr_left fun j hj=>by show ((j:Int),Value.int (j:Int) (if j=k then t0 else tk j))=_;rw [if_neg (h j hj)]
  have n1:∀ j∈(ksOf m).filter (· < k),j≠k:=fun j hj=>of_decide_eq_true (List.all_eq_true.mp s2 j (List.mem_filter.mp hj).1)
  have n2:∀ j∈(ksOf m).filter (k < ·),j≠k:=fun j hj=>of_decide_eq_true (List.all_eq_true.mp s2 j (List.mem_filter.mp hj).1)
  generalize (ksOf m).filter (· < k)=A at *
  generalize (ksOf m).filter (k < ·)=B at *
  unfold Yc
  rw [zaQ,s3,s1]
  congr 1
  have l1:A.length=(esL A tk).length:=by unfold esL;rw [List.length_map]
  rw [show esL (A++B) tk=esL A tk++esL B tk from List.map_append,l1,List.take_left,List.drop_left]
  rw [show esL (A++k::B) (fun j=>if j=k then t0 else tk j)=esL A (fun j=>if j=k then t0 else tk j)++((k:Int),Value.int (k:Int) (if k=k then t0 else tk k))::esL B (fun j=>if j=k then t0 else tk j) from List.map_append,e _ n1,e _ n2,if_pos rfl]
theorem zaC:∀ (m:_root_.Fin 256) (k:_root_.Fin 8),m.val.testBit k.val=false→(ksOf (m.val ||| 1 <<< k.val)).length=(ksOf m.val).length+1∧(ksOf (m.val ||| 1 <<< k.val)).filter (·≠k.val)=ksOf m.val∧(ksOf (m.val ||| 1 <<< k.val)).contains k.val=true∧(m.val ||| 1 <<< k.val) < 256:=by decide +kernel
theorem Zk:∀ k:_root_.Fin 8,hashInt (k.val:Int)=(k.val:Int):=by decide +kernel
theorem Zc:∀ (m:_root_.Fin 256) (led:Bool),(tabOf led (ksOf m.val)).fits (ksOf m.val).length=true:=by decide +kernel
theorem zbQ {m k:Nat}(hm:m < 256)(hk:k < 8)(hb:m.testBit k=false)(led:Bool)(tk:Nat→Tok)(t0:Tok) :
    layNew (tabOf led (ksOf m)) (Yc (ksOf m) tk) (k:Int) (.int (k:Int) t0)=(Yc (ksOf (m ||| 1 <<< k)) (fun j=>if j=k then t0 else tk j),ZA led (ksOf m) k,false,false):=by
  have f1:=zdR ⟨m,hm⟩ ⟨k,hk⟩ hb led
  have f2:=zgt ⟨m,hm⟩ ⟨k,hk⟩ hb led
  have f3:=(VV ⟨m,hm⟩ ⟨k,hk⟩ hb led).1
  have f4:=(zaC ⟨m,hm⟩ ⟨k,hk⟩ hb).1
  simp only at f1 f2 f3 f4
  unfold layNew
  rw [f1]
  dsimp only
  rw [f2]
  dsimp only
  rw [zj2 hm hk hb,yy,f4]
  unfold SetTable.orStandIn
  rw [if_pos f3,f3]
  rfl
theorem zgA {α:Type}(a b c d e:α):(#[0,1,2,3,4]:Array Nat).filterMap (fun i=>(#[a,b,c,d,e]:Array α)[i]?)=#[a,b,c,d,e]:=by
  simp [Array.filterMap]
theorem zfR {m k:Nat}(hm:m < 256)(hk:k < 8)(hb:m.testBit k=false)(h4:(ksOf m).length=4)(led:Bool)(tk:Nat→Tok) :
    relayAll (ZA led (ksOf m) k) (Yc (ksOf (m ||| 1 <<< k)) tk) (SetTable.grown (Yc (ksOf (m ||| 1 <<< k)) tk).size)=(Yc (ksOf (m ||| 1 <<< k)) tk,tabOf led (ksOf (m ||| 1 <<< k)),false):=by
  obtain ⟨l1,l2,l3,l4⟩:=zaC ⟨m,hm⟩ ⟨k,hk⟩ hb
  simp only at l1 l2 l3 l4
  have l5:(ksOf (m ||| 1 <<< k)).length=5:=by rw [l1,h4]
  have r:=zcH ⟨m ||| 1 <<< k,l4⟩ l5 ⟨k,hk⟩ led l3
  have fz:=Zc ⟨m ||| 1 <<< k,l4⟩ led
  simp only at r fz
  rw [l2] at r
  have eh:(Yc (ksOf (m ||| 1 <<< k)) tk).map (·.1)=((ksOf (m ||| 1 <<< k)).map fun i:Nat=>(i:Int)).toArray:=by
    unfold Yc esL
    rw [List.map_toArray,List.map_map]
    rfl
  unfold relayAll
  rw [yy,l5,eh,r]
  dsimp only
  have e5:(#[0,1,2,3,4]:Array Nat).filterMap (fun i=>(Yc (ksOf (m ||| 1 <<< k)) tk)[i]?)=Yc (ksOf (m ||| 1 <<< k)) tk:=by
    generalize ksOf (m ||| 1 <<< k)=ks at l5
    match ks,l5 with
    | [a,b,c,d,e],_=>exact zgA _ _ _ _ _
  rw [e5,yy,fz]
  exact if_pos (by decide +kernel)
section
variable {prog:Program}{w:World}{A:Around}{E:Value→Shared→Prop}{s:Shared}
theorem Yt (prog:Program)(w:World){m:Nat}(tk:Nat→Tok):ElemsOf (intKind prog w) (Yc (ksOf m) tk).toList:=fun e he=>by
  unfold Yc esL at he
  obtain ⟨k,hk,rfl⟩:=List.mem_map.mp he
  have h8:k < 8:=List.mem_range.mp (List.mem_filter.mp hk).1
  exact ⟨⟨(k:Int),intKind_is _ _ _ _,(Zk ⟨k,h8⟩).symm⟩,rfl⟩
theorem zdy {m k:Nat}(tk:Nat→Tok)(hb:m.testBit k=false):(Yc (ksOf m) tk).toList.findIdx? (fun e=>(intKind prog w).is (k:Int) e.2)=none:=by
  refine List.findIdx?_eq_none_iff.mpr fun e he=>?_
  unfold Yc esL at he
  obtain ⟨j,hj,rfl⟩:=List.mem_map.mp he
  show (Value.int (j:Int) (tk j)).isInt (k:Int)=false
  have hjk:j≠k:=fun e=>by
    have:=(List.mem_filter.mp hj).2
    rw [e,hb] at this
    cases this
  simp only [Value.isInt]
  first | exact beq_eq_false_iff_ne.mpr (fun e=>hjk (Int.ofNat.inj e)) | exact decide_eq_false (fun e=>hjk (Int.ofNat.inj e)) | (simp;omega)
theorem zjT {a:Addr}{m k:Nat}{led:Bool}{t0:Tok}{Q:Bool→Shared→Prop}(hm:m < 256)(hk:k < 8)(hb:m.testBit k=false)(hS:yE s.heap a led m)
    (h:∀ h',Heap.SameBut a s.heap h'→yE h' a led (m ||| 1 <<< k)→Q true { s with heap:=h' }) :
    wpAny (model prog w) A (setAddHashed a (.int (k:Int) t0) (k:Int)) Q E s:=by
  obtain ⟨ep,tk,ho⟩:=hS
  have fz:=Zc ⟨m,hm⟩ led
  simp only at fz
  have hf:(tabOf led (ksOf m)).fits (Yc (ksOf m) tk).size=true:=by rw [yy];exact fz
  have h7:=(VI ⟨m,hm⟩ ⟨k,hk⟩ hb).2.2
  simp only at h7
  have hsz:(Yc (ksOf m) tk).size < scanBound:=by rw [yy];exact Nat.lt_of_le_of_lt h7 (by decide)
  have hfl:=VV ⟨m,hm⟩ ⟨k,hk⟩ hb led
  have hlen:=zaC ⟨m,hm⟩ ⟨k,hk⟩ hb
  simp only at hfl hlen
  have hsz':(Yc (ksOf (m ||| 1 <<< k)) (fun j=>if j=k then t0 else tk j)).size≤sizeLine:=by
    rw [yy,hlen.1,sizeLine_eq]
    omega
  have eh:(k:Int)=(intKind prog w).hash (k:Int):=(Zk ⟨k,hk⟩).symm
  unfold setAddHashed setAddHashedIn
  refine wpAny_holding (wpAny_bind (wpAny_setState_of ho rfl hf ?_))
  dsimp only
  rw [byScan_of (knd:=intKind prog w) (x:=.int (k:Int) t0) rfl hsz (Yt prog w tk)]
  simp only [↓reduceIte]
  unfold setAddByScan
  refine wpAny_bind ?_
  refine wpAny_bind (wpAny_rule ?_)
  have scan:=fun (Q':ScanMet→Shared→Prop) (q:Q' .absent s)=>wpAny_setScan_of (knd:=intKind prog w) (A:=A) (E:=E) (adding:=true) (Q:=Q') (x:=.int (k:Int) t0) (k:=(k:Int)) (intKind_is _ _ _ _) ho rfl hf (Yt prog w tk) (by rw [zdy tk hb];exact q)
  rw [←eh] at scan
  refine wpAny_bind (scan _ ?_)
  dsimp only
  rw [zbQ hm hk hb]
  dsimp only
  refine wpAny_bind (wpAny_pure ?_)
  rw [show (ZA led (ksOf m) k).plain=true from rfl]
  simp only [↓reduceIte]
  refine wpAny_bind ?_
  rw [hashByValue_scannable 8 (show (Value.int (k:Int) t0).scannable=true from rfl)]
  refine wpAny_pure ?_
  rw [show plainKind (Value.int (k:Int) t0)=true from rfl]
  simp only [↓reduceIte]
  refine wpAny_bind (wpAny_storeSet_of ho rfl ?_ hsz')
  have ho1:=Heap.get?_update_self (Obj.putSet (Yc (ksOf (m ||| 1 <<< k)) (fun j=>if j=k then t0 else tk j)) (ZA led (ksOf m) k)) ho rfl
  have sb1:=Heap.SameBut.update s.heap a (Obj.putSet (Yc (ksOf (m ||| 1 <<< k)) (fun j=>if j=k then t0 else tk j)) (ZA led (ksOf m) k))
  rw [hfl.2]
  by_cases h4:(ksOf m).length=4
  · rw [decide_eq_true h4]
    simp only [Bool.not_false,Bool.and_self,↓reduceIte]
    rw [zfR hm hk hb h4]
    dsimp only
    refine wpAny_bind (wpAny_pure ?_)
    refine wpAny_bind (wpAny_storeSet_of ho1 rfl ?_ hsz')
    have ho2:=Heap.get?_update_self (Obj.putSet (Yc (ksOf (m ||| 1 <<< k)) (fun j=>if j=k then t0 else tk j)) (tabOf led (ksOf (m ||| 1 <<< k)))) ho1 rfl
    refine wpAny_pure ?_
    dsimp only
    exact wpAny_pure (h _ (sb1.trans (Heap.SameBut.update _ a _)) ⟨_,_,ho2⟩)
  · rw [decide_eq_false h4]
    simp only [Bool.not_false,Bool.and_false,Bool.false_eq_true,↓reduceIte]
    refine wpAny_pure ?_
    dsimp only
    have md:=zf2 ⟨m,hm⟩ ⟨k,hk⟩ hb led h4
    simp only at md
    rw [md] at ho1 sb1 ⊢
    exact wpAny_pure (h _ sb1 ⟨_,_,ho1⟩)
end
end OwnSet
namespace OwnSet
open PySem
theorem zec:∀ (m:_root_.Fin 256) (k:_root_.Fin 8),m.val.testBit k.val=true→m.val ||| 1 <<< k.val=m.val∧k.val∈ksOf m.val:=by decide +kernel
theorem zlT:∀ (m:_root_.Fin 256) (k:_root_.Fin 8),m.val ||| 1 <<< k.val < 256:=by decide +kernel
theorem len_small:∀ m:_root_.Fin 256,(ksOf m.val).length≤8:=by decide +kernel
section
variable {prog:Program}{w:World}{A:Around}{E:Value→Shared→Prop}{s:Shared}
theorem ziD {a:Addr}{m k:Nat}{led:Bool}{t0:Tok}{Q:Bool→Shared→Prop}(hm:m < 256)(hk:k < 8)(hb:m.testBit k=true)(hS:yE s.heap a led m)(h:Q false s) :
    wpAny (model prog w) A (setAddHashed a (.int (k:Int) t0) (k:Int)) Q E s:=by
  obtain ⟨ep,tk,ho⟩:=hS
  have fz:=Zc ⟨m,hm⟩ led
  have h8:=len_small ⟨m,hm⟩
  have hin:=(zec ⟨m,hm⟩ ⟨k,hk⟩ hb).2
  simp only at fz h8 hin
  have hf:(tabOf led (ksOf m)).fits (Yc (ksOf m) tk).size=true:=by rw [yy];exact fz
  have hsz:(Yc (ksOf m) tk).size < scanBound:=by rw [yy];exact Nat.lt_of_le_of_lt h8 (by decide)
  have eh:(k:Int)=(intKind prog w).hash (k:Int):=(Zk ⟨k,hk⟩).symm
  obtain ⟨j,hj⟩:∃ j,(Yc (ksOf m) tk).toList.findIdx? (fun e=>(intKind prog w).is (k:Int) e.2)=some j:=by
    cases hr:(Yc (ksOf m) tk).toList.findIdx? (fun e=>(intKind prog w).is (k:Int) e.2) with
    | some j=>exact ⟨j,rfl⟩
    | none =>
      have:=List.findIdx?_eq_none_iff.mp hr ((k:Int),Value.int (k:Int) (tk k)) (by unfold Yc esL;exact List.mem_map.mpr ⟨k,hin,rfl⟩)
      rw [intKind_is] at this
      cases this
  unfold setAddHashed setAddHashedIn
  refine wpAny_holding (wpAny_bind (wpAny_setState_of ho rfl hf ?_))
  dsimp only
  rw [byScan_of (knd:=intKind prog w) (x:=.int (k:Int) t0) rfl hsz (Yt prog w tk)]
  simp only [↓reduceIte]
  unfold setAddByScan
  refine wpAny_bind ?_
  refine wpAny_bind (wpAny_rule ?_)
  have scan:=fun (Q':ScanMet→Shared→Prop) (q:Q' (.found (0+j)) s)=>wpAny_setScan_of (knd:=intKind prog w) (A:=A) (E:=E) (adding:=true) (Q:=Q') (x:=.int (k:Int) t0) (k:=(k:Int)) (intKind_is _ _ _ _) ho rfl hf (Yt prog w tk) (by rw [hj];exact q)
  rw [←eh] at scan
  refine wpAny_bind (scan _ ?_)
  dsimp only
  exact wpAny_pure (wpAny_pure h)
theorem zkM {a:Addr}{m k:Nat}{led:Bool}{t0:Tok}{Q:Bool→Shared→Prop}(hm:m < 256)(hk:k < 8)(hS:yE s.heap a led m)
    (h:∀ b h',Heap.SameBut a s.heap h'→yE h' a led (m ||| 1 <<< k)→Q b { s with heap:=h' }) :
    wpAny (model prog w) A (setAddHashed a (.int (k:Int) t0) (k:Int)) Q E s:=by
  cases hb:m.testBit k with
  | false=>exact zjT hm hk hb hS fun h' sb S=>h true h' sb S
  | true =>
    have e:=(zec ⟨m,hm⟩ ⟨k,hk⟩ hb).1
    simp only at e
    exact ziD hm hk hb hS (h false s.heap (Heap.SameBut.refl a s.heap) (e.symm ▸ hS))
end
def bitsTo (val:Nat→Nat):Nat→Nat
  | 0=>0
  | i+1=>bitsTo val i ||| 1 <<< val i
theorem bitsTo_lt {val:Nat→Nat}(h:∀ i,val i < 8):∀ i,bitsTo val i < 256
  | 0=>(by decide:0 < 256)
  | i+1=>zlT ⟨bitsTo val i,bitsTo_lt h i⟩ ⟨val i,h i⟩
theorem yE.at {h h':Heap}{a:Addr}{led:Bool}{m:Nat}(x:yE h a led m)(k:∀ o,h.get? a=some o→h'.get? a=some o):yE h' a led m:=by
  obtain ⟨ep,tk,e⟩:=x
  exact ⟨ep,tk,k _ e⟩
section
variable {prog:Program}{w:World}{A:Around}{R:Result→Shared→Prop}{I:Addr}{fp wr:List Addr}{G:Array GenState→Array GenState→Prop}{n:Nat}{P:Nat→Value→Prop}{St:Nat→Shared→Prop}
theorem ziw (W:WalksS prog w A.in1 I fp wr G n P St)(S:Addr)(led:Bool)(hSf:S∉fp)(val:Nat→Nat)(h8:∀ i,val i < 8)(hval:∀ i v,P i v→∃ t,v=.int (val i:Int) t) :
    ∀ (k i:Nat) (s:Shared),n - i=k→i≤n→St i s→yE s.heap S led (bitsTo val i) →
      (∀ s',Moved (S::wr) G s s'→yE s'.heap S led (bitsTo val n)→R (.ok (.ret .none)) s') →
      codeAny (model prog w) A (.builtin "set.update.loop" ⟨[.ref S,.ref I],[]⟩) R s:=by
  have hSw:S∉wr:=fun h=>hSf (W.sub _ h)
  have hsub:∀ b∈wr,b∈S::wr:=fun b hb=>List.mem_cons_of_mem _ hb
  intro k
  induction k with
  | zero =>
    intro i s hk hi hst hS hR
    obtain rfl:i=n:=by omega
    refine codeAny_builtin PyProof.Rows.F.entry_set_update_loop ?_
    rw [Around.under_plainId PyProof.Rows.F.plain_set_update_loop _]
    show wpAny _ A.in1 (pyNext (.ref I)>>=_) _ _ s
    refine wpAny_bind (W.done s _ _ hst fun s' hm=>?_)
    show wpAny _ A.in1 (ret Value.none) _ _ s'
    exact wpAny_pure (hR s' (hm.mono hsub) (hS.at fun o e=>hm.heap S o hSw e))
  | succ k ih =>
    intro i s hk hi hst hS hR
    have hlt:i < n:=by omega
    refine codeAny_builtin PyProof.Rows.F.entry_set_update_loop ?_
    rw [Around.under_plainId PyProof.Rows.F.plain_set_update_loop _]
    show wpAny _ A.in1 (pyNext (.ref I)>>=_) _ _ s
    refine wpAny_bind (W.item i s _ _ hlt hst fun v s' hP hst' hm=>?_)
    obtain ⟨t,rfl⟩:=hval i v hP
    have hS':yE s'.heap S led (bitsTo val i):=hS.at fun o e=>hm.heap S o hSw e
    show wpAny _ A.in1 (holding [Value.int (val i:Int) t] (setAdd S (.int (val i:Int) t))>>=_) _ _ s'
    refine wpAny_bind (wpAny_holding ?_)
    unfold setAdd
    refine wpAny_holding ?_
    have ph:=fun (Q':Int→Shared→Prop) (q:Q' ((val i:Int)) { s' with toks:=s'.toks+1 })=>(intKind prog w).pyHash (A:=A.in1) (E:=fun e s'=>R (.error e) s') (s:=s') (k:=(val i:Int)) (v:=.int (val i:Int) t) (Q:=Q') (intKind_is _ _ _ _) (by show Q' (hashInt (val i:Int)) _;rw [Zk ⟨val i,h8 i⟩];exact q)
    refine wpAny_bind (ph _ ?_)
    refine zkM (s:={ s' with toks:=s'.toks+1 }) (bitsTo_lt h8 i) (h8 i) hS' fun b h' hsb hS2=>?_
    refine wpAny_pure ⟨plainId_quiet PyProof.Rows.F.plain_set_update_loop _,ih (i+1) _ (by omega) hlt (W.frame _ s' _ _ hst' (Nat.le_succ _) fun b hb o e=>?_) hS2 fun s'' hm'' hS''=>?_⟩
    · rw [hsb.2 b (fun h:b=S=>hSf (by rw [←h];exact hb))];exact e
    · refine hR s'' (Moved.trans W.gtrans ((hm.mono hsub).then_heap (Nat.le_succ _) fun b o hb e=>?_) hm'') hS''
      rw [hsb.2 b (fun h:b=S=>hb (by rw [h];exact List.mem_cons_self))];exact e
end
section
variable {prog:Program}{w:World}{A:Around}{E:Value→Shared→Prop}{s:Shared}
abbrev Ya (w:World):Bool:=!w.params.followText "set-order"
theorem zbX (a:Value){Q1:Value→Shared→Prop}
    (h:Q1 (.ref s.heap.objs.size) { s with heap:=s.heap.push { cls:=.type "set",dict:=none,data:=.set #[] 0 (.fresh 0 0 (Ya w)) } }) :
    codeAny (model prog w) A (.call (.builtin "set.__new__") ⟨[.type "set",a],[]⟩) (wants Q1 E) s:=by
  refine codeAny_of_tree ?_
  show wpAny _ A.in1 (do checkBuiltinCall "set.__new__" ⟨[.type "set",a],[]⟩;again (.builtin "set.__new__" ⟨[.type "set",a],[]⟩)) _ _ s
  refine wpAny_bind (wpAny_of_eq (F.newCall_set_1 a) (wpAny_pure ⟨plainId_quiet F.plain_set_new _,codeAny_builtin F.entry_set_new ?_⟩))
  rw [Around.under_plainId F.plain_set_new _]
  unfold Builtin.«set.__new__» Builtin.Frozenset.newClass
  have hsub:=sub_set_self
  obtain ⟨hp,g,d,tk,os⟩:=s
  dsimp only
  wp_walk
  refine wpAny_askSetting (wpAny_pure ?_)
  dsimp only
  simp only [newObj]
  refine wpAny_bind (wpAny_alloc (wpAny_pure ?_))
  exact wpAny_pure h
end
end OwnSet
namespace OwnSet
open PySem
theorem zbY (h:Heap) (led:Bool) {a:Addr} (e:h.get? a=some { cls:=.type "set",dict:=none,data:=.set #[] 0 (.fresh 0 0 led) }):yE h a led 0:=⟨0,fun _=>0,e⟩
section
variable {prog:Program}{w:World}{A:Around}{E:Value→Shared→Prop}{s:Shared}
theorem zbq {l a:Addr} {items:Array Value} {val:Nat→Nat} {led:Bool} {R:Result→Shared→Prop} (hh:A.handled=none) (hS:s.heap.get? a=some { cls:=.type "set",dict:=none,data:=.set #[] 0 (.fresh 0 0 led) })
    (hl:s.heap.IsList l items) (hla:l≠a) (h8:∀ i,val i < 8) (hval:∀ (i:Nat) (v:Value),items[i]?=some v→∃ t,v=.int (val i:Int) t)
    (h:∀ (h':Heap) (tk:Nat),yE h' a led (bitsTo val items.size)→(∀ b o,b≠a→b < s.heap.objs.size→s.heap.get? b=some o→h'.get? b=some o)→R (.ok (.ret .none)) { s with heap:=h',toks:=tk }) :
    wpAny (model prog w) A.in1 (Builtin.«set.__init__» ⟨[.ref a,.ref l],[]⟩) (fun fin s'=>match fin with | .done f=>R (.ok f) s' | .again c'=>c'.quiet=true∧codeAny (model prog w) A c' R s') (fun e s'=>R (.error e) s') s:=by
  have hT:s.TypeIs (.ref a) "set":=⟨_,hS,rfl⟩
  obtain ⟨ol,hol,hcl,nl,hdl⟩:=id hl
  obtain ⟨ocls,odict,odata,oslots⟩:=ol
  simp only at hcl hdl
  subst hcl hdl
  have hsls:=F.sub_list_set
  have hslf:=F.sub_list_frozenset
  have hne:(Value.type "list" == Value.type "dict")=false:=by decide
  have hlS:l < s.heap.objs.size:=Heap.lt_size hol
  have haS:a < s.heap.objs.size:=Heap.lt_size hS
  unfold Builtin.«set.__init__» noKeywords Builtin.Frozenset.updateFrom
  generalize hPI:pyIter=PI
  wp_walk
  subst hPI
  refine wpAny_pyIter_list hl ?_
  refine wpAny_bind (wpAny_runValue ?_)
  have hh3:A.in1.in1.handled=none:=by simp [hh]
  refine ziw ((Walks.list hh3 _ l (Nat.ne_of_lt hlS) items).toS) a led (fun hm=>?_) val h8 hval items.size 0 _ rfl (Nat.zero_le _) ⟨⟨_,Heap.get?_push_size _ rfl,rfl,rfl⟩,hl.push _⟩ (zbY _ led (Heap.get?_push_of_some _ hS)) fun s' hm hS'=>?_
  · rcases List.mem_cons.mp hm with e | e
    · exact Nat.ne_of_lt haS e
    · exact hla (List.mem_singleton.mp e).symm
  · obtain ⟨h',g',d',tk',os'⟩:=s'
    have eg:g'=s.gens:=hm.gens
    have ed:d'=s.drawn:=hm.drawn
    have eo:os'=s.os:=hm.os
    subst eg ed eo
    show wpAny _ _ _ _ _ _
    refine wpAny_pure ?_
    show wpAny _ _ (ret Value.none) _ _ _
    refine wpAny_pure (h h' tk' hS' fun b o hb hlt e=>hm.heap b o (fun hmem=>?_) (Heap.get?_push_of_some _ e))
    rcases List.mem_cons.mp hmem with z | z
    · exact hb z
    · exact Nat.ne_of_lt hlt (List.mem_singleton.mp z)
set_option maxHeartbeats 4000000 in
theorem own_call_set {l:Addr}{items:Array Value}{val:Nat→Nat}{Q:Value→Shared→Prop}(hh:A.handled=none)(hl:s.heap.IsList l items)(h8:∀ i,val i < 8)(hval:∀ (i:Nat) (v:Value),items[i]?=some v→∃ t,v=.int (val i:Int) t)
    (h:∀ (h':Heap) (tk:Nat),yE h' s.heap.objs.size (Ya w) (bitsTo val items.size)→(∀ b o,s.heap.get? b=some o→h'.get? b=some o)→Q (.ref s.heap.objs.size) { s with heap:=h',toks:=tk }) :
    wpAny (model prog w) A (call (.type "set") [.ref l]) Q E s:=by
  obtain ⟨c,tl,hmro⟩:=F.called_set.mro
  have hmade:=F.called_set.made
  have hsub:=F.called_set.sub
  refine wpAny_call (codeAny_of_tree ?_)
  show wpAny _ _ (callAny (.type "set") _) _ _ _
  refine wpAny_pure ⟨Code.quiet_builtin _ (by decide +kernel),codeAny_builtin F.entry_type_call ?_⟩
  rw [Around.under_plain (weight_type_call_type "set" [.ref l] []) rfl]
  have h1:=F.called_set.notType
  have h2:=F.called_set.canCreate
  have hct:=F.typeCall_set_1 (.ref l)
  repeat (any_goals (first | assumption | wp_step))
  refine codeAny_mono (zbX (.ref l) (E:=E) (Q1:=fun obj s1=>obj=.ref s.heap.objs.size∧s1={ s with heap:=s.heap.push { cls:=.type "set",dict:=none,data:=.set #[] 0 (.fresh 0 0 (Ya w)) } }) ⟨rfl,rfl⟩) fun r s1 hr=>?_
  cases r with
  | error e=>exact hr
  | ok fl =>
    cases fl with
    | ret obj =>
      obtain ⟨rfl,rfl⟩:=hr
      have hS:(s.heap.push { cls:=.type "set",dict:=none,data:=.set #[] 0 (.fresh 0 0 (Ya w)) }).get? s.heap.objs.size=some { cls:=.type "set",dict:=none,data:=.set #[] 0 (.fresh 0 0 (Ya w)) }:=Heap.get?_push_size _ rfl
      have hT:Shared.TypeIs { s with heap:=s.heap.push { cls:=.type "set",dict:=none,data:=.set #[] 0 (.fresh 0 0 (Ya w)) } } (.ref s.heap.objs.size) "set":=⟨_,hS,rfl⟩
      have hli:=F.called_set.init.lookup
      have hbi:=F.called_set.init.bind (.ref s.heap.objs.size)
      repeat (any_goals (first | assumption | wp_step))
      refine codeAny_mono (codeAny_call_builtin (R:=wants (fun r s2=>r=.none∧∃ h' tk,s2={ s with heap:=h',toks:=tk }∧yE h' s.heap.objs.size (Ya w) (bitsTo val items.size)∧∀ b o,s.heap.get? b=some o→h'.get? b=some o) E) F.called_set.init.plain F.entry_set_init (check_set_init_1 hT ?_)) fun r2 s2 hr2=>?_
      · have hll:l < s.heap.objs.size:=by obtain ⟨o,ho,_⟩:=hl;exact Heap.lt_size ho
        refine zbq (by simp [hh]) hS (hl.push _) (Nat.ne_of_lt hll) h8 hval fun h' tk S k=>⟨rfl,h',tk,rfl,S,fun b o e=>k b o (Nat.ne_of_lt (Heap.lt_size e)) ?_ (Heap.get?_push_of_some _ e)⟩
        rw [Heap.size_push]
        exact Nat.lt_succ_of_lt (Heap.lt_size e)
      · cases r2 with
        | error e=>exact hr2
        | ok fl2 =>
          cases fl2 with
          | ret r =>
            obtain ⟨rfl,h',tk,rfl,S,k⟩:=hr2
            repeat (any_goals (first | assumption | wp_step))
            exact h _ _ S k
          | _=>exact hr2.elim
    | _=>exact hr.elim
end
end OwnSet
namespace OwnSet
open PySem
theorem zc2:Manifest.owners.lookup (String.ofList ['r','o','t','a','r','e','t','i','_','t','e','s'].reverse)=some Manifest.sig_set_iterator:=by kernel_rfl
theorem Xp:Slot "set_iterator" "__next__" "set_iterator.__next__" :=
  .of (owner:="set_iterator") (n:="__next__") (by rw [typeLookup_type,builtinLookup_eq_fast];kernel_rfl) (by decide +kernel) (by decide +kernel) (by decide +kernel)
    (by first | exact .inl (by decide +kernel) | exact .inr (by decide +kernel)) (by rw [isSubtype_type];kernel_rfl)
theorem zep:Slot "set_iterator" "__iter__" "set_iterator.__iter__" :=
  .of (owner:="set_iterator") (n:="__iter__") (by rw [typeLookup_type,builtinLookup_eq_fast];kernel_rfl) (by decide +kernel) (by decide +kernel) (by decide +kernel)
    (by first | exact .inl (by decide +kernel) | exact .inr (by decide +kernel)) (by rw [isSubtype_type];kernel_rfl)
theorem Xa:entryFor table "set_iterator.__next__"=some Builtin.«set_iterator.__next__»:=entryFor_of_tree (by kernel_rfl)
theorem zaj:entryFor table "set_iterator.__iter__"=some Builtin.«dict_keyiterator.__iter__» :=
  entryFor_alias (id':="dict_keyiterator.__iter__") (by kernel_rfl) (by first | rfl | decide +kernel | (unfold String.splitOn;simp +decide [String.splitOnAux])) (by decide +kernel) (by kernel_rfl)
theorem Vm:entryFor table "set.__iter__"=some Builtin.«frozenset.__iter__» :=
  entryFor_alias (id':="frozenset.__iter__") (by kernel_rfl) (by first | rfl | decide +kernel | (unfold String.splitOn;simp +decide [String.splitOnAux])) (by decide +kernel) (by kernel_rfl)
theorem XR (a:Value):argsOk "set_iterator.__next__" ⟨[a],[]⟩:=by
  unfold argsOk;rw [signature?_of (id:="set_iterator.__next__") (n:=['_','_','t','x','e','n','_','_']) (o:=['r','o','t','a','r','e','t','i','_','t','e','s']) (by kernel_rfl) zc2];kernel_rfl
theorem zbz (a:Value):argsOk "set_iterator.__iter__" ⟨[a],[]⟩:=by
  unfold argsOk;rw [signature?_of (id:="set_iterator.__iter__") (n:=['_','_','r','e','t','i','_','_']) (o:=['r','o','t','a','r','e','t','i','_','t','e','s']) (by kernel_rfl) zc2];kernel_rfl
def xG (h:Heap) (a:Addr) (led:Bool) (m ep:Nat) (tk:Nat→Tok):Prop:=h.get? a=some { cls:=.type "set",dict:=none,data:=.set (Yc (ksOf m) tk) ep (tabOf led (ksOf m)),slots:=#[] }
abbrev XD (h:Heap) (I a:Addr) (slot i n ep:Nat):Prop:=h.get? I=some { cls:=.type "set_iterator",dict:=none,data:=.fields #[rawInt (slot:Int),rawInt (i:Int),.ref a,rawInt (n:Int),rawInt (ep:Int)],slots:=#[] }
theorem VG (c:Bool):¬ ((!true&&c)=true):=by cases c <;> decide
theorem zfH (b c:Bool):¬ ((!b&&(!true&&c))=true):=by cases b <;> cases c <;> decide
section
variable {prog:Program}{w:World}{A:Around}{E:Value→Shared→Prop}{s:Shared}
theorem yC {a:Addr}{m ep:Nat}{led:Bool}{tk:Nat→Tok}{Q:(Array (Int × Value) × Nat × SetTable)→Shared→Prop}(hm:m < 256)(hS:xG s.heap a led m ep tk)(h:Q (Yc (ksOf m) tk,ep,tabOf led (ksOf m)) s):wpAny (model prog w) A (setState a) Q E s:=by
  have fz:=Zc ⟨m,hm⟩ led
  simp only at fz
  exact wpAny_setState_of hS rfl (by rw [yy];exact fz) h
theorem zbO {a:Addr}{m ep:Nat}{led:Bool}{tk:Nat→Tok}{Q:Value→Shared→Prop}(hm:m < 256)(hS:xG s.heap a led m ep tk)
    (h:Q (.ref s.heap.objs.size) { s with heap:=s.heap.push { cls:=.type "set_iterator",data:=.fields #[rawInt ((0:Nat):Int),rawInt ((0:Nat):Int),.ref a,rawInt ((ksOf m).length:Int),rawInt (ep:Int)] } }) :
    wpAny (model prog w) A (pyIter (.ref a)) Q E s:=by
  have hT:s.TypeIs (.ref a) "set":=⟨_,hS,rfl⟩
  refine wpAny_pyIter_slot hT F.slot_set_iter (wpAny_call_entry F.slot_set_iter hT Vm ?_ (F.args_set_iter_1 _))
  unfold Builtin.«frozenset.__iter__»
  refine wpAny_bind (wpAny_of_eq (a:=a) rfl ?_)
  unfold Builtin.Frozenset.sizeOf setEntries
  refine wpAny_bind (wpAny_bind (wpAny_bind (yC hm hS (wpAny_pure (wpAny_pure ?_)))))
  unfold setDrawn
  refine wpAny_bind (wpAny_bind (yC hm hS ?_))
  dsimp only
  unfold setsByText
  refine wpAny_bind (wpAny_bind (wpAny_askSetting (wpAny_pure ?_)))
  refine wpAny_pure ?_
  dsimp only
  split
  · rename_i hd
    exact absurd hd (zfH _ _)
  · refine wpAny_bind (wpAny_pure ?_)
    unfold setEpoch
    refine wpAny_bind (wpAny_bind (yC hm hS (wpAny_pure ?_)))
    dsimp only
    rw [yy]
    refine wpAny_bind (wpAny_newObj_type (wpAny_pure ⟨_,rfl,"set_iterator",_,⟨_,Heap.get?_push_size _ rfl,rfl⟩,Xp.lookup,?_⟩))
    exact h
def Yr (w:World) (a:Addr) (m ep:Nat) (tk:Nat→Tok):Array (Int × Value):=if w.params.followText "set-order"=true then pickOrder (w.params.setOrder a ep) (Yc (ksOf m) tk) else Yc (ksOf m) tk
def slotAt (w:World) (m i:Nat):Nat:=if w.params.followText "set-order"=true then 0 else if i=0 then 0 else (ksOf m).getD (i - 1) 0+1
theorem zb4 {a:Addr}{m ep i:Nat}{tk:Nat→Tok}{e:Int × Value}{Q:Option (Value × Nat)→Shared→Prop}(hm:m < 256)(hS:xG s.heap a (Ya w) m ep tk)(hi:i < (ksOf m).length)(he:(Yr w a m ep tk)[i]?=some e)
    (h:Q (some (e.2,slotAt w m (i+1))) s):wpAny (model prog w) A (setNext a (slotAt w m i) i ep) Q E s:=by
  unfold setNext
  refine wpAny_bind (yC hm hS ?_)
  dsimp only
  unfold setsByText
  refine wpAny_bind (wpAny_bind (wpAny_askSetting (wpAny_pure ?_)))
  dsimp only
  unfold Yr at he
  unfold slotAt at h ⊢
  by_cases bt:w.params.followText "set-order"=true
  · have bt':(model prog w).w.params.followText "set-order"=true:=bt
    rw [if_pos bt] at he h ⊢
    rw [if_pos bt']
    rw [if_neg (by simp)]
    unfold setWalk
    refine wpAny_bind (wpAny_bind (yC hm hS ?_))
    dsimp only
    unfold setsByText
    refine wpAny_bind (wpAny_bind (wpAny_askSetting (wpAny_pure ?_)))
    dsimp only
    rw [if_pos bt']
    refine wpAny_bind (wpAny_askSetting (wpAny_pure ?_))
    refine wpAny_pure ?_
    show Q (((pickOrder (w.params.setOrder a ep) (Yc (ksOf m) tk))[i]?).map fun e=>(e.2,0)) s
    rw [he]
    exact h
  · have bt':¬ (model prog w).w.params.followText "set-order"=true:=bt
    rw [if_neg bt] at he h ⊢
    rw [if_neg bt']
    have hb:=W6 ⟨m,hm⟩ ⟨i,Nat.lt_of_lt_of_le hi (Nat.le_trans (len_small ⟨m,hm⟩) (by decide))⟩ (Nat.le_of_lt hi)
    simp only at hb
    have hl:Ya w=true:=by unfold Ya;rw [Bool.eq_false_iff.mpr bt];rfl
    rw [hl]
    split
    · rename_i hd
      exact absurd hd (VG _)
    · refine wpAny_bind (wpAny_of_eq (a:=()) rfl ?_)
      refine wpAny_pure ?_
      show Q (match (Yc (ksOf m) tk)[SetTable.below (ksOf m).toArray (if i=0 then 0 else (ksOf m).getD (i - 1) 0+1)]?,(ksOf m).toArray[SetTable.below (ksOf m).toArray (if i=0 then 0 else (ksOf m).getD (i - 1) 0+1)]? with | some (_,x),some j=>some (x,j+1) | _,_=>none) s
      rw [hb,he,show (ksOf m).toArray[i]?=some ((ksOf m).getD i 0) by simp [hi]]
      rw [if_neg (Nat.succ_ne_zero i)] at h
      exact h
end
end OwnSet
namespace OwnSet
open PySem
theorem VQ {α:Type}:∀ (l:List α) (i:Nat) (h:i < l.length),(l[i]::l.eraseIdx i).Perm l
  | x::l,0,_=>List.Perm.refl _
  | x::l,i+1,h=>(List.Perm.swap x (l[i]'(Nat.lt_of_succ_lt_succ h)) (l.eraseIdx i)).trans (List.Perm.cons x (VQ l i (Nat.lt_of_succ_lt_succ h)))
theorem zju {α:Type}(next:Nat→Nat):∀ (fuel k:Nat) (left:List α) (out:Array α),left.length=fuel→(pickOrder.go next fuel k left out).toList.Perm (out.toList++left):=by
  intro fuel
  induction fuel with
  | zero =>
    intro k left out h
    rw [List.length_eq_zero_iff.mp h,List.append_nil]
    exact List.Perm.refl _
  | succ f ih =>
    intro k left out h
    have hlt:next k % left.length < left.length:=Nat.mod_lt _ (by rw [h];exact Nat.succ_pos f)
    unfold pickOrder.go
    rw [List.getElem?_eq_getElem hlt]
    dsimp only
    refine (ih (k+1) _ _ (by rw [List.length_eraseIdx_of_lt hlt,h];rfl)).trans ?_
    rw [Array.toList_push,List.append_assoc]
    exact List.Perm.append_left _ (VQ _ _ hlt)
theorem zfY {α:Type}(next:Nat→Nat)(xs:Array α):(pickOrder next xs).toList.Perm xs.toList:=by
  unfold pickOrder
  exact zju next xs.size 0 xs.toList #[] (by rw [Array.length_toList])
theorem zaG (w:World)(a:Addr)(m ep:Nat)(tk:Nat→Tok):(Yr w a m ep tk).toList.Perm (Yc (ksOf m) tk).toList:=by
  unfold Yr
  split
  · exact zfY _ _
  · exact List.Perm.refl _
theorem Wj (w:World)(a:Addr)(m ep:Nat)(tk:Nat→Tok):(Yr w a m ep tk).size=(ksOf m).length:=by
  rw [←Array.length_toList,(zaG w a m ep tk).length_eq,Array.length_toList,yy]
section
variable {prog:Program}{w:World}{A:Around}{E:Value→Shared→Prop}{s:Shared}
theorem W0 {a:Addr}{m ep:Nat}{tk:Nat→Tok}{Q:Option (Value × Nat)→Shared→Prop}(hm:m < 256)(hS:xG s.heap a (Ya w) m ep tk)(h:Q none s):wpAny (model prog w) A (setNext a (slotAt w m (ksOf m).length) (ksOf m).length ep) Q E s:=by
  have he:(Yr w a m ep tk)[(ksOf m).length]?=none:=Array.getElem?_eq_none (by rw [Wj];exact Nat.le_refl _)
  unfold setNext
  refine wpAny_bind (yC hm hS ?_)
  dsimp only
  unfold setsByText
  refine wpAny_bind (wpAny_bind (wpAny_askSetting (wpAny_pure ?_)))
  dsimp only
  unfold Yr at he
  unfold slotAt
  by_cases bt:w.params.followText "set-order"=true
  · have bt':(model prog w).w.params.followText "set-order"=true:=bt
    rw [if_pos bt] at he ⊢
    rw [if_pos bt',if_neg (by simp)]
    unfold setWalk
    refine wpAny_bind (wpAny_bind (yC hm hS ?_))
    dsimp only
    unfold setsByText
    refine wpAny_bind (wpAny_bind (wpAny_askSetting (wpAny_pure ?_)))
    dsimp only
    rw [if_pos bt']
    refine wpAny_bind (wpAny_askSetting (wpAny_pure ?_))
    refine wpAny_pure ?_
    show Q (((pickOrder (w.params.setOrder a ep) (Yc (ksOf m) tk))[(ksOf m).length]?).map fun e=>(e.2,0)) s
    rw [he]
    exact h
  · have bt':¬ (model prog w).w.params.followText "set-order"=true:=bt
    rw [if_neg bt] at he ⊢
    rw [if_neg bt']
    have hb:=W6 ⟨m,hm⟩ ⟨(ksOf m).length,Nat.lt_of_le_of_lt (len_small ⟨m,hm⟩) (by decide)⟩ (Nat.le_refl _)
    simp only at hb
    have hl:Ya w=true:=by unfold Ya;rw [Bool.eq_false_iff.mpr bt];rfl
    rw [hl]
    split
    · rename_i hd
      exact absurd hd (VG _)
    · refine wpAny_bind (wpAny_of_eq (a:=()) rfl ?_)
      refine wpAny_pure ?_
      show Q (match (Yc (ksOf m) tk)[SetTable.below (ksOf m).toArray (if (ksOf m).length=0 then 0 else (ksOf m).getD ((ksOf m).length - 1) 0+1)]?,(ksOf m).toArray[SetTable.below (ksOf m).toArray (if (ksOf m).length=0 then 0 else (ksOf m).getD ((ksOf m).length - 1) 0+1)]? with | some (_,x),some j=>some (x,j+1) | _,_=>none) s
      rw [hb,he]
      exact h
theorem zbT {I a:Addr}{slot i n ep:Nat}{Q:Value→Shared→Prop}(he:XD s.heap I a slot i n ep)(h:Q (.ref I) s):wpAny (model prog w) A (pyIter (.ref I)) Q E s:=by
  have hT:s.TypeIs (.ref I) "set_iterator":=⟨_,he,rfl⟩
  refine wpAny_pyIter_slot hT zep (wpAny_call_entry zep hT zaj ?_ (zbz _))
  show wpAny _ _ (ret (.ref I)) _ _ s
  exact wpAny_pure ⟨_,rfl,"set_iterator",_,hT,Xp.lookup,h⟩
theorem zcB {I a:Addr}{m ep i:Nat}{tk:Nat→Tok}{e:Int × Value}{Q:Option Value→Shared→Prop}(hm:m < 256)(hI:XD s.heap I a (slotAt w m i) i (ksOf m).length ep)(hS:xG s.heap a (Ya w) m ep tk)(hi:i < (ksOf m).length)(he:(Yr w a m ep tk)[i]?=some e)
    (hQ:∀ h',XD h' I a (slotAt w m (i+1)) (i+1) (ksOf m).length ep→Heap.SameBut I s.heap h'→Q (some e.2) { s with heap:=h' }):wpAny (model prog w) A (pyNext (.ref I)) Q E s:=by
  have hT:s.TypeIs (.ref I) "set_iterator":=⟨_,hI,rfl⟩
  unfold pyNext
  refine wpAny_bind (wpAny_attempt (wpAny_callSpecial?_slot (name:=Str.ofString "__next__") hT Xp (wpAny_call_entry Xp hT Xa ?_ (XR _))))
  unfold Builtin.«set_iterator.__next__»
  refine wpAny_bind (wpAny_of_eq (a:=(Value.ref I,[])) rfl ?_)
  try dsimp only
  refine wpAny_bind (wpAny_fieldsOf hI rfl ?_)
  show wpAny _ _ (setEntries a>>=_) _ _ s
  unfold setEntries
  refine wpAny_bind (wpAny_bind (yC hm hS (wpAny_pure ?_)))
  dsimp only
  rw [yy,if_neg (by simp)]
  show wpAny _ _ (setNext a ((slotAt w m i:Int)).toNat ((i:Int)).toNat ((ep:Int)).toNat>>=_) _ _ s
  rw [Int.toNat_natCast,Int.toNat_natCast,Int.toNat_natCast]
  refine wpAny_bind (zb4 hm hS hi he ?_)
  dsimp only
  refine wpAny_bind (wpAny_setField_rec hI (by simp) fun h1 he1 hs1=>?_)
  refine wpAny_bind (wpAny_setField_rec he1 (by simp) fun h2 he2 hs2=>?_)
  exact wpAny_pure ⟨_,rfl,wpAny_pure (hQ h2 he2 (hs1.trans hs2))⟩
end
end OwnSet
namespace OwnSet
open PySem
section
variable {prog:Program}{w:World}{A:Around}{E:Value→Shared→Prop}{s:Shared}
theorem zdl {I a:Addr}{m ep:Nat}{tk:Nat→Tok}{Q:Option Value→Shared→Prop}(hh:A.handled=none)(hm:m < 256)(hI:XD s.heap I a (slotAt w m (ksOf m).length) (ksOf m).length (ksOf m).length ep)(hS:xG s.heap a (Ya w) m ep tk)
    (hQ:∀ h',Heap.ExtBut I s.heap h'→Q none { s with heap:=h' }):wpAny (model prog w) A (pyNext (.ref I)) Q E s:=by
  have hT:s.TypeIs (.ref I) "set_iterator":=⟨_,hI,rfl⟩
  unfold pyNext
  refine wpAny_bind (wpAny_attempt (wpAny_callSpecial?_slot (name:=Str.ofString "__next__") hT Xp (wpAny_call_entry Xp hT Xa ?_ (XR _))))
  unfold Builtin.«set_iterator.__next__»
  refine wpAny_bind (wpAny_of_eq (a:=(Value.ref I,[])) rfl ?_)
  try dsimp only
  refine wpAny_bind (wpAny_fieldsOf hI rfl ?_)
  show wpAny _ _ (setEntries a>>=_) _ _ s
  unfold setEntries
  refine wpAny_bind (wpAny_bind (yC hm hS (wpAny_pure ?_)))
  dsimp only
  rw [yy,if_neg (by simp)]
  show wpAny _ _ (setNext a ((slotAt w m (ksOf m).length:Int)).toNat (((ksOf m).length:Int)).toNat ((ep:Int)).toNat>>=_) _ _ s
  rw [Int.toNat_natCast,Int.toNat_natCast,Int.toNat_natCast]
  refine wpAny_bind (W0 hm hS ?_)
  dsimp only
  refine wpAny_bind (wpAny_setField_rec hI (by simp) fun h1 he1 hs1=>?_)
  refine wpAny_bind ?_
  simp only [newExc,newTuple]
  refine wpAny_bind (wpAny_newObj_type ?_ (by size_fits))
  refine wpAny_bind (m:=firstArgMember _ _) (wpAny_of_eq (a:=Value.none) (by first | rfl | (simp only [firstArgMember];rfl)) ?_)
  refine wpAny_newObj_type ?_ (by size_fits)
  simp only [raiseNew]
  refine wpAny_bind (wpAny_handled ?_)
  first | rw [show A.in1.handled=none from hh] | rw [hh]
  refine wpAny_bind (wpAny_pure (wpAny_throw ?_))
  refine wpAny_bind (wpAny_isInstance (T:="StopIteration") (b:=true) ⟨_,Heap.get?_push_size _ rfl,rfl⟩ isSubtype_stop ?_)
  exact wpAny_pure (hQ _ ((hs1.extBut.push _).push _))
theorem xG.at {h h':Heap}{a:Addr}{led:Bool}{m ep:Nat}{tk:Nat→Tok}(x:xG h a led m ep tk)(k:∀ o,h.get? a=some o→h'.get? a=some o):xG h' a led m ep tk:=k _ x
theorem zbh (hh:A.handled=none)(I a:Addr)(hne:a≠I){m ep:Nat}{tk:Nat→Tok}(hm:m < 256) :
    Walks prog w A I [I,a] [I] (ksOf m).length (fun i v=>∃ e,(Yr w a m ep tk)[i]?=some e∧v=e.2) (fun i h=>i≤(ksOf m).length∧XD h I a (slotAt w m i) i (ksOf m).length ep∧xG h a (Ya w) m ep tk) where
  sub:=fun b hb=>by simp at hb;simp [hb]
  frame:=fun _ _ _ x hk=>by
    obtain ⟨h1,h2,h3⟩:=x
    exact ⟨h1,hk I (by simp) _ h2,h3.at fun o e=>hk a (by simp) o e⟩
  item:=fun i s Q E hi x hQ=>by
    obtain ⟨h1,h2,h3⟩:=x
    have hx:(Yr w a m ep tk)[i]?=some ((Yr w a m ep tk)[i]'(by rw [Wj];exact hi)):=Array.getElem?_eq_getElem _
    refine zcB hm h2 h3 hi hx fun h' he' hs'=>?_
    exact hQ _ h' s.toks ⟨_,hx,rfl⟩ ⟨hi,he',h3.at fun o e=>(hs'.2 a hne).trans e⟩ fun b o hb eo=>hs'.extBut b o (fun h=>hb (by simp [h])) eo
  done:=fun s Q E x hQ=>by
    obtain ⟨h1,h2,h3⟩:=x
    exact zdl hh hm h2 h3 fun h' he'=>hQ h' s.toks fun b o hb eo=>he' b o (fun h=>hb (by simp [h])) eo
  self:=fun _ _ _ _ x hQ=>zbT x.2.1 hQ
theorem zbF {a:Addr}{m ep:Nat}{led:Bool}{tk:Nat→Tok}{Q:Bool→Shared→Prop}(hS:xG s.heap a led m ep tk)(hQ:Q false s):wpAny (model prog w) A (Builtin.List.listLengthHint (.ref a)) Q E s:=by
  have hT:s.TypeIs (.ref a) "set":=⟨_,hS,rfl⟩
  unfold Builtin.List.listLengthHint
  refine wpAny_bind (wpAny_specialOf hT F.slot_set_len.lookup ?_)
  try dsimp only
  have hsp:splitId "set.__len__"=some ("set","__len__"):=by decide +kernel
  rw [hsp]
  try dsimp only
  refine wpAny_bind (wpAny_isInstance (T:="set") (b:=true) hT sub_set_self ?_)
  rw [if_neg (by decide)]
  show wpAny _ _ (if true=true then _ else _) _ _ _
  rw [if_pos rfl]
  refine wpAny_bind (wpAny_typeOf hT ?_)
  dsimp only
  exact wpAny_pure hQ
end
end OwnSet
namespace OwnSet
open PySem
section
variable {prog:Program}{w:World}{A:Around}{E:Value→Shared→Prop}{s:Shared}
theorem Wr {a:Addr}{m ep:Nat}{tk:Nat→Tok}{Q:List Value→Shared→Prop}(hh:A.handled=none)(hm:m < 256)(hS:xG s.heap a (Ya w) m ep tk)
    (hQ:∀ s',(∀ b o,s.heap.get? b=some o→s'.heap.get? b=some o)→s'.gens=s.gens→s'.drawn=s.drawn→s'.os=s.os→Q ((Yr w a m ep tk).toList.map (·.2)) s'):wpAny (model prog w) A (collect (.ref a)) Q E s:=by
  have hlt:a < s.heap.objs.size:=Heap.lt_size hS
  have hSa:s.heap.objs.size≠a:=Nat.ne_of_gt hlt
  have h8:(ksOf m).length≤sizeLine:=Nat.le_trans (len_small ⟨m,hm⟩) (by rw [sizeLine_eq];decide)
  unfold collect
  refine wpAny_bind (wpAny_runValue (codeAny_builtin F.entry_proto_collect ?_))
  rw [Around.under_plainId F.plain_proto_collect _]
  show wpAny _ A.in1 (newList []>>=fun l=>again (.builtin "list.__iadd__" ⟨[l,.ref a],[]⟩)) _ _ s
  refine wpAny_bind (wpAny_newObj_type ?_)
  refine wpAny_pure ⟨plainId_quiet F.plain_list_iadd _,codeAny_builtin F.entry_list_iadd ?_⟩
  rw [Around.under_plainId F.plain_list_iadd _]
  have hS1:xG (s.heap.push { cls:=.type "list",data:=.seq ([]:List Value).toArray }) a (Ya w) m ep tk:=Heap.get?_push_of_some _ hS
  have hL1:(s.heap.push { cls:=.type "list",data:=.seq ([]:List Value).toArray }).get? s.heap.objs.size=some { cls:=.type "list",data:=.seq ([]:List Value).toArray }:=Heap.get?_push_size _ rfl
  generalize hh1:s.heap.push { cls:=.type "list",data:=.seq ([]:List Value).toArray }=h1 at hS1 hL1 ⊢
  have k1:∀ b o,s.heap.get? b=some o→h1.get? b=some o:=fun b o e=>by rw [←hh1];exact Heap.get?_push_of_some _ e
  have hz1:h1.objs.size=s.heap.objs.size+1:=by rw [←hh1];exact Heap.size_push ..
  show wpAny _ A.in1 (Builtin.List.listExtendWith (.ref s.heap.objs.size) (.ref a) (.ref s.heap.objs.size)) _ _ _
  unfold Builtin.List.listExtendWith
  refine wpAny_bind (wpAny_typeOf (T:="set") ⟨_,hS1,rfl⟩ ?_)
  have g1:Builtin.List.listSameRef (.ref s.heap.objs.size) (.ref a)=false:=by simp [Builtin.List.listSameRef,hSa]
  have g2:(Value.type "set" == Value.type "list")=false:=by decide
  have g3:(Value.type "set" == Value.type "tuple")=false:=by decide
  simp only [g1,g2,g3,Bool.or_false,Bool.false_eq_true,if_false]
  refine wpAny_bind (zbO hm hS1 ?_)
  have hI2:XD (h1.push { cls:=.type "set_iterator",data:=.fields #[rawInt ((0:Nat):Int),rawInt ((0:Nat):Int),.ref a,rawInt ((ksOf m).length:Int),rawInt (ep:Int)] }) h1.objs.size a 0 0 (ksOf m).length ep:=Heap.get?_push_size _ rfl
  have hS2:xG (h1.push { cls:=.type "set_iterator",data:=.fields #[rawInt ((0:Nat):Int),rawInt ((0:Nat):Int),.ref a,rawInt ((ksOf m).length:Int),rawInt (ep:Int)] }) a (Ya w) m ep tk:=Heap.get?_push_of_some _ hS1
  have hL2:=Heap.get?_push_of_some { cls:=.type "set_iterator",data:=.fields #[rawInt ((0:Nat):Int),rawInt ((0:Nat):Int),.ref a,rawInt ((ksOf m).length:Int),rawInt (ep:Int)] } hL1
  generalize hh2:h1.push { cls:=.type "set_iterator",data:=.fields #[rawInt ((0:Nat):Int),rawInt ((0:Nat):Int),.ref a,rawInt ((ksOf m).length:Int),rawInt (ep:Int)] }=h2 at hI2 hS2 hL2 ⊢
  have k2:∀ b o,h1.get? b=some o→h2.get? b=some o:=fun b o e=>by rw [←hh2];exact Heap.get?_push_of_some _ e
  refine wpAny_bind (wpAny_holding (zbF hS2 ?_))
  show wpAny _ A.in1 (if true=true then _ else _) _ _ _
  rw [if_pos rfl]
  refine wpAny_bind (wpAny_rule (wpAny_bind ?_))
  show wpAny _ A.in1 (updateSeq s.heap.objs.size (·.push .none)>>=fun _=>updateSeq s.heap.objs.size (·.pop)) _ _ _
  refine wpAny_bind (wpAny_updateSeq hL2 rfl ?_)
  have hL3:=Heap.get?_update_self (Obj.mapSeq (·.push Value.none)) hL2 rfl
  refine wpAny_updateSeq (hz:=by seq_fits) hL3 rfl ?_
  have hL4:=Heap.get?_update_self (Obj.mapSeq (·.pop)) hL3 rfl
  have oth:∀ b o,b≠s.heap.objs.size→h2.get? b=some o→((h2.update s.heap.objs.size (Obj.mapSeq (·.push Value.none))).update s.heap.objs.size (Obj.mapSeq (·.pop))).get? b=some o :=
    fun b o hb e=>(Heap.get?_update_other _ _ (Ne.symm hb)).trans ((Heap.get?_update_other _ _ (Ne.symm hb)).trans e)
  have hIne:h1.objs.size≠s.heap.objs.size:=by rw [hz1];exact Nat.succ_ne_self _
  have hIa:a≠h1.objs.size:=by rw [hz1];exact Nat.ne_of_lt (Nat.lt_succ_of_lt hlt)
  have W:=zbh (prog:=prog) (w:=w) (A:=A.in1) (ep:=ep) (tk:=tk) hh h1.objs.size a hIa hm
  have hsl:slotAt w m 0=0:=by unfold slotAt;split <;> rfl
  refine wpAny_pure ⟨plainId_quiet F.plain_extend_loop _,codeAny_extend_loopS W.toS h8 _ (fun hmem=>?_) _ (ksOf m).length 0 _ #[] _ rfl (Nat.zero_le _) ⟨Nat.zero_le _,by rw [hsl];exact oth _ _ hIne hI2,hS2.at fun o e=>oth _ _ (Ne.symm hSa) e⟩ hL4 (ItemsOf.nil _) fun s' acc' c' hmv hS' hacc=>?_⟩
  · rcases List.mem_cons.mp hmem with e | e
    · exact hIne e.symm
    · exact hSa (List.mem_singleton.mp e)
  · show wpAny _ A (load s.heap.objs.size>>=_) _ _ s'
    refine wpAny_bind (wpAny_load hS' ?_)
    refine wpAny_pure ?_
    have e1:acc'.toList=(Yr w a m ep tk).toList.map (·.2):=by
      apply List.ext_getElem?
      intro i
      by_cases hi:i < (ksOf m).length
      · have q1:acc'[i]?=some (acc'[i]'(by rw [hacc.1];exact hi)):=Array.getElem?_eq_getElem _
        obtain ⟨e,q2,q3⟩:=hacc.2 i _ q1
        rw [List.getElem?_map,Array.getElem?_toList,Array.getElem?_toList,q1,q2,q3]
        rfl
      · rw [List.getElem?_eq_none (by rw [Array.length_toList,hacc.1];exact Nat.le_of_not_lt hi),List.getElem?_eq_none (by rw [List.length_map,Array.length_toList,Wj];exact Nat.le_of_not_lt hi)]
    rw [e1]
    refine hQ s' (fun b o e=>hmv.heap b o (fun hmem=>?_) (oth b o (Nat.ne_of_lt (Heap.lt_size e)) (k2 b o (k1 b o e)))) hmv.gens hmv.drawn hmv.os
    rcases List.mem_cons.mp hmem with z | z
    · exact Nat.ne_of_lt (Heap.lt_size e) z
    · have:=Heap.lt_size e
      rw [List.mem_singleton.mp z,hz1] at this
      exact absurd (Nat.lt_of_succ_lt this) (Nat.lt_irrefl _)
end
end OwnSet
namespace OwnSet
open PySem PyProof.Rows
theorem Z9:∀ (l:List (Int × Value)),(∀ e∈l,∃ t,e.2=.int e.1 t)→PyProof.Rows.IntsAre (l.map (·.2)) (l.map (·.1))
  | [],_=>.nil
  | e::l,h=>by
    obtain ⟨t,et⟩:=h e List.mem_cons_self
    rw [List.map_cons,List.map_cons,et]
    exact .cons _ t (Z9 l fun x hx=>h x (List.mem_cons_of_mem _ hx))
theorem zfk (m:Nat):((ksOf m).map fun i:Nat=>(i:Int)).Pairwise (·≤·):=by
  rw [List.pairwise_map]
  exact ((List.pairwise_lt_range (n:=8)).filter _).imp fun h=>Int.ofNat_le.mpr (Nat.le_of_lt h)
theorem zgO (w:World)(a:Addr)(m ep:Nat)(tk:Nat→Tok):PyProof.Rows.IntsAre ((Yr w a m ep tk).toList.map (·.2)) ((Yr w a m ep tk).toList.map (·.1))∧((Yr w a m ep tk).toList.map (·.1)).Perm ((ksOf m).map fun i:Nat=>(i:Int)):=by
  constructor
  · refine Z9 _ fun e he=>?_
    have:=(zaG w a m ep tk).mem_iff.mp he
    unfold Yc esL at this
    obtain ⟨k,_,rfl⟩:=List.mem_map.mp this
    exact ⟨_,rfl⟩
  · have:=(zaG w a m ep tk).map (·.1)
    unfold Yc esL at this
    rw [List.map_map] at this
    exact this
section
variable {prog:Program}{w:World}{A:Around}{E:Value→Shared→Prop}{s:Shared}
theorem own_sorted_set {a:Addr}{m ep:Nat}{tk:Nat→Tok}{Q:Value→Shared→Prop}(hh:A.handled=none)(hm:m < 256)(hS:xG s.heap a (Ya w) m ep tk)
    (h:∀ (h1 h':Heap) (tk':Nat) (out:Array Value) (c:Nat),IntsAre out.toList ((ksOf m).map fun i:Nat=>(i:Int))→(∀ b o,s.heap.get? b=some o→h1.get? b=some o)→(∀ b o,h1.get? b=some o→h'.get? b=some o) →
      h'.get? h1.objs.size=some { cls:=.type "list",dict:=none,data:=.seq out c,slots:=#[] }→Q (.ref h1.objs.size) { s with heap:=h',toks:=tk' }) :
    wpAny (model prog w) A (call (.builtin "sorted") [.ref a]) Q E s:=by
  refine Calls.call_function_entry PyProof.Rows.kind_sorted PyProof.Rows.plain_sorted PyProof.Rows.entry_sorted (PyProof.Rows.args_sorted1 _) ?_
  unfold Builtin.«sorted»
  refine wpAny_bind (m:=checkCount "sorted" 1 1 _) (wpAny_pure ?_)
  refine wpAny_bind (Wr hh hm hS fun s' k g1 g2 g3=>?_)
  obtain ⟨h1,g',d',tk1,os'⟩:=s'
  have e1:g'=s.gens:=g1
  have e2:d'=s.drawn:=g2
  have e3:os'=s.os:=g3
  subst e1 e2 e3
  obtain ⟨hI,hp⟩:=zgO w a m ep tk
  have h64:((Yr w a m ep tk).toList.map (·.2)).length < 64:=by
    rw [List.length_map,Array.length_toList,Wj]
    exact Nat.lt_of_le_of_lt (len_small ⟨m,hm⟩) (by decide)
  generalize (Yr w a m ep tk).toList.map (·.2)=vs at *
  generalize (Yr w a m ep tk).toList.map (·.1)=ns at *
  refine wpAny_bind (wpAny_newList ?_)
  have hoL:(h1.push (PyProof.Rows.seqObj "list" vs.toArray 0)).get? h1.objs.size=some (PyProof.Rows.seqObj "list" vs.toArray 0):=Heap.get?_push_size _ rfl
  refine wpAny_bind (wpAny_holding (wpAny_call_entry PyProof.Rows.slot_list_sort ⟨_,hoL,rfl⟩ PyProof.Rows.entry_list_sort (PyProof.Rows.list_sort_tree hoL hI h64 fun out ns' a1 a2 a3=>⟨_,rfl,?_⟩) (PyProof.Rows.args_list_sort _)))
  have es:ns'=(ksOf m).map fun i:Nat=>(i:Int):=PySem.W.ksm_same (a2.trans hp) a3 (zfk m)
  subst es
  have hlt:h1.objs.size < (h1.push (PyProof.Rows.seqObj "list" vs.toArray 0)).objs.size:=Heap.lt_size hoL
  have hn:∀ b o,b≠h1.objs.size→(h1.push (PyProof.Rows.seqObj "list" vs.toArray 0)).get? b=some o→(PyProof.Rows.sortedHeap (h1.push (PyProof.Rows.seqObj "list" vs.toArray 0)) h1.objs.size vs out).get? b=some o:=fun b o hb e=>by
    unfold PyProof.Rows.sortedHeap
    exact (Heap.get?_update_other _ _ (Ne.symm hb)).trans (Heap.get?_push_of_some _ (Heap.get?_push_of_some _ ((Heap.get?_update_other _ _ (Ne.symm hb)).trans e)))
  have hL:∃ c,(PyProof.Rows.sortedHeap (h1.push (PyProof.Rows.seqObj "list" vs.toArray 0)) h1.objs.size vs out).get? h1.objs.size=some { cls:=.type "list",dict:=none,data:=.seq out c,slots:=#[] }:=by
    unfold PyProof.Rows.sortedHeap
    have u1:=Heap.get?_update_self (Obj.mapSeq fun _=>(#[]:Array Value)) hoL rfl
    have u2:=Heap.get?_push_of_some (PyProof.Rows.seqObj "list" #[] 0) (Heap.get?_push_of_some (PyProof.Rows.seqObj "tuple" vs.toArray 0) u1)
    exact ⟨_,Heap.get?_update_self (Obj.mapSeq fun _=>out) u2 rfl⟩
  obtain ⟨c,hL⟩:=hL
  exact wpAny_pure ⟨_,rfl,h h1 _ _ out c a1 k (fun b o e=>hn b o (Nat.ne_of_lt (Heap.lt_size e)) (Heap.get?_push_of_some _ e)) hL⟩
end
end OwnSet
namespace L2
open PySem PySem.Spec PyProof.Rows
def zkl (ks:List Nat):List Nat:=OwnSet.ksOf (OwnSet.bitsTo (fun i=>ks.getD i 0) ks.length)
def tSS (K:PySem.W.Frag)(ta:TE):TE:=fun σ H Q=>ta σ H fun x H1=>∃ a ks,x=.ref a∧SqL K H1 a ((ks.map fun k:Nat=>(k:Int)).map V.int)∧(∀ k∈ks,k < 8)∧∀ l,H1 l=none→Q (.ref l) (upd H1 l (.lst (((zkl ks).map fun k:Nat=>(k:Int)).map V.int)))
theorem zdu {X:Cx} {a:Expr} {ta:TE} {p1 p2 pos1 pos2:Pos} (hc:X.calm=true) (hg1:Gl X "sorted") (hm1:X.mg "sorted"=none) (hb1:bootBuiltins "sorted"=some (.builtin "sorted")) (hg2:Gl X "set") (hm2:X.mg "set"=none) (hb2:bootBuiltins "set"=some (.type "set")) (ha:PE X a ta)
    (hs:starEach [a] X.env=[(false,eval a X.env)]:=by rfl) (hs2:starEach [.Call (.Name "set" p2) [a] [] pos2] X.env=[(false,eval (.Call (.Name "set" p2) [a] [] pos2) X.env)]:=by rfl):PE X (.Call (.Name "sorted" p1) [.Call (.Name "set" p2) [a] [] pos2] [] pos1) (tSS X.K ta):=by
  intro pins s σ H Q I h
  refine Call_ (Z2 I hg1 hm1 hb1 (PyProof.Rows.callWith_builtin1 (Q:=EP X pins σ Q) ?_ hs2 rfl))
  rw [hs2]
  show wpAny _ _ (spliced ((false,eval (.Call (.Name "set" p2) [a] [] pos2) X.env)::[])) _ _ _
  refine Calls.spliced_cons ?_
  refine Call_ (Z2 I hg2 hm2 hb2 (PyProof.Rows.callWith_type1 ?_ hs rfl))
  rw [hs]
  show wpAny _ _ (spliced ((false,eval a X.env)::[])) _ _ _
  refine Calls.spliced_cons (thn (ha pins s σ H _ I h) fun v s1 hh9=>?_)
  obtain ⟨x,H1,I1,r1,q1⟩:=hh9
  obtain ⟨t,ks,rfl,hx,hk,q⟩:=q1
  cases r1
  obtain ⟨its,rv,pt,hz⟩:=I1.list hx
  have hlen:its.toArray.size=ks.length:=by rw [List.size_toArray,← rv.length,List.length_map,List.length_map]
  have h8:∀ i,ks.getD i 0 < 8:=fun i=>by
    by_cases hi:i < ks.length
    · rw [show ks.getD i 0=ks[i] by simp [hi]];exact hk _ (List.getElem_mem hi)
    · rw [show ks.getD i 0=0 by simp [Nat.le_of_not_lt hi]];decide
  have hval:∀ (i:Nat) (v:Value),its.toArray[i]?=some v→∃ t,v=.int ((ks.getD i 0:Nat):Int) t:=fun i v hv=>by
    have hv':its[i]?=some v:=by simpa using hv
    have hi:i < ks.length:=by have:=(List.getElem?_eq_some_iff.mp hv').1;rw [List.size_toArray] at hlen;omega
    obtain ⟨u,hu,ru⟩:=rv.get (i:=i) (x:=V.int ((ks.getD i 0:Nat):Int)) (by simp [hi])
    rw [hv'] at hu
    cases hu
    obtain ⟨t,e⟩:=ru
    exact ⟨t,e⟩
  refine Calls.spliced_nil ?_
  refine OwnSet.own_call_set (I.ok.hd hc) pt.isList h8 hval fun h2 tk2 hS2 k2=>?_
  refine Calls.spliced_nil ?_
  obtain ⟨ep,tk,hS2⟩:=hS2
  refine OwnSet.own_sorted_set (I.ok.hd hc) (OwnSet.bitsTo_lt h8 _) hS2 fun h3 h4 tk4 out c a1 k3 k4 hL=>?_
  have I2:Inv X pins σ H1 { s1 with heap:=h3,toks:=tk4 }:=I1.kept fun b u e=>k3 b u (k2 b u e)
  rw [hlen] at a1
  have rl:=WW a1
  refine ⟨.ref h3.objs.size,_,I2.laid (t':=tk4) (fun b o e=>k4 b o e) (Nat.le_refl _) (show wu X.prog X.w _ h4 _ (.lst (((zkl ks).map fun k:Nat=>(k:Int)).map V.int)) from ⟨?_,out.toList,c,rl,by simpa using hL⟩),rfl,q _ (I2.hok.fresh (Nat.le_refl _))⟩
  rw [List.length_map,List.length_map]
  exact Nat.le_trans (OwnSet.len_small ⟨_,OwnSet.bitsTo_lt h8 ks.length⟩) (by rw [sizeLine_eq];decide)
end L2
namespace Dl
open PySem L2 PySem.Spec PyProof.Rows
variable [KK]{X:Cx}{e:Expr}
def ZN:List D→Option (List Nat)
  | []=>some []
  | .int i::ds=>if 0≤i∧i < 8 then (ZN ds).map (i.toNat::·) else none
  | _=>none
omit [KK] in
theorem zdP:∀ {ds:List D} {ks:List Nat},ZN ds=some ks→ds=(ks.map fun k:Nat=>(k:Int)).map D.int∧∀ k∈ks,k < 8:=by
  intro ds
  induction ds with
  | nil=>intro ks h;cases h;exact ⟨rfl,fun k hk=>by cases hk⟩
  | cons d ds ih =>
    intro ks h
    cases d with
    | int i =>
      unfold ZN at h
      by_cases c:0≤i∧i < 8
      · rw [if_pos c] at h
        obtain ⟨ls,e1,rfl⟩:=Option.map_eq_some_iff.mp h
        obtain ⟨e2,e3⟩:=ih e1
        refine ⟨?_,fun k hk=>?_⟩
        · rw [List.map_cons,List.map_cons,← e2,Int.toNat_of_nonneg c.1]
        · rcases List.mem_cons.mp hk with rfl | hk
          · omega
          · exact e3 k hk
      · rw [if_neg c] at h;cases h
    | _=>cases h
omit [KK] in
theorem zcq {ks:List Nat}(h:∀ k∈ks,k < 8):ZN ((ks.map fun k:Nat=>(k:Int)).map D.int)=some ks:=by
  induction ks with
  | nil=>rfl
  | cons k ks ih =>
    show (if 0≤(k:Int)∧(k:Int) < 8 then (ZN ((ks.map fun k:Nat=>(k:Int)).map D.int)).map ((k:Int).toNat::·) else none)=_
    rw [if_pos ⟨Int.natCast_nonneg k,by have:=h k List.mem_cons_self;omega⟩,ih fun x hx=>h x (List.mem_cons_of_mem _ hx),Int.toNat_natCast]
    rfl
def ssD:D→Option (List D)
  | .lst ds=>(ZN ds).map fun ks=>((zkl ks).map fun k:Nat=>(k:Int)).map D.int
  | _=>none
def fSS (f:Ev→Option D):Ev→Option (List D):=fun ρ=>(f ρ).bind ssD
theorem zdE {p1 p2 pos1 pos2:Pos} {f:Ev→Option D} (hc:X.calm=true) (hg1:Gl X "sorted") (hm1:X.mg "sorted"=none) (hg2:Gl X "set") (hm2:X.mg "set"=none) (ha:ED X e f)
    (hs:starEach [e] X.env=[(false,eval e X.env)]:=by rfl) (hs2:starEach [.Call (.Name "set" p2) [e] [] pos2] X.env=[(false,eval (.Call (.Name "set" p2) [e] [] pos2) X.env)]:=by rfl) :
    FL X (.Call (.Name "sorted" p1) [.Call (.Name "set" p2) [e] [] pos2] [] pos1) (fSS f):=by
  obtain ⟨t,pa,ra⟩:=ha
  refine ⟨_,zdu hc hg1 hm1 zbD hg2 hm2 zjR pa hs hs2,fun σ ρ F H z Q s va e q=>?_⟩
  obtain ⟨d,e1,e2⟩:=Option.bind_eq_some_iff.mp e
  refine ra σ ρ F H d _ s va e1 fun F1 H1 v g1 a1=>?_
  unfold ssD at e2
  split at e2 <;> try cases e2
  rename_i ds
  obtain ⟨ks,e3,rfl⟩:=Option.map_eq_some_iff.mp e2
  obtain ⟨e4,e5⟩:=zdP e3
  subst e4
  obtain ⟨p,xs,rfl,hx,bl⟩:=a1.lst_inv
  have ex:=bl.of_ints
  subst ex
  exact ⟨p,ks,rfl,SqL.of (g1.fh _ _ hx),e5,fun l hl=>q _ _ _ _ (g1.trans (Gr.hide g1.fh hl _)) (zd0 g1 hl) (g1.fh.free hl) zu (.ints _)⟩
end Dl
namespace Dl
open PySem L2 PySem.Spec PyProof.Rows
variable [KK]{X:Cx}{a b:Expr}{pos apos:Pos}
end Dl
namespace L2
open PySem PySem.Spec PyProof.Rows
section
variable {X:Cx}{a:Addr}{D:List (Str × KTD.Dat)}{nm:Str}{b:Expr}{p pos:Pos}{tb:TE}
end
end L2
namespace Dl
open PySem L2 PySem.Spec PyProof.Rows
variable [KK]{X:Cx}{a:Addr}{T:List (Str × KTD.Dat)}{nm:Str}{b:Expr}{p p2 p3 pos:Pos}{f:Ev→Option D}
end Dl
namespace L2
open PySem PySem.Spec PyProof.Rows
end L2
namespace Dl
open PySem L2 PySem.Spec PyProof.Rows
variable [KK]{X:Cx}{e:Expr}
end Dl
namespace L2
open PySem PySem.Spec PyProof.Rows
end L2
namespace Dl
open PySem L2 PySem.Spec PyProof.Rows
variable [KK]{X:Cx}{a e ko:Expr}{pos tpos:Pos}
end Dl
namespace PySem
open Sem (wp)
section
variable {prog:Program}{w:World}{A:Around}{E:Value→Shared→Prop}{s:Shared}{z TI TO i1 i2 i3:Addr}{fp1 fp2 fp3:List Addr}{n1 n2 n3 k1 k2 k3:Nat}{P1 P2 P3:Nat→Value→Prop}{St1 St2 St3:Nat→Heap→Prop}{a b c:Value}
end
section
variable {prog:Program}{w:World}{A:Around}{E:Value→Shared→Prop}{s:Shared}
variable {z TI TO i1 i2 i3:Addr}{fp1 fp2 fp3:List Addr}{n1 n2 n3 k1 k2 k3:Nat}{P1 P2 P3:Nat→Value→Prop}{St1 St2 St3:Nat→Heap→Prop}{a b c:Value}
end
end PySem
namespace L2
open PySem PySem.Spec PyProof.Rows
end L2
namespace Dl
open PySem L2 PySem.Spec PyProof.Rows
variable [KK]{X:Cx}{a b c:Expr}{pos:Pos}
end Dl
namespace Dl
open PySem L2
variable [KK]
section
variable {X:Cx}{st:Stmt}{sts:List Stmt}{a b c e tg:Expr}{pos pos':Pos}
end
end Dl
namespace L2
open PySem PySem.Spec PyProof.Rows
section
variable {P:Program}{w:World}{H H':Hp}{h h':Heap}{a:Addr}{o:HO}
theorem wu.ex (x:wu P w H h a o):∃ u,h.get? a=some u:=by
  cases o with
  | lst xs=>obtain ⟨_,_,_,_,e⟩:=x;exact ⟨_,e⟩
  | tup xs=>obtain ⟨_,_,_,ob,e,_⟩:=x;exact ⟨_,e⟩
  | dK kvs=>obtain ⟨_,_,_,_,o,_,_,e,_⟩:=x;exact ⟨_,e⟩
  | dT kvs=>obtain ⟨_,_,_,_,o,_,_,e,_⟩:=x;exact ⟨_,e⟩
  | set S n=>obtain ⟨o,_,_,_,e,_⟩:=x;exact ⟨_,e⟩
  | ins C dx fs=>obtain ⟨_,_,_,e,_⟩:=x;exact ⟨_,e⟩
  | own y=>exact x
  | xd fs=>obtain ⟨_,⟨_,_,_,e,_⟩,_⟩:=x;exact ⟨_,e⟩
  | rng lo hi=>obtain ⟨_,_,_,e⟩:=x;exact ⟨_,e⟩
  | frz ob u=>obtain ⟨e,_⟩:=x;exact ⟨_,e⟩
  | tbl ps=>exact ⟨_,(show h.get? a=some _ from x)⟩
  | met f y=>exact ⟨_,(show h.get? a=some _ from x)⟩
  | ext φ=>obtain ⟨_,⟨_,e⟩,_⟩:=x;exact ⟨_,e⟩
theorem HOk.stays (x:HOk P w H h)(k:∀ b u,H b≠none→h.get? b=some u→h'.get? b=some u):HOk P w H h':=fun a o e =>
  (x a o e).stay (fun b u hb q=>k b u (by
    rcases hb with rfl | hb
    · rw [e];intro z;cases z
    · rw [hb];intro z;cases z) q) (fun _ q=>q) fun _ _ q=>q
end
structure Cov (outer:List Env) (H:Hp) (h:Heap) (H':Hp) (h' B:Heap):Prop where
  old:∀ b o,h.get? b=some o→H b=none→b∉frs outer→B.get? b=some o
  there:∀ b o,h.get? b=some o→b∉frs outer→∃ o',B.get? b=some o'
  new:∀ b o,H' b≠none→h'.get? b=some o→B.get? b=some o
def Air (P:Program)(w:World):CXT:=fun outer H s E e s' =>
  ∃ (ea C t:Addr) (H':Hp) (B:Heap),e=.ref ea∧s'.os=s.os∧AllBare s'.gens∧Un (frs outer) [] H H' s.heap s'.heap∧HOk P w H' s'.heap ∧
    Heap.FlyingW B outer ea (.ref C) (.ref t) s'.heap∧Cov outer H s.heap H' s'.heap B∧E (.ref C) none H'
section
variable {X:Cx}{pins:List (Addr × Obj)}{σ:St}{H H':Hp}{s s':Shared}{E:XK}{e:Value}{M:Model}{E2:Value→Shared→Prop}
theorem Inv.airUn (hex:X.ex=[])(I:Inv X pins σ H s){h' B:Heap}(J:Inv X pins σ H' s')(cov:Cov X.stack H s.heap H' s'.heap B)(hB:B.StaysIn h')(hfr:h'.FunFrames B X.outer)(up:s'.heap.UpToSlots h') :
    Un X.fs [] X.H₀ H' X.s₀.heap h'∧HOk X.prog X.w H' h'∧Cov X.outer X.H₀ X.s₀.heap H' h' B:=by
  have neL:∀ b o,X.s₀.heap.get? b=some o→b≠X.env.locals:=fun b o e=>Nat.ne_of_lt (Nat.lt_of_lt_of_le (Heap.lt_size e) I.ok.above)
  have nst:∀ b o,X.s₀.heap.get? b=some o→b∉X.fs→b∉frs X.stack:=fun b o e n z=>(List.mem_cons.mp (I.stkSub b z)).elim (neL b o e) n
  have nx:∀ b:Addr,b∉X.ex:=by rw [hex];simp
  have cov':Cov X.outer X.H₀ X.s₀.heap H' h' B:=by
    refine ⟨fun b o e n hb=>cov.old b o (I.base.keep b o e n hb (nx b)) (I.base.free b o e n (nx b)) (nst b o e hb),fun b o e hb=>?_,fun b o hb e=>?_⟩
    · obtain ⟨o',e'⟩:=I.base.there b o e (nx b)
      exact cov.there b o' e' (nst b o e hb)
    · cases q:H' b with
      | none=>exact absurd q hb
      | some u =>
        obtain ⟨ob,ho⟩:=(J.hok b u q).ex
        have z:=cov.new b ob hb ho
        have z2:=hB b ob z
        rw [e] at z2
        cases z2
        exact z
  refine ⟨⟨fun b o e n hb _=>hB b o (cov'.old b o e n hb),fun b o e n hb _=>?_,fun b o e n _=>J.base.free b o e n (nx b),fun b o e _=>?_,J.base.tups,J.base.frzs,J.base.tbls⟩,J.hok.stays fun b u hb hu=>hB b u (cov.new b u hb hu),cov'⟩
  · obtain ⟨sl,e1⟩:=J.base.slot b o e n hb (nx b)
    obtain ⟨_,o2,ho2,hd⟩:=I.ok.funs.mem hb
    rw [e] at ho2
    cases ho2
    obtain ⟨sl2,e2⟩:=up b _ e1 hd
    exact ⟨sl2,e2⟩
  · by_cases hb:b∈X.fs
    · obtain ⟨_,o2,ho2,_⟩:=hfr.mem hb
      exact ⟨o2,ho2⟩
    · obtain ⟨o',e'⟩:=cov'.there b o e hb
      exact ⟨o',hB b o' e'⟩
theorem zkg (hst:X.stack=X.env::X.outer)(hf:X.env.frame=some X.env.locals)(hex:X.ex=[])(I:Inv X pins σ H s)(a:Air X.prog X.w X.stack H s E e s') :
    wpAny M X.A (leaving X.env e) (fun _ s''=>Air X.prog X.w X.outer X.H₀ X.s₀ E e s'') E2 s':=by
  obtain ⟨ea,C,t,H',B,rfl,os,bare,un,hok,fl,cov,hE⟩:=a
  have J:Inv X pins σ H' s':=I.call' (ch:=[]) os un hok bare (fun b z=>nomatch z)
  rw [hst] at fl
  refine wpAny_leaves_onW (by rw [I.ok.frames,hst]) hf fl fun h' x1 x2=>?_
  obtain ⟨u1,u2,u3⟩:=I.airUn hex J cov x1.1 x1.2.2.1 x2
  exact ⟨ea,C,t,H',B,rfl,os.trans I.os,bare,u1,u2,x1,u3,hE⟩
end
theorem zdH {P:Program}{w:World}{K:PySem.W.Frag}{mg:Str→Option Value}{base:Heap}{N:List Str}{qual:Str}{scope:Scope}{f:Addr}{cd:Value}{A:Around}{outer:List Env}{s:Shared}{H:Hp}{E:XK} :
    XN (Air P w) (VF (Air P w) P w K mg base N qual scope f cd A outer s H E) E:=fun pins σ H1 s1 e s' I a =>
  zkg (X:=VF (Air P w) P w K mg base N qual scope f cd A outer s H E) rfl rfl rfl I a
theorem zfC {P:Program}{w:World}{K:PySem.W.Frag}{mg:Str→Option Value}{base:Heap}{N:List Str}{qual:Str}{scope:Scope}{f:Addr}{cd:Value}{A:Around}{outer:List Env}{s:Shared}{H:Hp}{E:XK}
    {pins:List (Addr × Obj)} {σ:St} {H1:Hp} {s1:Shared} {h':Heap} {ea C:Addr} {args:List Value}
    (I:Inv (VF (Air P w) P w K mg base N qual scope f cd A outer s H E) pins σ H1 s1) (hx:Heap.MadeExcOf s1.heap h' ea (.ref C) args) (hE:E (.ref C) none H1) :
    (VF (Air P w) P w K mg base N qual scope f cd A outer s H E).xe (.ref ea) { s1 with heap:=h' }:=by
  let X:=VF (Air P w) P w K mg base N qual scope f cd A outer s H E
  have I:Inv X pins σ H1 s1:=I
  have keepX:∀ b o,s1.heap.get? b=some o→h'.get? b=some o:=hx.keeps
  have hin:∀ env∈X.stack,∀ a,env.frame=some a→a∈frs X.stack:=fun env he a ha=>List.mem_filterMap.mpr ⟨env,he,ha⟩
  have J:Inv X pins σ H1 { s1 with heap:=h' }:=by
    have:=I.un (t':=s1.toks) (H':=H1) (h':=h') (Un.kept keepX) (I.hok.kept keepX)
    exact this
  show wpAny (model P w) X.A (leaving X.env (.ref ea)) (fun _ s''=>Air P w outer H s E (.ref ea) s'') _ { s1 with heap:=h' }
  refine wpAny_leaves_madeW (base:=PySem.W.hideAll s1.heap (frs X.stack)) (h:=s1.heap) (L:=X.env.locals) (outer:=outer) (I.ok.frames) rfl (fun b o q=>PySem.W.of_hideAll _ q) (PySem.W.funFrames_hide I.stack hin) hx fun h2 t x1 x2 x3 x4=>?_
  have cov:Cov X.stack H1 s1.heap H1 h' (PySem.W.hideAll s1.heap (frs X.stack)):=by
    refine ⟨fun b o e _ hb=>PySem.W.hideAll_get _ e hb,fun b o e hb=>⟨o,PySem.W.hideAll_get _ e hb⟩,fun b o hb e=>?_⟩
    cases q:H1 b with
    | none=>exact absurd q hb
    | some u =>
      obtain ⟨ob,ho⟩:=(I.hok b u q).ex
      have z:=keepX b ob ho
      rw [e] at z
      cases z
      exact PySem.W.hideAll_get _ ho fun z=>hb (I.stkFree b z)
  obtain ⟨u1,u2,u3⟩:=I.airUn (X:=X) rfl J cov x1.1 x1.2.2.1 x4
  exact ⟨ea,C,t,H1,_,rfl,I.os,I.bare,u1,u2,x1,u3,hE⟩
end L2
namespace L2
open PySem PySem.Spec PyProof.Rows
abbrev bmV:List Value:=[.type "ValueError",.type "Exception",.type "BaseException",.type "object"]
structure XCls (K:PySem.W.Frag) (mg:Str→Option Value) (C:Addr) (x:Str):Prop where
  bound:mg x=some (.ref C)
  exc:PySem.W.excIn K C bmV "ValueError.__new__"=true
theorem zjA {K:PySem.W.Frag}{h₀:Heap}{C:Addr}{bmB:List Value}{newId:String}(X:K.In h₀)(q:PySem.W.excIn K C bmB newId=true) :
    ∃ bm N nm q bs hdct sn sub ab col dd k0 k1 k2 k3 k5 mN,h₀.get? C=some (excClassObj nm q C N bs bm hdct sn sub ab col dd k0 k1 k2 k3 k5 newId)∧h₀.Ns N mN∧mN "__init__"=none∧OwnTail h₀ bmB bm:=by
  unfold PySem.W.excIn at q
  split at q
  · rename_i dd cd sl ho
    split at q
    · rename_i C' bm k0 k1 k2 k3 n k5 hm hs
      simp only [Bool.and_eq_true,beq_iff_eq,Bool.not_eq_true'] at q
      obtain ⟨⟨⟨⟨⟨rfl,rfl⟩,hdel⟩,ht⟩,hok⟩,hni⟩:=q
      obtain ⟨nm,bs,mro,ns,qn,hd,sn,sub,ab,col,del⟩:=cd
      dsimp only at hm hdel hok hni
      subst hm hdel
      have hsl:sl=#[k0,k1,k2,k3,some (.builtin n),k5]:=by
        obtain ⟨l⟩:=sl
        simp only at hs
        rw [hs]
      subst hsl
      exact ⟨bm,ns,nm,qn,bs,hd,sn,sub,ab,col,dd,k0,k1,k2,k3,k5,_,X _ _ ho,.of_isNs (PySem.W.isNs_of_in X hok),PySem.W.nsMap_none_of_in X hok hni,PySem.W.tail_of_in X ht⟩
    · cases q
  · cases q
theorem zhi {P:Program}{w:World}{K:PySem.W.Frag}{mg:Str→Option Value}{base:Heap}{N:List Str}{qual:Str}{scope:Scope}{f:Addr}{cd:Value}{A:Around}{outer:List Env}{s:Shared}{H:Hp}{E:XK}{C:Addr}{x:Str}{np cpos pos:Pos}
    (hc:XCls K mg C x) (hg:Gl (VF (Air P w) P w K mg base N qual scope f cd A outer s H E) x) (hd:(x == ("__debug__":Str))=false:=by decide) :
    PS (VF (Air P w) P w K mg base N qual scope f cd A outer s H E) (.Raise (some (.Call (.Name x np) [] [] cpos)) none pos) (fun _ _ H1=>E (.ref C) none H1):=by
  intro pins s1 σ H1 D I h
  obtain ⟨tl,N',nm,q,bs,hdct,sn,sub,ab,col,dd,k0,k1,k2,k3,k5,mN,hC,hN,hni,T⟩:=zjA I.ok.mod.kin hc.exc
  refine wpAny_Raise_call_subU (C:=C) (nm:=nm) (q:=q) (N:=N') (bs:=bs) (bm:=tl) (hdct:=hdct) (sn:=sn) (sub:=sub) (ab:=ab) (col:=col) (dd:=dd) (k0:=k0) (k1:=k1) (k2:=k2) (k3:=k3) (k5:=k5)
    PySem.F.excBase_ValueError (by decide) PySem.F.excBase_ValueError (mN:=mN) (T.hasType PySem.F.excBase_ValueError.hasBase) (I.ok.hd rfl) rfl hni (WP I hg hc.bound ⟨rfl,?_⟩ hd)
  exact evalArgs_empty ⟨rfl,Nat.zero_le _,I.bk _ _ hC,hN.keeps I.bk,T.keeps I.bk,fun h' e hm=>zfC I hm h⟩
end L2
namespace Dl
open PySem L2
variable [KK]
section
variable (E:XK)(cl:Nat→Addr)
def Wi (F H:Hp)(j:Nat):Prop:=∀ F' H',Gr F H F' H'→E (.ref (cl j)) none H'
def RXE (t:TE)(fx:Ev→Option Nat):Prop:=∀ (σ:St) (ρ:Ev) (F H:Hp) (j:Nat) (Q:VK),yJ F H→VAt F ρ σ→fx ρ=some j→Wi E cl F H j→t σ H Q
def RXS (t:TS)(gx:SE→Option Nat):Prop:=∀ (Fb Hb F H:Hp) (ρ:SE) (σ:St) (D':zbe) (j:Nat),Rl Fb Hb F H ρ σ→gx ρ=some j→Wi E cl Fb Hb j→t D' σ H
def XE (X:Cx)(e:Expr)(fx:Ev→Option Nat):Prop:=∃ t,PE X e t∧RXE E cl t fx
def XS (X:Cx)(st:Stmt)(gx:SE→Option Nat):Prop:=∃ t,PS X st t∧RXS E cl t gx
def XSs (X:Cx)(sts:List Stmt)(gx:SE→Option Nat):Prop:=∃ t,PSs X sts t∧RXS E cl t gx
end
section
variable {E:XK}{cl:Nat→Addr}{X:Cx}{a b c e:Expr}{es:List Expr}{st:Stmt}{sts:List Stmt}{pos pos':Pos}
theorem Wi.grow {F H F1 H1:Hp}{j:Nat}(w:Wi E cl F H j)(g:Gr F H F1 H1):Wi E cl F1 H1 j:=fun F' H' g'=>w F' H' (g.trans g')
theorem Wi.out {Fb Hb F H:Hp}{ρ:SE}{σ:St}{j:Nat}(w:Wi E cl Fb Hb j)(rl:Rl Fb Hb F H ρ σ):Wi E cl (gOf ρ σ F H) H j:=fun F' H' g=>w F' H' (rl.out g)
def spX (cl:Nat→Addr)(m:Nat)(r:List D→Option Nat):Sp:=fun vs H _ E=>∃ ds j F,ds.length=m∧yJ F H∧AtL F ds vs∧r ds=some j∧Wi E cl F H j
def zjm (m:Nat)(r:List D→Option Nat)(f:Ev→Option (List D)):Ev→Option Nat:=fun ρ=>(f ρ).bind fun ds=>if ds.length=m then r ds else none
theorem zeT {x:Str}{k m:Nat}{f:Addr}{fd:FuncData}{ps:List Str}{r:List D→Option Nat}{pp:Pos}{fa:Ev→Option (List D)}(F:xE X.prog X.w X.K X.mg X.base (Air X.prog X.w) k f fd ps (spX cl m r))(hx:XN (Air X.prog X.w) X E)(hr:YO k X.A)(hg:Gl X x)(hm:X.mg x=some (.ref f))(hk:PySem.W.keepIn X.K (.ref f)=true)(hb:Vv X.K fd ps [])
    (ha:AD X (e::es) fa) (hdb:(x == ("__debug__":Str))=false:=by decide) (he:starEach (e::es) X.env=(false,eval e X.env)::starEach es X.env:=by rfl) (hpl:(backTo pos (starEach es X.env)).any (·.1)=false:=by rfl) :
    XE E cl X (.Call (.Name x pp) (e::es) [] pos) (zjm m r fa):=by
  obtain ⟨t,pa,ra⟩:=ha
  refine ⟨_,zcn F hr hg hm hk hb .nil hx pa hdb he hpl,fun σ ρ F0 H j Q s va e w=>?_⟩
  obtain ⟨ds,e1,e2⟩:=Option.bind_eq_some_iff.mp e
  split at e2 <;> try cases e2
  rename_i hl
  refine ra σ ρ F0 H ds _ s va e1 fun F1 H1 vs g1 a1=>?_
  exact ⟨ds,j,F1,hl,g1.fh,by rw [List.append_nil];exact a1,e2,w.grow g1⟩
theorem zeD {fx:Ev→Option Nat}(h:XE E cl X e fx)(hs:swapsWith e none pos.line X.env=pure false:=by rfl):XS E cl X (.Expr e pos) (fun ρ=>fx (visG ρ)):=by
  obtain ⟨t,p,r⟩:=h
  exact ⟨_,WS p hs,fun Fb Hb F H ρ σ D' j rl e w=>r σ _ _ H j _ rl.gh rl.visG e (w.out rl)⟩
def xIf (t:Ev→Option Bool)(g h:SE→Option Nat):SE→Option Nat:=fun ρ=>match t (visG ρ) with
  | some true=>g ρ
  | some false=>h ρ
  | none=>none
theorem zkT {as bs:List Stmt}{t:Ev→Option Bool}{g h:SE→Option Nat}(hc:TD X c t)(ha:XSs E cl X as g)(hb:XSs E cl X bs h):XS E cl X (.If c as bs pos) (xIf t g h):=by
  obtain ⟨tc,pc,rc⟩:=hc
  obtain ⟨ta,pa,ra⟩:=ha
  obtain ⟨tb,pb,rb⟩:=hb
  refine ⟨_,zit pc pa pb,fun Fb Hb F H ρ σ D' j rl k w=>?_⟩
  unfold xIf at k
  cases h:t (visG ρ) with
  | none=>rw [h] at k;cases k
  | some d =>
    rw [h] at k
    refine rc σ _ _ H d _ rl.gh rl.visG h fun F' H' g=>?_
    have rl2:=rl.grow (rl.back g).1
    cases d with
    | true=>rw [if_pos rfl];exact ra Fb Hb _ H' ρ σ D' j rl2 k w
    | false=>rw [if_neg Bool.false_ne_true];exact rb Fb Hb _ H' ρ σ D' j rl2 k w
def xNo:SE→Option Nat:=fun _=>none
theorem zdh:XS E cl X st xNo:=⟨_,zc4,fun _ _ _ _ _ _ _ _ _ h _=>by cases h⟩
theorem zap {g:SE→Option Nat}(h:XS E cl X st g):XSs E cl X [st] g:=let ⟨_,p,r⟩:=h;⟨_,Xy p,r⟩
def ziA (gx:SE→Option Nat)(g:SE→Ctl)(hx:SE→Option Nat):SE→Option Nat:=fun ρ=>match gx ρ with
  | some j=>some j
  | none=>match g ρ with
    | .nx ρ'=>hx ρ'
    | _=>none
theorem zaL {gx hx:SE→Option Nat}{g:SE→Ctl}(h1:XS E cl X st gx)(h2:SD X st g)(h3:XSs E cl X sts hx):XSs E cl X (st::sts) (ziA gx g hx):=by
  obtain ⟨t1,p1,r1⟩:=h1
  obtain ⟨t2,p2,r2⟩:=h2
  obtain ⟨u,p3,r3⟩:=h3
  have por:PS X st (fun D σ H=>t1 D σ H∨t2 D σ H):=fun pins s σ H D I h=>h.elim (p1 pins s σ H D I) (p2 pins s σ H D I)
  refine ⟨_,vn por p3,fun Fb Hb F H ρ σ D' j rl k w=>?_⟩
  unfold ziA at k
  cases e1:gx ρ with
  | some j' =>
    rw [e1] at k
    cases k
    exact .inl (r1 Fb Hb F H ρ σ _ j rl e1 w)
  | none =>
    rw [e1] at k
    dsimp only at k
    cases e2:g ρ with
    | nx ρ' =>
      rw [e2] at k
      refine .inr (r2 Fb Hb F H ρ σ _ rl ?_)
      rw [e2]
      exact fun F' H' σ' rl'=>r3 Fb Hb F' H' ρ' σ' D' j rl' k w
    | rt _=>rw [e2] at k;cases k
    | bk _=>rw [e2] at k;cases k
    | ct _=>rw [e2] at k;cases k
    | no=>rw [e2] at k;cases k
theorem zeq {g:SE→Option Nat}(h:XS E cl X st g):XSs E cl X (st::sts) g:=by
  obtain ⟨t,p,r⟩:=h
  exact ⟨_,vn p (fun _ _ _ _ _ _ h=>(h:False).elim),fun Fb Hb F H ρ σ D' j rl k w=>r Fb Hb F H ρ σ _ j rl k w⟩
end
def zfF (j:Nat):SE→Option Nat:=fun _=>some j
theorem zcQ {P:Program}{w:World}{K:PySem.W.Frag}{mg:Str→Option Value}{base:Heap}{N:List Str}{qual:Str}{scope:Scope}{f:Addr}{cd:Value}{A:Around}{outer:List Env}{s:Shared}{H:Hp}{E:XK}{cl:Nat→Addr}{j:Nat}{x:Str}{np cpos pos:Pos}
    (hc:XCls K mg (cl j) x) (hg:Gl (VF (Air P w) P w K mg base N qual scope f cd A outer s H E) x) (hd:(x == ("__debug__":Str))=false:=by decide) :
    XS E cl (VF (Air P w) P w K mg base N qual scope f cd A outer s H E) (.Raise (some (.Call (.Name x np) [] [] cpos)) none pos) (zfF j) :=
  ⟨_,zhi hc hg hd,fun Fb Hb F H ρ σ D' j' rl e w=>by cases e;exact w F H rl.gr⟩
def fnX (n:Nat)(gx:SE→Option Nat)(ds:List D):Option Nat:=gx (ds.map .v++List.replicate (n - ds.length) .no)
theorem zin {P:Program}{w:World}{K:PySem.W.Frag}{mg:Str→Option Value}{base:Heap}{x qual:Str}{st:Stmt}{f:Addr}{fd:FuncData}{N ps:List Str}{k:Nat}{cl:Nat→Addr}{gx:SE→Option Nat}(Fu:Fun K x qual st f fd)(S:zx N ps (zg st))
    (hb:∀ (cdv:Value) (A:Around) (outer:List Env) (s:Shared) (H:Hp) (E:XK),YO k (A.deeper (PyProof.Rows.envOfC qual (zg st) s.heap.objs.size f cdv))→XSs E cl (VF (Air P w) P w K mg base N qual (zg st) f cdv A outer s H E) (zv st) gx) :
    xE P w K mg base (Air P w) (k+1) f fd ps (spX cl ps.length (fnX N.length gx)):=by
  obtain ⟨oc,od,kV,doc,pm,an,cdv,ct,osl,rfl,lk,hcd⟩:=Fu.ex
  refine zkQ lk hcd S (fun vs H Q E h=>?_) fun A outer s H vs Q E hr hsp=>?_
  · obtain ⟨ds,d,F,hl,_,a,_⟩:=h
    rw [a.length];exact hl
  · obtain ⟨ds,j,F,hl,sm,a,e,q⟩:=hsp
    obtain ⟨t,p,r⟩:=hb cdv A outer s H E hr
    exact ⟨t,p,r F H F H _ _ _ j (zah sm a) e q⟩
end Dl
namespace L2
open PySem PySem.Spec PyProof.Rows
section
variable {X:Cx}{pins:List (Addr × Obj)}{σ:St}{H H':Hp}{s s':Shared}{E:XK}{e:Value}{E2:Value→Shared→Prop}{B h3:Heap}
theorem Inv.caught (I:Inv X pins σ H s)(os:s'.os=s.os)(bare:AllBare s'.gens)(un:Un (frs X.stack) [] H H' s.heap s'.heap)(hok:HOk X.prog X.w H' s'.heap)(cov:Cov X.stack H s.heap H' s'.heap B)
    (hB:B.StaysIn h3) (hfr:h3.FunFrames B X.stack) (up:s'.heap.UpToSlots h3):Inv X pins σ H' { s' with heap:=h3 }:=by
  obtain ⟨h',g',d',t',o'⟩:=s'
  have eo:o'=s.os:=os
  subst eo
  have nil:∀ b:Addr,b∉([]:List Addr):=fun b z=>nomatch z
  show Inv X pins σ H' { s with heap:=h3,gens:=g',drawn:=d',toks:=t' }
  refine I.step (s:=s) (g':=g') (d':=d') (t':=t') (ch:=[]) (fun b z=>nomatch z) (fun b o hL hb _ e n=>hB b o (cov.old b o e n fun z=>(List.mem_cons.mp (I.stkSub b z)).elim hL hb)) (fun b o hL hb _ e n=>?_) (fun b o _ e n=>un.free b o e n (nil b)) (fun b o _ e=>?_) un.tups un.frzs un.tbls (fun m hm=>?_) (hok.stays fun b u hb hu=>hB b u (cov.new b u hb hu)) bare
  · obtain ⟨sl,e1⟩:=un.any e n (nil b)
    obtain ⟨_,o2,ho2,hd⟩:=I.funs.mem hb
    rw [e] at ho2
    cases ho2
    obtain ⟨sl2,e2⟩:=up b _ e1 hd
    exact ⟨sl2,e2⟩
  · by_cases hb:b∈frs X.stack
    · obtain ⟨_,o2,ho2,_⟩:=hfr.mem hb
      exact ⟨o2,ho2⟩
    · obtain ⟨o',e'⟩:=cov.there b o e hb
      exact ⟨o',hB b o' e'⟩
  · obtain ⟨o,es,ep,ho,hd,r⟩:=hm
    obtain ⟨sl,e1⟩:=un.any ho I.free (nil _)
    exact up.ns ⟨_,es,ep,e1,hd,r⟩
theorem zdm {M:Model}(hst:X.stack=X.env::X.outer)(hf:X.env.frame=some X.env.locals)(hex:X.ex=[])(I:Inv X pins σ H s)(a:Air X.prog X.w X.stack H s E e s'){hs:List ExceptHandler}{Q:Flow→Shared→Prop}
    (k:∀ (ea C t:Addr) (H':Hp) (B h3:Heap),E (.ref C) none H'→H' ea=none→(∀ o',X.s₀.heap.get? ea=some o'→False)→(∀ p∈X.pn++pins,p.1≠ea)→Heap.FlyingW B X.stack ea (.ref C) (.ref t) h3→(∀ h4:Heap,B.StaysIn h4→h4.FunFrames B X.stack→h3.UpToSlots h4→Inv X pins σ H' { s' with heap:=h4 }) →
      e=.ref ea→wpAny M X.A (handleBy (.ref ea) X.env hs) Q E2 { s' with heap:=h3 }) :
    wpAny M X.A (noteFrame e X.env) (fun _ s₂=>wpAny M X.A (setFlight e none) (fun _ s₃=>wpAny M X.A (handleBy e X.env hs) Q E2 s₃) E2 s₂) E2 s':=by
  obtain ⟨ea,C,t,H',B,rfl,os,bare,un,hok,fl,cov,hE⟩:=a
  have hfr:X.A.frames=some (X.env::X.outer):=by rw [I.ok.frames,hst]
  have fl0:=fl
  rw [hst] at fl0
  refine wpAny_looks_onW hfr hf fl0 fun h2 hheld up2=>?_
  refine wpAny_landsW (s:={ s' with heap:=h2 }) hheld fun h3 fl3 up3=>?_
  rw [←hst] at fl3
  have hnB:B.get? ea=none:=fl.2.1
  have nfr:ea∉frs X.stack:=fun z=>by
    obtain ⟨_,o2,ho2,hnf⟩:=fl.2.2.1.mem z
    obtain ⟨oe,vs,_,_,_,he,_,hd,_⟩:=fl.2.2.2
    rw [he] at ho2
    cases ho2
    exact hnf vs hd
  have nold:∀ o',s.heap.get? ea=some o'→False:=fun o' z=>by
    obtain ⟨o2,e2⟩:=cov.there ea o' z nfr
    rw [hnB] at e2
    cases e2
  refine k ea C t H' B h3 hE ?_ (fun o' z=>?_) (fun p hp z=>?_) fl3 (fun h4 b1 b2 b3=>I.caught os bare un hok cov b1 b2 ((up2.trans up3).trans b3)) rfl
  · cases q:H' ea with
    | none=>rfl
    | some u =>
      obtain ⟨ob,ho⟩:=(hok ea u q).ex
      have z:=cov.new ea ob (by rw [q];intro z;cases z) ho
      rw [hnB] at z
      cases z
  · obtain ⟨o2,e2⟩:=I.base.there ea o' z (by rw [hex];intro z;cases z)
    exact nold o2 e2
  · exact nold p.2 (z ▸ (I.pin p hp).1)
end
end L2
namespace L2
open PySem PySem.Spec PyProof.Rows
abbrev Cx.held (X:Cx)(e:Value):Cx:={ X with A:=X.A.mark (some e),calm:=false }
section
variable {X:Cx}{pins:List (Addr × Obj)}{σ:St}{H H':Hp}{s s':Shared}{E:Value→Shared→Prop}{e:Value}{M:Model}{A:Around}
theorem Cx.Ok.held (ok:X.Ok)(e:Value):(X.held e).Ok :=
  ⟨ok.mod,ok.kind,ok.glob,ok.blt,ok.above,ok.inj,ok.has,ok.cab,(fun z=>by cases z),ok.frames,ok.stk,ok.exf,ok.bs,ok.bsz,ok.noex,ok.exfs,ok.funs,ok.frf⟩
theorem Inv.held (I:Inv X pins σ H s)(e:Value):Inv (X.held e) pins σ H s:=⟨I.ok.held e,I.os,I.bare,I.base,I.loc,I.cell,I.free,I.freeC,I.pin,I.hok,I.len⟩
theorem Inv.unheld (ok:X.Ok)(I:Inv (X.held e) pins σ H s):Inv X pins σ H s:=⟨ok,I.os,I.bare,I.base,I.loc,I.cell,I.free,I.freeC,I.pin,I.hok,I.len⟩
theorem ZT {i:Nat}{x:Str}{pos:Pos}{Q:Unit→Shared→Prop}(I:Inv X pins σ H s)(hN:X.N.Nodup)(hi:X.N[i]?=some x)(hk:X.env.scope.names.lookup x=some .local)
    (h:∀ s',Inv X pins (σ.set i none) H s'→Q () s'):wpAny M A (do bindName X.env x .none;unbindBehindTheSuite X.env x pos) Q E s:=by
  obtain ⟨m,hn,hl⟩:=id I.loc
  have hcls:(X.env.scope.kind == .class||(X.env.scope.kind == .module&&X.env.locals != X.env.globals))=false:=by rw [I.ok.kind];rfl
  have hiσ:i < σ.length:=by rw [I.len];exact (List.getElem?_eq_some_iff.mp hi).1
  have cne:=I.cne
  refine wpAny_nameGoes_keeps hk hn hcls fun h' v hn' hs=>?_
  obtain ⟨oL,_,_,hoL,_⟩:=id hn
  have tracked:HOk X.prog X.w H h':=fun b ob e=>by
    refine (I.hok b ob e).stay (fun c w' hc q=>(hs.2 c ?_).trans q) (fun _ q=>q) fun _ _ q=>q
    rintro rfl
    rcases hc with rfl | hc
    · rw [I.free] at e;cases e
    · rw [I.free] at hc;cases hc
  have ne0:∀ b o,X.s₀.heap.get? b=some o→b≠X.env.locals:=fun b o e=>Nat.ne_of_lt (Nat.lt_of_lt_of_le (Heap.lt_size e) I.ok.above)
  refine h _ ⟨I.ok,I.os,I.bare,⟨fun b o e n hb hx=>?_,fun b o e n hb hx=>?_,I.base.free,fun b o e hx=>?_,I.base.tups,I.base.frzs,I.base.tbls⟩,⟨_,hn',fun j y v' e1 e2 e3=>?_⟩,fun y c e=>?_,I.free,I.freeC,fun p hp=>?_,tracked,by simpa using I.len⟩
  · exact (hs.2 b (ne0 b o e)).trans (I.base.keep b o e n hb hx)
  · obtain ⟨sl,e1⟩:=I.base.slot b o e n hb hx
    exact ⟨sl,(hs.2 b (ne0 b o e)).trans e1⟩
  · obtain ⟨o',e1⟩:=I.base.there b o e hx
    exact ⟨o',(hs.2 b (ne0 b o e)).trans e1⟩
  · by_cases hj:j=i
    · subst hj
      rw [List.getElem?_set_self hiσ] at e2
      cases e2
    · rw [List.getElem?_set_ne (Ne.symm hj)] at e2
      obtain ⟨u',r',q⟩:=hl j y v' e1 e2 e3
      refine ⟨u',r',?_⟩
      rcases q with ⟨k,e⟩ | ⟨k,c,e,z⟩
      · refine .inl ⟨k,?_⟩
        have:y≠x:=fun e=>hj (zaK hN e1 (e ▸ hi))
        simp [this,e]
      · exact .inr ⟨k,c,e,z.sameBut hs (cne y c e)⟩
  · obtain ⟨w',z⟩:=I.cell y c e
    exact ⟨w',z.sameBut hs (cne y c e)⟩
  · obtain ⟨e,n,ne,nf,d⟩:=I.pin p hp
    exact ⟨(hs.2 p.1 ne).trans e,n,ne,nf,d⟩
def zeS (a C:Addr):HO:=.ext fun h=>∃ oe,h.get? a=some oe∧oe.cls=.ref C
theorem Inv.track {a:Addr}{o:HO}{ob:Obj}{vs:Array Value}(I:Inv X pins σ H s)(ha:H a=none)(he:s.heap.get? a=some ob)(hd:ob.data=.fields vs)(h0:∀ o',X.s₀.heap.get? a=some o'→False)(hp:∀ p∈X.pn++pins,p.1≠a)
    (new:wu X.prog X.w (upd H a o) s.heap a o):Inv X pins σ (upd H a o) s:=by
  have neL:X.env.locals≠a:=by
    rintro rfl
    obtain ⟨m,⟨oL,es,ep,hoL,hdL,_⟩,_⟩:=I.loc
    rw [he] at hoL
    cases hoL
    rw [hd] at hdL
    cases hdL
  have neC:∀ x c,X.env.cells.lookup x=some c→c≠a:=fun x c e=>by
    rintro rfl
    obtain ⟨v,oc,hoc,hdc⟩:=I.cell x c e
    rw [he] at hoc
    cases hoc
    rw [hd] at hdc
    cases hdc
  refine ⟨I.ok,I.os,I.bare,⟨I.base.keep,I.base.slot,fun b u e n hx=>?_,I.base.there,fun b xs e=>?_,fun b u v e=>?_,fun b ps e=>?_⟩,I.loc,I.cell,?_,fun x c e=>?_,fun p hq=>?_,fun b u e=>?_,I.len⟩
  · rw [zr (fun z:b=a=>h0 u (z ▸ e))]
    exact I.base.free b u e n hx
  · have e1:=I.base.tups b xs e
    rw [zr (zn e1 ha)]
    exact e1
  · have e1:=I.base.frzs b u v e
    rw [zr (zn e1 ha)]
    exact e1
  · obtain ⟨more,e1⟩:=I.base.tbls b ps e
    exact ⟨more,by rw [zr (zn e1 ha)];exact e1⟩
  · rw [zr neL]
    exact I.free
  · rw [zr (neC x c e)]
    exact I.freeC x c e
  · obtain ⟨e,n,ne,nf,d⟩:=I.pin p hq
    exact ⟨e,by rw [zr (hp p hq)];exact n,ne,nf,d⟩
  · by_cases c:b=a
    · subst c
      rw [zu] at e
      cases e
      exact new
    · rw [zr c] at e
      refine (I.hok b u e).stay (fun _ _ _ q=>q) (fun c hc=>?_) fun c xs hc=>?_
      · rw [zr (zn hc ha)];exact hc
      · rw [zr (zn hc ha)];exact hc
end
end L2
namespace L2
open PySem PySem.Spec PyProof.Rows
abbrev Cx.pinned (X:Cx)(ps:List (Addr × Obj)):Cx:={ X with pn:=X.pn++ps }
section
variable {X:Cx}{pins ps:List (Addr × Obj)}{σ:St}{H H':Hp}{s s':Shared}
theorem Cx.Ok.pinned (ok:X.Ok)(ps:List (Addr × Obj)):(X.pinned ps).Ok :=
  ⟨ok.mod,ok.kind,ok.glob,ok.blt,ok.above,ok.inj,ok.has,ok.cab,ok.hd,ok.frames,ok.stk,ok.exf,ok.bs,ok.bsz,ok.noex,ok.exfs,ok.funs,ok.frf⟩
theorem Inv.pinAll (I:Inv X pins σ H s):Inv (X.pinned pins) [] σ H s:=⟨I.ok.pinned pins,I.os,I.bare,I.base,I.loc,I.cell,I.free,I.freeC,fun p hp=>I.pin p (by rw [List.append_nil] at hp;exact hp),I.hok,I.len⟩
theorem Inv.unpin (ok:X.Ok)(I:Inv (X.pinned pins) ps σ H s):Inv X pins σ H s:=⟨ok,I.os,I.bare,I.base,I.loc,I.cell,I.free,I.freeC,fun p hp=>I.pin p (List.mem_append_left _ hp),I.hok,I.len⟩
end
abbrev gone (i:Nat)(D:zbe):zbe:={ nx:=fun σ H=>D.nx (σ.set i none) H,rt:=D.rt,bk:=fun σ H=>D.bk (σ.set i none) H,ct:=fun σ H=>D.ct (σ.set i none) H }
def exW (K:PySem.W.Frag)(CS:Addr)(i n:Nat)(u:TS)(D:zbe):XK:=fun cls _ H'=>∃ C,cls=.ref C∧PySem.W.exmOne K (.ref C) (.ref CS)=some true∧∀ (ea:Addr) (σ:St),σ.length=n→H' ea=none→u (gone i D) (σ.set i (some (.ref ea))) (upd H' ea (zeS ea C))
theorem zk7 {Y:Cx}{CS:Addr}{x n:Str}{i:Nat}{body suite:List Stmt}{b₀:Stmt}{pos hpos np:Pos}{tb:XK→TS}{u:TS}(hst:Y.stack=Y.env::Y.outer)(hf:Y.env.frame=some Y.env.locals)(hex:Y.ex=[])
    (hN:Y.N.Nodup) (hi:Y.N[i]?=some n) (hk:Y.env.scope.names.lookup n=some .local) (hg:Gl Y x) (hm:Y.mg x=some (.ref CS))
    (hbody:∀ (ps:List (Addr × Obj)) (W:Value→Shared→Prop) (E0:XK),XN (Air Y.prog Y.w) ((Y.pinned ps).wish W) E0→PSs ((Y.pinned ps).wish W) body (tb E0))
    (hsuite:∀ ea,PSs (Y.held (.ref ea)).nox (b₀::suite) u) (hd:(x == ("__debug__":Str))=false:=by decide) :
    PS Y.nox (.Try body [.ExceptHandler (some (.Name x np)) (some n) (b₀::suite) hpos] [] [] pos) (fun D σ H=>tb (exW Y.K CS i Y.N.length u D) D σ H):=by
  intro pins s σ H D I h
  have ok:Y.Ok:=I.ok.unwish
  have IY:Inv Y pins σ H s:=I.unwish
  refine wpAny_Try_except ?_
  refine wpAny_mono (hbody pins _ (exW Y.K CS i Y.N.length u D) ?_ [] s σ H D (IY.pinAll.wish _) h) ?_ fun e s₁ h=>h
  · intro pins' σ' H1 s1 e s2 I1 a
    have I1':Inv Y pins σ' H1 s1:=I1.unwish.unpin ok
    refine zdm (X:=Y) hst hf hex I1' a fun ea C t H' B h3 hE hea h0 hpn fl hinv ee=>?_
    obtain ⟨C',ec,hsub,hu⟩:=hE
    cases ec
    have I3:Inv Y pins σ' H' { s2 with heap:=h3 }:=hinv h3 fl.1 fl.2.2.1 (.refl _)
    obtain ⟨ob,hob,hobc⟩:=fl.there
    have ty:PySem.W.Looks (model Y.prog Y.w) h3 (typeOf (.ref ea)) (.ref C):=hobc ▸ (PySem.W.Looks.ld hob).andThen .now
    refine wpAny_handleBy_cons (codeAny_handlers_test (WP (X:=Y.held (.ref ea)) (I3.held (.ref ea)) hg hm ?_ hd)) (by intro q;cases q)
    refine (PySem.W.exm_one (M:=model Y.prog Y.w) I3.kIn ty hsub).here ?_
    refine codeAny_handlers_suite_as ?_
    refine wpAny_setFlight_noneW (s:={ s2 with heap:=h3 }) fl.1 fl.2.2.1 fl.2.2.2.at fun h4 k1 k2 k3 k4=>?_
    have I4:Inv Y pins σ' H' { s2 with heap:=h4 }:=hinv h4 k1 k2 fun b o hb hn=>⟨o.slots,k4 b o hb hn⟩
    obtain ⟨oe,vs,_,_,_,he,hcl,hdv,_⟩:=k3
    have I5:Inv Y pins σ' (upd H' ea (zeS ea C)) { s2 with heap:=h4 }:=I4.track hea he hdv h0 hpn ⟨⟨oe,he,hcl.1⟩,⟨oe,he⟩,fun h1 h2 ⟨o1,e1,e2⟩ kk=>⟨o1,kk o1 e1,e2⟩⟩
    refine zan (X:=Y.held (.ref ea)) (v:=.ref ea) (I5.held (.ref ea)) hN hi (.inl hk) rfl (fun s6 I6=>?_) (.inr hk)
    refine wpAny_mono (hsuite ea pins s6 _ _ (gone i D) (I6.wish _) (hu ea σ' I4.len hea)) (fun f s7 q=>?_) fun x s7 q=>q.elim
    cases f with
    | ret uv =>
      obtain ⟨v,σ7,H7,I7,rv,q⟩:=q
      exact ZT ((Inv.unheld (X:=Y) ok I7.unwish)) hN hi hk fun s8 I8=>⟨v,_,H7,I8.wish _,rv,q⟩
    | next =>
      obtain ⟨σ7,H7,I7,q⟩:=q
      exact ZT ((Inv.unheld (X:=Y) ok I7.unwish)) hN hi hk fun s8 I8=>⟨_,H7,I8.wish _,q⟩
    | brk =>
      obtain ⟨σ7,H7,I7,q⟩:=q
      exact ZT ((Inv.unheld (X:=Y) ok I7.unwish)) hN hi hk fun s8 I8=>⟨_,H7,I8.wish _,q⟩
    | cont =>
      obtain ⟨σ7,H7,I7,q⟩:=q
      exact ZT ((Inv.unheld (X:=Y) ok I7.unwish)) hN hi hk fun s8 I8=>⟨_,H7,I8.wish _,q⟩
  · intro f s₁ q
    cases f with
    | ret uv =>
      obtain ⟨v,σ7,H7,I7,rv,q⟩:=q
      exact ⟨v,σ7,H7,(Inv.unpin (X:=Y) ok I7.unwish).wish _,rv,q⟩
    | next =>
      obtain ⟨σ7,H7,I7,q⟩:=q
      exact wpAny_execs_nil ⟨σ7,H7,(Inv.unpin (X:=Y) ok I7.unwish).wish _,q⟩
    | brk =>
      obtain ⟨σ7,H7,I7,q⟩:=q
      exact ⟨σ7,H7,(Inv.unpin (X:=Y) ok I7.unwish).wish _,q⟩
    | cont =>
      obtain ⟨σ7,H7,I7,q⟩:=q
      exact ⟨σ7,H7,(Inv.unpin (X:=Y) ok I7.unwish).wish _,q⟩
end L2
namespace L2
open PySem PySem.Spec PyProof.Rows PySem.W PySem.Calls PySem.Builtin PySem.Builtin.Getset_descriptor
section
variable {prog:Program}{w:World}{A:Around}{E:Value→Shared→Prop}{K:PySem.W.Frag}{h:Heap}{g:Array GenState}{d:Drawn}{t:Nat}{os:OsState}{a C:Addr}{o:Obj}
def Of (h:Heap)(a:Addr)(o:Obj)(C:Addr):Prop:=h.get? a=some o∧o.cls=.ref C
theorem Of.type {M:Model}(I:Of h a o C):Looks M h (typeOf (.ref a)) (.ref C):=I.2 ▸ (Looks.ld I.1).andThen .now
theorem zf0 {M:Model} {name:Str} {x gt:Value} (X:K.In h) (ha:findIn K (.ref C) name=some (some x)) (hg:specialIn K x "__get__"=some (some gt)) (ht:takesIn K x=some true):Looks M h (Builtin.ObjectAttr.find (.ref a) (.ref C) name) (.bind gt x):=by
  have L1:=looks_findIn (M:=M) X ha
  have L2:Looks M h (Builtin.ObjectAttr.getOf (some x)) (some gt):=looks_specialIn X hg
  have L3:=looks_takesIn (M:=M) X ht
  exact L1.andThen (L2.andThen ((show Looks M h (Builtin.ObjectAttr.dataDescriptor? (some x) (some gt)) (some (gt,x)) from L3.andThen .now).andThen (Looks.tag .now)))
theorem ziX {R:Result→Shared→Prop} {tp:Value} (X:K.In h) (I:Of h a o C) (hm:mroIn K C (.type "object")=some true) (hq:R (.ok (.ret (.ref C))) ⟨h,g,d,t,os⟩) :
    codeAny (model prog w) A (.call (.builtin "getset_descriptor.__get__") ⟨[.builtin "object.__class__",.ref a,tp],[]⟩) R ⟨h,g,d,t,os⟩:=by
  have L0:=I.type (M:=model prog w)
  have L1:=looks_mroIn (M:=model prog w) X hm
  refine codeAny_call_builtin KF.slot_gs.plain KF.entry_gs (KF.slot_gs.check _ _ _ _ _ _ _ _ KF.type_class (KF.args_gs _ _ _) ?_)
  unfold Builtin.«getset_descriptor.__get__» descrGet
  rw [dga_obj]
  refine wpAny_bind (wpAny_pure ?_)
  unfold descrGetter descrCheckInstance descrNameAndClass isInstance
  simp only [KF.owner_class]
  repeat lk
  refine ⟨Code.quiet_builtin _ (by decide +kernel),codeAny_builtin KF.entry_class ?_⟩
  unfold Builtin.«object.__class__» shownTypeOf
  repeat lk
  exact hq
theorem zfA {tk:Tok} {Q:Fin→Shared→Prop} (X:K.In h) (I:Of h a o C) (ha:findIn K (.ref C) "__class__"=some (some (.builtin "object.__class__"))) (hn:specialIn K (.builtin "object.__class__") "__get__"=some (some (.builtin "getset_descriptor.__get__"))) (ht:takesIn K (.builtin "object.__class__")=some true) (hm:mroIn K C (.type "object")=some true)
    (hq:Q (.done (.ret (.ref C))) ⟨h,g,d,t,os⟩):wpAny (model prog w) A (Builtin.«object.__getattribute__» ⟨[.ref a,.str "__class__" tk],[]⟩) Q E ⟨h,g,d,t,os⟩:=by
  have L0:=I.type (M:=model prog w)
  have L1:=zf0 (M:=model prog w) (a:=a) X ha hn ht
  refine wpAny_bind (wpAny_pure (wpAny_bind ?_))
  refine wpAny_pure (wpAny_bind (L0.at (wpAny_bind (L1.at ?_))))
  show wpAny _ _ (holding [.builtin "object.__class__"] (call (.builtin "getset_descriptor.__get__") [.builtin "object.__class__",.ref a,.ref C])>>=ret) _ _ _
  exact wpAny_bind (wpAny_holding (wpAny_call (ziX X I hm (wpAny_pure hq))))
theorem ze6 {M:Model} {nameV:Value} {Q:Unit→Shared→Prop} (X:K.In h) (I:Of h a o C) (hb:subIn K (.ref C) (.type "BaseException")=some true) (hq:Q () ⟨h,g,d,t,os⟩):wpAny M A (checkBuiltinCall "BaseException.__getattribute__" ⟨[.ref a,nameV],[]⟩) Q E ⟨h,g,d,t,os⟩:=by
  have hk:builtinKind "BaseException.__getattribute__"=some .slot:=by decide +kernel
  have hsplit:splitId "BaseException.__getattribute__"=some ("BaseException","__getattribute__"):=by decide +kernel
  have ha:=F.args_bexc_ga (.ref a) nameV
  have L0:=I.type (M:=M)
  have L1:Looks M h (isSubtype (.ref C) (.type "BaseException")) true:=looks_subIn X hb
  simp only [checkBuiltinCall,hk,hsplit]
  refine wpAny_bind ?_
  unfold isInstance
  refine wpAny_bind (L0.at (L1.at ?_))
  repeat (first | assumption | wp_step)
theorem zkj {tk:Tok} {Q:Value→Shared→Prop} (X:K.In h) (I:Of h a o C) (hga:findIn K (.ref C) "__getattribute__"=some (some (.builtin "BaseException.__getattribute__"))) (hgt:findIn K (.ref C) "__getattr__"=some none)
    (ha:findIn K (.ref C) "__class__"=some (some (.builtin "object.__class__"))) (hn:specialIn K (.builtin "object.__class__") "__get__"=some (some (.builtin "getset_descriptor.__get__"))) (ht:takesIn K (.builtin "object.__class__")=some true) (hm:mroIn K C (.type "object")=some true) (hb:subIn K (.ref C) (.type "BaseException")=some true) (hq:Q (.ref C) ⟨h,g,d,t,os⟩) :
    wpAny (model prog w) A (getAttrBy (.ref a) (.str "__class__" tk) false) Q E ⟨h,g,d,t,os⟩:=by
  have L0:=I.type (M:=model prog w)
  have L1:=looks_findIn (M:=model prog w) X hga
  have L2:=looks_findIn (M:=model prog w) X hgt
  have f3:=F.attrBase_ValueError.ga.bind (.ref a)
  have hx2:(Value.builtin "BaseException.__getattribute__" == Value.builtin "object.__getattribute__")=false:=by decide +kernel
  unfold getAttrBy
  refine wpAny_holding (wpAny_bind (L0.at (wpAny_bind (L1.at ?_))))
  dsimp only
  rw [hx2,Bool.and_false,if_neg Bool.false_ne_true]
  unfold getAttrByItsOwn
  refine wpAny_bind ?_
  show wpAny _ _ (typeLookup (.ref C) "__getattr__") _ _ _
  refine L2.at (wpAny_bind (wpAny_attempt (wpAny_holding ?_)))
  show wpAny _ _ (boundAndCalled (.builtin "BaseException.__getattribute__") (.ref a) (.str "__class__" tk)) _ _ _
  unfold boundAndCalled
  rw [f3]
  refine wpAny_bind (wpAny_pure ?_)
  refine wpAny_call (codeAny_call_builtin F.attrBase_ValueError.ga.plain F.entry_bexc_ga (ze6 X I hb (zfA X I ha hn ht hm ?_)))
  exact handed_on rfl hq
theorem zfr {Q:Option Value→Shared→Prop} {s:Shared} (X:K.In s.heap) (I:Of s.heap a o C) (hga:findIn K (.ref C) "__getattribute__"=some (some (.builtin "BaseException.__getattribute__"))) (hgt:findIn K (.ref C) "__getattr__"=some none)
    (ha:findIn K (.ref C) "__class__"=some (some (.builtin "object.__class__"))) (hn:specialIn K (.builtin "object.__class__") "__get__"=some (some (.builtin "getset_descriptor.__get__"))) (ht:takesIn K (.builtin "object.__class__")=some true) (hm:mroIn K C (.type "object")=some true) (hb:subIn K (.ref C) (.type "BaseException")=some true)
    (hq:Q (some (.ref C)) { s with toks:=s.toks+1 }):wpAny (model prog w) A (getAttr? (.ref a) "__class__") Q E s:=by
  obtain ⟨hh,g,d,t,os⟩:=s
  unfold getAttr? getAttrBy?
  exact wpAny_bind (wpAny_mkText (wpAny_bind (wpAny_attempt (zkj X I hga hgt ha hn ht hm hb (wpAny_pure hq)))))
def vC (K:PySem.W.Frag) (C:Addr):Bool:=(clsIn K C).isSome&&findIn K (.ref C) "__getattribute__" == some (some (.builtin "BaseException.__getattribute__"))&&findIn K (.ref C) "__getattr__" == some none&&findIn K (.ref C) "__class__" == some (some (.builtin "object.__class__"))
  && specialIn K (.builtin "object.__class__") "__get__" == some (some (.builtin "getset_descriptor.__get__"))&&takesIn K (.builtin "object.__class__") == some true&&mroIn K C (.type "object") == some true&&subIn K (.ref C) (.type "BaseException") == some true
theorem zgy (q:vC K C=true):KitX K (.ref a) (.ref C) (fun h=>∃ o,Of h a o C):=by
  unfold vC at q
  simp only [Bool.and_eq_true,beq_iff_eq] at q
  obtain ⟨⟨⟨⟨⟨⟨⟨hcls,hga⟩,hgt⟩,ha⟩,hn⟩,ht⟩,hm⟩,hb⟩:=q
  obtain ⟨cd,hcd⟩:=Option.isSome_iff_exists.mp hcls
  unfold clsIn at hcd
  refine ⟨fun _ _ _ ⟨_,I⟩=>I.type,fun _ _ X _=>?_,fun h tp dd its n sl X htp=>?_,fun X ⟨_,I⟩ k=>zfr X I hga hgt ha hn ht hm hb k⟩
  · split at hcd
    · rename_i c' d' cd' sl' ho
      intro A' Q' E' s' k q
      unfold isType loadHead
      exact wpAny_bind (wpAny_loadPart (k _ _ (X _ _ ho)) (wpAny_pure q))
    · cases hcd
  · refine Bool.eq_false_iff.mpr fun q=>?_
    have e:C=tp:=Value.ref.inj (beq_iff_eq.mp q)
    subst e
    split at hcd
    · rename_i c' d' cd' sl' ho
      have z:=(X _ _ ho).symm.trans htp
      cases z
    · cases hcd
theorem Vr {c:Value}{b:Bool}{s:Shared}{Q:Value→Shared→Prop}(q:vC K C=true)(X:K.In s.heap)(I:∃ o,Of s.heap a o C)(e:kitOne K (.ref C) c=some b)(hq:∀ tk,Q (.bool b) { s with toks:=tk }) :
    wpAny (model prog w) A (call (.builtin "isinstance") [.ref a,c]) Q E s:=kia_one (zgy q) X I e (by intro z;cases z) hq
end
end L2
namespace L2
open PySem PySem.Spec PyProof.Rows
section
variable {P:Program}{w:World}{K:PySem.W.Frag}{mg:Str→Option Value}{base:Heap}
def zfU (P:Program)(w:World)(K:PySem.W.Frag)(mg:Str→Option Value)(base:Heap)(k:Nat)(f:Addr)(fd:FuncData)(ps:List Str)(sp:Sp):Prop :=
  (∀ vs H Q E,sp vs H Q E→vs.length=ps.length)∧∀ (A:Around) (outer:List Env) (s:Shared) (H:Hp) (args:Args) (us:List Value) (vs:List V) (Q:VK) (E:XK) (ev:Value),YO k A→zjQ P w K mg base A outer s H→BindsTo s fd args (ps.zip us)→yr vs us→sp vs H Q E →
    codeAny (model P w) (A.mark (some ev)) (.call (.ref f) args) (CR CX0 outer P w H s Q E) s
theorem zjc {x qual:Str}{st:Stmt}{f:Addr}{fd:FuncData}{N ps:List Str}{k:Nat}{sp:Sp}(F:Fun K x qual st f fd)(S:zx N ps (zg st))(len:∀ vs H Q E,sp vs H Q E→vs.length=ps.length)
    (hbody:∀ (cdv:Value) (A:Around) (outer:List Env) (s:Shared) (H:Hp) (vs:List V) (Q:VK) (E:XK) (ev:Value),YO k (A.deeper (envOfC qual (zg st) s.heap.objs.size f cdv))→sp vs H Q E →
      ∃ t,PSs ((VF CX0 P w K mg base N qual (zg st) f cdv A outer s H E).held ev).nox (zv st) t∧t { nx:=fun _ H'=>Q .non H',rt:=Q } (start N vs) H):zfU P w K mg base (k+1) f fd ps sp:=by
  obtain ⟨oc,od,kV,doc,pm,an,cdv,ct,osl,rfl,lk,hcd⟩:=F.ex
  refine ⟨len,fun A outer s H args us vs Q E ev hr e0 hb r hsp=>?_⟩
  have KX:K.In s.heap:=e0.mod.kin.keeps fun b o e=>(e0.bs b o e).1
  have lim:s.heap.NoLimit:=e0.mod.nolimit.keeps fun b o e=>(e0.bs b o e).1
  refine codeAny_call_function (A:=A.mark (some ev)) hr.depth (KX _ _ lk) rfl S.co S.gen rfl (PySem.W.codeRec_of KX hcd) (hb _ _ _ _ ?_)
  refine wpAny_newFunctionEnv_cells S.kind (fun y hy=>?_) fun env he s1 x=>?_
  · rcases S.par y.1 (List.of_mem_zip (a:=y.1) (b:=y.2) hy).1 with q | q
    · exact .inl q
    · exact .inr ⟨q,PySem.W.cellsFrom_some _ _ _ (.inl q)⟩
  subst he
  refine ⟨lim.keeps x.toInCall.keep,codeAny_func ?_⟩
  obtain ⟨t,ht,hq⟩:=hbody cdv A outer s H vs Q E ev (hr.deeper _) hsp
  have I:Inv (VF CX0 P w K mg base N qual (zg st) f cdv A outer s H E) [] (start N vs) H s1:=zbL S hr.hd e0 (len _ _ _ _ hsp) r x
  refine wpAny_mono (ht [] s1 (start N vs) H _ ((I.held ev).wish _) hq) (fun fl s' hs=>?_) fun e s' hs=>hs.elim
  cases fl with
  | ret u =>
    obtain ⟨v,σ',H',J,rv,q⟩:=hs
    exact ⟨v,H',J.os,J.bare,J.base,J.hok,rv,q⟩
  | next =>
    obtain ⟨σ',H',J,q⟩:=hs
    exact ⟨V.non,H',J.os,J.bare,J.base,J.hok,rfl,q⟩
  | brk =>
    obtain ⟨_,_,_,q⟩:=hs
    exact False.elim q
  | cont =>
    obtain ⟨_,_,_,q⟩:=hs
    exact False.elim q
end
theorem zgC {Y:Cx}{ev:Value}{k:Nat}{f:Addr}{fd:FuncData}{ps:List Str}{sp:Sp}{x:Str}{p pos:Pos}{e:Expr}{es:List Expr}{t:TA}{E:XK}(F:zfU Y.prog Y.w Y.K Y.mg Y.base k f fd ps sp)(hr:YO k Y.A)(hg:Gl Y x)(hm:Y.mg x=some (.ref f))(hk:PySem.W.keepIn Y.K (.ref f)=true)(hb:Vv Y.K fd ps [])(hok:Y.Ok)
    (ha:PA (Y.held ev).nox (e::es) t) (hdb:(x == ("__debug__":Str))=false:=by decide) (he:starEach (e::es) Y.env=(false,eval e Y.env)::starEach es Y.env:=by rfl) (hpl:(backTo pos (starEach es Y.env)).any (·.1)=false:=by rfl) :
    PE (Y.held ev).nox (.Call (.Name x p) (e::es) [] pos) (ziQ sp [] E t):=by
  intro pins s σ H Q I h
  refine wpAny_Call_Name_kw (WP I hg hm ?_ hdb)
  refine PySem.W.callWith_K (h₀:=Y.base) I.ok.mod.kin hk (thn (ha pos pins s σ H _ I h) fun us s1 ⟨vs,H1,I1,r,q⟩=>⟨I1.kIn,?_⟩) he hpl
  have q:sp (vs++[]) H1 Q E:=q
  rw [List.append_nil] at q
  have I2:Inv Y pins σ H1 s1:=Inv.unheld (X:=Y) hok I1.unwish
  refine wpAny_call (codeAny_mono (F.2 Y.A Y.stack s1 H1 ⟨us,[]⟩ us vs Q E ev hr I2.env0 ?_ r q) fun r s' hq=>?_)
  · have:=hb s1 us I2.kIn (by rw [List.append_nil,← r.length];exact F.1 _ _ _ _ q)
    rwa [List.append_nil] at this
  · cases r with
    | error e=>exact False.elim hq
    | ok fl =>
      cases fl with
      | ret u=>exact I1.after hq
      | next=>exact False.elim hq
      | brk=>exact False.elim hq
      | cont=>exact False.elim hq
end L2
namespace L2
open PySem PySem.Spec PyProof.Rows PySem.SeqAt
theorem zaM:∀ {bs:List Bool} {its:List Value},yr (bs.map V.bl) its→its=bs.map Value.bool
  | [],its,r=>by
    have:=r.length
    exact List.eq_nil_of_length_eq_zero (by rw [←this];rfl)
  | b::bs,its,r=>by
    cases r with
    | cons r1 r2 =>
      rw [zaM r2]
      cases r1
      rfl
theorem zdg {A:Around}{s:Shared}{bs:List Bool}{y:Value}(h:y∈(bs.map Value.bool).toArray):EqAt A s y (.bool true) (isBoolOf true y):=by
  obtain ⟨b,_,rfl⟩:=List.mem_map.mp (List.mem_toArray.mp h)
  exact EqAt.bool_bool b true
def zel:V→List V→Hp→VK→Prop:=fun x vs H Q=>∃ (l:Addr) (bs:List Bool),x=.ref l∧vs=[.bl true]∧H l=some (.lst (bs.map V.bl))∧Q (.int ((bs.countP (· == true):Nat):Int)) H
theorem zeW {X:Cx}:MtR X "list.count" zel:=by
  intro pins s σ H x vs v us Q I rx rv h
  obtain ⟨l,bs,rfl,rfl,hH,q⟩:=h
  cases rx
  obtain ⟨u,rfl,ru⟩:=rv.one
  cases ru
  obtain ⟨its,r,pl,hz⟩:=I.list (SqL.of (K:=X.K) hH)
  have e:=zaM r
  subst e
  obtain ⟨⟨cls,dd,data,sl⟩,ho,hc,n,hd⟩:=pl.isList
  simp only at hc hd
  subst hc hd
  refine call_meets PySem.F.slot_list_count ⟨_,ho,rfl⟩ PySem.F.entry_list_count (PySem.F.args_list_count_2 _ _) (list_countAt l (bs.map Value.bool).toArray n dd sl (.bool true) (isBoolOf true)) ⟨ho,fun y hy=>zdg hy,?_⟩
  refine ⟨.int (((bs.map Value.bool).toArray.toList.countP (isBoolOf true):Nat):Int),H,I.tok _,⟨_,rfl⟩,?_⟩
  rw [show (bs.map Value.bool).toArray.toList=bs.map Value.bool from rfl,List.countP_map]
  exact q
def zeu:V→List V→Hp→VK→Prop:=fun x vs H Q=>∃ (l:Addr) (bs:List Bool),x=.ref l∧vs=[.bl true]∧H l=some (.lst (bs.map V.bl))∧true∈bs∧Q (.int ((bs.idxOf true:Nat):Int)) H
theorem zen {X:Cx}:MtR X "list.index" zeu:=by
  intro pins s σ H x vs v us Q I rx rv h
  obtain ⟨l,bs,rfl,rfl,hH,hm,q⟩:=h
  cases rx
  obtain ⟨u,rfl,ru⟩:=rv.one
  cases ru
  obtain ⟨its,r,pl,hz⟩:=I.list (SqL.of (K:=X.K) hH)
  have e:=zaM r
  subst e
  obtain ⟨⟨cls,dd,data,sl⟩,ho,hc,n,hd⟩:=pl.isList
  simp only at hc hd
  subst hc hd
  have hj:bs.idxOf true < bs.length:=List.idxOf_lt_length_iff.mpr hm
  have hl63:=VW
  have hb:bs.length≤sizeLine:=by simpa using hz
  refine call_meets PySem.F.slot_list_index ⟨_,ho,rfl⟩ PySem.F.entry_list_index (PySem.F.args_list_index_2 _ _) (list_indexAt l (bs.map Value.bool).toArray n dd sl (.bool true) (isBoolOf true) (bs.idxOf true) (by simpa using hj) (by omega) ?_ ?_) ⟨ho,fun y hy=>zdg hy,⟨.int ((bs.idxOf true:Nat):Int),H,I.tok _,⟨_,rfl⟩,q⟩⟩
  · simp only [List.getElem_toArray,List.getElem_map]
    rw [List.getElem_idxOf hj]
    rfl
  · intro m hm2 hlt
    simp only [List.getElem_toArray,List.getElem_map]
    exact List.not_of_lt_findIdx (p:=(· == true)) (xs:=bs) hlt
end L2
namespace L2
open PySem PySem.Spec PyProof.Rows
def clsV:V→Option Value
  | .ref C=>some (.ref C)
  | .ty T=>some (.type T)
  | _=>none
def zlG (K:PySem.W.Frag):List V→Hp→VK→Prop:=fun vs H Q=>∃ (a C:Addr) (v:V) (c:Value) (b:Bool),vs=[.ref a,v]∧H a=some (zeS a C)∧vC K C=true∧clsV v=some c∧PySem.W.kitOne K (.ref C) c=some b∧Q (.bl b) H
theorem yX {X:Cx}:YL X (.builtin "isinstance") (zlG X.K):=by
  intro pins s σ H vs us Q I rv h
  obtain ⟨a,C,v,c,b,rfl,hH,hl,hc,hk,q⟩:=h
  obtain ⟨u1,u2,rfl,r1,r2⟩:∃ u1 u2,us=[u1,u2]∧xZ (.ref a) u1∧xZ v u2:=by
    cases rv with
    | cons r1 r=>cases r with
      | cons r2 r=>cases r;exact ⟨_,_,rfl,r1,r2⟩
  cases r1
  have e2:u2=c:=by
    cases v <;> try cases hc
    · cases r2;rfl
    · cases r2;rfl
  subst e2
  obtain ⟨⟨oe,h1,h2⟩,_⟩:=I.hok a _ hH
  exact Vr hl I.kIn ⟨oe,h1,h2⟩ hk fun tk=>⟨.bl b,H,I.tok tk,rfl,q⟩
theorem zc7 {K:PySem.W.Frag}{σ:St}{H:Hp}{a C:Addr}{v:V}{c:Value}{b:Bool}{Q:VK}(h0:σ[0]?=some (some (.ref a)))(hH:H a=some (zeS a C))(hl:vC K C=true)(hc:clsV v=some c)(hk:PySem.W.kitOne K (.ref C) c=some b)(q:Q (.bl b) H) :
    tCB (zlG K) (WA (zb0 0) (WA (tC v) zh3)) σ H Q:=⟨.ref a,h0,⟨a,C,v,c,b,rfl,hH,hl,hc,hk,q⟩⟩
end L2
namespace Dl
open PySem L2
variable [KK]
section
variable {E:XK}{cl:Nat→Addr}{X:Cx}{e:Expr}{es:List Expr}
end
end Dl
namespace L2
open PySem PySem.Spec PyProof.Rows
def zdX (n j:Nat):List Bool:=(List.range n).map fun i=>i == j
def zdf (K:PySem.W.Frag) (cs:List Addr) (CS C:Addr) (j:Nat):Bool:=vC K C&&(PySem.W.kitOne K (.ref C) (.type "ValueError") == some true)&&(PySem.W.exmOne K (.ref C) (.ref CS) == some true)&&(cs.map (fun c=>PySem.W.kitOne K (.ref C) (.ref c)) == (zdX cs.length j).map some)
set_option genInjectivity false in
set_option genSizeOf false in
set_option genCtorIdx false in
structure zcI (K:PySem.W.Frag) (cs:List Addr) (CS C:Addr) (j:Nat):Prop where
  look:vC K C=true
  val:PySem.W.kitOne K (.ref C) (.type "ValueError")=some true
  exm:PySem.W.exmOne K (.ref C) (.ref CS)=some true
  hot:cs.map (fun c=>PySem.W.kitOne K (.ref C) (.ref c))=(zdX cs.length j).map some
theorem zcI.of {K:PySem.W.Frag}{cs:List Addr}{CS C:Addr}{j:Nat}(h:zdf K cs CS C j=true):zcI K cs CS C j:=by
  unfold zdf at h
  simp only [Bool.and_eq_true,beq_iff_eq] at h
  exact ⟨h.1.1.1,h.1.1.2,h.1.2,h.2⟩
section
variable {K:PySem.W.Frag}{σ:St}{H H0:Hp}{a C:Addr}
def tIs (K:PySem.W.Frag):List Addr→TA
  | []=>zh3
  | c::r=>WA (tCB (zlG K) (WA (zb0 0) (WA (tC (.ref c)) zh3))) (tIs K r)
theorem zio (h0:σ[0]?=some (some (.ref a)))(hH:H a=some (zeS a C))(hl:vC K C=true):∀ (cs:List Addr) (bs:List Bool) (Q:List V→Hp→Prop),cs.map (fun c=>PySem.W.kitOne K (.ref C) (.ref c))=bs.map some→Q (bs.map V.bl) H→tIs K cs σ H Q:=by
  intro cs
  induction cs with
  | nil =>
    intro bs Q e q
    cases bs with
    | nil=>exact q
    | cons b r=>cases e
  | cons c r ih =>
    intro bs Q e q
    cases bs with
    | nil=>cases e
    | cons b bs =>
      obtain ⟨e1,e2⟩:=List.cons.inj e
      exact zc7 h0 hH hl rfl e1 (ih bs _ e2 q)
structure KSt (H0:Hp) (a C:Addr) (bs:List Bool) (σ:St) (H:Hp):Prop where
  same:yJ H0 H
  len:σ.length=2
  e0:σ[0]?=some (some (.ref a))
  he:H a=some (zeS a C)
  lst:∃ p,σ[1]?=some (some (.ref p))∧H p=some (.lst (bs.map V.bl))
theorem zfx {bs:List Bool}{p:Addr}(s:yJ H0 H)(hl:σ.length=2)(e0:σ[0]?=some (some (.ref a)))(he:H a=some (zeS a C))(hp:H p=none):KSt H0 a C bs (σ.set 1 (some (.ref p))) (upd H p (.lst (bs.map V.bl))):=by
  refine ⟨fun b o e=>?_,by rw [List.length_set];exact hl,?_,?_,p,?_,zu⟩
  · have:=s b o e
    rw [zr (zn this hp)];exact this
  · rw [List.getElem?_set_ne (by decide)];exact e0
  · rw [zr (zn he hp)];exact he
  · rw [List.getElem?_set_self (by omega)]
theorem zfB {cs:List Addr}{bs:List Bool}{D:zbe}(hk:vC K C=true)(e:cs.map (fun c=>PySem.W.kitOne K (.ref C) (.ref c))=bs.map some)(hb:bs.length≤sizeLine)(hl:σ.length=2)(e0:σ[0]?=some (some (.ref a)))(he:H a=some (zeS a C))(k:∀ σ' H',KSt H a C bs σ' H'→D.nx σ' H') :
    zi8 (zlX (tIs K cs)) (Y7 1) D σ H :=
  zio e0 he hk cs bs _ e ⟨by rw [List.length_map];exact hb,fun p hp=>k _ _ (zfx (.refl _) hl e0 he hp)⟩
theorem zaf {cs:List Addr}{bs0 bs:List Bool}{D:zbe}(hk:vC K C=true)(e:cs.map (fun c=>PySem.W.kitOne K (.ref C) (.ref c))=bs.map some)(hb:bs0.length+bs.length≤sizeLine)(S:KSt H0 a C bs0 σ H)(k:∀ σ' H',KSt H0 a C (bs0++bs) σ' H'→D.nx σ' H') :
    zi8 (tOp zl8 (zb0 1) (zlX (tIs K cs))) (Y7 1) D σ H:=by
  obtain ⟨p,e1,hp⟩:=S.lst
  refine ⟨.ref p,e1,zio S.e0 S.he hk cs bs _ e ⟨by rw [List.length_map];omega,fun q hq=>?_⟩⟩
  refine ⟨p,q,bs0.map V.bl,bs.map V.bl,rfl,rfl,by rw [zr (zn hp hq)];exact hp,zu,by rw [List.length_map,List.length_map];exact hb,fun r hr=>?_⟩
  rw [←List.map_append]
  refine k _ _ (zfx (fun b o e=>?_) S.len S.e0 ?_ hr)
  · have:=S.same b o e
    rw [zr (zn this hq)];exact this
  · rw [zr (zn S.he hq)];exact S.he
theorem zfX:∀ j:Nat,j < 13→(zdX 13 j).countP (· == true)=1∧(zdX 13 j).idxOf true=j∧true∈zdX 13 j:=by decide +kernel
theorem ziP {j:Nat} {D:zbe} {tr:TS} (hv:PySem.W.kitOne K (.ref C) (.type "ValueError")=some true) (hk:vC K C=true) (hj:j < 13) (S:KSt H0 a C (zdX 13 j) σ H) (k:D.rt (.int j) H) :
    tSeq (tIfS (tOr (tNot (tB (tCB (zlG K) (WA (zb0 0) (WA (tC (.ty "ValueError")) zh3))))) (zi3 (tOp rNe (tBM K "list" zel (zb0 1) (WA (tC (.bl true)) zh3)) (tC (.int 1))))) tr zkm) (zl4 (tBM K "list" zeu (zb0 1) (WA (tC (.bl true)) zh3))) D σ H:=by
  obtain ⟨h1,h2,h3⟩:=zfX j hj
  obtain ⟨p,e1,hp⟩:=S.lst
  refine zc7 S.e0 S.he hk rfl hv ⟨true,rfl,?_⟩
  show (if (!true)=true then _ else _)
  rw [if_neg (by decide)]
  refine ⟨.ref p,e1,.inl ⟨rfl,_,SqL.of hp⟩,p,_,rfl,rfl,hp,?_⟩
  rw [h1]
  refine ⟨rfl,false,by rw [zcf];rfl,?_⟩
  show (if false=true then _ else _)
  rw [if_neg (by decide)]
  refine ⟨.ref p,e1,.inl ⟨rfl,_,SqL.of hp⟩,p,_,rfl,rfl,hp,h3,?_⟩
  rw [h2]
  exact k
end
def zf7 (cl:Nat→Addr)(ok:Nat→Prop):Sp:=fun vs H Q _=>∃ a j,vs=[.ref a]∧H a=some (zeS a (cl j))∧ok j∧∀ H',yJ H H'→Q (.int (j:Nat)) H'
theorem PS.nox {X:Cx}{st:Stmt}{t:TS}(h:PS X.nox st t):PS X st t:=fun pins s σ H D I hw =>
  wpAny_mono (h pins s σ H D (I.wish _) hw) (fun _ _ q=>q.unwish) fun _ _ z=>False.elim z
end L2
namespace Dl
open PySem L2
variable [KK]
theorem SD.nox {X:Cx}{st:Stmt}{g:SE→Ctl}(h:SD X.nox st g):SD X st g:=let ⟨t,p,r⟩:=h;⟨t,p.nox,r⟩
def xEx (fx:Ev→Option Nat):SE→Option Nat:=fun ρ=>fx (visG ρ)
theorem zbr {E:XK}{cl:Nat→Addr}{X:Cx}{sts:List Stmt}:XSs E cl X sts xNo:=⟨fun _ _ _=>False,fun _ _ _ _ _ _ h=>h.elim,fun _ _ _ _ _ _ _ _ _ h _=>by cases h⟩
theorem Gr.more {F H H':Hp}(s:yJ F H)(k:yJ H H'):Gr F H F H':=⟨yJ.refl _,s.trans k,fun p o e1 e2=>⟨.inl e1,k p o e2⟩⟩
def zjW (gx:SE→Option Nat)(g:SE→Ctl)(h:Nat→Option D):SE→Ctl:=fun ρ=>match gx ρ with
  | some j=>match h j with
    | some d=>.rt d
    | none=>.no
  | none=>g ρ
def RU (cl:Nat→Addr)(i:Nat)(u:TS)(h:Nat→Option D):Prop:=∀ (j:Nat) (d:D) (σ:St) (H:Hp) (a:Addr) (D':zbe),h j=some d→σ[i]?=some (some (.ref a))→H a=some (zeS a (cl j))→(∀ H' v,yJ H H'→(∀ F,At F d v)→D'.rt v H')→u D' σ H
theorem zli {Y:Cx}{CS:Addr}{x n:Str}{i:Nat}{body suite:List Stmt}{b₀:Stmt}{pos hpos np:Pos}{cl:Nat→Addr}{g:SE→Ctl}{gx:SE→Option Nat}{u:TS}{h:Nat→Option D}(hst:Y.stack=Y.env::Y.outer)(hf:Y.env.frame=some Y.env.locals)(hex:Y.ex=[])
    (hN:Y.N.Nodup) (hi:Y.N[i]?=some n) (hk:Y.env.scope.names.lookup n=some .local) (hg:Gl Y x) (hm:Y.mg x=some (.ref CS))
    (hbx:∀ (ps:List (Addr × Obj)) (W:Value→Shared→Prop) (E0:XK),XN (Air Y.prog Y.w) ((Y.pinned ps).wish W) E0→XSs E0 cl ((Y.pinned ps).wish W) body gx)
    (hb:∀ (ps:List (Addr × Obj)) (W:Value→Shared→Prop),SDs ((Y.pinned ps).wish W) body g)
    (hexm:∀ j d,h j=some d→PySem.W.exmOne Y.K (.ref (cl j)) (.ref CS)=some true)
    (hsuite:Y.Ok→∀ ea,PSs (Y.held (.ref ea)).nox (b₀::suite) u) (hu:RU cl i u h) (hd:(x == ("__debug__":Str))=false:=by decide) :
    SD Y.nox (.Try body [.ExceptHandler (some (.Name x np)) (some n) (b₀::suite) hpos] [] [] pos) (zjW gx g h):=by
  let tb:XK→TS:=fun E0 D σ H=>∀ (ps:List (Addr × Obj)) (W:Value→Shared→Prop),XN (Air Y.prog Y.w) ((Y.pinned ps).wish W) E0→∃ t,PSs ((Y.pinned ps).wish W) body t∧t D σ H
  refine ⟨fun D σ H=>tb (exW Y.K CS i Y.N.length u D) D σ H,fun pins s σ H D I hq=>?_,fun Fb Hb F H ρ σ D rl k=>?_⟩
  · refine zk7 (tb:=tb) hst hf hex hN hi hk hg hm (fun ps W E0 hP pins s σ H D I hq=>?_) (hsuite I.ok.unwish) hd pins s σ H D I hq
    obtain ⟨t,p,ht⟩:=hq ps W hP
    exact p pins s σ H D I ht
  · intro ps W hP
    unfold zjW at k
    cases e:gx ρ with
    | none =>
      rw [e] at k
      obtain ⟨t,p,r⟩:=hb ps W
      exact ⟨t,p,r Fb Hb F H ρ σ D rl k⟩
    | some j =>
      rw [e] at k
      dsimp only at k
      cases e2:h j with
      | none=>rw [e2] at k;exact k.elim
      | some d =>
        rw [e2] at k
        obtain ⟨t,p,r⟩:=hbx ps W _ hP
        refine ⟨t,p,r Fb Hb F H ρ σ D j rl e fun F' H' gr=>⟨_,rfl,hexm j d e2,fun ea σ' hl hn=>?_⟩⟩
        have hi':i < σ'.length:=by
          rw [hl]
          exact (List.getElem?_eq_some_iff.mp hi).1
        refine hu j d _ _ ea _ e2 (by rw [List.getElem?_set_self hi']) zu fun H'' v sm av=>?_
        have sm0:yJ H' (upd H' ea (zeS ea (cl j))):=fun b o q=>by rw [zr (zn q hn)];exact q
        exact k F' H'' v (gr.trans (Gr.more gr.fh (sm0.trans sm))) (av F')
def hIn (js:List Nat):Nat→Option D:=fun j=>if j∈js then some (.int j) else none
theorem zgJ {cl:Nat→Addr}{i:Nat}{js:List Nat}{E:XK}{ok:Nat→Prop}(hok:∀ j,j∈js→ok j):RU cl i (zl4 (ziQ (zf7 cl ok) [] E (WA (zb0 i) zh3))) (hIn js):=by
  intro j d σ H a D' e h0 hH k
  unfold hIn at e
  split at e <;> try cases e
  rename_i hj
  exact ⟨.ref a,h0,a,j,rfl,hH,hok j hj,fun H' sm=>k H' _ sm fun F=>.int⟩
end Dl
namespace OwnSort
open PySem PyProof.Rows
section
variable {prog:Program}{w:World}{A:Around}{E:Value→Shared→Prop}{s:Shared}
end
end OwnSort
namespace Dl
open PySem L2
variable [KK]
section
variable {X:Cx}{e:Expr}{pos:Pos}
end
end Dl
namespace Dl
open PySem L2
variable [KK]
section
variable {E:XK}{cl:Nat→Addr}{X:Cx}{a b:Expr}{pos:Pos}
end
end Dl
namespace L2
open PySem PySem.Spec PyProof.Rows
section
variable {prog:Program}{w:World}{A:Around}{E:Value→Shared→Prop}{s:Shared}
theorem zbw {sl:Addr}{tk:Tok}{Q:Int × Int × Nat→Shared→Prop}(hs:s.heap.IsSliceOf sl .none .none (.int (-1) tk))(h:Q (1,-1,2) s):wpAny (model prog w) A (Builtin.Slice.sliceApplied (.ref sl) (pure (2:Int))) Q E s:=by
  obtain ⟨os,hos,hcs,hds⟩:=hs
  unfold Builtin.Slice.sliceApplied Builtin.Slice.sliceFields
  refine wpAny_bind (wpAny_bind (wpAny_field hos hds (x:=.none) rfl (wpAny_bind (wpAny_field hos hds (x:=.none) rfl (wpAny_bind (wpAny_field hos hds (x:=.int (-1) tk) rfl (wpAny_pure ?_)))))))
  refine wpAny_bind (slicePart_int ?_)
  show wpAny _ _ (if ((-1:Int) == 0)=true then _ else _) _ _ s
  rw [if_neg (by decide)]
  refine wpAny_bind (slicePart_none (wpAny_bind (slicePart_none (wpAny_bind (wpAny_pure ?_)))))
  show wpAny _ _ (pure ((1:Int),(-1:Int),(2:Nat))) _ _ s
  exact wpAny_pure h
theorem zbn {t sl:Addr}{x y:Value}{tk:Tok}{Q:Value→Shared→Prop}(ht:IsTup s.heap t #[x,y])(hs:s.heap.IsSliceOf sl .none .none (.int (-1) tk))
    (h:Q (.ref s.heap.objs.size) { s with heap:=s.heap.push { cls:=.type "tuple",data:=.seq #[y,x] } }):wpAny (model prog w) A (getItem (.ref t) (.ref sl)) Q E s:=by
  have htake:sizeOk (.seq #[y,x]):=by
    show (#[y,x]:Array Value).size≤sizeLine
    rw [sizeLine_eq]
    exact Nat.le_of_ble_eq_true rfl
  obtain ⟨os,hos,hcs,hds⟩:=id hs
  have hTs:s.TypeIs (.ref sl) "slice":=⟨os,hos,hcs⟩
  unfold getItem
  try with_reducible refine wpAny_holding ?_
  first | refine wpAny_bind (wpAny_pure ?_) | skip
  refine wpAny_bind (wpAny_sequenceKey ht.typeIs (by decide) ?_)
  refine wpAny_bind (wpAny_callSpecial?_slot (name:=Str.ofString "__getitem__") ht.typeIs PyProof.Rows.slot_tuple_getitem
    (wpAny_call_entry PyProof.Rows.slot_tuple_getitem ht.typeIs entry_tuple_getitem ?_ (args_tuple_getitem _ _)))
  show wpAny _ _ (Builtin.Tuple.tupleItemsOf (.ref t)>>=_) _ _ s
  refine wpAny_bind (tupleItemsOf_ ht (wpAny_bind (wpAny_typeOf hTs ?_)))
  rw [if_pos (by decide)]
  refine wpAny_bind (zbw hs ?_)
  show wpAny _ _ (if ((1:Int) == 0&&(-1:Int) == 1&&(2:Nat) == 2)=true then _ else _) _ _ s
  rw [if_neg (by decide)]
  first
    | exact wpAny_bind (m:=Builtin.Tuple.tupleExact _) (wpAny_newObj_type (wpAny_pure ⟨_,rfl,wpAny_pure h⟩) htake)
    | exact wpAny_bind (m:=Builtin.Tuple.tupleExact _) (wpAny_newObj_type (wpAny_bind (wpAny_pure (wpAny_pure ⟨_,rfl,wpAny_pure h⟩))) htake)
    | exact wpAny_bind (wpAny_bind (m:=Builtin.Tuple.tupleExact _) (wpAny_newObj_type (wpAny_pure (wpAny_pure ⟨_,rfl,wpAny_pure h⟩)) htake))
    | exact wpAny_bind (wpAny_bind (m:=Builtin.Tuple.tupleExact _) (wpAny_newObj_type (wpAny_pure ⟨_,rfl,wpAny_pure h⟩) htake))
end
section
variable {X:Cx}{e st:Expr}{te:TE}{t3:TO}{pos p2:Pos}
def zl6 (te:TE)(t3:TO):TE:=fun σ H Q=>te σ H fun x H1=>t3 σ H1 fun k H2=>∃ a u v,k=some (-1)∧x=.ref a∧H2 a=some (.tup [u,v])∧∀ p,H2 p=none→Q (.ref p) (upd H2 p (.tup [v,u]))
theorem ziL (he:PE X e te)(hst:PO X (some st) t3):PE X (.Subscript e (.Slice none none (some st) p2) pos) (zl6 te t3):=by
  intro pins s σ H Q I h
  refine Subscript_ (thn (he pins s σ H _ I h) fun v s1 hh9=>?_)
  obtain ⟨x,H1,I1,r1,q1⟩:=hh9
  refine wpAny_Slice ?_
  rw [evalPart_none]
  refine wpAny_pure (wpAny_pure ?_)
  refine thn (hst pins s1 σ H1 _ I1 q1) fun vk s3 hh9=>?_
  obtain ⟨k,H3,I3,pk,q3⟩:=hh9
  obtain ⟨a,u1,u2,rfl,rfl,hx,q⟩:=q3
  cases r1
  obtain ⟨tk,rfl⟩:∃ tk,vk=.int (-1) tk:=by cases pk;exact ⟨_,rfl⟩
  have I4:Inv X pins σ H3 { s3 with heap:=s3.heap.push { cls:=.type "slice",data:=.fields #[.none,.none,.int (-1) tk] } }:=I3.kept (t':=s3.toks) fun b ob q=>Heap.get?_push_of_some _ q
  obtain ⟨its,r,ht,hz⟩:=I4.tuple (SqT.of hx)
  obtain ⟨y1,y2,rfl,ry1,ry2⟩:=zbZ r
  show wpAny (model X.prog X.w) X.A (subscriptTail e (.Slice none none (some st) p2) (.ref a) (.ref s3.heap.objs.size)) (EP X pins σ Q) X.xe { s3 with heap:=s3.heap.push { cls:=.type "slice",data:=.fields #[.none,.none,.int (-1) tk] } }
  refine tail_any (ops:=[.ref a,.ref s3.heap.objs.size]) ht.typeIs PyProof.Rows.slot_tuple_getitem.lookup (zbn ht (Heap.IsSliceOf.new ..) ?_) (by with_unfolding_all rfl)
  refine ⟨.ref (s3.heap.push { cls:=.type "slice",data:=.fields #[.none,.none,.int (-1) tk] }).objs.size,_,I4.laid (t':=s3.toks) (o:=.tup [u2,u1]) (fun b ob q=>Heap.get?_push_of_some _ q) (Nat.le_refl _) ?_,rfl,q _ (I4.hok.fresh (Nat.le_refl _))⟩
  exact ⟨by rw [sizeLine_eq];exact Nat.le_of_ble_eq_true rfl,[y2,y1],.cons ry2 (.cons ry1 .nil),IsTup.new _ _⟩
end
end L2
namespace Dl
open PySem L2
variable [KK]
def zhx:D→Option D
  | .tup [a,b]=>some (.tup [b,a])
  | _=>none
theorem zjb {X:Cx}{a st:Expr}{f:Ev→Option D}{pos p2:Pos}(ha:ED X a f)(hst:PE X st (tUn (rU fun i=>.int (-i)) (tC (.int 1)))):ED X (.Subscript a (.Slice none none (some st) p2) pos) (eUn zhx f):=by
  obtain ⟨t,p,r⟩:=ha
  refine ⟨_,ziL p (ze7 hst),fun σ ρ F H z Q s va e q=>?_⟩
  obtain ⟨d,e1,e2⟩:=Option.bind_eq_some_iff.mp e
  refine r σ ρ F H d _ s va e1 fun F1 H1 v g1 a1=>?_
  unfold zhx at e2
  split at e2 <;> cases e2
  obtain ⟨p,xs,rfl,hx,al⟩:=a1.tup_inv
  obtain ⟨x,r1,rfl,ax,al⟩:=al.cons_inv
  obtain ⟨y,r1,rfl,ay,al⟩:=al.cons_inv
  cases al.nil_inv
  refine ⟨1,rfl,-1,rfl,p,x,y,rfl,rfl,g1.fh _ _ hx,fun n hn=>?_⟩
  have g2:=Gr.alloc g1.fh hn (.tup [y,x])
  exact q _ _ _ (g1.trans g2) (.tup zu (.cons (ay.mono g2.ff) (.cons (ax.mono g2.ff) .nil)))
end Dl
namespace L2
open PySem PySem.Spec PyProof.Rows
end L2
namespace Dl
open PySem L2
end Dl
namespace PySem
section
variable {prog:Program}{w:World}{A:Around}{R:Result→Shared→Prop}{it S:Addr}{fp wr:List Addr}{n:Nat}{P:Nat→Value→Prop}{St:Nat→Heap→Prop}{kw:List (Str × Value)}
end
end PySem
namespace PySem
open Sem (wp)
end PySem
namespace L2
open PySem PySem.Spec PyProof.Rows
section
variable {X:Cx}{e de:Expr}{p pos kp:Pos}{t:TA}{td:TE}
end
end L2
namespace Dl
open PySem L2
variable [KK]
section
variable {X:Cx}{e de:Expr}{p pos kp:Pos}
end
end Dl
namespace Dl
open PySem L2
variable [KK]
section
variable {X:Cx}
def rNeT:R2:=fun x y H Q=>∃ F ds es,yJ F H∧At F (.tup ds) x∧At F (.tup es) y∧okE 20 (.tup ds)=true∧okE 20 (.tup es)=true∧Q (.bl (!eqN 20 (.tup ds) (.tup es))) H
theorem zlh {k:Nat}(hr:YO k X.A):OpR X (compareOp .NotEq) rNeT:=by
  intro pins s σ H x y v u Q I rx ry h
  obtain ⟨F,ds,es,sm,a1,a2,k1,k2,q⟩:=h
  have hu:X.A.units+30 < cLine:=by have:=hr.un;omega
  obtain ⟨p,xs,rfl,hx,al⟩:=a1.tup_inv
  obtain ⟨p2,ys,rfl,hy,bl⟩:=a2.tup_inv
  cases rx
  cases ry
  obtain ⟨its,r,ht,hz⟩:=I.tuple (SqT.of (sm _ _ hx))
  obtain ⟨its2,r2,ht2,hz2⟩:=I.tuple (SqT.of (sm _ _ hy))
  have hl1:its.toArray.size=ds.length:=by rw [List.size_toArray,← r.length,al.length]
  have hl2:its2.toArray.size=es.length:=by rw [List.size_toArray,← r2.length,bl.length]
  refine SeqAt.RcNeAt.tuples (e:=fun j=>eqN 19 (ds.getD j .non) (es.getD j .non)) (show s.heap.IsTuple p its.toArray from ht) (show s.heap.IsTuple p2 its2.toArray from ht2) (by omega) (fun j g1 g2=>?_) _ _ _ _ ⟨.bl _,H,I,rfl,?_⟩
  · obtain ⟨x',ax,rx⟩:=al.nth r (j:=j) (by simpa using g1)
    obtain ⟨y',ay,ry⟩:=bl.nth r2 (j:=j) (by simpa using g2)
    exact WI I sm 19 (xn k1 (by rw [←hl1];exact g1)) (xn k2 (by rw [←hl2];exact g2)) ax ay (by simpa using rx) (by simpa using ry) (Nat.lt_of_le_of_lt (show X.A.units+20≤X.A.units+30 from Nat.add_le_add_left (by decide) _) hu)
  · rw [hl1,hl2,← WX]
    exact q
end
def zlB:D→D→Option D
  | .tup ds,.tup es=>if (okE 20 (.tup ds)&&okE 20 (.tup es))=true then some (.bl (!eqN 20 (.tup ds) (.tup es))) else none
  | _,_=>none
theorem zja:OpD rNeT zlB:=by
  intro F H x y d e z Q s ax ay ez q
  unfold zlB at ez
  split at ez
  · split at ez <;> cases ez
    rename_i hk
    rw [Bool.and_eq_true] at hk
    exact ⟨F,_,_,s,ax,ay,hk.1,hk.2,q F H _ (.refl s) .bl⟩
  · cases ez
end Dl
namespace Mz
open PySem Dl
abbrev Tie:=Int × Int
def ltP (s t:Tie):Prop:=s.1 < t.1∨(s.1=t.1∧s.2 < t.2)
instance (s t:Tie):Decidable (ltP s t):=by unfold ltP;infer_instance
theorem zf6 {a b c:Tie}(h:ltP a b)(k:ltP b c):ltP a c:=by
  unfold ltP at *
  omega
def zi (t:Tie):D:=.tup [.int t.1,.int t.2]
theorem zem {s t:Tie}(h:zi s=zi t):s=t:=by
  unfold zi at h
  injection h with h
  injection h with h1 h2
  injection h2 with h2 _
  injection h1 with h1
  injection h2 with h2
  exact Prod.ext h1 h2
def zN (many:Int)(ties:List Tie):D:=.tup [.int many,.tup (ties.map zi)]
set_option genInjectivity false in
set_option genSizeOf false in
set_option genCtorIdx false in
structure xy (many:Int) (ties:List Tie):Prop where
  lo:1≤many
  hi:many≤8
  rng:∀ t∈ties,0≤t.1∧t.1 < t.2∧t.2 < many
  srt:ties.Pairwise ltP
def leP (s t:Tie):Bool:=if s.1=t.1 then (if s.2=t.2 then true else decide (s.2≤t.2)) else decide (s.1≤t.1)
theorem ZU {s t:Tie}:leP s t=false↔ltP t s:=by
  unfold leP ltP
  by_cases h:s.1=t.1
  · rw [if_pos h]
    by_cases k:s.2=t.2
    · rw [if_pos k];simp;omega
    · rw [if_neg k,decide_eq_false_iff_not];omega
  · rw [if_neg h,decide_eq_false_iff_not];omega
def Zw:D→Option Tie
  | .tup [.int a,.int b]=>some (a,b)
  | _=>none
theorem Y2 (t:Tie):Zw (zi t)=some t:=rfl
theorem WH {d:D}{t:Tie}(h:Zw d=some t):d=zi t:=by
  unfold Zw at h
  split at h
  · cases h;rfl
  · cases h
def inR (m a:Int):Bool:=decide (0≤a)&&decide (a≤m - 1)
def wX (m:Int)(d:D):Bool:=match Zw d with
  | some t=>inR m t.1&&inR m t.2&&!decide (t.1=t.2)
  | none=>false
def zbP (p:Option Tie)(t:Tie):Bool:=match p with
  | some q=>!leP t q
  | none=>true
def yG (m:Int):Option Tie→List D→Bool
  | _,[]=>true
  | p,d::r=>match Zw d with
    | some t=>wX m d&&!decide (t.2 < t.1)&&zbP p t&&yG m (some t) r
    | none=>false
def Zj (m:Int):D→Bool
  | .tup ts=>yG m none ts
  | _=>false
def ZD:D→Bool
  | .tup [.int m,t]=>decide (1≤m)&&decide (m≤8)&&Zj m t
  | _=>false
theorem XT (m:Int):∀ (ts:List D) (p:Option Tie),yG m p ts=true↔∃ l:List Tie,ts=l.map zi∧(∀ t∈l,0≤t.1∧t.1 < t.2∧t.2 < m)∧(∀ q,p=some q→∀ t∈l,ltP q t)∧l.Pairwise ltP:=by
  intro ts
  induction ts with
  | nil =>
    intro p
    refine ⟨fun _=>⟨[],rfl,by simp,by simp,.nil⟩,fun _=>rfl⟩
  | cons d r ih =>
    intro p
    unfold yG
    cases e:Zw d with
    | none =>
      refine Iff.intro (fun h=>nomatch h) (fun hh=>?_)
      obtain ⟨l,h,_⟩:=hh
      cases l with
      | nil=>cases h
      | cons t l' =>
        rw [List.map_cons] at h
        injection h with h1 _
        rw [h1,Y2] at e
        cases e
    | some t =>
      have ed:=WH e
      subst ed
      simp only [wX,Y2,Bool.and_eq_true,Bool.not_eq_true',decide_eq_false_iff_not,inR,decide_eq_true_eq]
      rw [ih (some t)]
      constructor
      · rintro ⟨⟨⟨⟨⟨h1,h2⟩,h3⟩,h4⟩,h5⟩,l,rfl,hr,hq,hs⟩
        refine ⟨t::l,rfl,?_,?_,List.pairwise_cons.mpr ⟨hq t rfl,hs⟩⟩
        · intro u hu
          rcases List.mem_cons.mp hu with rfl | hu
          · omega
          · exact hr u hu
        · rintro q rfl u hu
          have hqt:ltP q t:=ZU.mp (by simpa [zbP] using h5)
          rcases List.mem_cons.mp hu with rfl | hu
          · exact hqt
          · exact zf6 hqt (hq t rfl u hu)
      · rintro ⟨l,h,hr,hq,hs⟩
        cases l with
        | nil=>cases h
        | cons u l' =>
          rw [List.map_cons] at h
          injection h with h1 h2
          have hu:=zem h1
          subst hu
          have hb:=hr t (by simp)
          refine ⟨⟨⟨⟨⟨by omega,by omega⟩,by omega⟩,by omega⟩,?_⟩,l',h2,fun v hv=>hr v (by simp [hv]),fun q hqe v hv=>?_,(List.pairwise_cons.mp hs).2⟩
          · cases p with
            | none=>rfl
            | some q =>
              have:=ZU.mpr (hq q rfl t (by simp))
              simp [zbP,this]
          · cases hqe
            exact (List.pairwise_cons.mp hs).1 v hv
theorem XC (d:D):ZD d=true↔∃ m ties,d=zN m ties∧xy m ties:=by
  constructor
  · intro h
    unfold ZD at h
    split at h
    · rename_i m t
      simp only [Bool.and_eq_true,decide_eq_true_eq] at h
      obtain ⟨⟨h1,h2⟩,h3⟩:=h
      unfold Zj at h3
      split at h3
      · rename_i ts
        obtain ⟨l,rfl,hr,_,hs⟩:=(XT m ts none).mp h3
        exact ⟨m,l,rfl,h1,h2,hr,hs⟩
      · cases h3
    · cases h
  · rintro ⟨m,ties,rfl,w⟩
    unfold zN ZD Zj
    simp only [Bool.and_eq_true,decide_eq_true_eq]
    exact ⟨⟨w.lo,w.hi⟩,(XT m _ none).mpr ⟨ties,rfl,w.rng,by simp,w.srt⟩⟩
theorem zji {d:D}(h:∀ m ties,d=zN m ties→¬ xy m ties):ZD d=false:=by
  cases e:ZD d with
  | false=>rfl
  | true =>
    obtain ⟨m,ties,rfl,w⟩:=(XC d).mp e
    exact absurd w (h m ties rfl)
def wf (n:Nat):List Tie:=(List.range n).flatMap fun a=>(List.range (n - (a+1))).map fun (j:Nat)=>((a:Int),(a:Int)+1+(j:Int))
theorem WJ:∀ n:Nat,n≤8→(wf n).Pairwise ltP∧(∀ t∈wf n,0≤t.1∧t.1 < t.2∧t.2 < (n:Int))∧(wf n).length≤28:=by
  have h:∀ n:_root_.Fin 9,(wf n.val).Pairwise ltP∧(∀ t∈wf n.val,0≤t.1∧t.1 < t.2∧t.2 < (n.val:Int))∧(wf n.val).length≤28:=by decide +kernel
  exact fun n hn=>h ⟨n,by omega⟩
end Mz
namespace Mz
open Dl
def zco (i j:Nat):List Tie:=(List.range j).map fun (k:Nat)=>((i:Int),(i:Int)+1+(k:Int))
def wB (n i:Nat):List Tie:=(List.range i).flatMap fun a=>zco a (n - (a+1))
theorem zfT (n:Nat):wf n=wB n n:=rfl
theorem XZ (n i:Nat):wB n (i+1)=wB n i++zco i (n - (i+1)):=by
  unfold wB
  rw [List.range_succ,List.flatMap_append]
  simp
theorem X0 (i j:Nat):(zco i j).length=j:=by unfold zco;simp
theorem zdF (n:Nat)(hn:n≤8):∀ i:Nat,(wB n i).length≤8*i:=by
  intro i
  induction i with
  | zero=>simp [wB]
  | succ i ih =>
    rw [XZ,List.length_append,X0]
    omega
def zaD (c k:Int):Int :=
  let a:=(c % 2147483647+977*k+1)*48271 % 2147483647
  let b:=a*a % 2147483629
  (b+40692*(k+3))*69621 % 2147483647 / 8
end Mz
namespace Mz
open Dl
theorem zck {P:Nat→Prop}:∀ k,P k→∃ j,P j∧∀ i,P i→j≤i:=by
  intro k
  induction k using Nat.strongRecOn with
  | _ k ih =>
    intro h
    by_cases c:∃ i,i < k∧P i
    · obtain ⟨i,hi,h2⟩:=c
      exact ih i hi h2
    · exact ⟨k,h,fun i hi=>Nat.le_of_not_lt fun z=>c ⟨i,z,hi⟩⟩
theorem zik {n:Nat}{i:Int}(h0:0≤i)(h1:i < n):L2.ixN n i=some i.toNat:=by
  unfold L2.ixN
  rw [if_pos h0,if_pos h1]
theorem zj8 {α:Type}{xs:List α}{i:Int}{x:α}(h0:0≤i)(h:xs[i.toNat]?=some x):L2.atI xs i=some x:=by
  have:=(List.getElem?_eq_some_iff.mp h).1
  unfold L2.atI
  rw [zik h0 (by omega)]
  exact h
theorem zej {m:Bool}{i:Nat}{fk fe:Ev→Option D}{ρ:SE}{ds:List D}{d:D}{k:Int}(h1:vEv m fe ρ=some d)(h2:fk (visG ρ)=some (.int k))(h3:ρ[i]?=some (.o ds))(h4:0≤k)(h5:k < ds.length) :
    ZK m i fk fe ρ=.nx (ρ.set i (.o (ds.set k.toNat d))):=by
  unfold ZK
  rw [h1,h2,h3]
  show (match ((L2.ixN ds.length k).map fun j=>ρ.set i (Sl.o (ds.set j d))) with | some ρ'=>Ctl.nx ρ' | none=>Ctl.no)=_
  rw [zik h4 h5]
  rfl
theorem zeb:∀ {ns:List Int} {k:Nat} {x:Int} (h:k < ns.length),(ns.set k x).sum=ns.sum - ns[k]+x
  | [],_,_,h=>by simp at h
  | n::ns,0,x,_=>by simp;omega
  | n::ns,k+1,x,h=>by
    have:=zeb (ns:=ns) (k:=k) (x:=x) (by simpa using h)
    simp only [List.set_cons_succ,List.sum_cons,List.getElem_cons_succ,this]
    omega
theorem Zh (ts:List Tie):(Vc ts).Perm ts:=List.mergeSort_perm _ _
theorem X1 {ts:List Tie}(h:ts.Nodup):(Vc ts).Pairwise ltP:=by
  have h1:(Vc ts).Pairwise fun a b=>zjE a b=true:=List.pairwise_mergeSort (fun a b c h1 h2=>by rw [vP] at *;omega) (fun a b=>by rw [Bool.or_eq_true,vP,vP];omega) _
  have h2:(Vc ts).Nodup:=(Zh ts).nodup_iff.mpr h
  refine (h1.and h2).imp fun {a b} hh=>?_
  obtain ⟨x,y⟩:=hh
  rw [vP] at x
  unfold ltP
  rcases x with x | x
  · exact .inl x
  · refine .inr ⟨x.1,?_⟩
    have:a.2≠b.2:=fun e=>y (Prod.ext x.1 e)
    omega
theorem zhA {m:Bool}{i:Nat}{fk fe:Ev→Option D}{ρ:SE}{n b kk:SE→Prop}{r:D→Prop}(ds:List D)(d:D)(k:Int)(h1:vEv m fe ρ=some d)(h2:fk (visG ρ)=some (.int k))(h3:ρ[i]?=some (.o ds))(h4:0≤k)(h5:k < ds.length)(q:n (ρ.set i (.o (ds.set k.toNat d)))) :
    (ZK m i fk fe ρ).w n b kk r:=vR (zej h1 h2 h3 h4 h5) q
theorem zgW (ns:List Int):zim [.lst (ns.map .int)]=some (.int ns.sum):=by
  show ((zd7 (ns.map .int)).bind fun ns=>some (D.int ns.sum))=_
  rw [Wo]
  rfl
theorem zgM {α:Type}(xs:List α)(lo hi:Option Int):(V7 xs lo hi).length≤xs.length:=by
  unfold V7
  rw [List.length_take,List.length_drop]
  omega
theorem zdb {a b:List D}(h:a.length+b.length≤1000):xD (.lst a) (.lst b)=some (.lst (a++b)):=by
  show (if lim (a.length+b.length)=true then _ else none)=_
  rw [if_pos (vS h)]
theorem Y1 {m:Bool}{i:Nat}{f:Ev→Option D}{ρ ρ':SE}{d:D}(h:vEv m f ρ=some d)(h2:ρ.set i (.v d)=ρ':=by rfl):xB m i f ρ=.nx ρ':=by
  unfold xB
  rw [h,← h2]
theorem Xw {f:Ev→Option D}{ρ:SE}{d:D}(h:f (visG ρ)=some d):Zy f ρ=.nx ρ:=by
  unfold Zy
  rw [h]
theorem vH {f:Ev→Option D}{ρ:SE}{d:D}(h:f (visG ρ)=some d):yR f ρ=.rt d:=by
  unfold yR
  rw [h]
theorem Wx {i:Nat}{f:Ev→Option (List D)}{ρ ρ':SE}{ds:List D}(h:f (visF ρ)=some ds)(h2:ρ.set i (.o ds)=ρ':=by rfl):Zf i f ρ=.nx ρ':=by
  unfold Zf
  rw [h,← h2]
theorem yV {a b:Int}:neD (.int a) (.int b)=some (.bl (!decide (a=b))):=rfl
theorem ZW {a m x:Int}(h:0 < m)(hx:a % m=x):0≤x∧x < m:=by
  subst hx
  exact ⟨Int.emod_nonneg _ (by omega),Int.emod_lt_of_pos _ h⟩
theorem zjY {m:Int}{n:Nat}(h:m=((n+1:Nat):Int))(h7:n≤7):Zr [.int 1,.int m]=some (XY 1 n):=by
  show (if zgu 1=true∧zgu m=true then some (XY 1 (m - 1).toNat) else none)=_
  rw [if_pos ⟨yF.mpr ⟨by omega,by omega⟩,yF.mpr ⟨by omega,by omega⟩⟩,show (m - 1).toNat=n by omega]
theorem ye {a b:Int}:Xj (.int a) (.int b)=some (.bl (decide (a=b))):=rfl
theorem yU {a b:Bool}:Xj (.bl a) (.bl b)=some (.bl (decide (a=b))):=rfl
theorem yd {a b:PySem.Str}:Xj (.str a) (.str b)=some (.bl (decide (a=b))):=rfl
theorem zV {a b:Int}:xD (.int a) (.int b)=some (.int (a+b)):=rfl
end Mz
namespace Mz
open Dl
theorem zey {α:Type}(xs:List α)(k:Nat):V7 xs none (some (k:Int))=xs.take k:=by
  unfold V7
  rw [HT.sIx_none,List.drop_zero,Nat.sub_zero,HT.sIx_nat]
  by_cases h:k≤xs.length
  · rw [Nat.min_eq_left h]
  · rw [Nat.min_eq_right (by omega),List.take_of_length_le (Nat.le_refl _),List.take_of_length_le (by omega)]
theorem zfJ {α:Type}(xs:List α)(k:Nat):V7 xs (some (k:Int)) none=xs.drop k:=by
  unfold V7
  rw [HT.sIx_none,HT.sIx_nat]
  by_cases h:k≤xs.length
  · rw [Nat.min_eq_left h,List.take_of_length_le (by rw [List.length_drop];omega)]
  · rw [Nat.min_eq_right (by omega),Nat.sub_self,List.take_zero,List.drop_of_length_le (by omega)]
section
variable {ρ:Ev}{f g h:Ev→Option D}{a:Ev→Option (List D)}{t u:Ev→Option Bool}{d e x y z:D}{ds es:List D}{b c:Bool}
theorem Y9:zp ρ=some []:=rfl
theorem xJ (h1:f ρ=some d)(h2:a ρ=some ds):zc f a ρ=some (d::ds):=by unfold zc;rw [h1,h2];rfl
theorem wZ {n:Nat}{p:List D→Option D}(h1:a ρ=some ds)(h2:p ds=some d)(hl:ds.length=n:=by rfl):zt n p a ρ=some d:=by
  unfold zt
  rw [h1,Option.bind_some,if_pos hl,h2]
theorem zhI {n:Nat}{p:List D→Option (List D)}(h1:a ρ=some ds)(h2:p ds=some es)(hl:ds.length=n:=by rfl):zcM n p a ρ=some es:=by
  unfold zcM
  rw [h1,Option.bind_some,if_pos hl,h2]
theorem wN {i n:Nat}{p:List D→Option D}{σ σ':SE}(h1:a (visF σ)=some ds)(h2:p ds=some d)(hl:ds.length=n:=by rfl)(h3:σ.set i (.v d)=σ':=by rfl):xB false i (zt n p a) σ=.nx σ':=Y1 (show zt n p a (visF σ)=some d from wZ h1 h2 hl) h3
theorem zce {i:Nat}{f:Ev→Option D}{σ σ':SE}(h:f (visF σ)=some d)(h3:σ.set i (.v d)=σ':=by rfl):xB false i f σ=.nx σ':=Y1 (show f (visF σ)=some d from h) h3
theorem zC {k:D→D→Option D}(h1:f ρ=some x)(h2:g ρ=some y)(h3:k x y=some z):zm k f g ρ=some z:=by unfold zm;rw [h1,h2];exact h3
theorem Y0 (h1:a ρ=some ds):xW a ρ=some (.lst ds):=by unfold xW;rw [h1];rfl
theorem zaH {k:List D→Option D}(h1:a ρ=some ds)(h2:k ds=some d):eFn k a ρ=some d:=by unfold eFn;rw [h1];exact h2
theorem zkZ (h1:a ρ=some ds)(hl:ds.length≤1000):wW a ρ=some (.tup ds):=by unfold wW;rw [h1,Option.bind_some,if_pos (vS hl)]
theorem zlJ (h1:f ρ=some d)(h2:ssD d=some ds):fSS f ρ=some ds:=by unfold fSS;rw [h1];exact h2
theorem zfy (h1:f ρ=some d)(h2:wj d=some ds):iOf f ρ=some ds:=by unfold iOf;rw [h1];exact h2
theorem zk3 (h1:f ρ=some (.bl b))(h2:g ρ=some (.bl c)):Y3 f g ρ=some (.bl (b&&c)):=by unfold Y3;rw [h1,h2];cases b <;> rfl
theorem v7 (h1:f ρ=some (.bl b)):tOf f ρ=some b:=by unfold tOf;rw [h1];rfl
theorem zhX (h1:t ρ=some b):yT t ρ=some (!b):=by unfold yT;rw [h1];rfl
theorem zj1 (h1:t ρ=some b)(h2:u ρ=some c):xK t u ρ=some (b&&c):=by unfold xK;rw [h1,h2];cases b <;> rfl
theorem zjK (h1:t ρ=some b)(h2:u ρ=some c):Zt t u ρ=some (b||c):=by unfold Zt;rw [h1,h2];cases b <;> rfl
end
end Mz
namespace Mz
open PySem L2 Dl
def top (i:Nat):Stmt:=PySem.Challenge.pw_twoforone_k18_whole_put_in_order.main.body.getD i (.Pass ⟨0,0,0,0⟩)
abbrev wv:Stmt:=top 18
abbrev zT:Stmt:=top 19
abbrev zY:Stmt:=top 20
abbrev wz:Stmt:=top 21
abbrev xb:Stmt:=top 22
abbrev vw:Stmt:=top 24
abbrev wC:Stmt:=top 25
abbrev Yb:Stmt:=top 26
abbrev yP:Stmt:=top 27
abbrev yO:Stmt:=top 28
abbrev xi:Stmt:=top 30
abbrev yw:Stmt:=top 31
abbrev vx:Stmt:=top 32
abbrev yz:Stmt:=top 35
abbrev zZ:Stmt:=top 36
abbrev yk:Stmt:=top 37
abbrev Xt:Stmt:=top 38
abbrev Yj:Stmt:=top 39
abbrev vv:Stmt:=top 40
abbrev wy:Stmt:=top 41
abbrev xc:Stmt:=top 43
abbrev xh:Stmt:=top 44
abbrev xV:Stmt:=top 45
abbrev yQ:Stmt:=top 46
abbrev ya:Stmt:=top 47
abbrev yj:Stmt:=top 48
abbrev yi:Stmt:=top 49
abbrev xS:Stmt:=top 50
abbrev yx:Stmt:=top 51
abbrev xa:Stmt:=top 52
abbrev yu:Stmt:=top 53
abbrev xf:Stmt:=top 54
abbrev xk:Stmt:=top 55
abbrev wA:Stmt:=top 56
abbrev xQ:Stmt:=top 57
abbrev VJ:Stmt:=top 58
theorem zb2:zx ["thing"] ["thing"] (zg wv):=⟨rfl,rfl,rfl,by decide +kernel,rfl,by decide +kernel,by decide +kernel⟩
theorem ZX:zx ["thing","least","most"] ["thing","least","most"] (zg zT):=⟨rfl,rfl,rfl,by decide +kernel,rfl,by decide +kernel,by decide +kernel⟩
theorem XI:zx ["thing"] ["thing"] (zg zY):=⟨rfl,rfl,rfl,by decide +kernel,rfl,by decide +kernel,by decide +kernel⟩
theorem zcs:zx ["many","thing"] ["many","thing"] (zg wz):=⟨rfl,rfl,rfl,by decide +kernel,rfl,by decide +kernel,by decide +kernel⟩
theorem zaq:zx ["many","thing"] ["many","thing"] (zg xb):=⟨rfl,rfl,rfl,by decide +kernel,rfl,by decide +kernel,by decide +kernel⟩
theorem zd4:zx ["many","thing"] ["many","thing"] (zg vw):=⟨rfl,rfl,rfl,by decide +kernel,rfl,by decide +kernel,by decide +kernel⟩
theorem ZM:zx ["many","thing","at","tie"] ["many","thing"] (zg wC):=⟨rfl,rfl,rfl,by decide +kernel,rfl,by decide +kernel,by decide +kernel⟩
theorem zgf:zx ["thing"] ["thing"] (zg Yb):=⟨rfl,rfl,rfl,by decide +kernel,rfl,by decide +kernel,by decide +kernel⟩
theorem Vw:zx ["thing"] ["thing"] (zg yP):=⟨rfl,rfl,rfl,by decide +kernel,rfl,by decide +kernel,by decide +kernel⟩
theorem Vk:zx ["one","other"] ["one","other"] (zg yO):=⟨rfl,rfl,rfl,by decide +kernel,rfl,by decide +kernel,by decide +kernel⟩
theorem V3:zx ["web","thing"] ["web","thing"] (zg xi):=⟨rfl,rfl,rfl,by decide +kernel,rfl,by decide +kernel,by decide +kernel⟩
theorem WN:zx ["web","thing"] ["web","thing"] (zg yw):=⟨rfl,rfl,rfl,by decide +kernel,rfl,by decide +kernel,by decide +kernel⟩
theorem zdS:zx ["web","thing"] ["web","thing"] (zg vx):=⟨rfl,rfl,rfl,by decide +kernel,rfl,by decide +kernel,by decide +kernel⟩
theorem Vd:zx ["web","thing"] ["web","thing"] (zg yz):=⟨rfl,rfl,rfl,by decide +kernel,rfl,by decide +kernel,by decide +kernel⟩
theorem ww:zx ["web","thing","at","row"] ["web","thing"] (zg zZ):=⟨rfl,rfl,rfl,by decide +kernel,rfl,by decide +kernel,by decide +kernel⟩
theorem YF:zx ["web","thing"] ["web","thing"] (zg yk):=⟨rfl,rfl,rfl,by decide +kernel,rfl,by decide +kernel,by decide +kernel⟩
theorem zcz:zx ["heap","tally","stones","row"] ["heap","tally"] (zg Xt):=⟨rfl,rfl,rfl,by decide +kernel,rfl,by decide +kernel,by decide +kernel⟩
theorem zgk:zx ["places","steps"] ["places","steps"] (zg Yj):=⟨rfl,rfl,rfl,by decide +kernel,rfl,by decide +kernel,by decide +kernel⟩
theorem wG:zx ["steps","places","kept","way","onward"] ["steps"] (zg vv):=⟨rfl,rfl,rfl,by decide +kernel,rfl,by decide +kernel,by decide +kernel⟩
theorem xH:zx ["web","heap","tally","steps","rows","ends","row"] ["web","heap","tally"] (zg wy):=⟨rfl,rfl,rfl,by decide +kernel,rfl,by decide +kernel,by decide +kernel⟩
theorem x5:zx ["e","found"] ["e"] (zg xc):=⟨rfl,rfl,rfl,by decide +kernel,rfl,by decide +kernel,by decide +kernel⟩
theorem vt:zx ["many","found","a"] ["many"] (zg xh):=⟨rfl,rfl,rfl,by decide +kernel,rfl,by decide +kernel,by decide +kernel⟩
theorem vT:zx ["cell","k","number"] ["cell","k"] (zg xV):=⟨rfl,rfl,rfl,by decide +kernel,rfl,by decide +kernel,by decide +kernel⟩
theorem wL:zx ["many","cell","ties","k","tie"] ["many","cell"] (zg yQ):=⟨rfl,rfl,rfl,by decide +kernel,rfl,by decide +kernel,by decide +kernel⟩
theorem xl:zx ["many","cell","ties","k","tie"] ["many","cell"] (zg ya):=⟨rfl,rfl,rfl,by decide +kernel,rfl,by decide +kernel,by decide +kernel⟩
theorem yL:zx ["web","cell","most","every","found","k","step"] ["web","cell","most"] (zg yj):=⟨rfl,rfl,rfl,by decide +kernel,rfl,by decide +kernel,by decide +kernel⟩
theorem ve:zx ["web","cell","most","order","place"] ["web","cell","most"] (zg yi):=⟨rfl,rfl,rfl,by decide +kernel,rfl,by decide +kernel,by decide +kernel⟩
theorem xN:zx ["heap","tally","found","a","b","times","turn"] ["heap","tally"] (zg xS):=⟨rfl,rfl,rfl,by decide +kernel,rfl,by decide +kernel,by decide +kernel⟩
theorem zM:zx ["many","cell","most","left_v","heap","digits","k","stones"] ["many","cell","most"] (zg yx):=⟨rfl,rfl,rfl,by decide +kernel,rfl,by decide +kernel,by decide +kernel⟩
theorem zax:zx ["found"] ["found"] (zg xa):=⟨rfl,rfl,rfl,by decide +kernel,rfl,by decide +kernel,by decide +kernel⟩
theorem Wz:zx ["web","thing"] ["web","thing"] (zg yu):=⟨rfl,rfl,rfl,by decide +kernel,rfl,by decide +kernel,by decide +kernel⟩
theorem Z4:zx ["heap","step","found"] ["heap","step"] (zg xf):=⟨rfl,rfl,rfl,by decide +kernel,rfl,by decide +kernel,by decide +kernel⟩
theorem wg:zx ["web","heap","thing","here","at","step"] ["web","heap","thing"] (zg xk):=⟨rfl,rfl,rfl,by decide +kernel,rfl,by decide +kernel,by decide +kernel⟩
theorem Yy:zx ["heap","steps","here","step"] ["heap","steps"] (zg wA):=⟨rfl,rfl,rfl,by decide +kernel,rfl,by decide +kernel,by decide +kernel⟩
theorem XO:zx ["web","heap","tally","e"] ["web","heap","tally"] (zg xQ):=⟨rfl,rfl,rfl,by decide +kernel,rfl,by decide +kernel,by decide +kernel⟩
theorem Yf:zx ["script","cell","web","tally","left_v","more","heap","turn","found","place","less","tie","ring"] ["script"] (zg VJ):=⟨rfl,rfl,rfl,by decide +kernel,rfl,by decide +kernel,by decide +kernel⟩
set_option genInjectivity false in
set_option genSizeOf false in
set_option genCtorIdx false in
structure Adr where
  f_is_whole:Addr
  e_is_whole:FuncData
  f_is_whole_within:Addr
  e_is_whole_within:FuncData
  f_is_place_count:Addr
  e_is_place_count:FuncData
  f_is_place:Addr
  e_is_place:FuncData
  f_are_counts:Addr
  e_are_counts:FuncData
  f_is_pair:Addr
  e_is_pair:FuncData
  f_are_ties:Addr
  e_are_ties:FuncData
  f_is_web:Addr
  e_is_web:FuncData
  f_must_be_web:Addr
  e_must_be_web:FuncData
  f_tie_between:Addr
  e_tie_between:FuncData
  f_are_stones:Addr
  e_are_stones:FuncData
  f_must_be_heap:Addr
  e_must_be_heap:FuncData
  f_is_step:Addr
  e_is_step:FuncData
  f_is_tally_row:Addr
  e_is_tally_row:FuncData
  f_are_tally_rows:Addr
  e_are_tally_rows:FuncData
  f_must_be_tally:Addr
  e_must_be_tally:FuncData
  f_left:Addr
  e_left:FuncData
  f_led_on:Addr
  e_led_on:FuncData
  f_ring_of:Addr
  e_ring_of:FuncData
  f_in_order:Addr
  e_in_order:FuncData
  f__law_kinds:Addr
  e__law_kinds:FuncData
  f__law_pairs:Addr
  e__law_pairs:FuncData
  f__law_stir:Addr
  e__law_stir:FuncData
  f__law_web_by:Addr
  e__law_web_by:FuncData
  f__law_joined_by:Addr
  e__law_joined_by:FuncData
  f__law_tally_by:Addr
  e__law_tally_by:FuncData
  f__law_ringless:Addr
  e__law_ringless:FuncData
  f__law_left:Addr
  e__law_left:FuncData
  f__law_heap_by:Addr
  e__law_heap_by:FuncData
  f__law_whole:Addr
  e__law_whole:FuncData
  f__law_is_step:Addr
  e__law_is_step:FuncData
  f__law_moved:Addr
  e__law_moved:FuncData
  f__law_wrong:Addr
  e__law_wrong:FuncData
  f__law_end:Addr
  e__law_end:FuncData
  f__law_came:Addr
  e__law_came:FuncData
  f_law:Addr
  e_law:FuncData
  t_MOST_PLACES:Tok
  t_MOST_STONES:Tok
  t_MOST_TIMES:Tok
  x_NoWeb:Addr
  x_NoKind:Addr
  x_NoHeap:Addr
  x_NoPlace:Addr
  x_NoNumber:Addr
  x_NoTally:Addr
  x_NotTree:Addr
  x_NotJoined:Addr
  x_NoWeights:Addr
  x_NoRow:Addr
  x_NoSteps:Addr
  x_NoText:Addr
  x_TooGreat:Addr
  x_StoneError:Addr
def zlA (ad:Adr):List Addr:=[ad.x_NoWeb,ad.x_NoKind,ad.x_NoHeap,ad.x_NoPlace,ad.x_NoNumber,ad.x_NoTally,ad.x_NotTree,ad.x_NotJoined,ad.x_NoWeights,ad.x_NoRow,ad.x_NoSteps,ad.x_NoText,ad.x_TooGreat]
def clT (ad:Adr)(j:Nat):Addr:=(zlA ad).getD j 0
set_option genInjectivity false in
set_option genSizeOf false in
set_option genCtorIdx false in
structure Txt (K:PySem.W.Frag) (mg:Str→Option Value) (ad:Adr):Prop where
  d_is_whole:Def K mg "is_whole" wv ["thing"] ad.f_is_whole ad.e_is_whole
  d_is_whole_within:Def K mg "is_whole_within" zT ["thing","least","most"] ad.f_is_whole_within ad.e_is_whole_within
  d_is_place_count:Def K mg "is_place_count" zY ["thing"] ad.f_is_place_count ad.e_is_place_count
  d_is_place:Def K mg "is_place" wz ["many","thing"] ad.f_is_place ad.e_is_place
  d_are_counts:Def K mg "are_counts" xb ["many","thing"] ad.f_are_counts ad.e_are_counts
  d_is_pair:Def K mg "is_pair" vw ["many","thing"] ad.f_is_pair ad.e_is_pair
  d_are_ties:Def K mg "are_ties" wC ["many","thing"] ad.f_are_ties ad.e_are_ties
  d_is_web:Def K mg "is_web" Yb ["thing"] ad.f_is_web ad.e_is_web
  d_must_be_web:Def K mg "must_be_web" yP ["thing"] ad.f_must_be_web ad.e_must_be_web
  d_tie_between:Def K mg "tie_between" yO ["one","other"] ad.f_tie_between ad.e_tie_between
  d_are_stones:Def K mg "are_stones" xi ["web","thing"] ad.f_are_stones ad.e_are_stones
  d_must_be_heap:Def K mg "must_be_heap" yw ["web","thing"] ad.f_must_be_heap ad.e_must_be_heap
  d_is_step:Def K mg "is_step" vx ["web","thing"] ad.f_is_step ad.e_is_step
  d_is_tally_row:Def K mg "is_tally_row" yz ["web","thing"] ad.f_is_tally_row ad.e_is_tally_row
  d_are_tally_rows:Def K mg "are_tally_rows" zZ ["web","thing"] ad.f_are_tally_rows ad.e_are_tally_rows
  d_must_be_tally:Def K mg "must_be_tally" yk ["web","thing"] ad.f_must_be_tally ad.e_must_be_tally
  d_left:Def K mg "left" Xt ["heap","tally"] ad.f_left ad.e_left
  d_led_on:Def K mg "led_on" Yj ["places","steps"] ad.f_led_on ad.e_led_on
  d_ring_of:Def K mg "ring_of" vv ["steps"] ad.f_ring_of ad.e_ring_of
  d_in_order:Def K mg "in_order" wy ["web","heap","tally"] ad.f_in_order ad.e_in_order
  d__law_kinds:Def K mg "_law_kinds" xc ["e"] ad.f__law_kinds ad.e__law_kinds
  d__law_pairs:Def K mg "_law_pairs" xh ["many"] ad.f__law_pairs ad.e__law_pairs
  d__law_stir:Def K mg "_law_stir" xV ["cell","k"] ad.f__law_stir ad.e__law_stir
  d__law_web_by:Def K mg "_law_web_by" yQ ["many","cell"] ad.f__law_web_by ad.e__law_web_by
  d__law_joined_by:Def K mg "_law_joined_by" ya ["many","cell"] ad.f__law_joined_by ad.e__law_joined_by
  d__law_tally_by:Def K mg "_law_tally_by" yj ["web","cell","most"] ad.f__law_tally_by ad.e__law_tally_by
  d__law_ringless:Def K mg "_law_ringless" yi ["web","cell","most"] ad.f__law_ringless ad.e__law_ringless
  d__law_left:Def K mg "_law_left" xS ["heap","tally"] ad.f__law_left ad.e__law_left
  d__law_heap_by:Def K mg "_law_heap_by" yx ["many","cell","most"] ad.f__law_heap_by ad.e__law_heap_by
  d__law_whole:Def K mg "_law_whole" xa ["found"] ad.f__law_whole ad.e__law_whole
  d__law_is_step:Def K mg "_law_is_step" yu ["web","thing"] ad.f__law_is_step ad.e__law_is_step
  d__law_moved:Def K mg "_law_moved" xf ["heap","step"] ad.f__law_moved ad.e__law_moved
  d__law_wrong:Def K mg "_law_wrong" xk ["web","heap","thing"] ad.f__law_wrong ad.e__law_wrong
  d__law_end:Def K mg "_law_end" wA ["heap","steps"] ad.f__law_end ad.e__law_end
  d__law_came:Def K mg "_law_came" xQ ["web","heap","tally"] ad.f__law_came ad.e__law_came
  d_law:Def K mg "law" VJ ["script"] ad.f_law ad.e_law
  g_MOST_PLACES:mg "MOST_PLACES"=some (Value.int 8 ad.t_MOST_PLACES)
  g_MOST_STONES:mg "MOST_STONES"=some (Value.int 300 ad.t_MOST_STONES)
  g_MOST_TIMES:mg "MOST_TIMES"=some (Value.int 300 ad.t_MOST_TIMES)
  z_ValueError:mg "ValueError"=none
  z_all:mg "all"=none
  z_any:mg "any"=none
  z_bool:mg "bool"=none
  z_enumerate:mg "enumerate"=none
  z_int:mg "int"=none
  z_isinstance:mg "isinstance"=none
  z_len:mg "len"=none
  z_list:mg "list"=none
  z_max:mg "max"=none
  z_min:mg "min"=none
  z_range:mg "range"=none
  z_set:mg "set"=none
  z_sorted:mg "sorted"=none
  z_sum:mg "sum"=none
  z_tuple:mg "tuple"=none
  z_zip:mg "zip"=none
  g_NoWeb:mg "NoWeb"=some (Value.ref ad.x_NoWeb)
  g_NoKind:mg "NoKind"=some (Value.ref ad.x_NoKind)
  g_NoHeap:mg "NoHeap"=some (Value.ref ad.x_NoHeap)
  g_NoPlace:mg "NoPlace"=some (Value.ref ad.x_NoPlace)
  g_NoNumber:mg "NoNumber"=some (Value.ref ad.x_NoNumber)
  g_NoTally:mg "NoTally"=some (Value.ref ad.x_NoTally)
  g_NotTree:mg "NotTree"=some (Value.ref ad.x_NotTree)
  g_NotJoined:mg "NotJoined"=some (Value.ref ad.x_NotJoined)
  g_NoWeights:mg "NoWeights"=some (Value.ref ad.x_NoWeights)
  g_NoRow:mg "NoRow"=some (Value.ref ad.x_NoRow)
  g_NoSteps:mg "NoSteps"=some (Value.ref ad.x_NoSteps)
  g_NoText:mg "NoText"=some (Value.ref ad.x_NoText)
  g_TooGreat:mg "TooGreat"=some (Value.ref ad.x_TooGreat)
  g_StoneError:mg "StoneError"=some (Value.ref ad.x_StoneError)
  c_NoTally:PySem.W.excIn K ad.x_NoTally bmV "ValueError.__new__"=true
  y_NoTally:zdf K (zlA ad) ad.x_StoneError ad.x_NoTally 5=true
theorem zmb:(["part","many","thing"]:List Str).Nodup:=by decide +kernel
theorem zlI:(["b","many","found","a"]:List Str).Nodup:=by decide +kernel
theorem zlR:(["other","many","cell","ties","k","tie"]:List Str).Nodup:=by decide +kernel
theorem zj5:(["a","b","web","cell","most","every","found","k","step"]:List Str).Nodup:=by decide +kernel
theorem zlW:(["place","web","thing"]:List Str).Nodup:=by decide +kernel
theorem zmc:(["place","places","steps"]:List Str).Nodup:=by decide +kernel
theorem zmh:(["step","place","places","steps"]:List Str).Nodup:=by decide +kernel
theorem zkx:(["step","steps","places","kept","way","onward"]:List Str).Nodup:=by decide +kernel
theorem zhK:(["row","web","heap","tally","steps","rows","ends","·row"]:List Str).Nodup:=by decide +kernel
theorem zl1:(["row","web","cell","most","order","place"]:List Str).Nodup:=by decide +kernel
theorem zh5:(["row","script","cell","web","tally","left_v","more","heap","turn","found","place","less","tie","ring"]:List Str).Nodup:=by decide +kernel
theorem zia:(["number","some","script","cell","web","tally","left_v","more","heap","turn","found","place","less","tie","ring"]:List Str).Nodup:=by decide +kernel
def Z3:D→Bool
  | .int _=>true
  | _=>false
def y4 (d:D)(lo hi:Int):Bool:=match d with
  | .int i=>decide (lo≤i)&&decide (i≤hi)
  | _=>false
section
variable {P:Program}{w:World}{K:PySem.W.Frag}{mg:Str→Option Value}{base:Heap}{ad:Adr}
def yh:List D→Option D
  | [d]=>if noS d=true then some (.bl (Z3 d)) else none
  | _=>none
def Xz:SE→Ctl :=
  (yR (Y3 (eUn (xL .int) (zf 0)) (Vn (eUn (xL .bool) (zf 0)))))
def zdo:List D→Option D:=fnD 1 Xz
theorem zjX {α:Type}{ds:List α}(h:ds.length=1):∃ a,ds=[a]:=by match ds,h with | [a],_=>exact ⟨a,rfl⟩
theorem zgv {α:Type}{ds:List α}(h:ds.length=2):∃ a b,ds=[a,b]:=by match ds,h with | [a,b],_=>exact ⟨a,b,rfl⟩
theorem len3 {α:Type}{ds:List α}(h:ds.length=3):∃ a b c,ds=[a,b,c]:=by match ds,h with | [a,b,c],_=>exact ⟨a,b,c,rfl⟩
theorem ifS {c:Bool}{x y:D}(h:(if c=true then some x else none)=some y):c=true∧x=y:=by
  split at h
  · cases h
    exact ⟨by assumption,rfl⟩
  · cases h
theorem zci:∀ ds d,ds.length=1→yh ds=some d→zdo ds=some d:=by
  intro ds d hl h
  obtain ⟨a,rfl⟩:=zjX hl
  obtain ⟨hn,rfl⟩:=ifS h
  cases a <;> first | rfl | cases hn
theorem Ws (T:Txt K mg ad):xE P w K mg base CX0 1 ad.f_is_whole ad.e_is_whole ["thing"] (@spD ⟨K⟩ 1 yh):=by
  letI:KK:=⟨K⟩
  refine vV (xj (N:=["thing"]) (ps:=["thing"]) T.d_is_whole.fn zb2 (g:=Xz) fun cdv A outer s H E hr=>?_) zci
  unfold Xz
  exact (zk (zB (YQ (yM .int rfl T.z_isinstance (za 0 (pv 0)) (wx (v:=.ty "int") rfl T.z_int zih rfl)) (Zu (zil (yM .bool rfl T.z_isinstance (za 0 (pv 0)) (wx (v:=.ty "bool") rfl T.z_bool zfM rfl)))))))
def yt:SE→Ctl :=
  (yR (Y3 (zt 1 yh (zc (zf 0) zp)) (xz leD leD (zf 1) (zf 0) (zf 2))))
def Yi:List D→Option D:=fnD 3 yt
def zy:List D→Option D
  | [d,.int lo,.int hi]=>if noS d=true then some (.bl (y4 d lo hi)) else none
  | _=>none
theorem zam {a:D}{lo hi:Int}(hn:noS a=true)(hw:Z3 a=false):Yi [a,.int lo,.int hi]=some (.bl false):=by
  have e:yh [a]=some (.bl false):=by
    show (if noS a=true then some (D.bl (Z3 a)) else none)=_
    rw [if_pos hn,hw]
  refine Vx (ρ:=[.v a,.v (.int lo),.v (.int hi)]) rfl ?_
  unfold yt
  refine ZQ (vH ?_) rfl
  show (((yh [a]).bind asB).bind fun c=>if c=true then _ else some (D.bl false))=_
  rw [e]
  rfl
theorem Z8:∀ ds d,ds.length=3→zy ds=some d→Yi ds=some d:=by
  intro ds d hl h
  obtain ⟨a,b,c,rfl⟩:=len3 hl
  cases b <;> try cases h
  cases c <;> try cases h
  rename_i lo hi
  obtain ⟨hn,rfl⟩:=ifS h
  cases a with
  | scr _=>cases hn
  | int i =>
    refine Vx (ρ:=[.v (.int i),.v (.int lo),.v (.int hi)]) rfl ?_
    unfold yt
    refine ZQ (vH ?_) rfl
    show (if decide (lo≤i)=true then some (D.bl (decide (i≤hi))) else some (.bl false))=some (.bl (decide (lo≤i)&&decide (i≤hi)))
    cases decide (lo≤i) <;> rfl
  | tup es=>exact zam hn rfl
  | lst es=>exact zam hn rfl
  | dct z t ks vs=>exact zam hn rfl
  | non=>rfl
  | bl _=>rfl
  | str _=>rfl
theorem wl (T:Txt K mg ad):xE P w K mg base CX0 2 ad.f_is_whole_within ad.e_is_whole_within ["thing","least","most"] (@spD ⟨K⟩ 3 zy):=by
  letI:KK:=⟨K⟩
  have G_is_whole:=Ws (P:=P) (w:=w) (base:=base) T
  refine vV (xj (N:=["thing","least","most"]) (ps:=["thing","least","most"]) T.d_is_whole_within.fn ZX (g:=yt) fun cdv A outer s H E hr=>?_) Z8
  unfold yt
  exact (zk (zB (YQ (zo (G_is_whole.mono (by decide)) hr rfl T.d_is_whole.at_ T.d_is_whole.kp T.d_is_whole.bd (zb (za 0 (pv 0)) zh)) (Zu (zhS zdk zdk yq yq (za 1 (pv 1)) (za 0 (pv 0)) (za 2 (pv 2)) (fun a b c=>zhp zdk zdk a b c))))))
def xF:SE→Ctl :=
  (yR (zt 3 zy (zc (zf 0) (zc (eC (.int 1)) (zc (eC (.int 8)) zp)))))
def wY:List D→Option D:=fnD 1 xF
def yK:List D→Option D
  | [d]=>if noS d=true then some (.bl (y4 d 1 8)) else none
  | _=>none
theorem Xn:∀ ds d,ds.length=1→yK ds=some d→wY ds=some d:=by
  intro ds d hl h
  obtain ⟨a,rfl⟩:=zjX hl
  have e:wY [a]=zy [a,.int 1,.int 8]:=by
    cases h2:zy [a,.int 1,.int 8] <;> simp [wY,xF,fnD,zL,yR,YM,sIf,xB,Zy,sNo,zP,zaV,Zf,ZS,WU,ZK,vEv,visF,visG,Sl.f,Sl.g,zf,eC,zm,Y3,eOr,Vn,eIf,eUn,Wk,wW,xW,xX,zc,zp,zt,eFn,fFn,tOf,xK,Zt,yT,asB,asI,zV,YW,Yu,y6,xu,Wf,vD,ltD,leD,gtD,geD,WL,ye,yU,yd,yV,zaU,zO,ixD,Zo,xL,isT,eSl,yS,yA,xz,wj,iOf,Zv,xM,Vi,Zz,Zr,yW,vK,fLC,yg,zS,wo,yo,XX,xv,X6,b1,b2,h2]
  rw [e]
  exact h
theorem Xq (T:Txt K mg ad):xE P w K mg base CX0 3 ad.f_is_place_count ad.e_is_place_count ["thing"] (@spD ⟨K⟩ 1 yK):=by
  letI:KK:=⟨K⟩
  have G_is_whole_within:=wl (P:=P) (w:=w) (base:=base) T
  refine vV (xj (N:=["thing"]) (ps:=["thing"]) T.d_is_place_count.fn XI (g:=xF) fun cdv A outer s H E hr=>?_) Xn
  unfold xF
  exact (zk (zB (zo (G_is_whole_within.mono (by decide)) hr rfl T.d_is_whole_within.at_ T.d_is_whole_within.kp T.d_is_whole_within.bd (zb (za 0 (pv 0)) (zb (zd ze) (zb (zd (xq (v:=.int 8) rfl T.g_MOST_PLACES ⟨_,rfl⟩)) zh))))))
def Zd:SE→Ctl :=
  (yR (zt 3 zy (zc (zf 1) (zc (eC (.int 0)) (zc (zm YW (zf 0) (eC (.int 1))) zp)))))
def XH:List D→Option D:=fnD 2 Zd
def xO:List D→Option D
  | [.int m,d]=>if noS d=true then some (.bl (y4 d 0 (m - 1))) else none
  | _=>none
theorem zbV:∀ ds d,ds.length=2→xO ds=some d→XH ds=some d:=by
  intro ds d hl h
  obtain ⟨a,b,rfl⟩:=zgv hl
  cases a <;> try cases h
  rename_i m
  have e:XH [.int m,b]=zy [b,.int 0,.int (m - 1)]:=by
    cases h2:zy [b,.int 0,.int (m - 1)] <;> simp [XH,Zd,fnD,zL,yR,YM,sIf,xB,Zy,sNo,zP,zaV,Zf,ZS,WU,ZK,vEv,visF,visG,Sl.f,Sl.g,zf,eC,zm,Y3,eOr,Vn,eIf,eUn,Wk,wW,xW,xX,zc,zp,zt,eFn,fFn,tOf,xK,Zt,yT,asB,asI,zV,YW,Yu,y6,xu,Wf,vD,ltD,leD,gtD,geD,WL,ye,yU,yd,yV,zaU,zO,ixD,Zo,xL,isT,eSl,yS,yA,xz,wj,iOf,Zv,xM,Vi,Zz,Zr,yW,vK,fLC,yg,zS,wo,yo,XX,xv,X6,b1,b2,h2]
  rw [e]
  exact h
theorem zb6 (T:Txt K mg ad):xE P w K mg base CX0 3 ad.f_is_place ad.e_is_place ["many","thing"] (@spD ⟨K⟩ 2 xO):=by
  letI:KK:=⟨K⟩
  have G_is_whole_within:=wl (P:=P) (w:=w) (base:=base) T
  refine vV (xj (N:=["many","thing"]) (ps:=["many","thing"]) T.d_is_place.fn zcs (g:=Zd) fun cdv A outer s H E hr=>?_) zbV
  unfold Zd
  exact (zk (zB (zo (G_is_whole_within.mono (by decide)) hr rfl T.d_is_whole_within.at_ T.d_is_whole_within.kp T.d_is_whole_within.bd (zb (za 1 (pv 1)) (zb (zd ze) (zb (Z5 (za 0 (pv 0)) (zd ze)) zh))))))
theorem zjo {d:D}{lo hi:Int}(h:∀ i,d≠.int i):y4 d lo hi=false:=by
  cases d <;> first | rfl | exact absurd rfl (h _)
theorem zbC {d:D}{lo hi:Int}(h:y4 d lo hi=true):∃ i,d=.int i:=by
  cases d with
  | int i=>exact ⟨i,rfl⟩
  | _=>cases h
def Z1:SE→Ctl :=
  (zL (sIf (Zt (yT (tOf (eUn (xL .tuple) (zf 1)))) (tOf (zm neD (eFn Zo (zc (zf 1) zp)) (eC (.int 2))))) (yR (eC (.bl false))) zP)
    (yR (Y3 (zt 2 xO (zc (zf 0) (zc (zm ixD (zf 1) (eC (.int 0))) zp))) (Y3 (zt 2 xO (zc (zf 0) (zc (zm ixD (zf 1) (eC (.int 1))) zp))) (zm neD (zm ixD (zf 1) (eC (.int 0))) (zm ixD (zf 1) (eC (.int 1))))))))
def zeF:List D→Option D:=fnD 2 Z1
def y3:List D→Option D
  | [.int m,d]=>if noS d=true then some (.bl (wX m d)) else none
  | _=>none
theorem zgE {m:Int}{x y:D}(h:y4 x 0 (m - 1)=false):wX m (.tup [x,y])=false:=by
  cases x with
  | int i =>
    cases y with
    | int j =>
      show (inR m i&&inR m j&&!decide (i=j))=false
      rw [show inR m i=false from h]
      rfl
    | _=>rfl
  | _=>rfl
theorem zgU {m:Int}{x y:D}(h:y4 y 0 (m - 1)=false):wX m (.tup [x,y])=false:=by
  cases x with
  | int i =>
    cases y with
    | int j =>
      show (inR m i&&inR m j&&!decide (i=j))=false
      rw [show inR m j=false from h,Bool.and_false]
      rfl
    | _=>rfl
  | _=>rfl
theorem zdW:∀ ds d,ds.length=2→y3 ds=some d→zeF ds=some d:=by
  intro ds d hl h
  obtain ⟨a,b,rfl⟩:=zgv hl
  cases a <;> try cases h
  rename_i m
  obtain ⟨hn,rfl⟩:=ifS h
  clear h
  cases b with
  | tup es =>
    refine Vx (ρ:=[.v (.int m),.v (.tup es)]) rfl ?_
    unfold Z1
    by_cases hl:es.length=2
    · obtain ⟨x,y,rfl⟩:=zgv hl
      have hx:noS x=true:=Yq (ds:=[x,y]) (i:=0) hn rfl
      have hy:noS y=true:=Yq (ds:=[x,y]) (i:=1) hn rfl
      have e0:xO [.int m,x]=some (.bl (y4 x 0 (m - 1))):=by
        show (if noS x=true then some (D.bl (y4 x 0 (m - 1))) else none)=_
        rw [if_pos hx]
      have e1:xO [.int m,y]=some (.bl (y4 y 0 (m - 1))):=by
        show (if noS y=true then some (D.bl (y4 y 0 (m - 1))) else none)=_
        rw [if_pos hy]
      refine zI (ρ':=[.v (.int m),.v (.tup [x,y])]) rfl (ZQ (vH ?_) rfl)
      show (((xO [.int m,x]).bind asB).bind fun c=>if c=true then (((xO [.int m,y]).bind asB).bind fun c=>if c=true then neD x y else some (D.bl false)) else some (D.bl false))=_
      rw [e0,e1]
      cases h1:y4 x 0 (m - 1) with
      | false=>rw [zgE h1];rfl
      | true =>
        cases h2:y4 y 0 (m - 1) with
        | false=>rw [zgU h2];rfl
        | true =>
          obtain ⟨i,rfl⟩:=zbC h1
          obtain ⟨j,rfl⟩:=zbC h2
          show some (D.bl (!decide (i=j)))=some (.bl (inR m i&&inR m j&&!decide (i=j)))
          rw [show inR m i=true from h1,show inR m j=true from h2]
          rfl
    · have e:wX m (.tup es)=false:=by
        unfold wX Zw
        split
        · rename_i t ht
          split at ht
          · rename_i e'
            injection e' with e'
            rw [e'] at hl
            exact absurd rfl hl
          · cases ht
        · rfl
      rw [e]
      refine yp (Zn (c:=true) ?_ (fun _=>ZQ rfl rfl) fun z=>by cases z)
      show some (!decide ((es.length:Int)=2))=_
      rw [decide_eq_false (show ¬ (es.length:Int)=2 from fun h=>hl (Int.ofNat.inj h))]
      rfl
  | scr _=>cases hn
  | _=>rfl
theorem VL (T:Txt K mg ad):xE P w K mg base CX0 4 ad.f_is_pair ad.e_is_pair ["many","thing"] (@spD ⟨K⟩ 2 y3):=by
  letI:KK:=⟨K⟩
  have G_is_place:=zb6 (P:=P) (w:=w) (base:=base) T
  refine vV (xj (N:=["many","thing"]) (ps:=["many","thing"]) T.d_is_pair.fn zd4 (g:=Z1) fun cdv A outer s H E hr=>?_) zdW
  unfold Z1
  exact (zj (xo (zb5 (Vp (vf (wq (yM .tuple rfl T.z_isinstance (za 1 (pv 1)) (wx (v:=.ty "tuple") rfl T.z_tuple ym rfl)))) (Xb (zJ WF ZC (zH _) (zK zW v4 rfl T.z_len ZB (zb (za 1 (pv 1)) zh)) (zd ze))))) (zk (zB (YE vZ))) zG)
      (zk (zB (YQ (zo (G_is_place.mono (by decide)) hr rfl T.d_is_place.at_ T.d_is_place.kp T.d_is_place.bd (zb (za 0 (pv 0)) (zb (zF (za 1 (pv 1)) (zd ze) (fun _ _=>rfl)) zh))) (YQ (zo (G_is_place.mono (by decide)) hr rfl T.d_is_place.at_ T.d_is_place.kp T.d_is_place.bd (zb (za 0 (pv 0)) (zb (zF (za 1 (pv 1)) (zd ze) (fun _ _=>rfl)) zh))) (Zu (XJ WF ZC (zH _) (zF (za 1 (pv 1)) (zd ze) (fun _ _=>rfl)) (zF (za 1 (pv 1)) (zd ze) (fun _ _=>rfl)))))))))
end
section
variable {P:Program}{w:World}{K:PySem.W.Frag}{mg:Str→Option Value}{base:Heap}{ad:Adr}
def za4 (ds:List D):Nat→Option Tie
  | 0=>none
  | k+1=>(ds[k]?).bind Zw
def Y5:SE→Ctl :=
  (zL (sIf (Zt (yT (tOf (zt 2 y3 (zc (zf 0) (zc (zf 3) zp))))) (tOf (zm gtD (zm ixD (zf 3) (eC (.int 0))) (zm ixD (zf 3) (eC (.int 1)))))) (yR (eC (.bl false))) zP)
    (sIf (xK (tOf (zm gtD (zf 2) (eC (.int 0)))) (tOf (zm leT (zf 3) (zm ixD (zf 1) (zm YW (zf 2) (eC (.int 1))))))) (yR (eC (.bl false))) zP))
def Yd:SE→Ctl :=
  (zL (sIf (yT (tOf (eUn (xL .tuple) (zf 1)))) (yR (eC (.bl false))) zP)
    (zL (Zv (yW (zc (zf 1) zp)) (XX 2 (xv (yo 2) (xv (yo 3) X6))) Y5)
    (yR (eC (.bl true)))))
def zdM:List D→Option D:=fnD 4 Yd
def Ym:List D→Option D
  | [.int m,d]=>if noS d=true then some (.bl (Zj m d)) else none
  | _=>none
theorem Vz {m:Int}{d:D}(h:wX m d=true):∃ t,d=zi t:=by
  unfold wX at h
  split at h
  · rename_i t ht
    exact ⟨t,WH ht⟩
  · cases h
theorem zcu:∀ ds d,ds.length=2→Ym ds=some d→zdM ds=some d:=by
  intro ds d hl h
  obtain ⟨a,b,rfl⟩:=zgv hl
  cases a <;> try cases h
  rename_i m
  obtain ⟨hn,rfl⟩:=ifS h
  clear h hl
  cases b with
  | scr _=>cases hn
  | tup es =>
    refine Vx (g:=Yd) rfl ?_
    unfold Yd
    refine zI rfl ?_
    refine yp (Vo (ds:=Xm 0 es) (fun i ρ=>∃ o1 o2,ρ=[.v (.int m),.v (.tup es),o1,o2]∧yG m none es=yG m (za4 es i) (es.drop i)∧∀ k,i=k+1→∃ p,es[k]?=some (zi p)) rfl
      ⟨.no,.no,rfl,rfl,fun k e=>by cases e⟩ ?_ ?_)
    · rintro i d ρ hd ⟨o1,o2,rfl,hp,hk⟩
      rw [vG] at hd
      obtain ⟨dx,hdx,rfl⟩:=Option.map_eq_some_iff.mp hd
      rw [Nat.zero_add]
      refine ⟨_,rfl,?_⟩
      have hdrop:es.drop i=dx::es.drop (i+1):=by
        obtain ⟨h1,h2⟩:=List.getElem?_eq_some_iff.mp hdx
        rw [List.drop_eq_getElem_cons h1,h2]
      have hnx:noS dx=true:=Yq hn hdx
      unfold Y5
      cases hpr:wX m dx with
      | false =>
        have e1:y3 [.int m,dx]=some (.bl false):=by
          show (if noS dx=true then some (D.bl (wX m dx)) else none)=_
          rw [if_pos hnx,hpr]
        refine yp (Zn (c:=true) (show (((y3 [.int m,dx]).bind asB).map (!·)).bind (fun c=>if c=true then some true else _)=_ by rw [e1];rfl) (fun _=>ZQ rfl ?_) (fun z=>by cases z))
        have e:yG m none es=false:=by
          rw [hp,hdrop]
          unfold yG
          split
          · rw [hpr];rfl
          · rfl
        show D.bl false=.bl (yG m none es)
        rw [e]
      | true =>
        obtain ⟨t,rfl⟩:=Vz hpr
        have e1:y3 [.int m,zi t]=some (.bl true):=by
          show (if noS (zi t)=true then some (D.bl (wX m (zi t))) else none)=_
          rw [if_pos hnx,hpr]
        have step:yG m none es=(!decide (t.2 < t.1)&&zbP (za4 es i) t&&yG m (some t) (es.drop (i+1))):=by
          rw [hp,hdrop]
          conv=>lhs;unfold yG
          rw [Y2,hpr]
          rfl
        have prevS:za4 es (i+1)=some t:=by
          show (es[i]?).bind Zw=some t
          rw [hdx]
          rfl
        refine yp (Zn (c:=decide (t.2 < t.1)) (show (((y3 [.int m,zi t]).bind asB).map (!·)).bind (fun c=>if c=true then some true else some (decide (t.2 < t.1)))=_ by rw [e1];rfl) (fun c=>ZQ rfl ?_) (fun c=>vR rfl ?_))
        · show D.bl false=.bl (yG m none es)
          rw [step,c]
          rfl
        · cases i with
          | zero =>
            refine Zn (c:=false) rfl (fun z=>by cases z) (fun _=>vR rfl ?_)
            refine ⟨_,_,rfl,?_,fun k e=>?_⟩
            · rw [prevS,step,c]
              rfl
            · cases e
              exact ⟨t,hdx⟩
          | succ j =>
            obtain ⟨p,hpk⟩:=hk j rfl
            have prevK:za4 es (j+1)=some p:=by
              show (es[j]?).bind Zw=some p
              rw [hpk]
              rfl
            rw [prevK] at step
            have ea:atI es ((((j+1:Nat):Int)) - 1)=some (zi p):=by
              rw [show (((j+1:Nat):Int)) - 1=(j:Nat) from Int.add_sub_cancel (j:Int) 1]
              exact zgq hpk
            have okP:zbP (some p) t=!leP t p:=rfl
            refine Zn (c:=leP t p) ?_ (fun c2=>ZQ rfl ?_) (fun c2=>vR rfl ?_)
            · have z:decide ((0:Int) < ((j+1:Nat):Int))=true:=decide_eq_true (Int.natCast_pos.mpr (Nat.succ_pos j))
              show ((some (decide ((0:Int) < ((j+1:Nat):Int)))).bind fun c=>if c=true then (((atI es (((j+1:Nat):Int) - 1)).bind fun y=>leT (zi t) y).bind asB) else some false)=_
              rw [z,ea]
              rfl
            · show D.bl false=.bl (yG m none es)
              rw [step,okP,c2,c]
              rfl
            · refine ⟨_,_,rfl,?_,fun k' e=>?_⟩
              · rw [prevS,step,okP,c2,c]
                rfl
              · cases e
                exact ⟨t,hdx⟩
    · rintro ρ ⟨o1,o2,rfl,hp,hk⟩
      refine ZQ rfl ?_
      show D.bl true=.bl (yG m none es)
      rw [hp,wV,List.drop_length]
      cases za4 es es.length <;> rfl
  | _=>rfl
theorem zcl (T:Txt K mg ad):xE P w K mg base CX0 5 ad.f_are_ties ad.e_are_ties ["many","thing"] (@spD ⟨K⟩ 2 Ym):=by
  letI:KK:=⟨K⟩
  have G_is_pair:=VL (P:=P) (w:=w) (base:=base) T
  refine vV (xj (N:=["many","thing","at","tie"]) (ps:=["many","thing"]) T.d_are_ties.fn ZM (g:=Yd) fun cdv A outer s H E hr=>?_) zcu
  unfold Yd Y5
  exact (zj (xo (vf (wq (yM .tuple rfl T.z_isinstance (za 1 (pv 1)) (wx (v:=.ty "tuple") rfl T.z_tuple ym rfl)))) (zk (zB (YE vZ))) zG)
      (zj (Zq PassesOwn.never rfl (W7 rfl T.z_enumerate wQ (zb (za 1 (pv 1)) zh)) (V0 rfl (xg (zU (zw (i:=2) ZM.nd rfl (Or.inl rfl))) (xg (zU (zw (i:=3) ZM.nd rfl (Or.inl rfl))) XG))) (zj (xo (zb5 (Vp (vf (wq (zo (G_is_pair.mono (by decide)) hr rfl T.d_is_pair.at_ T.d_is_pair.kp T.d_is_pair.bd (zb (za 0 (pv 0)) (zb (za 3 (pv 3)) zh))))) (Xb (zJ zee yq (zH _) (zF (za 3 (pv 3)) (zd ze) (fun _ _=>rfl)) (zF (za 3 (pv 3)) (zd ze) (fun _ _=>rfl)))))) (zk (zB (YE vZ))) zG)
      (zk (xo (zb5 (VP (zJ zee yq (zH _) (za 2 (pv 2)) (zd ze)) (Xx (zJ (zh9 hr.units0) zgr (zH _) (za 3 (pv 3)) (zF (za 1 (pv 1)) (Z5 (za 2 (pv 2)) (zd ze)) (fun _ _=>rfl)))))) (zk (zB (YE vZ))) zG))))
      (zk (zB (YE vZ)))))
def Zg:SE→Ctl :=
  (zL (sIf (Zt (yT (tOf (eUn (xL .tuple) (zf 0)))) (tOf (zm neD (eFn Zo (zc (zf 0) zp)) (eC (.int 2))))) (yR (eC (.bl false))) zP)
    (yR (Y3 (zt 1 yK (zc (zm ixD (zf 0) (eC (.int 0))) zp)) (zt 2 Ym (zc (zm ixD (zf 0) (eC (.int 0))) (zc (zm ixD (zf 0) (eC (.int 1))) zp))))))
def X8:List D→Option D:=fnD 1 Zg
def Xh:List D→Option D
  | [d]=>if noS d=true then some (.bl (ZD d)) else none
  | _=>none
theorem zf9 {x y:D}:ZD (.tup [x,y])=(y4 x 1 8&&match x with | .int m=>Zj m y | _=>false):=by
  cases x <;> rfl
theorem zgb:∀ ds d,ds.length=1→Xh ds=some d→X8 ds=some d:=by
  intro ds d hl h
  obtain ⟨a,rfl⟩:=zjX hl
  obtain ⟨hn,rfl⟩:=ifS h
  clear h hl
  cases a with
  | scr _=>cases hn
  | tup es =>
    by_cases hl:es.length=2
    · obtain ⟨x,y,rfl⟩:=zgv hl
      have hx:noS x=true:=Yq (ds:=[x,y]) (i:=0) hn rfl
      have hy:noS y=true:=Yq (ds:=[x,y]) (i:=1) hn rfl
      have ec:yK [x]=some (.bl (y4 x 1 8)):=by simp [yK,hx]
      rw [zf9]
      by_cases ix:∃ i,x=.int i
      · obtain ⟨i,rfl⟩:=ix
        have et:Ym [.int i,y]=some (.bl (Zj i y)):=by simp [Ym,hy]
        cases hc:y4 (.int i) 1 8 <;> rw [hc] at ec <;> simp [X8,Zg,fnD,zL,yR,YM,sIf,xB,Zy,sNo,zP,zaV,Zf,ZS,WU,ZK,vEv,visF,visG,Sl.f,Sl.g,zf,eC,zm,Y3,eOr,Vn,eIf,eUn,Wk,wW,xW,xX,zc,zp,zt,eFn,fFn,tOf,xK,Zt,yT,asB,asI,zV,YW,Yu,y6,xu,Wf,vD,ltD,leD,gtD,geD,WL,ye,yU,yd,yV,zaU,zO,ixD,Zo,xL,isT,eSl,yS,yA,xz,wj,iOf,Zv,xM,Vi,Zz,Zr,yW,vK,fLC,yg,zS,wo,yo,XX,xv,X6,b1,b2,ec,et,atI,ixN]
      · have n2:y4 x 1 8=false:=zjo fun j hj=>ix ⟨j,hj⟩
        rw [n2] at ec ⊢
        simp [X8,Zg,fnD,zL,yR,YM,sIf,xB,Zy,sNo,zP,zaV,Zf,ZS,WU,ZK,vEv,visF,visG,Sl.f,Sl.g,zf,eC,zm,Y3,eOr,Vn,eIf,eUn,Wk,wW,xW,xX,zc,zp,zt,eFn,fFn,tOf,xK,Zt,yT,asB,asI,zV,YW,Yu,y6,xu,Wf,vD,ltD,leD,gtD,geD,WL,ye,yU,yd,yV,zaU,zO,ixD,Zo,xL,isT,eSl,yS,yA,xz,wj,iOf,Zv,xM,Vi,Zz,Zr,yW,vK,fLC,yg,zS,wo,yo,XX,xv,X6,b1,b2,ec,atI,ixN]
    · have e:ZD (.tup es)=false:=zji fun m ties h _=>by
        unfold zN at h
        injection h with h
        rw [h] at hl
        exact hl rfl
      rw [e]
      have:¬ (es.length:Int)=2:=by omega
      simp [X8,Zg,fnD,zL,yR,YM,sIf,xB,Zy,sNo,zP,zaV,Zf,ZS,WU,ZK,vEv,visF,visG,Sl.f,Sl.g,zf,eC,zm,Y3,eOr,Vn,eIf,eUn,Wk,wW,xW,xX,zc,zp,zt,eFn,fFn,tOf,xK,Zt,yT,asB,asI,zV,YW,Yu,y6,xu,Wf,vD,ltD,leD,gtD,geD,WL,ye,yU,yd,yV,zaU,zO,ixD,Zo,xL,isT,eSl,yS,yA,xz,wj,iOf,Zv,xM,Vi,Zz,Zr,yW,vK,fLC,yg,zS,wo,yo,XX,xv,X6,b1,b2,this]
  | _=>rfl
theorem zfi (T:Txt K mg ad):xE P w K mg base CX0 6 ad.f_is_web ad.e_is_web ["thing"] (@spD ⟨K⟩ 1 Xh):=by
  letI:KK:=⟨K⟩
  have G_is_place_count:=Xq (P:=P) (w:=w) (base:=base) T
  have G_are_ties:=zcl (P:=P) (w:=w) (base:=base) T
  refine vV (xj (N:=["thing"]) (ps:=["thing"]) T.d_is_web.fn zgf (g:=Zg) fun cdv A outer s H E hr=>?_) zgb
  unfold Zg
  exact (zj (xo (zb5 (Vp (vf (wq (yM .tuple rfl T.z_isinstance (za 0 (pv 0)) (wx (v:=.ty "tuple") rfl T.z_tuple ym rfl)))) (Xb (zJ WF ZC (zH _) (zK zW v4 rfl T.z_len ZB (zb (za 0 (pv 0)) zh)) (zd ze))))) (zk (zB (YE vZ))) zG)
      (zk (zB (YQ (zo (G_is_place_count.mono (by decide)) hr rfl T.d_is_place_count.at_ T.d_is_place_count.kp T.d_is_place_count.bd (zb (zF (za 0 (pv 0)) (zd ze) (fun _ _=>rfl)) zh)) (Zu (zo (G_are_ties.mono (by decide)) hr rfl T.d_are_ties.at_ T.d_are_ties.kp T.d_are_ties.bd (zb (zF (za 0 (pv 0)) (zd ze) (fun _ _=>rfl)) (zb (zF (za 0 (pv 0)) (zd ze) (fun _ _=>rfl)) zh))))))))
theorem zi0 (m:Int)(ts:List Tie):noS (zN m ts)=true:=by
  have:∀ ts:List Tie,zgw (ts.map zi)=true:=by
    intro ts
    induction ts with
    | nil=>rfl
    | cons t ts ih=>show (noS (zi t)&&zgw (ts.map zi))=true;rw [ih];rfl
  show (noS (.int m)&&(noS (.tup (ts.map zi))&&true))=true
  rw [show noS (.tup (ts.map zi))=zgw (ts.map zi) from rfl,this ts]
  rfl
def vo:SE→Ctl :=
  (sIf (yT (tOf (zt 1 Xh (zc (zf 0) zp)))) sNo zP)
def ZV:List D→Option D:=fnD 1 vo
def yD:List D→Option D
  | [d]=>if ZD d=true then some .non else none
  | _=>none
theorem VA:∀ ds d,ds.length=1→yD ds=some d→ZV ds=some d:=by
  intro ds d hl h
  obtain ⟨a,rfl⟩:=zjX hl
  obtain ⟨hw,rfl⟩:=ifS h
  obtain ⟨m,ts,rfl,_⟩:=(XC a).mp hw
  have e:Xh [zN m ts]=some (.bl true):=by simp [Xh,zi0 m ts,hw]
  simp [ZV,vo,fnD,zL,yR,YM,sIf,xB,Zy,sNo,zP,zaV,Zf,ZS,WU,ZK,vEv,visF,visG,Sl.f,Sl.g,zf,eC,zm,Y3,eOr,Vn,eIf,eUn,Wk,wW,xW,xX,zc,zp,zt,eFn,fFn,tOf,xK,Zt,yT,asB,asI,zV,YW,Yu,y6,xu,Wf,vD,ltD,leD,gtD,geD,WL,ye,yU,yd,yV,zaU,zO,ixD,Zo,xL,isT,eSl,yS,yA,xz,wj,iOf,Zv,xM,Vi,Zz,Zr,yW,vK,fLC,yg,zS,wo,yo,XX,xv,X6,b1,b2,e]
theorem Zs (T:Txt K mg ad):xE P w K mg base CX0 7 ad.f_must_be_web ad.e_must_be_web ["thing"] (@spD ⟨K⟩ 1 yD):=by
  letI:KK:=⟨K⟩
  have G_is_web:=zfi (P:=P) (w:=w) (base:=base) T
  refine vV (xj (N:=["thing"]) (ps:=["thing"]) T.d_must_be_web.fn Vw (g:=vo) fun cdv A outer s H E hr=>?_) VA
  unfold vo
  exact (zk (xo (vf (wq (zo (G_is_web.mono (by decide)) hr rfl T.d_is_web.at_ T.d_is_web.kp T.d_is_web.bd (zb (za 0 (pv 0)) zh)))) (zk X9) zG))
end
section
variable {P:Program}{w:World}{K:PySem.W.Frag}{mg:Str→Option Value}{base:Heap}{ad:Adr}
def wa:D→Bool
  | .int i=>decide (0≤i)
  | _=>false
def zmd:D→Int
  | .int i=>i
  | _=>0
def x8 (m:Int):D→Bool
  | .tup ds=>decide ((ds.length:Int)=m)&&ds.all wa
  | _=>false
theorem zhH {α:Type}(f:α→Bool)(l:List α):zjC [.lst (l.map fun x=>.bl (f x))]=some (.bl (l.all f)):=by
  have:zgx (l.map fun x=>D.bl (f x))=some (l.map f):=by
    have:=zcO (l.map f)
    rwa [List.map_map] at this
  show ((zgx (l.map fun x=>D.bl (f x))).bind fun bs=>some (D.bl (bs.all id)))=_
  rw [this]
  show some (D.bl ((l.map f).all id))=_
  rw [List.all_map]
  rfl
theorem zcE {ds:List D}(h:ds.all wa=true):∃ ns:List Int,ds=ns.map .int∧∀ n∈ns,0≤n:=by
  induction ds with
  | nil=>exact ⟨[],rfl,by simp⟩
  | cons d ds ih =>
    rw [List.all_cons,Bool.and_eq_true] at h
    obtain ⟨ns,rfl,hn⟩:=ih h.2
    cases d with
    | int i=>exact ⟨i::ns,rfl,fun n hm=>by
        rcases List.mem_cons.mp hm with rfl | hm
        · exact of_decide_eq_true h.1
        · exact hn n hm⟩
    | _=>exact absurd h.1 Bool.false_ne_true
theorem zfa {ns:List Int}(h:∀ n∈ns,0≤n):(ns.map D.int).all wa=true:=by
  rw [List.all_map,List.all_eq_true]
  exact fun n hn=>decide_eq_true (h n hn)
theorem zeE (ns:List Int):zim [.tup (ns.map .int)]=some (.int ns.sum):=by
  show ((zd7 (ns.map .int)).bind fun ns=>some (D.int ns.sum))=_
  rw [Wo]
  rfl
def xR:SE→Ctl :=
  (zL (sIf (Zt (yT (tOf (eUn (xL .tuple) (zf 1)))) (tOf (zm neD (eFn Zo (zc (zf 1) zp)) (zf 0)))) (yR (eC (.bl false))) zP)
    (yR (eFn zjC (zc (xW (fLC (iOf (zf 1)) b1 yg (Y3 (zt 1 yh (zc (zf 0) zp)) (zm geD (zf 0) (eC (.int 0)))))) zp))))
def XU:List D→Option D:=fnD 2 xR
def wU:List D→Option D
  | [.int m,d]=>if (noS d&&decide (m≤1000))=true then some (.bl (x8 m d)) else none
  | _=>none
theorem zjU {d:D}(hn:noS d=true):((yh [d]).bind asB).bind (fun c=>if c=true then geD d (.int 0) else some (.bl false))=some (.bl (wa d)):=by
  cases d with
  | scr _=>cases hn
  | tup _=>simp [yh,hn,Z3,asB,wa]
  | lst _=>simp [yh,hn,Z3,asB,wa]
  | _=>rfl
theorem V9:∀ ds d,ds.length=2→wU ds=some d→XU ds=some d:=by
  intro ds d hl h
  obtain ⟨a,b,rfl⟩:=zgv hl
  cases a <;> try cases h
  rename_i m
  obtain ⟨hn,rfl⟩:=ifS h
  clear h hl
  rw [Bool.and_eq_true,decide_eq_true_eq] at hn
  obtain ⟨hn,hm⟩:=hn
  cases b with
  | scr _=>cases hn
  | tup es =>
    by_cases hl:(es.length:Int)=m
    · have e:fLC (iOf (zf 1)) b1 yg (Y3 (zt 1 yh (zc (zf 0) zp)) (zm geD (zf 0) (eC (.int 0)))) [some (.int m),some (.tup es)]=some (es.map fun d=>.bl (wa d)):=by
        unfold fLC
        show (if lim es.length=true then _ else none)=_
        rw [if_pos (vS (by omega))]
        have:=WB (b:=b1) (t:=yg) (f:=Y3 (zt 1 yh (zc (zf 0) zp)) (zm geD (zf 0) (eC (.int 0)))) (ρ:=[some (.int m),some (.tup es)]) id (fun d=>.bl (wa d)) es
          (fun d hd=>⟨[some d],rfl,rfl,zjU (by obtain ⟨j,hj,rfl⟩:=List.getElem_of_mem hd;exact Yq (i:=j) hn (by simp [hj]))⟩)
        rwa [List.map_id] at this
      show fnD 2 xR _=_
      refine Vx rfl ?_
      unfold xR
      refine yp (Zn (c:=false) (by simp [fnD,zL,yR,YM,sIf,xB,Zy,sNo,zP,zaV,Zf,ZS,WU,ZK,vEv,visF,visG,Sl.f,Sl.g,zf,eC,zm,Y3,eOr,Vn,eIf,eUn,Wk,wW,xW,xX,zc,zp,zt,eFn,fFn,tOf,xK,Zt,yT,asB,asI,zV,YW,Yu,y6,xu,Wf,vD,ltD,leD,gtD,geD,WL,ye,yU,yd,yV,zaU,zO,ixD,Zo,xL,isT,eSl,yS,yA,xz,wj,iOf,Zv,xM,Vi,Zz,Zr,yW,vK,fLC,yg,zS,wo,yo,XX,xv,X6,b1,b2,hl]) (fun z=>by cases z) fun _=>vR rfl (ZQ (d:=.bl (es.all wa)) ?_ ?_))
      · show (match (((fLC (iOf (zf 1)) b1 yg (Y3 (zt 1 yh (zc (zf 0) zp)) (zm geD (zf 0) (eC (.int 0)))) [some (.int m),some (.tup es)]).map D.lst).bind fun d=>(some []:Option (List D)).map (d::·)).bind zjC with | some d=>Ctl.rt d | none=>Ctl.no)=_
        rw [e]
        show (match zjC [.lst (es.map fun d=>.bl (wa d))] with | some d=>Ctl.rt d | none=>Ctl.no)=_
        rw [zhH]
      · show D.bl (es.all wa)=.bl (decide ((es.length:Int)=m)&&es.all wa)
        rw [decide_eq_true hl,Bool.true_and]
    · have e:x8 m (.tup es)=false:=by
        show (decide ((es.length:Int)=m)&&es.all wa)=false
        rw [decide_eq_false hl,Bool.false_and]
      rw [e]
      simp [XU,xR,fnD,zL,yR,YM,sIf,xB,Zy,sNo,zP,zaV,Zf,ZS,WU,ZK,vEv,visF,visG,Sl.f,Sl.g,zf,eC,zm,Y3,eOr,Vn,eIf,eUn,Wk,wW,xW,xX,zc,zp,zt,eFn,fFn,tOf,xK,Zt,yT,asB,asI,zV,YW,Yu,y6,xu,Wf,vD,ltD,leD,gtD,geD,WL,ye,yU,yd,yV,zaU,zO,ixD,Zo,xL,isT,eSl,yS,yA,xz,wj,iOf,Zv,xM,Vi,Zz,Zr,yW,vK,fLC,yg,zS,wo,yo,XX,xv,X6,b1,b2,hl]
  | _=>rfl
theorem zay (T:Txt K mg ad):xE P w K mg base CX0 2 ad.f_are_counts ad.e_are_counts ["many","thing"] (@spD ⟨K⟩ 2 wU):=by
  letI:KK:=⟨K⟩
  have G_is_whole:=Ws (P:=P) (w:=w) (base:=base) T
  refine vV (xj (N:=["many","thing"]) (ps:=["many","thing"]) T.d_are_counts.fn zaq (g:=xR) fun cdv A outer s H E hr=>?_) V9
  unfold xR
  exact (zj (xo (zb5 (Vp (vf (wq (yM .tuple rfl T.z_isinstance (za 1 (pv 1)) (wx (v:=.ty "tuple") rfl T.z_tuple ym rfl)))) (Xb (zJ WF ZC (zH _) (zK zW v4 rfl T.z_len ZB (zb (za 1 (pv 1)) zh)) (za 0 (pv 0)))))) (zk (zB (YE vZ))) zG)
      (zk (zB (zK (zaY rfl) zeL rfl T.z_all zh0 (zb (vq (Y8 (L:=["part"]) (M:=["many","thing"]) rfl (vm (by rfl) (by rfl) (by rfl) (by with_unfolding_all rfl) (by rfl) (by rfl) (by kernel_rfl) y0) (xU (za 1 (pv 1))) gs1 rb1 (fun _ _ _ _=>(zw (i:=0) zmb rfl (Or.inl rfl) (.inr rfl))) (fun _ _ _ _=>(YQ (zo (G_is_whole.mono (by decide)) hr rfl T.d_is_whole.at_ T.d_is_whole.kp T.d_is_whole.bd (zb (za 0 (pv 0)) zh)) (Zu (XJ zl2 yq (zH _) (za 0 (pv 0)) (zd ze))))))) zh)))))
def ZP (m:Int):D→Bool
  | .tup ds=>x8 m (.tup ds)&&decide ((ds.map zmd).sum≤300)
  | _=>false
theorem VM (ns:List Int):(ns.map D.int).map zmd=ns:=by rw [List.map_map];exact (List.map_congr_left fun _ _=>rfl).trans (List.map_id _)
def wR:SE→Ctl :=
  (yR (Y3 (zt 2 wU (zc (zm ixD (zf 0) (eC (.int 0))) (zc (zf 1) zp))) (zm leD (eFn zim (zc (zf 1) zp)) (eC (.int 300)))))
def YY:List D→Option D:=fnD 2 wR
def xT:List D→Option D
  | [.tup [.int m,_],d]=>if (noS d&&decide (m≤1000))=true then some (.bl (ZP m d)) else none
  | _=>none
theorem zad:∀ ds d,ds.length=2→xT ds=some d→YY ds=some d:=by
  intro ds d hl h
  obtain ⟨a,b,rfl⟩:=zgv hl
  unfold xT at h
  split at h
  · rename_i m t b' e
    injection e with e1 e2
    injection e2 with e2 _
    subst e1 e2
    obtain ⟨hn,rfl⟩:=ifS h
    have ec:wU [.int m,b]=some (.bl (x8 m b)):=by simp only [wU];rw [if_pos hn]
    cases hc:x8 m b with
    | false =>
      rw [hc] at ec
      have e3:ZP m b=false:=by
        cases b <;> try rfl
        show (x8 m _&&_)=false
        rw [hc]
        rfl
      rw [e3]
      simp [YY,wR,fnD,zL,yR,YM,sIf,xB,Zy,sNo,zP,zaV,Zf,ZS,WU,ZK,vEv,visF,visG,Sl.f,Sl.g,zf,eC,zm,Y3,eOr,Vn,eIf,eUn,Wk,wW,xW,xX,zc,zp,zt,eFn,fFn,tOf,xK,Zt,yT,asB,asI,zV,YW,Yu,y6,xu,Wf,vD,ltD,leD,gtD,geD,WL,ye,yU,yd,yV,zaU,zO,ixD,Zo,xL,isT,eSl,yS,yA,xz,wj,iOf,Zv,xM,Vi,Zz,Zr,yW,vK,fLC,yg,zS,wo,yo,XX,xv,X6,b1,b2,ec,atI,ixN]
    | true =>
      rw [hc] at ec
      cases b with
      | tup es =>
        have h2:es.all wa=true:=by
          unfold x8 at hc
          rw [Bool.and_eq_true] at hc
          exact hc.2
        obtain ⟨ns,rfl,hns⟩:=zcE h2
        have e3:ZP m (.tup (ns.map .int))=decide (ns.sum≤300):=by
          show (x8 m _&&decide (((ns.map D.int).map zmd).sum≤300))=_
          rw [hc,VM,Bool.true_and]
        rw [e3]
        simp [YY,wR,fnD,zL,yR,YM,sIf,xB,Zy,sNo,zP,zaV,Zf,ZS,WU,ZK,vEv,visF,visG,Sl.f,Sl.g,zf,eC,zm,Y3,eOr,Vn,eIf,eUn,Wk,wW,xW,xX,zc,zp,zt,eFn,fFn,tOf,xK,Zt,yT,asB,asI,zV,YW,Yu,y6,xu,Wf,vD,ltD,leD,gtD,geD,WL,ye,yU,yd,yV,zaU,zO,ixD,Zo,xL,isT,eSl,yS,yA,xz,wj,iOf,Zv,xM,Vi,Zz,Zr,yW,vK,fLC,yg,zS,wo,yo,XX,xv,X6,b1,b2,ec,zeE,atI,ixN]
      | _=>cases hc
  · cases h
theorem zak (T:Txt K mg ad):xE P w K mg base CX0 3 ad.f_are_stones ad.e_are_stones ["web","thing"] (@spD ⟨K⟩ 2 xT):=by
  letI:KK:=⟨K⟩
  have G_are_counts:=zay (P:=P) (w:=w) (base:=base) T
  refine vV (xj (N:=["web","thing"]) (ps:=["web","thing"]) T.d_are_stones.fn V3 (g:=wR) fun cdv A outer s H E hr=>?_) zad
  unfold wR
  exact (zk (zB (YQ (zo (G_are_counts.mono (by decide)) hr rfl T.d_are_counts.at_ T.d_are_counts.kp T.d_are_counts.bd (zb (zF (za 0 (pv 0)) (zd ze) (fun _ _=>rfl)) (zb (za 1 (pv 1)) zh))) (Zu (XJ zdk yq (zH _) (zK (WZ rfl) zbS rfl T.z_sum zeM (zb (za 1 (pv 1)) zh)) (zd (xq (v:=.int 300) rfl T.g_MOST_STONES ⟨_,rfl⟩)))))))
end
section
variable {P:Program}{w:World}{K:PySem.W.Frag}{mg:Str→Option Value}{base:Heap}{ad:Adr}
def wK:SE→Ctl :=
  (sIf (yT (tOf (zt 2 xT (zc (zf 0) (zc (zf 1) zp))))) sNo zP)
def ZE:List D→Option D:=fnD 2 wK
def yn:List D→Option D
  | [.tup [.int m,_],d]=>if (noS d&&decide (m≤1000)&&ZP m d)=true then some .non else none
  | _=>none
theorem W1:∀ ds d,ds.length=2→yn ds=some d→ZE ds=some d:=by
  intro ds d hl h
  obtain ⟨a,b,rfl⟩:=zgv hl
  unfold yn at h
  split at h
  · rename_i m t b' e
    injection e with e1 e2
    injection e2 with e2 _
    subst e1 e2
    obtain ⟨hn,rfl⟩:=ifS h
    rw [Bool.and_eq_true] at hn
    have ec:xT [.tup [.int m,t],b]=some (.bl true):=by simp only [xT];rw [if_pos hn.1,hn.2]
    simp [ZE,wK,fnD,zL,yR,YM,sIf,xB,Zy,sNo,zP,zaV,Zf,ZS,WU,ZK,vEv,visF,visG,Sl.f,Sl.g,zf,eC,zm,Y3,eOr,Vn,eIf,eUn,Wk,wW,xW,xX,zc,zp,zt,eFn,fFn,tOf,xK,Zt,yT,asB,asI,zV,YW,Yu,y6,xu,Wf,vD,ltD,leD,gtD,geD,WL,ye,yU,yd,yV,zaU,zO,ixD,Zo,xL,isT,eSl,yS,yA,xz,wj,iOf,Zv,xM,Vi,Zz,Zr,yW,vK,fLC,yg,zS,wo,yo,XX,xv,X6,b1,b2,ec]
  · cases h
theorem YR (T:Txt K mg ad):xE P w K mg base CX0 4 ad.f_must_be_heap ad.e_must_be_heap ["web","thing"] (@spD ⟨K⟩ 2 yn):=by
  letI:KK:=⟨K⟩
  have G_are_stones:=zak (P:=P) (w:=w) (base:=base) T
  refine vV (xj (N:=["web","thing"]) (ps:=["web","thing"]) T.d_must_be_heap.fn WN (g:=wK) fun cdv A outer s H E hr=>?_) W1
  unfold wK
  exact (zk (xo (vf (wq (zo (G_are_stones.mono (by decide)) hr rfl T.d_are_stones.at_ T.d_are_stones.kp T.d_are_stones.bd (zb (za 0 (pv 0)) (zb (za 1 (pv 1)) zh))))) (zk X9) zG))
theorem ze5 {m:Int}{ts:List Tie}(h:xy m ts):decide (m≤1000)=true:=decide_eq_true (by have:=h.hi;omega)
def Xr (a b:Int):Tie:=(if b < a then b else a,if b > a then b else a)
def YB:SE→Ctl :=
  (yR (wW (zc (eFn zhr (zc (zf 0) (zc (zf 1) zp))) (zc (eFn zhR (zc (zf 0) (zc (zf 1) zp))) zp))))
def V2:List D→Option D:=fnD 2 YB
def y9:List D→Option D
  | [.int a,.int b]=>some (zi (Xr a b))
  | _=>none
theorem Vt:∀ ds d,ds.length=2→y9 ds=some d→V2 ds=some d:=by
  intro ds d hl h
  obtain ⟨a,b,rfl⟩:=zgv hl
  cases a <;> try cases h
  cases b <;> try cases h
  rfl
theorem Vl (T:Txt K mg ad):xE P w K mg base CX0 1 ad.f_tie_between ad.e_tie_between ["one","other"] (@spD ⟨K⟩ 2 y9):=by
  letI:KK:=⟨K⟩
  refine vV (xj (N:=["one","other"]) (ps:=["one","other"]) T.d_tie_between.fn Vk (g:=YB) fun cdv A outer s H E hr=>?_) Vt
  unfold YB
  exact (zk (zB (xm (zb (zK (zbt rfl) zc1 rfl T.z_min zbx (zb (za 0 (pv 0)) (zb (za 1 (pv 1)) zh))) (zb (zK (zbf rfl) zc9 rfl T.z_max zeI (zb (za 0 (pv 0)) (zb (za 1 (pv 1)) zh))) zh)))))
theorem zbK (ts:List Tie):(ts.map zi).all (okE 20)=true:=by
  rw [List.all_map,List.all_eq_true]
  exact fun t _=>rfl
theorem zaF (s t:Tie):eqN 20 (zi s) (zi t)=decide (s=t):=by
  have:eqN 20 (zi s) (zi t)=((s.1 == t.1)&&((s.2 == t.2)&&true)&&true):=rfl
  rw [this,Bool.and_true,Bool.and_true]
  by_cases h:s=t
  · subst h
    simp
  · rw [decide_eq_false h,Bool.and_eq_false_iff]
    by_cases h1:s.1=t.1
    · exact .inr (beq_eq_false_iff_ne.mpr fun h2=>h (Prod.ext h1 h2))
    · exact .inl (beq_eq_false_iff_ne.mpr h1)
theorem zdd (t:Tie)(ts:List Tie):inD (zi t) (.tup (ts.map zi))=some (.bl (decide (t∈ts))):=by
  show (zfq (zi t) (ts.map zi)).map D.bl=_
  unfold zfq
  rw [if_pos ⟨rfl,zbK ts⟩]
  show some (D.bl ((ts.map zi).any fun e=>eqN 20 e (zi t)))=_
  rw [List.any_map]
  congr 2
  rw [Bool.eq_iff_iff,List.any_eq_true,decide_eq_true_eq]
  constructor
  · rintro ⟨s,hs,h⟩
    have h:eqN 20 (zi s) (zi t)=true:=h
    rw [zaF,decide_eq_true_eq] at h
    subst h
    exact hs
  · exact fun h=>⟨t,h,by show eqN 20 (zi t) (zi t)=true;rw [zaF];exact decide_eq_true rfl⟩
end
section
variable {P:Program}{w:World}{K:PySem.W.Frag}{mg:Str→Option Value}{base:Heap}{ad:Adr}
def nbN (m:Int)(ts:List Tie)(p:Int):List Nat:=(List.range m.toNat).filter fun k:Nat=>decide (Xr p k∈ts)
end
theorem zfV {m:Nat}{g:SE→Ctl}{ds:List D}{R:D→Prop}{ρ:SE}(e:ds.map .v++List.replicate (m - ds.length) .no=ρ)(q:(g ρ).w (fun _=>R .non) noP noP R):∃ d,fnD m g ds=some d∧R d:=by
  unfold fnD
  rw [e]
  cases hg:g ρ with
  | nx ρ'=>rw [hg] at q;exact ⟨_,rfl,q.nxi⟩
  | rt d'=>rw [hg] at q;exact ⟨_,rfl,q.rti⟩
  | bk _=>rw [hg] at q;exact q.bki.elim
  | ct _=>rw [hg] at q;exact q.cti.elim
  | no=>rw [hg] at q;exact q.noi.elim
section
variable {P:Program}{w:World}{K:PySem.W.Frag}{mg:Str→Option Value}{base:Heap}{ad:Adr}
def Ys:SE→Ctl :=
  (zL (xB false 2 (zm xu (zm Yu (zm xD (zm xD (zm xu (zf 0) (eC (.int 2147483647))) (zm Yu (eC (.int 977)) (zf 1))) (eC (.int 1))) (eC (.int 48271))) (eC (.int 2147483647))))
    (zL (xB false 2 (zm xu (zm Yu (zf 2) (zf 2)) (eC (.int 2147483629))))
    (zL (xB false 2 (zm xu (zm Yu (zm xD (zf 2) (zm Yu (eC (.int 40692)) (zm xD (zf 1) (eC (.int 3))))) (eC (.int 69621))) (eC (.int 2147483647))))
    (yR (zm y6 (zf 2) (eC (.int 8)))))))
def zb8:List D→Option D:=fnD 3 Ys
def zD:List D→Option D
  | [.int c,.int k]=>some (.int (zaD c k))
  | _=>none
theorem zaI {i j:Int}(h1:-(2 ^ 64) < i)(h2:i < 2 ^ 64):WQ i j=true:=decide_eq_true (.inl ⟨h1,h2⟩)
theorem zbU {i j:Int}(h1:-(2 ^ 64) < j)(h2:j < 2 ^ 64):WQ i j=true:=decide_eq_true (.inr ⟨h1,h2⟩)
theorem ZL {i j:Int}(h:WQ i j=true):Yu (.int i) (.int j)=some (.int (i*j)):=by
  show (if WQ i j=true then _ else none)=_
  rw [if_pos h]
theorem xI {i j:Int}(h:0 < j):xu (.int i) (.int j)=some (.int (i % j)):=by
  show (if decide (0 < j)=true then _ else none)=_
  rw [if_pos (decide_eq_true h)]
theorem Wd {i j:Int}(h:0 < j)(h2:j < 1606938044258990275541962092341162602522202993782792835301376):y6 (.int i) (.int j)=some (.int (i / j)):=by
  show (if decide (0 < j∧j < 1606938044258990275541962092341162602522202993782792835301376)=true then _ else none)=_
  rw [if_pos (decide_eq_true ⟨h,h2⟩)]
theorem zbk:∀ ds d,ds.length=2→zD ds=some d→zb8 ds=some d:=by
  intro ds d hl h
  obtain ⟨a,b,rfl⟩:=zgv hl
  cases a <;> try cases h
  cases b <;> try cases h
  rename_i c k
  have h1:=Int.emod_nonneg ((c % 2147483647+977*k+1)*48271) (show (2147483647:Int)≠0 by decide)
  have h2:=Int.emod_lt_of_pos ((c % 2147483647+977*k+1)*48271) (show (0:Int) < 2147483647 by decide)
  have m1:WQ 977 k=true:=zaI (by decide) (by decide)
  have m2:WQ (c % 2147483647+977*k+1) 48271=true:=zbU (by decide) (by decide)
  obtain ⟨x,hx⟩:∃ x,(c % 2147483647+977*k+1)*48271 % 2147483647=x:=⟨_,rfl⟩
  rw [hx] at h1 h2
  have m3:WQ x x=true:=zaI (Int.lt_of_lt_of_le (by decide) h1) (Int.lt_trans h2 (by decide))
  have m4:WQ 40692 (k+3)=true:=zaI (by decide) (by decide)
  have m5:∀ x,WQ x 69621=true:=fun x=>zbU (by decide) (by decide)
  obtain ⟨y,hy⟩:∃ y,x*x % 2147483629=y:=⟨_,rfl⟩
  obtain ⟨z,hz⟩:∃ z,(y+40692*(k+3))*69621 % 2147483647=z:=⟨_,rfl⟩
  have hst:zaD c k=z / 8:=by
    show ((((c % 2147483647+977*k+1)*48271 % 2147483647)*((c % 2147483647+977*k+1)*48271 % 2147483647) % 2147483629+40692*(k+3))*69621 % 2147483647 / 8)=_
    rw [hx,hy,hz]
  rw [hst]
  refine Vx (ρ:=[.v (.int c),.v (.int k),.no]) rfl ?_
  unfold Ys
  refine zI (ρ':=[.v (.int c),.v (.int k),.v (.int x)]) (Y1 ?_) ?_
  · show (((((xu (.int c) (.int 2147483647)).bind fun a=>(Yu (.int 977) (.int k)).bind fun b=>xD a b).bind fun a=>xD a (.int 1)).bind fun a=>Yu a (.int 48271)).bind fun a=>xu a (.int 2147483647))=_
    rw [xI (by decide),ZL m1]
    show ((Yu (.int (c % 2147483647+977*k+1)) (.int 48271)).bind fun a=>xu a (.int 2147483647))=_
    rw [ZL m2,← hx]
    exact xI (by decide)
  refine zI (ρ':=[.v (.int c),.v (.int k),.v (.int y)]) (Y1 ?_) ?_
  · show ((Yu (.int x) (.int x)).bind fun a=>xu a (.int 2147483629))=_
    rw [ZL m3,← hy]
    exact xI (by decide)
  refine zI (ρ':=[.v (.int c),.v (.int k),.v (.int z)]) (Y1 ?_) ?_
  · show ((((Yu (.int 40692) (.int (k+3))).bind fun b=>xD (.int y) b).bind fun a=>Yu a (.int 69621)).bind fun a=>xu a (.int 2147483647))=_
    rw [ZL m4]
    show ((Yu (.int (y+40692*(k+3))) (.int 69621)).bind fun a=>xu a (.int 2147483647))=_
    rw [ZL (m5 _),← hz]
    exact xI (by decide)
  exact ZQ (vH (show y6 (.int z) (.int 8)=_ from Wd (by decide) (by decide))) rfl
theorem xP (T:Txt K mg ad):xE P w K mg base CX0 1 ad.f__law_stir ad.e__law_stir ["cell","k"] (@spD ⟨K⟩ 2 zD):=by
  letI:KK:=⟨K⟩
  refine vV (xj (N:=["cell","k","number"]) (ps:=["cell","k"]) T.d__law_stir.fn vT (g:=Ys) fun cdv A outer s H E hr=>?_) zbk
  unfold Ys
  exact (zj (yb (m:=false) (i:=2) vT.nd rfl (Or.inl rfl) (wk (XM (yf (yf (wk (za 0 (pv 0)) (zd ze)) (XM (zd ze) (za 1 (pv 1)))) (zd ze)) (zd ze)) (zd ze)))
      (zj (yb (m:=false) (i:=2) vT.nd rfl (Or.inl rfl) (wk (XM (za 2 (pv 2)) (za 2 (pv 2))) (zd ze)))
      (zj (yb (m:=false) (i:=2) vT.nd rfl (Or.inl rfl) (wk (XM (yf (za 2 (pv 2)) (XM (zd ze) (yf (za 1 (pv 1)) (zd ze)))) (zd ze)) (zd ze)))
      (zk (zB (ZJ (za 2 (pv 2)) (zd ze)))))))
theorem zdv {i j:Int}(h1:0≤i)(h2:i≤1000)(h3:0≤j)(h4:j≤1000):Zr [.int i,.int j]=some (XY i (j - i).toNat):=by
  show (if zgu i=true∧zgu j=true then some (XY i (j - i).toNat) else none)=_
  rw [if_pos ⟨yF.mpr ⟨by (clear h4 h3 h2;omega),by (clear h4 h3;omega)⟩,yF.mpr ⟨by omega,by omega⟩⟩]
theorem vy {j:Int}(h3:0≤j)(h4:j≤1000000):Zz [.int j]=some (XY 0 j.toNat):=by
  show (if zgu j=true then some (XY 0 j.toNat) else none)=_
  rw [if_pos (yF.mpr ⟨by omega,by omega⟩)]
end
section
variable {P:Program}{w:World}{K:PySem.W.Frag}{mg:Str→Option Value}{base:Heap}{ad:Adr}
theorem zdU {m:Int}{ns:List Int}(h1:(ns.length:Int)=m)(h2:∀ n∈ns,0≤n)(h3:ns.sum≤300):ZP m (.tup (ns.map .int))=true:=by
  unfold ZP x8
  rw [Bool.and_eq_true,Bool.and_eq_true,decide_eq_true_eq,decide_eq_true_eq,VM,List.length_map]
  exact ⟨⟨h1,zfa h2⟩,h3⟩
theorem zhP (ns:List Int):noS (.tup (ns.map .int))=true:=by
  show zgw (ns.map .int)=true
  induction ns with
  | nil=>rfl
  | cons n ns ih=>show (noS (.int n)&&zgw (ns.map .int))=true;rw [ih];rfl
def vAt (ns:List Int)(i:Int):Int:=ns.getD i.toNat 0
theorem Zl {ns:List Int}{i:Int}(h0:0≤i)(h1:i < ns.length):atI (ns.map D.int) i=some (.int (vAt ns i)):=by
  unfold vAt
  obtain ⟨k,hk⟩:∃ k:Nat,i=k:=⟨i.toNat,by omega⟩
  subst hk
  refine zgq ?_
  rw [Int.toNat_natCast,List.getElem?_map,List.getElem?_eq_getElem (by omega),List.getD_eq_getElem?_getD,List.getElem?_eq_getElem (by omega)]
  rfl
theorem zhF {ns:List Int}{i m:Int}(h:0≤i∧i < m)(hl:(ns.length:Int)=m):atI (ns.map D.int) i=some (.int (vAt ns i)):=Zl h.1 (by omega)
end
section
variable {P:Program}{w:World}{K:PySem.W.Frag}{mg:Str→Option Value}{base:Heap}{ad:Adr}
def v5:SE→Ctl :=
  (xB false 1 (zm xD (zf 1) (xW (fLC (Vi Zr (zc (zm xD (zf 2) (eC (.int 1))) (zc (zf 0) zp))) b1 yg (wW (zc (zf 3) (zc (zf 0) zp)))))))
def vM:SE→Ctl :=
  (zL (xB false 1 (xW (xX zp)))
    (zL (xM Zz (zc (zf 0) zp) (yo 2) v5)
    (yR (zf 1))))
def za0:List D→Option D:=fnD 3 vM
def wO:List D→Option D
  | [.int n]=>if decide (0≤n∧n≤8)=true then some (.lst ((wf n.toNat).map zi)) else none
  | _=>none
theorem zac:∀ ds d,ds.length=1→wO ds=some d→za0 ds=some d:=by
  intro ds d hl h
  obtain ⟨a,rfl⟩:=zjX hl
  cases a <;> try cases h
  rename_i n
  obtain ⟨hn,rfl⟩:=ifS h
  have hn:0≤n∧n≤8:=of_decide_eq_true hn
  clear h hl
  obtain ⟨k,hk⟩:∃ k:Nat,n.toNat=k:=⟨_,rfl⟩
  have hk8:k≤8:=by omega
  have hkn:n=(k:Int):=by omega
  rw [hk]
  have hr:Zz [.int n]=some (XY 0 k):=by rw [vy hn.1 (by omega),hk]
  clear hk
  refine Vx (ρ:=[.v (.int n),.no,.no]) rfl ?_
  unfold vM
  have e0:xB false 1 (xW (xX zp)) [.v (.int n),.no,.no]=.nx [.v (.int n),.v (.lst []),.no]:=rfl
  refine zI e0 (yp (Ww (lo:=0) (c:=k) (fun i ρ=>∃ o2,ρ=[.v (.int n),.v (.lst ((wB k i).map zi)),o2]) hr ⟨.no,rfl⟩ ?_ ?_))
  · rintro i ρ hi ⟨o2,rfl⟩
    refine ⟨_,rfl,?_⟩
    obtain ⟨x,hx⟩:∃ x:Int,(0:Int)+(i:Int)=x:=⟨_,rfl⟩
    rw [hx]
    unfold v5
    refine vR (ρ':=[.v (.int n),.v (.lst ((wB k (i+1)).map zi)),.v (.int x)]) (Y1 (d:=.lst ((wB k (i+1)).map zi)) ?_) ⟨_,rfl⟩
    have e:fLC (Vi Zr (zc (zm xD (zf 2) (eC (.int 1))) (zc (zf 0) zp))) b1 yg (wW (zc (zf 3) (zc (zf 0) zp))) [some (.int n),some (.lst ((wB k i).map zi)),some (.int x)]=some ((zco i (k - (i+1))).map zi):=by
      have e1:Zr [.int (x+1),.int n]=some (XY (x+1) (k - (i+1))):=by
        rw [zdv (by omega) (by omega) (by omega) (by omega)]
        have et:(n - (x+1)).toNat=k - (i+1):=by omega
        rw [et]
      unfold fLC
      show (Zr [.int (x+1),.int n]).bind _=_
      rw [e1]
      show (if lim (XY (x+1) (k - (i+1))).length=true then _ else none)=_
      rw [if_pos (vS (by rw [zcg];omega))]
      unfold zco
      rw [List.map_map]
      refine WB (fun j:Nat=>D.int (x+1+(j:Int))) _ (List.range (k - (i+1))) fun j _=>⟨[some (.int (x+1+(j:Int)))],rfl,rfl,?_⟩
      show some (D.tup [.int x,.int (x+1+(j:Int))])=some (D.tup [.int (i:Int),.int ((i:Int)+1+(j:Int))])
      rw [←hx,Int.zero_add]
    show (((fLC (Vi Zr (zc (zm xD (zf 2) (eC (.int 1))) (zc (zf 0) zp))) b1 yg (wW (zc (zf 3) (zc (zf 0) zp))) [some (.int n),some (.lst ((wB k i).map zi)),some (.int x)]).map D.lst).bind fun y=>xD (.lst ((wB k i).map zi)) y)=_
    rw [e]
    show xD (.lst ((wB k i).map zi)) (.lst ((zco i (k - (i+1))).map zi))=_
    rw [zdb (by rw [List.length_map,List.length_map,X0];have:=zdF k hk8 i;omega),XZ,List.map_append]
  · rintro ρ ⟨o2,rfl⟩
    refine ZQ rfl ?_
    rw [zfT]
theorem zas (T:Txt K mg ad):xE P w K mg base CX0 1 ad.f__law_pairs ad.e__law_pairs ["many"] (@spD ⟨K⟩ 1 wO):=by
  letI:KK:=⟨K⟩
  refine vV (xj (N:=["many","found","a"]) (ps:=["many"]) T.d__law_pairs.fn vt (g:=vM) fun cdv A outer s H E hr=>?_) zac
  unfold vM v5
  exact (zj (yb (m:=false) (i:=1) vt.nd rfl (Or.inl rfl) (vq (ZF zh)))
      (zj (Zi PassesOwn.never rfl rfl T.z_range (zb (za 0 (pv 0)) zh) (zU (zw (i:=2) vt.nd rfl (Or.inr rfl))) (zk (yb (m:=false) (i:=1) vt.nd rfl (Or.inl rfl) (yf (za 1 (pv 1)) (vq (Y8 (L:=["b"]) (M:=["many","found","a"]) rfl (vm (by rfl) (by rfl) (by rfl) (by with_unfolding_all rfl) (by rfl) (by rfl) (by kernel_rfl) (all_cons rfl y0)) (zfl rfl T.z_range (zb (yf (za 2 (pv 2)) (zd ze)) (zb (za 0 (pv 0)) zh))) gs1 rb1 (fun _ _ _ _=>(zw (i:=0) zlI rfl (Or.inl rfl) (.inr rfl))) (fun _ _ _ _=>(xm (zb (za 3 (pv 3)) (zb (za 0 (pv 0)) zh))))))))))
      (zk (zB (za 1 (pv 1))))))
def wm:SE→Ctl :=
  (zL (sIf (xK (tOf (zm Xj (zm xu (zf 1) (eC (.int 2))) (eC (.int 0)))) (tOf (zm Xj (zm xu (zm zjD (zm y6 (zf 1) (eC (.int 2))) (zf 3)) (eC (.int 2))) (eC (.int 1))))) (ZS false 2 (zf 4)) zP)
    (sIf (xK (tOf (zm Xj (zm xu (zf 1) (eC (.int 2))) (eC (.int 1)))) (tOf (zm ltD (zm xu (zt 2 zD (zc (zf 1) (zc (zf 3) zp))) (eC (.int 5))) (zm xD (eC (.int 2)) (zm xu (zm y6 (zf 1) (eC (.int 2))) (eC (.int 2))))))) (ZS false 2 (zf 4)) zP))
def wd:SE→Ctl :=
  (zL (Zf 2 (xX zp))
    (zL (Zv (yW (zc (zt 1 wO (zc (zf 0) zp)) zp)) (XX 2 (xv (yo 3) (xv (yo 4) X6))) wm)
    (sFz 2 (yR (wW (zc (zf 0) (zc (eFn zS (zc (zf 2) zp)) zp)))))))
def vp:List D→Option D:=fnD 5 wd
theorem ziG {a k:Int}(h:0≤k):zjD (.int a) (.int k)=some (.int (a / 2 ^ k.toNat)):=by
  show (if decide (0≤k)=true then some (D.int (a / 2 ^ k.toNat)) else none)=_
  rw [if_pos (decide_eq_true h)]
theorem zjL {ρ:Ev}{c x:Int}(h1:ρ[1]?=some (some (.int c)))(h3:ρ[3]?=some (some (.int x)))(hx:0≤x) :
    (∃ b,xK (tOf (zm Xj (zm xu (zf 1) (eC (.int 2))) (eC (.int 0)))) (tOf (zm Xj (zm xu (zm zjD (zm y6 (zf 1) (eC (.int 2))) (zf 3)) (eC (.int 2))) (eC (.int 1)))) ρ=some (decide (c % 2=0)&&b)) ∧
    ∃ b,xK (tOf (zm Xj (zm xu (zf 1) (eC (.int 2))) (eC (.int 1)))) (tOf (zm ltD (zm xu (zt 2 zD (zc (zf 1) (zc (zf 3) zp))) (eC (.int 5))) (zm xD (eC (.int 2)) (zm xu (zm y6 (zf 1) (eC (.int 2))) (eC (.int 2)))))) ρ=some (decide (c % 2=1)&&b):=by
  have v1:zf 1 ρ=some (.int c):=by unfold zf;rw [h1];rfl
  have v3:zf 3 ρ=some (.int x):=by unfold zf;rw [h3];rfl
  have f2:y6 (.int c) (.int 2)=some (.int (c / 2)):=Wd (by decide) (by decide)
  have m0:∀ k:Int,tOf (zm Xj (zm xu (zf 1) (eC (.int 2))) (eC (.int k))) ρ=some (decide (c % 2=k)):=fun k=>by
    show (((zf 1 ρ).bind fun a=>xu a (.int 2)).bind fun y=>Xj y (.int k)).bind asB=_
    rw [v1,Option.bind_some,xI (by decide)]
    rfl
  constructor
  · refine ⟨decide (c / 2 / 2 ^ x.toNat % 2=1),?_⟩
    have m2:tOf (zm Xj (zm xu (zm zjD (zm y6 (zf 1) (eC (.int 2))) (zf 3)) (eC (.int 2))) (eC (.int 1))) ρ=some (decide (c / 2 / 2 ^ x.toNat % 2=1)):=by
      show (((((zf 1 ρ).bind fun a=>y6 a (.int 2)).bind fun a=>(zf 3 ρ).bind fun b=>zjD a b).bind fun a=>xu a (.int 2)).bind fun y=>Xj y (.int 1)).bind asB=_
      rw [v1,v3,Option.bind_some,f2,Option.bind_some,Option.bind_some,ziG hx,Option.bind_some,xI (by decide)]
      rfl
    unfold xK
    rw [m0,Option.bind_some,m2]
    cases decide (c % 2=0) <;> rfl
  · refine ⟨decide (zaD c x % 5 < 2+c / 2 % 2),?_⟩
    have es:zt 2 zD (zc (zf 1) (zc (zf 3) zp)) ρ=some (.int (zaD c x)):=by
      unfold zt zc
      rw [v1,v3]
      rfl
    have m2:tOf (zm ltD (zm xu (zt 2 zD (zc (zf 1) (zc (zf 3) zp))) (eC (.int 5))) (zm xD (eC (.int 2)) (zm xu (zm y6 (zf 1) (eC (.int 2))) (eC (.int 2))))) ρ=some (decide (zaD c x % 5 < 2+c / 2 % 2)):=by
      show ((((zt 2 zD (zc (zf 1) (zc (zf 3) zp)) ρ).bind fun a=>xu a (.int 5)).bind fun a=>((((zf 1 ρ).bind fun a=>y6 a (.int 2)).bind fun a=>xu a (.int 2)).bind fun y=>xD (.int 2) y).bind fun b=>ltD a b)).bind asB=_
      rw [es,v1,Option.bind_some,Option.bind_some,xI (by decide),f2,Option.bind_some,Option.bind_some,xI (by decide)]
      rfl
    unfold xK
    rw [m0,Option.bind_some,m2]
    cases decide (c % 2=1) <;> rfl
theorem zlQ {n c x:Int}{ts:List Tie}{t:Tie}{N B C:SE→Prop}{R:D→Prop}(hx:0≤x)(hl:(ts.map zi).length≤1000)
    (q1:N [.v (.int n),.v (.int c),.o (ts.map zi),.v (.int x),.v (zi t)]) (q2:N [.v (.int n),.v (.int c),.o ((ts++[t]).map zi),.v (.int x),.v (zi t)]) :
    (wm [.v (.int n),.v (.int c),.o (ts.map zi),.v (.int x),.v (zi t)]).w N B C R:=by
  rw [List.map_append] at q2
  unfold wm
  obtain ⟨⟨b1,e1⟩,b2,e2⟩:=zjL (ρ:=visG [.v (.int n),.v (.int c),.o (ts.map zi),.v (.int x),.v (zi t)]) (c:=c) (x:=x) rfl rfl hx
  obtain ⟨_,b3,e3⟩:=zjL (ρ:=visG [.v (.int n),.v (.int c),.o (ts.map zi++[zi t]),.v (.int x),.v (zi t)]) (c:=c) (x:=x) rfl rfl hx
  have ap:=zcZ (m:=false) (i:=2) (f:=zf 4) (ρ:=[.v (.int n),.v (.int c),.o (ts.map zi),.v (.int x),.v (zi t)]) (ds:=ts.map zi) (d:=zi t) rfl rfl hl
  refine yp (Zn e1 (fun k=>vR ap ?_) (fun _=>vR rfl (Zn e2 (fun _=>vR ap q2) (fun _=>vR rfl q1))))
  refine Zn e3 (fun k3=>?_) (fun _=>vR rfl q2)
  have h0:c % 2=0:=of_decide_eq_true (Bool.and_eq_true_iff.mp k).1
  have h1:c % 2=1:=of_decide_eq_true (Bool.and_eq_true_iff.mp k3).1
  exact absurd (h0.symm.trans h1) (by decide)
theorem zfK {n c:Int}(h1:1≤n)(h8:n≤8):∃ ts,vp [.int n,.int c]=some (zN n ts)∧ts.Sublist (wf n.toNat):=by
  have key:=zfV (m:=5) (g:=wd) (ds:=[.int n,.int c]) (R:=fun d=>∃ ts:List Tie,d=zN n ts∧ts.Sublist (wf n.toNat)) rfl ?_
  · obtain ⟨d,e,ts,rfl,hs⟩:=key
    exact ⟨ts,e,hs⟩
  unfold wd
  refine zI rfl ?_
  have ep:wO [.int n]=some (.lst ((wf n.toNat).map zi)):=by
    show (if decide (0≤n∧n≤8)=true then some (D.lst ((wf n.toNat).map zi)) else none)=_
    rw [if_pos (decide_eq_true ⟨by omega,by omega⟩)]
  have h28:=(WJ n.toNat (by omega)).2.2
  refine yp (Vo (ds:=Xm 0 ((wf n.toNat).map zi)) (fun i ρ=>∃ ts o3 o4,ρ=[.v (.int n),.v (.int c),.o (ts.map zi),o3,o4]∧ts.Sublist ((wf n.toNat).take i)) ?_ ⟨[],.no,.no,rfl,List.nil_sublist _⟩ ?_ ?_)
  · show ((wO [.int n]).bind fun d=>(some []:Option (List D)).map (d::·)).bind _=_
    rw [ep]
    rfl
  · rintro i d ρ hd ⟨ts,o3,o4,rfl,hs⟩
    rw [vG] at hd
    obtain ⟨dx,hdx,rfl⟩:=Option.map_eq_some_iff.mp hd
    rw [List.getElem?_map] at hdx
    obtain ⟨t,ht,rfl⟩:=Option.map_eq_some_iff.mp hdx
    rw [Nat.zero_add]
    have htake:(wf n.toNat).take (i+1)=(wf n.toNat).take i++[t]:=by rw [List.take_succ,ht];rfl
    have hlen:ts.length≤28:=Nat.le_trans hs.length_le (Nat.le_trans (List.length_take_le _ _) (by have:=(List.getElem?_eq_some_iff.mp ht).1;omega))
    refine ⟨_,rfl,zlQ (Int.natCast_nonneg i) (by rw [List.length_map];omega) ⟨ts,_,_,rfl,?_⟩ ⟨ts++[t],_,_,rfl,?_⟩⟩
    · rw [htake];exact hs.trans (List.sublist_append_left _ _)
    · rw [htake];exact hs.append (List.Sublist.refl _)
  · rintro ρ ⟨ts,o3,o4,rfl,hs⟩
    exact zh4 rfl (ZQ rfl ⟨ts,rfl,hs.trans (List.take_sublist _ _)⟩)
theorem Vq (T:Txt K mg ad):xE P w K mg base CX0 2 ad.f__law_web_by ad.e__law_web_by ["many","cell"] (@spD ⟨K⟩ 2 vp):=by
  letI:KK:=⟨K⟩
  have G__law_pairs:=zas (P:=P) (w:=w) (base:=base) T
  have G__law_stir:=xP (P:=P) (w:=w) (base:=base) T
  refine xj (N:=["many","cell","ties","k","tie"]) (ps:=["many","cell"]) T.d__law_web_by.fn wL (g:=wd) fun cdv A outer s H E hr=>?_
  unfold wd wm
  exact (zj (Y6 (i:=2) wL.nd rfl (Or.inl rfl) (ZF zh))
      (zj (Zq PassesOwn.never rfl (W7 rfl T.z_enumerate wQ (zb (zo (G__law_pairs.mono (by decide)) hr rfl T.d__law_pairs.at_ T.d__law_pairs.kp T.d__law_pairs.bd (zb (za 0 (pv 0)) zh)) zh)) (V0 rfl (xg (zU (zw (i:=3) wL.nd rfl (Or.inl rfl))) (xg (zU (zw (i:=4) wL.nd rfl (Or.inl rfl))) XG))) (zj (xo (zb5 (VP (zJ (YH hr) w6 (zH _) (wk (za 1 (pv 1)) (zd ze)) (zd ze)) (Xx (zJ (YH hr) w6 (zH _) (wk (zkr (ZJ (za 1 (pv 1)) (zd ze)) (za 3 (pv 3))) (zd ze)) (zd ze))))) (zk (W2 (m:=false) (pv 2) (za 4 (pv 4)) (fun a b=>ZG PySem.F.plainAttrs_list PySem.F.slot_list_append PySem.F.type_list_append vE a b))) zG)
      (zk (xo (zb5 (VP (zJ (YH hr) w6 (zH _) (wk (za 1 (pv 1)) (zd ze)) (zd ze)) (Xx (zJ zdG yq (zH _) (wk (zo (G__law_stir.mono (by decide)) hr rfl T.d__law_stir.at_ T.d__law_stir.kp T.d__law_stir.bd (zb (za 1 (pv 1)) (zb (za 3 (pv 3)) zh))) (zd ze)) (yf (zd ze) (wk (ZJ (za 1 (pv 1)) (zd ze)) (zd ze))))))) (zk (W2 (m:=false) (pv 2) (za 4 (pv 4)) (fun a b=>ZG PySem.F.plainAttrs_list PySem.F.slot_list_append PySem.F.type_list_append vE a b))) zG))))
      (XV 2 (zk (zB (xm (zb (za 0 (pv 0)) (zb (xr zR xt rfl T.z_tuple ym (zb (za 2 (pv 2)) zh)) zh))))))))
end
section
variable {P:Program}{w:World}{K:PySem.W.Frag}{mg:Str→Option Value}{base:Heap}{ad:Adr}
def vb:SE→Ctl :=
  (zL (xB false 7 (zm xu (zt 2 zD (zc (zf 1) (zc (zm xD (eC (.int 60)) (zf 6)) zp))) (zm xD (zf 3) (eC (.int 1)))))
    (zL (sIf (tOf (zm Xj (zm xu (zf 1) (eC (.int 2))) (eC (.int 0)))) (zL (xB false 7 (eFn zhr (zc (zf 3) (zc (zm xu (zf 5) (zm xD (zf 2) (eC (.int 1)))) zp))))
    (xB false 5 (zm y6 (zf 5) (zm xD (zf 2) (eC (.int 1)))))) zP)
    (zL (ZS false 4 (zf 7))
    (xB false 3 (zm YW (zf 3) (zf 7))))))
def xw:SE→Ctl :=
  (zL (xB false 3 (zf 2))
    (zL (Zf 4 (xX zp))
    (zL (xB false 5 (zm y6 (zf 1) (eC (.int 2))))
    (zL (xM Zz (zc (zf 0) zp) (yo 6) vb)
    (sFz 4 (yR (eFn zS (zc (zf 4) zp))))))))
def vY:List D→Option D:=fnD 8 xw
theorem zdA {n c mo:Int}(h0:0≤n)(h8:n≤8)(hm0:0≤mo)(hm:mo≤1000):∃ ns:List Int,vY [.int n,.int c,.int mo]=some (.tup (ns.map .int))∧(ns.length:Int)=n∧(∀ x∈ns,0≤x)∧ns.sum≤mo:=by
  have key:=zfV (m:=8) (g:=xw) (ds:=[.int n,.int c,.int mo]) (R:=fun d=>∃ ns:List Int,d=.tup (ns.map .int)∧(ns.length:Int)=n∧(∀ x∈ns,0≤x)∧ns.sum≤mo) (ρ:=[.v (.int n),.v (.int c),.v (.int mo),.no,.no,.no,.no,.no]) rfl ?_
  · obtain ⟨d,e,ns,rfl,h⟩:=key
    exact ⟨ns,e,h⟩
  unfold xw
  refine zI rfl (zI (ρ':=[.v (.int n),.v (.int c),.v (.int mo),.v (.int mo),.o [],.no,.no,.no]) (by simp [fnD,zL,yR,YM,sIf,xB,Zy,sNo,zP,zaV,Zf,ZS,WU,ZK,vEv,visF,visG,Sl.f,Sl.g,zf,eC,zm,Y3,eOr,Vn,eIf,eUn,Wk,wW,xW,xX,zc,zp,zt,eFn,fFn,tOf,xK,Zt,yT,asB,asI,zV,YW,Yu,y6,xu,Wf,vD,ltD,leD,gtD,geD,WL,ye,yU,yd,yV,zaU,zO,ixD,Zo,xL,isT,eSl,yS,yA,xz,wj,iOf,Zv,xM,Vi,Zz,Zr,yW,vK,fLC,yg,zS,wo,yo,XX,xv,X6,b1,b2,vS]) (zI (ρ':=[.v (.int n),.v (.int c),.v (.int mo),.v (.int mo),.o [],.v (.int (c / 2)),.no,.no]) (by simp [fnD,zL,yR,YM,sIf,xB,Zy,sNo,zP,zaV,Zf,ZS,WU,ZK,vEv,visF,visG,Sl.f,Sl.g,zf,eC,zm,Y3,eOr,Vn,eIf,eUn,Wk,wW,xW,xX,zc,zp,zt,eFn,fFn,tOf,xK,Zt,yT,asB,asI,zV,YW,Yu,y6,xu,Wf,vD,ltD,leD,gtD,geD,WL,ye,yU,yd,yV,zaU,zO,ixD,Zo,xL,isT,eSl,yS,yA,xz,wj,iOf,Zv,xM,Vi,Zz,Zr,yW,vK,fLC,yg,zS,wo,yo,XX,xv,X6,b1,b2]) ?_))
  refine yp (Ww (lo:=0) (c:=n.toNat) (fun i ρ=>∃ (le dg:Int) (ns:List Int) (o1 o2:Sl),ρ=[.v (.int n),.v (.int c),.v (.int mo),.v (.int le),.o (ns.map .int),.v (.int dg),o1,o2]∧ns.length=i∧(∀ x∈ns,0≤x)∧0≤le∧ns.sum+le=mo) (vy h0 (by omega)) ⟨mo,c / 2,[],.no,.no,rfl,rfl,by simp,hm0,by simp⟩ ?_ ?_)
  · rintro i ρ hi ⟨le,dg,ns,o1,o2,rfl,hl,hnn,hle,hs⟩
    obtain ⟨x,hx⟩:∃ x:Int,(0:Int)+(i:Int)=x:=⟨_,rfl⟩
    rw [hx]
    refine ⟨_,rfl,?_⟩
    unfold vb
    obtain ⟨st,hst⟩:∃ st:Int,zaD c (60+x)=st:=⟨_,rfl⟩
    have hlo:0≤st % (le+1):=Int.emod_nonneg _ (by omega)
    have hhi:st % (le+1) < le+1:=Int.emod_lt_of_pos _ (by omega)
    have es:zD [.int c,.int (60+x)]=some (.int st):=by rw [←hst];rfl
    have hz:decide ((ns.map D.int).length < sizeLine)=true:=decide_eq_true (Y4 (by rw [List.length_map];omega))
    have fin:∀ (s2 dg2:Int),0≤s2→s2≤le→(zL (ZS false 4 (zf 7)) (xB false 3 (zm YW (zf 3) (zf 7))) [.v (.int n),.v (.int c),.v (.int mo),.v (.int le),.o (ns.map .int),.v (.int dg2),.v (.int x),.v (.int s2)]).w
        (fun ρ=>∃ (le dg:Int) (ns:List Int) (o1 o2:Sl),ρ=[.v (.int n),.v (.int c),.v (.int mo),.v (.int le),.o (ns.map .int),.v (.int dg),o1,o2]∧ns.length=i+1∧(∀ x∈ns,0≤x)∧0≤le∧ns.sum+le=mo)
        (fun ρ'=>(sFz 4 (yR (eFn zS (zc (zf 4) zp))) ρ').w (fun _=>∃ ns:List Int,D.non=.tup (ns.map .int)∧(ns.length:Int)=n∧(∀ x∈ns,0≤x)∧ns.sum≤mo) noP noP fun d=>∃ ns:List Int,d=.tup (ns.map .int)∧(ns.length:Int)=n∧(∀ x∈ns,0≤x)∧ns.sum≤mo)
        (fun ρ=>∃ (le dg:Int) (ns:List Int) (o1 o2:Sl),ρ=[.v (.int n),.v (.int c),.v (.int mo),.v (.int le),.o (ns.map .int),.v (.int dg),o1,o2]∧ns.length=i+1∧(∀ x∈ns,0≤x)∧0≤le∧ns.sum+le=mo)
        (fun d=>∃ ns:List Int,d=.tup (ns.map .int)∧(ns.length:Int)=n∧(∀ x∈ns,0≤x)∧ns.sum≤mo):=fun s2 dg2 g1 g2=>by
      refine zI (ρ':=[.v (.int n),.v (.int c),.v (.int mo),.v (.int le),.o ((ns++[s2]).map .int),.v (.int dg2),.v (.int x),.v (.int s2)]) ?_ (vR rfl ⟨le - s2,dg2,ns++[s2],_,_,rfl,?_,?_,by omega,?_⟩)
      · show (match (if decide ((ns.map D.int).length < sizeLine)=true then some ([.v (.int n),.v (.int c),.v (.int mo),.v (.int le),.o (ns.map .int++[.int s2]),.v (.int dg2),.v (.int x),.v (.int s2)]:SE) else none) with | some ρ'=>Ctl.nx ρ' | none=>Ctl.no)=_
        rw [if_pos hz,List.map_append]
        rfl
      · rw [List.length_append,hl];rfl
      · intro y hy
        rcases List.mem_append.mp hy with hy | hy
        · exact hnn y hy
        · rw [List.mem_singleton.mp hy];exact g1
      · rw [List.sum_append]
        simp
        omega
    have hm1:(0:Int) < le+1:=by omega
    refine zI (ρ':=[.v (.int n),.v (.int c),.v (.int mo),.v (.int le),.o (ns.map .int),.v (.int dg),.v (.int x),.v (.int (st % (le+1)))]) (by simp [fnD,zL,yR,YM,sIf,xB,Zy,sNo,zP,zaV,Zf,ZS,WU,ZK,vEv,visF,visG,Sl.f,Sl.g,zf,eC,zm,Y3,eOr,Vn,eIf,eUn,Wk,wW,xW,xX,zc,zp,zt,eFn,fFn,tOf,xK,Zt,yT,asB,asI,zV,YW,Yu,y6,xu,Wf,vD,ltD,leD,gtD,geD,WL,ye,yU,yd,yV,zaU,zO,ixD,Zo,xL,isT,eSl,yS,yA,xz,wj,iOf,Zv,xM,Vi,Zz,Zr,yW,vK,fLC,yg,zS,wo,yo,XX,xv,X6,b1,b2,es,hm1]) ?_
    by_cases hc:c % 2=0
    · have hm2:(0:Int) < mo+1:=by omega
      have hm3:mo+1 < 1606938044258990275541962092341162602522202993782792835301376:=by omega
      refine yp (Zn (c:=true) (by simp [fnD,zL,yR,YM,sIf,xB,Zy,sNo,zP,zaV,Zf,ZS,WU,ZK,vEv,visF,visG,Sl.f,Sl.g,zf,eC,zm,Y3,eOr,Vn,eIf,eUn,Wk,wW,xW,xX,zc,zp,zt,eFn,fFn,tOf,xK,Zt,yT,asB,asI,zV,YW,Yu,y6,xu,Wf,vD,ltD,leD,gtD,geD,WL,ye,yU,yd,yV,zaU,zO,ixD,Zo,xL,isT,eSl,yS,yA,xz,wj,iOf,Zv,xM,Vi,Zz,Zr,yW,vK,fLC,yg,zS,wo,yo,XX,xv,X6,b1,b2,hc]) (fun _=>?_) (fun z=>by cases z))
      refine zI (ρ':=[.v (.int n),.v (.int c),.v (.int mo),.v (.int le),.o (ns.map .int),.v (.int dg),.v (.int x),.v (.int (if dg % (mo+1) < le then dg % (mo+1) else le))]) (by simp [fnD,zL,yR,YM,sIf,xB,Zy,sNo,zP,zaV,Zf,ZS,WU,ZK,vEv,visF,visG,Sl.f,Sl.g,zf,eC,zm,Y3,eOr,Vn,eIf,eUn,Wk,wW,xW,xX,zc,zp,zt,eFn,fFn,tOf,xK,Zt,yT,asB,asI,zV,YW,Yu,y6,xu,Wf,vD,ltD,leD,gtD,geD,WL,ye,yU,yd,yV,zaU,zO,ixD,Zo,xL,isT,eSl,yS,yA,xz,wj,iOf,Zv,xM,Vi,Zz,Zr,yW,vK,fLC,yg,zS,wo,yo,XX,xv,X6,b1,b2,hm2,zhr]) (vR (ρ':=[.v (.int n),.v (.int c),.v (.int mo),.v (.int le),.o (ns.map .int),.v (.int (dg / (mo+1))),.v (.int x),.v (.int (if dg % (mo+1) < le then dg % (mo+1) else le))]) (by simp [fnD,zL,yR,YM,sIf,xB,Zy,sNo,zP,zaV,Zf,ZS,WU,ZK,vEv,visF,visG,Sl.f,Sl.g,zf,eC,zm,Y3,eOr,Vn,eIf,eUn,Wk,wW,xW,xX,zc,zp,zt,eFn,fFn,tOf,xK,Zt,yT,asB,asI,zV,YW,Yu,y6,xu,Wf,vD,ltD,leD,gtD,geD,WL,ye,yU,yd,yV,zaU,zO,ixD,Zo,xL,isT,eSl,yS,yA,xz,wj,iOf,Zv,xM,Vi,Zz,Zr,yW,vK,fLC,yg,zS,wo,yo,XX,xv,X6,b1,b2,hm2,hm3]) ?_)
      have p1:0≤dg % (mo+1):=Int.emod_nonneg _ (by omega)
      exact fin _ _ (by split <;> omega) (by split <;> omega)
    · refine yp (Zn (c:=false) (by simp [fnD,zL,yR,YM,sIf,xB,Zy,sNo,zP,zaV,Zf,ZS,WU,ZK,vEv,visF,visG,Sl.f,Sl.g,zf,eC,zm,Y3,eOr,Vn,eIf,eUn,Wk,wW,xW,xX,zc,zp,zt,eFn,fFn,tOf,xK,Zt,yT,asB,asI,zV,YW,Yu,y6,xu,Wf,vD,ltD,leD,gtD,geD,WL,ye,yU,yd,yV,zaU,zO,ixD,Zo,xL,isT,eSl,yS,yA,xz,wj,iOf,Zv,xM,Vi,Zz,Zr,yW,vK,fLC,yg,zS,wo,yo,XX,xv,X6,b1,b2,hc]) (fun z=>by cases z) (fun _=>vR rfl ?_))
      exact fin _ _ hlo (by omega)
  · rintro ρ ⟨le,dg,ns,o1,o2,rfl,hl,hnn,hle,hs⟩
    refine zh4 rfl (ZQ rfl ⟨ns,rfl,by omega,hnn,by omega⟩)
theorem Wy (T:Txt K mg ad):xE P w K mg base CX0 2 ad.f__law_heap_by ad.e__law_heap_by ["many","cell","most"] (@spD ⟨K⟩ 3 vY):=by
  letI:KK:=⟨K⟩
  have G__law_stir:=xP (P:=P) (w:=w) (base:=base) T
  refine xj (N:=["many","cell","most","left_v","heap","digits","k","stones"]) (ps:=["many","cell","most"]) T.d__law_heap_by.fn zM (g:=xw) fun cdv A outer s H E hr=>?_
  unfold xw vb
  exact (zj (yb (m:=false) (i:=3) zM.nd rfl (Or.inl rfl) (za 2 (pv 2)))
      (zj (Y6 (i:=4) zM.nd rfl (Or.inl rfl) (ZF zh))
      (zj (yb (m:=false) (i:=5) zM.nd rfl (Or.inl rfl) (ZJ (za 1 (pv 1)) (zd ze)))
      (zj (Zi PassesOwn.never rfl rfl T.z_range (zb (za 0 (pv 0)) zh) (zU (zw (i:=6) zM.nd rfl (Or.inl rfl))) (zj (yb (m:=false) (i:=7) zM.nd rfl (Or.inl rfl) (wk (zo (G__law_stir.mono (by decide)) hr rfl T.d__law_stir.at_ T.d__law_stir.kp T.d__law_stir.bd (zb (za 1 (pv 1)) (zb (yf (zd ze) (za 6 (pv 6))) zh))) (yf (za 3 (pv 3)) (zd ze))))
      (zj (xo (zJ (YH hr) w6 (zH _) (wk (za 1 (pv 1)) (zd ze)) (zd ze)) (zj (yb (m:=false) (i:=7) zM.nd rfl (Or.inl rfl) (zK (zbt rfl) zc1 rfl T.z_min zbx (zb (za 3 (pv 3)) (zb (wk (za 5 (pv 5)) (yf (za 2 (pv 2)) (zd ze))) zh))))
      (zk (yb (m:=false) (i:=5) zM.nd rfl (Or.inl rfl) (ZJ (za 5 (pv 5)) (yf (za 2 (pv 2)) (zd ze)))))) zG)
      (zj (W2 (m:=false) (pv 4) (za 7 (pv 7)) (fun a b=>ZG PySem.F.plainAttrs_list PySem.F.slot_list_append PySem.F.type_list_append vE a b))
      (zk (yb (m:=false) (i:=3) zM.nd rfl (Or.inl rfl) (Z5 (za 3 (pv 3)) (za 7 (pv 7)))))))))
      (XV 4 (zk (zB (xr zR xt rfl T.z_tuple ym (zb (za 4 (pv 4)) zh)))))))))
theorem VB {ts:List Tie}(h:ts.length < 64):WY [.lst (ts.map zi)]=some ((Vc ts).map zi):=by
  show (if (ts.map zi).length < 64 then _ else none)=_
  rw [if_pos (by rw [List.length_map];exact h),show zcA (ts.map zi)=some ts from zei ts]
  rfl
set_option genInjectivity false in
set_option genSizeOf false in
set_option genCtorIdx false in
structure zij (n:Int) (i:Nat) (ts:List Tie):Prop where
  rng:∀ t∈ts,0≤t.1∧t.1 < t.2∧t.2 < n
  nd:ts.Nodup
  has:∀ k:Int,1≤k→k≤(i:Int)→∃ t∈ts,t.2=k
  len:ts.length≤28+i
theorem zij.yes {n x:Int}{i:Nat}{ts:List Tie}(h:zij n i ts)(hx:x=1+(i:Int)){t:Tie}(ht:t∈ts)(e:t.2=x):zij n (i+1) ts :=
  ⟨h.rng,h.nd,fun k k1 k2=>by
    by_cases c:k=x
    · exact ⟨t,ht,by rw [e,c]⟩
    · exact h.has k k1 (by omega),Nat.le_succ_of_le h.len⟩
theorem zij.add {n x j:Int}{i:Nat}{ts:List Tie}(h:zij n i ts)(hx:x=1+(i:Int))(hn:x < n)(j0:0≤j)(j1:j < x)(hno:∀ t∈ts,t.2≠x):zij n (i+1) (ts++[(j,x)]):=by
  refine ⟨fun t ht=>?_,?_,fun k k1 k2=>?_,?_⟩
  · rcases List.mem_append.mp ht with ht | ht
    · exact h.rng t ht
    · cases List.mem_singleton.mp ht;exact ⟨j0,j1,hn⟩
  · refine List.nodup_append.mpr ⟨h.nd,List.nodup_cons.mpr ⟨List.not_mem_nil,List.nodup_nil⟩,fun a ha b hb e=>?_⟩
    cases List.mem_singleton.mp hb
    exact hno a ha (by rw [e])
  · by_cases c:k=x
    · exact ⟨(j,x),List.mem_append.mpr (.inr (List.mem_singleton.mpr rfl)),c.symm⟩
    · obtain ⟨t,ht,e⟩:=h.has k k1 (by omega)
      exact ⟨t,List.mem_append.mpr (.inl ht),e⟩
  · rw [List.length_append]
    exact Nat.succ_le_succ h.len
theorem zkz {ρ:Ev}{ts:List Tie}{x:Int}(h2:ρ[2]?=some (some (.lst (ts.map zi))))(h3:ρ[3]?=some (some (.int x)))(hl:ts.length≤1000):fLC (iOf (zf 2)) b1 (tOf (zm Xj (zm ixD (zf 0) (eC (.int 1))) (zf 4))) (zf 0) ρ=some ((ts.filter fun t=>decide (t.2=x)).map zi):=by
  have e2:zf 2 ρ=some (.lst (ts.map zi)):=by unfold zf;rw [h2];rfl
  unfold fLC
  show (((zf 2 ρ).bind wj).bind fun ds=>if lim ds.length=true then _ else none)=_
  rw [e2]
  show (if lim (ts.map zi).length=true then _ else none)=_
  rw [if_pos (vS (by rw [List.length_map];exact hl))]
  refine Xo zi (fun t=>decide (t.2=x)) zi ts fun t _=>⟨[some (zi t)],rfl,?_,fun _=>rfl⟩
  have e3:zf 4 ([some (zi t)]++ρ)=some (.int x):=by
    unfold zf
    rw [show ([some (zi t)]++ρ)[4]?=ρ[3]? from rfl,h3]
    rfl
  show ((some (D.int t.2)).bind fun a=>(zf 4 ([some (zi t)]++ρ)).bind fun b=>Xj a b).bind asB=_
  rw [e3]
  rfl
def wn:SE→Ctl :=
  (zL (xB false 4 (wW (zc (zm xu (zt 2 zD (zc (zf 1) (zc (zm xD (eC (.int 50)) (zf 3)) zp))) (zf 3)) (zc (zf 3) zp))))
    (sIf (tOf (zm Xj (eFn Zo (zc (xW (fLC (iOf (zf 2)) b1 (tOf (zm Xj (zm ixD (zf 0) (eC (.int 1))) (zf 4))) (zf 0))) zp)) (eC (.int 0)))) (ZS false 2 (zf 4)) zP))
def yN:SE→Ctl :=
  (zL (Zf 2 (fFn wo (zc (zm ixD (zt 2 vp (zc (zf 0) (zc (zf 1) zp))) (eC (.int 1))) zp)))
    (zL (xM Zr (zc (eC (.int 1)) (zc (zf 0) zp)) (yo 3) wn)
    (sFz 2 (yR (wW (zc (zf 0) (zc (eFn zS (zc (xW (fFn WY (zc (zf 2) zp))) zp)) zp)))))))
def vd:List D→Option D:=fnD 5 yN
theorem zbN {n c:Int}(h1:1≤n)(h8:n≤8):∃ ts,vd [.int n,.int c]=some (zN n ts)∧xy n ts∧(∀ x:Int,1≤x→x < n→∃ t∈ts,t.2=x):=by
  obtain ⟨ts0,ew,hsub⟩:=zfK (n:=n) (c:=c) h1 h8
  obtain ⟨k,hk⟩:∃ k:Nat,n=((k+1:Nat):Int):=⟨(n - 1).toNat,by omega⟩
  have hk7:k≤7:=by omega
  obtain ⟨q1,q2,q3⟩:=WJ n.toNat (by omega)
  have key:=zfV (m:=5) (g:=yN) (ds:=[.int n,.int c]) (R:=fun d=>∃ ts:List Tie,d=zN n (Vc ts)∧zij n k ts) (ρ:=[.v (.int n),.v (.int c),.no,.no,.no]) rfl ?_
  · obtain ⟨d,e,ts,rfl,hj⟩:=key
    have hp:=Zh ts
    have hr:∀ t∈Vc ts,0≤t.1∧t.1 < t.2∧t.2 < n:=fun t ht=>hj.rng t (hp.mem_iff.mp ht)
    refine ⟨_,e,⟨h1,h8,hr,X1 hj.nd⟩,fun x x1 x2=>?_⟩
    obtain ⟨t,ht,e2⟩:=hj.has x x1 (by omega)
    exact ⟨t,hp.mem_iff.mpr ht,e2⟩
  unfold yN
  refine zI (ρ':=[.v (.int n),.v (.int c),.o (ts0.map zi),.no,.no]) (Wx (ds:=ts0.map zi) ?_) ?_
  · show (((vp [.int n,.int c]).bind fun x=>ixD x (.int 1)).bind fun d=>(some []).map (d::·)).bind wo=_
    rw [ew]
    rfl
  have hrng:Zr [.int 1,.int n]=some (XY 1 k):=zjY hk hk7
  refine yp (Ww (lo:=1) (c:=k) (fun i ρ=>∃ (ts:List Tie) (o3 o4:Sl),ρ=[.v (.int n),.v (.int c),.o (ts.map zi),o3,o4]∧zij n i ts) hrng ⟨ts0,_,_,rfl,⟨fun t ht=>?_,(q1.sublist hsub).imp fun {a b} h e=>by subst e;exact absurd (ZU.mpr h) (by unfold leP;simp),fun k k1 k2=>absurd (Int.le_trans k1 k2) (by decide),Nat.le_trans hsub.length_le q3⟩⟩ ?_ ?_)
  · have:=q2 t (hsub.subset ht)
    omega
  · rintro i ρ hi ⟨ts,o3,o4,rfl,hj⟩
    obtain ⟨x,hx⟩:∃ x:Int,x=(1:Int)+(i:Int):=⟨_,rfl⟩
    rw [←hx]
    refine ⟨[.v (.int n),.v (.int c),.o (ts.map zi),.v (.int x),o4],rfl,?_⟩
    unfold wn
    obtain ⟨j,hjj⟩:∃ j:Int,zaD c (50+x) % x=j:=⟨_,rfl⟩
    have xp:0 < x:=by omega
    obtain ⟨j0,j1⟩:=ZW xp hjj
    have hl:=hj.len
    refine zI (ρ':=[.v (.int n),.v (.int c),.o (ts.map zi),.v (.int x),.v (zi (j,x))]) (Y1 (d:=zi (j,x)) ?_) ?_
    · have m1:xu (.int (zaD c (50+x))) (.int x)=some (.int j):=by rw [xI xp,hjj]
      show ((xu (.int (zaD c (50+x))) (.int x)).bind fun d=>(some [D.int x]).map (d::·)).bind _=_
      rw [m1]
      rfl
    refine Zn (c:=decide ((((ts.filter fun t=>decide (t.2=x)).map zi).length:Int)=0)) ?_ (fun c0=>?_) (fun c0=>?_)
    · have el':=zkz (ρ:=visG [.v (.int n),.v (.int c),.o (ts.map zi),.v (.int x),.v (zi (j,x))]) (ts:=ts) (x:=x) rfl rfl (by omega)
      show (((((fLC (iOf (zf 2)) b1 (tOf (zm Xj (zm ixD (zf 0) (eC (.int 1))) (zf 4))) (zf 0) _).map D.lst).bind fun d=>(some []).map (d::·)).bind Zo).bind fun a=>Xj a (.int 0)).bind asB=_
      rw [el']
      rfl
    · refine vR (zcZ (ds:=ts.map zi) (d:=zi (j,x)) rfl rfl (by rw [List.length_map];omega)) ⟨ts++[(j,x)],.v (.int x),.v (zi (j,x)),?_,hj.add hx (by omega) j0 j1 fun t ht e=>?_⟩
      · rw [List.map_append];rfl
      · have h0:=of_decide_eq_true c0
        have:t∈ts.filter fun t=>decide (t.2=x):=List.mem_filter.mpr ⟨ht,decide_eq_true e⟩
        rw [List.length_map] at h0
        rw [List.length_eq_zero_iff.mp (Int.ofNat.inj h0)] at this
        cases this
    · obtain ⟨t,ht⟩:∃ t,t∈ts.filter fun t=>decide (t.2=x):=by
        rcases hf:ts.filter fun t=>decide (t.2=x) with _ | ⟨t,r⟩
        · rw [hf] at c0;cases c0
        · exact ⟨t,by rw [hf];exact List.mem_cons_self⟩
      obtain ⟨t1,t2⟩:=List.mem_filter.mp ht
      exact vR rfl ⟨ts,_,_,rfl,hj.yes hx t1 (of_decide_eq_true t2)⟩
  · rintro ρ ⟨ts,o3,o4,rfl,hj⟩
    have hl:=hj.len
    have e5:=VB (ts:=ts) (by omega)
    refine zh4 (ρ':=[.v (.int n),.v (.int c),.v (.lst (ts.map zi)),o3,o4]) rfl ?_
    refine ZQ (vH (d:=zN n (Vc ts)) ?_) ⟨ts,rfl,hj⟩
    show ((((((WY [.lst (ts.map zi)]).map D.lst).bind fun d=>(some []).map (d::·)).bind zS).bind fun d=>(some []).map (d::·)).map (D.int n::·)).bind _=_
    rw [e5]
    rfl
theorem Xs (T:Txt K mg ad):xE P w K mg base CX0 3 ad.f__law_joined_by ad.e__law_joined_by ["many","cell"] (@spD ⟨K⟩ 2 vd):=by
  letI:KK:=⟨K⟩
  have G__law_stir:=xP (P:=P) (w:=w) (base:=base) T
  have G__law_web_by:=Vq (P:=P) (w:=w) (base:=base) T
  refine xj (N:=["many","cell","ties","k","tie"]) (ps:=["many","cell"]) T.d__law_joined_by.fn xl (g:=yN) fun cdv A outer s H E hr=>?_
  unfold yN wn
  exact (zj (Y6 (i:=2) xl.nd rfl (Or.inl rfl) (XA rfl T.z_list (zb (zF (zo (G__law_web_by.mono (by decide)) hr rfl T.d__law_web_by.at_ T.d__law_web_by.kp T.d__law_web_by.bd (zb (za 0 (pv 0)) (zb (za 1 (pv 1)) zh))) (zd ze) (fun _ _=>rfl)) zh)))
      (zj (zhn PassesOwn.never rfl rfl T.z_range (zb (zd ze) (zb (za 0 (pv 0)) zh)) (zU (zw (i:=3) xl.nd rfl (Or.inr rfl))) (zj (yb (m:=false) (i:=4) xl.nd rfl (Or.inl rfl) (xm (zb (wk (zo (G__law_stir.mono (by decide)) hr rfl T.d__law_stir.at_ T.d__law_stir.kp T.d__law_stir.bd (zb (za 1 (pv 1)) (zb (yf (zd ze) (za 3 (pv 3))) zh))) (za 3 (pv 3))) (zb (za 3 (pv 3)) zh))))
      (zk (xo (zJ (YH hr) w6 (zH _) (zK zW v4 rfl T.z_len ZB (zb (vq (zez (L:=["other"]) (M:=["many","cell","ties","k","tie"]) rfl (vm (by rfl) (by rfl) (by rfl) (by with_unfolding_all rfl) (by rfl) (by rfl) (by kernel_rfl) (all_cons rfl y0)) (xU (za 2 (pv 2))) gs1 rb1 (fun _ _ _ _=>(zw (i:=0) zlR rfl (Or.inl rfl) (.inr rfl))) (fun _ _ _ _=>(zJ (YH hr) w6 (zH _) (zF (za 0 (pv 0)) (zd ze) (fun _ _=>rfl)) (za 4 (pv 4)))) (fun _ _ _ _=>(za 0 (pv 0))))) zh)) (zd ze)) (zk (W2 (m:=false) (pv 2) (za 4 (pv 4)) (fun a b=>ZG PySem.F.plainAttrs_list PySem.F.slot_list_append PySem.F.type_list_append vE a b))) zG))))
      (XV 2 (zk (zB (xm (zb (za 0 (pv 0)) (zb (xr zR xt rfl T.z_tuple ym (zb (vq (zbB rfl rfl T.z_sorted (zb (za 2 (pv 2)) zh))) zh)) zh))))))))
theorem zao {m:Int}{ts:List Tie}{a b:Int}(ok:xy m ts)(h:Xr a b∈ts):(0≤a∧a < m)∧(0≤b∧b < m)∧a≠b:=by
  have:=ok.rng _ h
  unfold Xr at this
  dsimp only at this
  split at this <;> split at this <;> omega
def Xk:SE→Ctl :=
  (yR (Y3 (zt 2 y3 (zc (zm ixD (zf 0) (eC (.int 0))) (zc (zf 1) zp))) (zm inD (zt 2 y9 (zc (zm ixD (zf 1) (eC (.int 0))) (zc (zm ixD (zf 1) (eC (.int 1))) zp))) (zm ixD (zf 0) (eC (.int 1))))))
def Xc:List D→Option D:=fnD 2 Xk
theorem zdO {m:Int}{ts:List Tie}(ok:xy m ts)(a b:Int):Xc [zN m ts,.tup [.int a,.int b]]=some (.bl (decide (Xr a b∈ts))):=by
  have ep:y3 [.int m,.tup [.int a,.int b]]=some (.bl (inR m a&&inR m b&&!decide (a=b))):=rfl
  have et:y9 [.int a,.int b]=some (zi (Xr a b)):=rfl
  have ei:=zdd (Xr a b) ts
  have em:ixD (zN m ts) (.int 0)=some (.int m):=rfl
  have e1:ixD (zN m ts) (.int 1)=some (.tup (ts.map zi)):=rfl
  have ea:ixD (.tup [.int a,.int b]) (.int 0)=some (.int a):=rfl
  have eb:ixD (.tup [.int a,.int b]) (.int 1)=some (.int b):=rfl
  refine Vx (ρ:=[.v (zN m ts),.v (.tup [.int a,.int b])]) rfl ?_
  unfold Xk
  refine ZQ (vH ?_) rfl
  cases hp:inR m a&&inR m b&&!decide (a=b) with
  | true =>
    rw [hp] at ep
    show (((y3 [.int m,.tup [.int a,.int b]]).bind asB).bind fun c=>if c=true then ((y9 [.int a,.int b]).bind fun t=>inD t (.tup (ts.map zi))) else some (D.bl false))=_
    rw [ep,et]
    exact ei
  | false =>
    have:¬ Xr a b∈ts:=fun h=>by
      obtain ⟨h1,h2,h3⟩:=zao ok h
      have:(inR m a&&inR m b&&!decide (a=b))=true:=by
        unfold inR
        simp only [Bool.and_eq_true,decide_eq_true_eq,Bool.not_eq_true',decide_eq_false_iff_not]
        omega
      rw [this] at hp
      cases hp
    rw [decide_eq_false this]
    rw [hp] at ep
    show (((y3 [.int m,.tup [.int a,.int b]]).bind asB).bind fun c=>if c=true then ((y9 [.int a,.int b]).bind fun t=>inD t (.tup (ts.map zi))) else some (D.bl false))=_
    rw [ep]
    rfl
theorem zd3 (T:Txt K mg ad):xE P w K mg base CX0 5 ad.f_is_step ad.e_is_step ["web","thing"] (@spD ⟨K⟩ 2 Xc):=by
  letI:KK:=⟨K⟩
  have G_is_pair:=VL (P:=P) (w:=w) (base:=base) T
  have G_tie_between:=Vl (P:=P) (w:=w) (base:=base) T
  refine xj (N:=["web","thing"]) (ps:=["web","thing"]) T.d_is_step.fn zdS (g:=Xk) fun cdv A outer s H E hr=>?_
  unfold Xk
  exact (zk (zB (YQ (zo (G_is_pair.mono (by decide)) hr rfl T.d_is_pair.at_ T.d_is_pair.kp T.d_is_pair.bd (zb (zF (za 0 (pv 0)) (zd ze) (fun _ _=>rfl)) (zb (za 1 (pv 1)) zh))) (Zu (XJ (VZ hr) VD (by with_unfolding_all rfl) (zo (G_tie_between.mono (by decide)) hr rfl T.d_tie_between.at_ T.d_tie_between.kp T.d_tie_between.bd (zb (zF (za 1 (pv 1)) (zd ze) (fun _ _=>rfl)) (zb (zF (za 1 (pv 1)) (zd ze) (fun _ _=>rfl)) zh))) (zF (za 0 (pv 0)) (zd ze) (fun _ _=>rfl)))))))
theorem zcv {m:Int}{ts:List Tie}{t:Tie}(ok:xy m ts)(ht:t∈ts):Xr t.1 t.2=t∧Xr t.2 t.1=t:=by
  have h:=(ok.rng t ht).2.1
  unfold Xr
  exact ⟨by rw [if_neg (by omega),if_pos h],by rw [if_pos h,if_neg (by omega)]⟩
abbrev TR:=Int × Int × Int
def trD (r:TR):D:=.tup [.int r.1,.int r.2.1,.int r.2.2]
def trP (r:TR):Tie:=(r.1,r.2.1)
set_option genInjectivity false in
set_option genSizeOf false in
set_option genCtorIdx false in
structure Yn (ts:List Tie) (rs:List TR):Prop where
  row:∀ r∈rs,Xr r.1 r.2.1∈ts∧1≤r.2.2∧r.2.2≤300
  srt:rs.Pairwise fun a b=>ltP (trP a) (trP b)
  len:rs.length≤1000
def wH:SE→Ctl :=
  (zL (sIf (Zt (yT (tOf (eUn (xL .tuple) (zf 1)))) (tOf (zm neD (eFn Zo (zc (zf 1) zp)) (eC (.int 3))))) (yR (eC (.bl false))) zP)
    (yR (Y3 (zt 2 Xc (zc (zf 0) (zc (eSl slD (zf 1) yS (yA (eC (.int 2)))) zp))) (zt 3 zy (zc (zm ixD (zf 1) (eC (.int 2))) (zc (eC (.int 1)) (zc (eC (.int 300)) zp)))))))
def wJ:List D→Option D:=fnD 2 wH
theorem WT {m:Int}{ts:List Tie}(ok:xy m ts)(r:TR):wJ [zN m ts,trD r]=some (.bl (decide (Xr r.1 r.2.1∈ts)&&(decide (1≤r.2.2)&&decide (r.2.2≤300)))):=by
  have es:=zdO ok r.1 r.2.1
  have ew:zy [.int r.2.2,.int 1,.int 300]=some (.bl (decide (1≤r.2.2)&&decide (r.2.2≤300))):=rfl
  refine Vx (ρ:=[.v (zN m ts),.v (trD r)]) rfl ?_
  unfold wH
  refine yp (Zn (c:=false) rfl (fun z=>by cases z) (fun _=>vR rfl ?_))
  refine ZQ (vH ?_) rfl
  show (((Xc [zN m ts,.tup [.int r.1,.int r.2.1]]).bind asB).bind fun c=>if c=true then zy [.int r.2.2,.int 1,.int 300] else some (.bl false))=_
  rw [es,ew]
  cases decide (Xr r.1 r.2.1∈ts) <;> rfl
theorem Wv (T:Txt K mg ad):xE P w K mg base CX0 6 ad.f_is_tally_row ad.e_is_tally_row ["web","thing"] (@spD ⟨K⟩ 2 wJ):=by
  letI:KK:=⟨K⟩
  have G_is_whole_within:=wl (P:=P) (w:=w) (base:=base) T
  have G_is_step:=zd3 (P:=P) (w:=w) (base:=base) T
  refine xj (N:=["web","thing"]) (ps:=["web","thing"]) T.d_is_tally_row.fn Vd (g:=wH) fun cdv A outer s H E hr=>?_
  unfold wH
  exact (zj (xo (zb5 (Vp (vf (wq (yM .tuple rfl T.z_isinstance (za 1 (pv 1)) (wx (v:=.ty "tuple") rfl T.z_tuple ym rfl)))) (Xb (zJ WF ZC (zH _) (zK zW v4 rfl T.z_len ZB (zb (za 1 (pv 1)) zh)) (zd ze))))) (zk (zB (YE vZ))) zG)
      (zk (zB (YQ (zo (G_is_step.mono (by decide)) hr rfl T.d_is_step.at_ T.d_is_step.kp T.d_is_step.bd (zb (za 0 (pv 0)) (zb (wb (za 1 (pv 1)) vF (vA (zd ze))) zh))) (Zu (zo (G_is_whole_within.mono (by decide)) hr rfl T.d_is_whole_within.at_ T.d_is_whole_within.kp T.d_is_whole_within.bd (zb (zF (za 1 (pv 1)) (zd ze) (fun _ _=>rfl)) (zb (zd ze) (zb (zd (xq (v:=.int 300) rfl T.g_MOST_TIMES ⟨_,rfl⟩)) zh)))))))))
def x6:SE→Ctl :=
  (zL (sIf (yT (tOf (zt 2 wJ (zc (zf 0) (zc (zf 3) zp))))) (yR (eC (.bl false))) zP)
    (sIf (xK (tOf (zm gtD (zf 2) (eC (.int 0)))) (tOf (zm leT (eSl slD (zf 3) yS (yA (eC (.int 2)))) (eSl slD (zm ixD (zf 1) (zm YW (zf 2) (eC (.int 1)))) yS (yA (eC (.int 2))))))) (yR (eC (.bl false))) zP))
def xA:SE→Ctl :=
  (zL (sIf (yT (tOf (eUn (xL .tuple) (zf 1)))) (yR (eC (.bl false))) zP)
    (zL (Zv (yW (zc (zf 1) zp)) (XX 2 (xv (yo 2) (xv (yo 3) X6))) x6)
    (yR (eC (.bl true)))))
def zE:List D→Option D:=fnD 4 xA
theorem YS {m:Int}{ts:List Tie}{rs:List TR}(ok:xy m ts)(h:Yn ts rs):zE [zN m ts,.tup (rs.map trD)]=some (.bl true):=by
  refine Vx (ρ:=[.v (zN m ts),.v (.tup (rs.map trD)),.no,.no]) rfl ?_
  unfold xA
  refine yp (Zn (c:=false) rfl (fun z=>by cases z) (fun _=>vR rfl ?_))
  refine yp (Vo (ds:=Xm 0 (rs.map trD)) (fun _ ρ=>∃ o2 o3:Sl,ρ=[.v (zN m ts),.v (.tup (rs.map trD)),o2,o3]) rfl ⟨_,_,rfl⟩ ?_ ?_)
  · rintro i d ρ hd ⟨o2,o3,rfl⟩
    rw [vG,List.getElem?_map,Nat.zero_add] at hd
    obtain ⟨x,hx,rfl⟩:=Option.map_eq_some_iff.mp hd
    obtain ⟨r,hr,rfl⟩:=Option.map_eq_some_iff.mp hx
    obtain ⟨h1,h2,h3⟩:=h.row r (List.mem_of_getElem? hr)
    have e1:=WT ok r
    rw [decide_eq_true h1,decide_eq_true h2,decide_eq_true h3] at e1
    refine ⟨[.v (zN m ts),.v (.tup (rs.map trD)),.v (.int (i:Int)),.v (trD r)],rfl,?_⟩
    unfold x6
    refine yp (Zn (c:=false) ?_ (fun z=>by cases z) (fun _=>vR rfl ?_))
    · show (((wJ [zN m ts,trD r]).bind asB).map (!·))=_
      rw [e1]
      rfl
    refine Zn (c:=false) ?_ (fun z=>by cases z) (fun _=>vR rfl ⟨_,_,rfl⟩)
    cases i with
    | zero=>rfl
    | succ j =>
      obtain ⟨q,hq⟩:∃ q,rs[j]?=some q:=⟨_,List.getElem?_eq_getElem (Nat.lt_of_succ_lt (List.getElem?_eq_some_iff.mp hr).1)⟩
      have hlt:ltP (trP q) (trP r):=by
        obtain ⟨a1,a2⟩:=List.getElem?_eq_some_iff.mp hr
        obtain ⟨b1,b2⟩:=List.getElem?_eq_some_iff.mp hq
        have:=List.pairwise_iff_getElem.mp h.srt j (j+1) b1 a1 (Nat.lt_succ_self j)
        rwa [a2,b2] at this
      have e2:L2.atI (rs.map trD) (((j+1:Nat):Int) - 1)=some (trD q):=zj8 (by omega) (by rw [show (((j+1:Nat):Int) - 1).toNat=j by omega,List.getElem?_map,hq];rfl)
      have e3:leT (zi (trP r)) (zi (trP q))=some (.bl false):=by
        show some (D.bl (leP (trP r) (trP q)))=_
        rw [ZU.mpr hlt]
      have e4:gtD (.int ((j+1:Nat):Int)) (.int 0)=some (.bl true):=by
        show some (D.bl (decide (0 < ((j+1:Nat):Int))))=_
        rw [decide_eq_true (by omega)]
      show ((gtD (.int ((j+1:Nat):Int)) (.int 0)).bind asB).bind (fun c=>if c=true then (((L2.atI (rs.map trD) (((j+1:Nat):Int) - 1)).bind fun x=>(slD x none (some 2))).bind fun y=>leT (zi (trP r)) y).bind asB else some false)=_
      rw [e4,e2]
      show ((leT (zi (trP r)) (zi (trP q))).bind asB)=_
      rw [e3]
      rfl
  · rintro ρ ⟨o2,o3,rfl⟩
    exact ZQ rfl rfl
theorem Yl (T:Txt K mg ad):xE P w K mg base CX0 7 ad.f_are_tally_rows ad.e_are_tally_rows ["web","thing"] (@spD ⟨K⟩ 2 zE):=by
  letI:KK:=⟨K⟩
  have G_is_tally_row:=Wv (P:=P) (w:=w) (base:=base) T
  refine xj (N:=["web","thing","at","row"]) (ps:=["web","thing"]) T.d_are_tally_rows.fn ww (g:=xA) fun cdv A outer s H E hr=>?_
  unfold xA x6
  exact (zj (xo (vf (wq (yM .tuple rfl T.z_isinstance (za 1 (pv 1)) (wx (v:=.ty "tuple") rfl T.z_tuple ym rfl)))) (zk (zB (YE vZ))) zG)
      (zj (Zq PassesOwn.never rfl (W7 rfl T.z_enumerate wQ (zb (za 1 (pv 1)) zh)) (V0 rfl (xg (zU (zw (i:=2) ww.nd rfl (Or.inl rfl))) (xg (zU (zw (i:=3) ww.nd rfl (Or.inl rfl))) XG))) (zj (xo (vf (wq (zo (G_is_tally_row.mono (by decide)) hr rfl T.d_is_tally_row.at_ T.d_is_tally_row.kp T.d_is_tally_row.bd (zb (za 0 (pv 0)) (zb (za 3 (pv 3)) zh))))) (zk (zB (YE vZ))) zG)
      (zk (xo (zb5 (VP (zJ zee yq (zH _) (za 2 (pv 2)) (zd ze)) (Xx (zJ (zh9 hr.units0) zgr (zH _) (wb (za 3 (pv 3)) vF (vA (zd ze))) (wb (zF (za 1 (pv 1)) (Z5 (za 2 (pv 2)) (zd ze)) (fun _ _=>rfl)) vF (vA (zd ze))))))) (zk (zB (YE vZ))) zG))))
      (zk (zB (YE vZ)))))
def wc:SE→Ctl :=
  (sIf (yT (tOf (zt 2 zE (zc (zf 0) (zc (zf 1) zp))))) sNo zP)
def y8:List D→Option D:=fnD 2 wc
theorem Zx {m:Int}{ts:List Tie}{d:D}(h:zE [zN m ts,d]=some (.bl true)):y8 [zN m ts,d]=some .non:=by
  refine Vx (ρ:=[.v (zN m ts),.v d]) rfl ?_
  unfold wc
  refine Zn (c:=false) ?_ (fun z=>by cases z) (fun _=>vR rfl rfl)
  show (((zE [zN m ts,d]).bind asB).map (!·))=_
  rw [h]
  rfl
theorem YI (T:Txt K mg ad):xE P w K mg base CX0 8 ad.f_must_be_tally ad.e_must_be_tally ["web","thing"] (@spD ⟨K⟩ 2 y8):=by
  letI:KK:=⟨K⟩
  have G_are_tally_rows:=Yl (P:=P) (w:=w) (base:=base) T
  refine xj (N:=["web","thing"]) (ps:=["web","thing"]) T.d_must_be_tally.fn YF (g:=wc) fun cdv A outer s H E hr=>?_
  unfold wc
  exact (zk (xo (vf (wq (zo (G_are_tally_rows.mono (by decide)) hr rfl T.d_are_tally_rows.at_ T.d_are_tally_rows.kp T.d_are_tally_rows.bd (zb (za 0 (pv 0)) (zb (za 1 (pv 1)) zh))))) (zk X9) zG))
def vc:SE→Option Nat :=
  (xIf (yT (tOf (zt 2 zE (zc (zf 0) (zc (zf 1) zp))))) (zfF 5) xNo)
def xC:List D→Option Nat:=fnX 2 vc
theorem zhs {m:Int}{ts:List Tie}{d:D}(h:zE [zN m ts,d]=some (.bl false)):xC [zN m ts,d]=some 5:=by
  show (match (((zE [zN m ts,d]).bind asB).map (!·)) with | some true=>some 5 | some false=>none | none=>none)=_
  rw [h]
  rfl
theorem Yg (T:Txt K mg ad):xE P w K mg base (Air P w) 8 ad.f_must_be_tally ad.e_must_be_tally ["web","thing"] (@spX ⟨K⟩ (clT ad) 2 xC):=by
  letI:KK:=⟨K⟩
  have G_are_tally_rows:=Yl (P:=P) (w:=w) (base:=base) T
  refine zin (cl:=clT ad) (N:=["web","thing"]) (ps:=["web","thing"]) T.d_must_be_tally.fn YF (gx:=vc) fun cdv A outer s H E hr=>?_
  unfold vc
  exact (zap (zkT (vf (wq (zo (G_are_tally_rows.mono (by decide)) hr rfl T.d_are_tally_rows.at_ T.d_are_tally_rows.kp T.d_are_tally_rows.bd (zb (za 0 (pv 0)) (zb (za 1 (pv 1)) zh))))) (zap (zcQ (cl:=clT ad) (j:=5) ⟨T.g_NoTally,T.c_NoTally⟩ rfl)) zbr))
def vB (hs:List Int)(r:TR):List Int:=(hs.set r.1.toNat (vAt hs r.1 - 2*r.2.2)).set r.2.1.toNat (vAt (hs.set r.1.toNat (vAt hs r.1 - 2*r.2.2)) r.2.1+r.2.2)
theorem zX (hs:List Int)(r:TR):(vB hs r).length=hs.length:=by
  unfold vB
  rw [List.length_set,List.length_set]
def yH (hs:List Int)(rs:List TR):List Int:=rs.foldl vB hs
def zhc (m:Int)(r:TR):Prop:=(0≤r.1∧r.1 < m)∧(0≤r.2.1∧r.2.1 < m)∧r.1≠r.2.1∧1≤r.2.2∧r.2.2≤300
theorem Yn.trIn {m:Int}{ts:List Tie}{rs:List TR}(ok:xy m ts)(h:Yn ts rs):∀ r∈rs,zhc m r:=fun r hr =>
  let x:=h.row r hr
  let y:=zao ok x.1
  ⟨y.1,y.2.1,y.2.2,x.2.1,x.2.2⟩
theorem zbu {hs:List Int}{rs:List TR}{i:Nat}{r:TR}(h:rs[i]?=some r):yH hs (rs.take (i+1))=vB (yH hs (rs.take i)) r:=by
  unfold yH
  rw [List.take_add_one,h,List.foldl_append]
  rfl
def V4:SE→Ctl :=
  (zL (ZK true 2 (zm ixD (zf 3) (eC (.int 0))) (zm YW (zm ixD (zf 2) (zm ixD (zf 3) (eC (.int 0)))) (zm Yu (eC (.int 2)) (zm ixD (zf 3) (eC (.int 2))))))
    (ZK true 2 (zm ixD (zf 3) (eC (.int 1))) (zm xD (zm ixD (zf 2) (zm ixD (zf 3) (eC (.int 1)))) (zm ixD (zf 3) (eC (.int 2))))))
def zc0:SE→Ctl :=
  (zL (Zf 2 (fFn wo (zc (zf 0) zp)))
    (zL (Zv (iOf (zf 1)) (yo 3) V4)
    (sFz 2 (yR (eFn zS (zc (zf 2) zp))))))
def za3:List D→Option D:=fnD 4 zc0
theorem zjz {m:Int}{hs:List Int}{rs:List TR}(hl:(hs.length:Int)=m)(h8:m≤8)(hr:∀ r∈rs,zhc m r):za3 [.tup (hs.map .int),.tup (rs.map trD)]=some (.tup ((yH hs rs).map .int)):=by
  refine Vx (ρ:=[.v (.tup (hs.map .int)),.v (.tup (rs.map trD)),.no,.no]) rfl ?_
  unfold zc0
  refine zI (ρ':=[.v (.tup (hs.map .int)),.v (.tup (rs.map trD)),.o (hs.map .int),.no]) (Wx (ds:=hs.map .int) rfl) ?_
  refine yp (Vo (ds:=rs.map trD) (fun i ρ=>∃ o3:Sl,ρ=[.v (.tup (hs.map .int)),.v (.tup (rs.map trD)),.o ((yH hs (rs.take i)).map .int),o3]∧((yH hs (rs.take i)).length:Int)=m) rfl ⟨_,rfl,hl⟩ ?_ ?_)
  · rintro i d ρ hd ⟨o3,rfl,hg⟩
    rw [List.getElem?_map] at hd
    obtain ⟨r,hr',rfl⟩:=Option.map_eq_some_iff.mp hd
    obtain ⟨p1,p2,p3,p4,p5⟩:=hr r (List.mem_of_getElem? hr')
    rw [zbu hr']
    obtain ⟨gs,hgs⟩:∃ gs,yH hs (rs.take i)=gs:=⟨_,rfl⟩
    rw [hgs] at hg ⊢
    refine ⟨[.v (.tup (hs.map .int)),.v (.tup (rs.map trD)),.o (gs.map .int),.v (trD r)],rfl,?_⟩
    unfold V4
    have ea:∀ gs:List Int,zm ixD (zf 3) (eC (.int 0)) (visG [.v (.tup (hs.map .int)),.v (.tup (rs.map trD)),.o (gs.map .int),.v (trD r)])=some (.int r.1):=fun gs=>rfl
    have eb:∀ gs:List Int,zm ixD (zf 3) (eC (.int 1)) (visG [.v (.tup (hs.map .int)),.v (.tup (rs.map trD)),.o (gs.map .int),.v (trD r)])=some (.int r.2.1):=fun gs=>rfl
    have en:∀ gs:List Int,zm ixD (zf 3) (eC (.int 2)) (visG [.v (.tup (hs.map .int)),.v (.tup (rs.map trD)),.o (gs.map .int),.v (trD r)])=some (.int r.2.2):=fun gs=>rfl
    refine zI (zej (m:=true) (ds:=gs.map .int) (d:=.int (vAt gs r.1 - 2*r.2.2)) (k:=r.1) ?_ (ea gs) rfl p1.1 (by rw [List.length_map];omega)) ?_
    · show (Option.bind (zm YW _ _ (visG [.v (.tup (hs.map .int)),.v (.tup (rs.map trD)),.o (gs.map .int),.v (trD r)])) fun d=>if noL d=true then some d else none)=_
      rw [zC (x:=.int (vAt gs r.1)) (y:=.int (2*r.2.2)) (z:=.int (vAt gs r.1 - 2*r.2.2)) (zC (x:=.lst (gs.map .int)) (y:=.int r.1) rfl (ea gs) (zhF p1 hg)) (zC (x:=.int 2) (y:=.int r.2.2) rfl (en gs) (ZL (zaI (by decide) (by decide)))) rfl]
      rfl
    rw [←List.map_set]
    obtain ⟨g1,hg1⟩:∃ g1,gs.set r.1.toNat (vAt gs r.1 - 2*r.2.2)=g1:=⟨_,rfl⟩
    have hl1:(g1.length:Int)=m:=by rw [←hg1,List.length_set];exact hg
    have e5:vB gs r=g1.set r.2.1.toNat (vAt g1 r.2.1+r.2.2):=by unfold vB;rw [hg1]
    rw [hg1,e5]
    refine zhA (g1.map .int) (.int (vAt g1 r.2.1+r.2.2)) r.2.1 ?_ (eb g1) rfl p2.1 (by rw [List.length_map];omega) ⟨.v (trD r),?_,by rw [List.length_set];exact hl1⟩
    · show (Option.bind (zm xD _ _ (visG [.v (.tup (hs.map .int)),.v (.tup (rs.map trD)),.o (g1.map .int),.v (trD r)])) fun d=>if noL d=true then some d else none)=_
      rw [zC (x:=.int (vAt g1 r.2.1)) (y:=.int r.2.2) (z:=.int (vAt g1 r.2.1+r.2.2)) (zC (x:=.lst (g1.map .int)) (y:=.int r.2.1) rfl (eb g1) (zhF p2 hl1)) (en g1) rfl]
      rfl
    · rw [List.map_set]
      rfl
  · rintro ρ ⟨o3,rfl,hg⟩
    rw [List.length_map,List.take_length]
    exact zh4 rfl (ZQ rfl rfl)
theorem zfz (T:Txt K mg ad):xE P w K mg base CX0 1 ad.f_left ad.e_left ["heap","tally"] (@spD ⟨K⟩ 2 za3):=by
  letI:KK:=⟨K⟩
  refine xj (N:=["heap","tally","stones","row"]) (ps:=["heap","tally"]) T.d_left.fn zcz (g:=zc0) fun cdv A outer s H E hr=>?_
  unfold zc0 V4
  exact (zj (Y6 (i:=2) zcz.nd rfl (Or.inl rfl) (XA rfl T.z_list (zb (za 0 (pv 0)) zh)))
      (zj (Zq PassesOwn.never rfl (xU (za 1 (pv 1))) (zU (zw (i:=3) zcz.nd rfl (Or.inl rfl))) (zj (VY (m:=true) (Z5 (zF (za 2 (pv 2)) (zF (za 3 (pv 3)) (zd ze) (fun _ _=>rfl)) (fun _ _=>rfl)) (XM (zd ze) (zF (za 3 (pv 3)) (zd ze) (fun _ _=>rfl)))) (pv 2) (zF (za 3 (pv 3)) (zd ze) (fun _ _=>rfl)))
      (zk (VY (m:=true) (yf (zF (za 2 (pv 2)) (zF (za 3 (pv 3)) (zd ze) (fun _ _=>rfl)) (fun _ _=>rfl)) (zF (za 3 (pv 3)) (zd ze) (fun _ _=>rfl))) (pv 2) (zF (za 3 (pv 3)) (zd ze) (fun _ _=>rfl))))))
      (XV 2 (zk (zB (xr zR xt rfl T.z_tuple ym (zb (za 2 (pv 2)) zh)))))))
theorem zcr {ns:List Int}{i j x:Int}(hi:0≤i)(hl:i < ns.length)(hj:0≤j):vAt (ns.set i.toNat x) j=if j=i then x else vAt ns j:=by
  unfold vAt
  rw [List.getD_eq_getElem?_getD,List.getElem?_set,List.getD_eq_getElem?_getD]
  by_cases h:j=i
  · subst h
    rw [if_pos rfl,if_pos (by omega),if_pos rfl]
    rfl
  · rw [if_neg (by omega),if_neg h]
theorem zb7 {ns ms:List Int}(hl:ns.length=ms.length)(h:∀ x:Int,0≤x→x < ns.length→vAt ns x=vAt ms x):ns=ms:=by
  refine List.ext_getElem hl fun i h1 h2=>?_
  have:=h (i:Int) (Int.natCast_nonneg i) (Int.ofNat_lt.mpr h1)
  unfold vAt at this
  rw [Int.toNat_natCast,Dl.getD_at h1,Dl.getD_at h2] at this
  exact this
theorem wP {gs:List Int}{m a b n j:Int}(hg:(gs.length:Int)=m)(ha:0≤a∧a < m)(hb:0≤b∧b < m)(hne:a≠b)(hj:0≤j):vAt (vB gs (a,b,n)) j=if j=b then vAt gs b+n else if j=a then vAt gs a - 2*n else vAt gs j:=by
  unfold vB
  show vAt ((gs.set a.toNat (vAt gs a - 2*n)).set b.toNat (vAt (gs.set a.toNat (vAt gs a - 2*n)) b+n)) j=_
  rw [zcr hb.1 (by rw [List.length_set];omega) hj,zcr ha.1 (by omega) hb.1,if_neg (Ne.symm hne)]
  by_cases c:j=b
  · rw [if_pos c,if_pos c]
  · rw [if_neg c,if_neg c,zcr ha.1 (by omega) hj]
theorem VS {gs:List Int}{m a b:Int}(hg:(gs.length:Int)=m)(ha:0≤a∧a < m)(hb:0≤b∧b < m)(hne:a≠b):vB gs (a,b,0)=gs:=by
  refine zb7 (zX _ _) fun x x0 x1=>?_
  rw [wP hg ha hb hne x0]
  split
  · rename_i e;rw [e,Int.add_zero]
  · split
    · rename_i e;rw [e,Int.mul_zero,Int.sub_zero]
    · rfl
theorem za1 {gs:List Int}{m a b n:Int}(hg:(gs.length:Int)=m)(ha:0≤a∧a < m)(hb:0≤b∧b < m)(hne:a≠b):vB (vB gs (a,b,n)) (a,b,1)=vB gs (a,b,n+1):=by
  refine zb7 (by rw [zX,zX,zX]) fun x x0 x1=>?_
  have hg':((vB gs (a,b,n)).length:Int)=m:=by rw [zX];exact hg
  rw [wP hg' ha hb hne x0,wP hg ha hb hne x0,wP hg ha hb hne hb.1,wP hg ha hb hne ha.1,wP hg ha hb hne x0,if_pos rfl,if_neg hne,if_pos rfl]
  split
  · omega
  · split <;> omega
def Yp:SE→Ctl :=
  (zL (ZK true 2 (zf 3) (zm YW (zm ixD (zf 2) (zf 3)) (eC (.int 2))))
    (ZK true 2 (zf 4) (zm xD (zm ixD (zf 2) (zf 4)) (eC (.int 1)))))
def YA:SE→Ctl :=
  (xM Zz (zc (zf 5) zp) (yo 6) Yp)
def Yz:SE→Ctl :=
  (zL (Zf 2 (fFn wo (zc (zf 0) zp)))
    (zL (Zv (iOf (zf 1)) (XX 3 (xv (yo 3) (xv (yo 4) (xv (yo 5) X6)))) YA)
    (sFz 2 (yR (eFn zS (zc (zf 2) zp))))))
def YC:List D→Option D:=fnD 7 Yz
theorem Va {m:Int}{hs:List Int}{rs:List TR}(hl:(hs.length:Int)=m)(h8:m≤8)(hr:∀ r∈rs,zhc m r):YC [.tup (hs.map .int),.tup (rs.map trD)]=some (.tup ((yH hs rs).map .int)):=by
  refine Vx (ρ:=[.v (.tup (hs.map .int)),.v (.tup (rs.map trD)),.no,.no,.no,.no,.no]) rfl ?_
  unfold Yz
  refine zI (ρ':=[.v (.tup (hs.map .int)),.v (.tup (rs.map trD)),.o (hs.map .int),.no,.no,.no,.no]) (Wx (ds:=hs.map .int) rfl) ?_
  refine yp (Vo (ds:=rs.map trD) (fun i ρ=>∃ o3 o4 o5 o6:Sl,ρ=[.v (.tup (hs.map .int)),.v (.tup (rs.map trD)),.o ((yH hs (rs.take i)).map .int),o3,o4,o5,o6]∧((yH hs (rs.take i)).length:Int)=m) rfl ⟨_,_,_,_,rfl,hl⟩ ?_ ?_)
  · rintro i d ρ hd ⟨o3,o4,o5,o6,rfl,hg⟩
    rw [List.getElem?_map] at hd
    obtain ⟨r,hr',rfl⟩:=Option.map_eq_some_iff.mp hd
    obtain ⟨p1,p2,p3,p4,p5⟩:=hr r (List.mem_of_getElem? hr')
    rw [zbu hr']
    obtain ⟨gs,hgs⟩:∃ gs,yH hs (rs.take i)=gs:=⟨_,rfl⟩
    rw [hgs] at hg ⊢
    obtain ⟨a,b,n⟩:=r
    dsimp only at p1 p2 p3 p4 p5
    refine ⟨[.v (.tup (hs.map .int)),.v (.tup (rs.map trD)),.o (gs.map .int),.v (.int a),.v (.int b),.v (.int n),o6],rfl,?_⟩
    unfold YA
    refine Ww (lo:=0) (c:=n.toNat) (fun j ρ=>∃ o6:Sl,ρ=[.v (.tup (hs.map .int)),.v (.tup (rs.map trD)),.o ((vB gs (a,b,(j:Int))).map .int),.v (.int a),.v (.int b),.v (.int n),o6]) (vy (by omega) (by omega)) ⟨o6,?_⟩ ?_ ?_
    · rw [show ((0:Nat):Int)=0 from rfl,VS hg p1 p2 p3]
    · rintro j ρ hj ⟨o6,rfl⟩
      rw [show ((j+1:Nat):Int)=(j:Int)+1 from rfl,← za1 hg p1 p2 p3]
      obtain ⟨g0,hg0⟩:∃ g0,vB gs (a,b,(j:Int))=g0:=⟨_,rfl⟩
      have hl0:(g0.length:Int)=m:=by rw [←hg0,zX];exact hg
      rw [hg0]
      refine ⟨[.v (.tup (hs.map .int)),.v (.tup (rs.map trD)),.o (g0.map .int),.v (.int a),.v (.int b),.v (.int n),.v (.int ((0:Int)+(j:Int)))],rfl,?_⟩
      unfold Yp
      refine zI (zej (m:=true) (ds:=g0.map .int) (d:=.int (vAt g0 a - 2)) (k:=a) ?_ rfl rfl p1.1 (by rw [List.length_map];omega)) ?_
      · show (Option.bind (zm YW _ (eC (.int 2)) (visG [.v (.tup (hs.map .int)),.v (.tup (rs.map trD)),.o (g0.map .int),.v (.int a),.v (.int b),.v (.int n),.v (.int ((0:Int)+(j:Int)))])) fun d=>if noL d=true then some d else none)=_
        rw [zC (x:=.int (vAt g0 a)) (y:=.int 2) (z:=.int (vAt g0 a - 2)) (zC (x:=.lst (g0.map .int)) (y:=.int a) rfl rfl (zhF p1 hl0)) rfl rfl]
        rfl
      rw [←List.map_set]
      obtain ⟨g1,hg1⟩:∃ g1,g0.set a.toNat (vAt g0 a - 2)=g1:=⟨_,rfl⟩
      have hl1:(g1.length:Int)=m:=by rw [←hg1,List.length_set];exact hl0
      have e5:vB g0 (a,b,1)=g1.set b.toNat (vAt g1 b+1):=by
        rw [←hg1]
        rfl
      rw [hg1,e5]
      refine zhA (g1.map .int) (.int (vAt g1 b+1)) b ?_ rfl rfl p2.1 (by rw [List.length_map];omega) ⟨.v (.int ((0:Int)+(j:Int))),?_⟩
      · show (Option.bind (zm xD _ (eC (.int 1)) (visG [.v (.tup (hs.map .int)),.v (.tup (rs.map trD)),.o (g1.map .int),.v (.int a),.v (.int b),.v (.int n),.v (.int ((0:Int)+(j:Int)))])) fun d=>if noL d=true then some d else none)=_
        rw [zC (x:=.int (vAt g1 b)) (y:=.int 1) (z:=.int (vAt g1 b+1)) (zC (x:=.lst (g1.map .int)) (y:=.int b) rfl rfl (zhF p2 hl1)) rfl rfl]
        rfl
      · rw [List.map_set]
        rfl
    · rintro ρ ⟨o6,rfl⟩
      rw [show ((n.toNat:Nat):Int)=n by omega]
      exact ⟨_,_,_,_,rfl,by rw [zX];exact hg⟩
  · rintro ρ ⟨o3,o4,o5,o6,rfl,hg⟩
    rw [List.length_map,List.take_length]
    exact zh4 rfl (ZQ rfl rfl)
theorem zbv (T:Txt K mg ad):xE P w K mg base CX0 1 ad.f__law_left ad.e__law_left ["heap","tally"] (@spD ⟨K⟩ 2 YC):=by
  letI:KK:=⟨K⟩
  refine xj (N:=["heap","tally","found","a","b","times","turn"]) (ps:=["heap","tally"]) T.d__law_left.fn xN (g:=Yz) fun cdv A outer s H E hr=>?_
  unfold Yz YA Yp
  exact (zj (Y6 (i:=2) xN.nd rfl (Or.inl rfl) (XA rfl T.z_list (zb (za 0 (pv 0)) zh)))
      (zj (Zq PassesOwn.never rfl (xU (za 1 (pv 1))) (V0 rfl (xg (zU (zw (i:=3) xN.nd rfl (Or.inl rfl))) (xg (zU (zw (i:=4) xN.nd rfl (Or.inl rfl))) (xg (zU (zw (i:=5) xN.nd rfl (Or.inl rfl))) XG)))) (zk (Zi PassesOwn.never rfl rfl T.z_range (zb (za 5 (pv 5)) zh) (zU (zw (i:=6) xN.nd rfl (Or.inl rfl))) (zj (VY (m:=true) (Z5 (zF (za 2 (pv 2)) (za 3 (pv 3)) (fun _ _=>rfl)) (zd ze)) (pv 2) (za 3 (pv 3)))
      (zk (VY (m:=true) (yf (zF (za 2 (pv 2)) (za 4 (pv 4)) (fun _ _=>rfl)) (zd ze)) (pv 2) (za 4 (pv 4))))))))
      (XV 2 (zk (zB (xr zR xt rfl T.z_tuple ym (zb (za 2 (pv 2)) zh)))))))
theorem zda {a b:Tie}(h:ltP a b):a≠b:=fun e=>by
  subst e
  unfold ltP at h
  omega
theorem zdV {n:Nat}{t:Tie}(h:0≤t.1∧t.1 < t.2∧t.2 < (n:Int)):t∈wf n:=by
  unfold wf
  rw [List.mem_flatMap]
  refine ⟨t.1.toNat,List.mem_range.mpr (by omega),List.mem_map.mpr ⟨(t.2 - t.1 - 1).toNat,List.mem_range.mpr (by omega),Prod.ext ?_ ?_⟩⟩
  · show ((t.1.toNat:Nat):Int)=t.1
    omega
  · show ((t.1.toNat:Nat):Int)+1+(((t.2 - t.1 - 1).toNat:Nat):Int)=t.2
    omega
theorem zkb {m:Int}{ts:List Tie}(ok:xy m ts):ts.length≤28:=by
  have hm1:=ok.lo
  have hm8:=ok.hi
  have nd:ts.Nodup:=ok.srt.imp zda
  refine Nat.le_trans (nd.length_le_of_subset (l₂:=wf m.toNat) fun t ht=>zdV ?_) (WJ m.toNat (by omega)).2.2
  have:=ok.rng t ht
  omega
def swP (t:Tie):Tie:=(t.2,t.1)
def vQ (ts:List Tie):List Tie:=Vc (ts++ts.map swP)
theorem zcF {m:Int}{ts:List Tie}(ok:xy m ts):(ts++ts.map swP).Nodup:=by
  have nd:ts.Nodup:=ok.srt.imp zda
  refine List.nodup_append.mpr ⟨nd,?_,fun a ha b hb e=>?_⟩
  · show List.Pairwise (·≠·) (ts.map swP)
    rw [List.pairwise_map]
    exact nd.imp fun {a b} h e=>h (Prod.ext (congrArg Prod.snd e) (congrArg Prod.fst e))
  · obtain ⟨t,ht,rfl⟩:=List.mem_map.mp hb
    have h1:=(ok.rng a ha).2.1
    have h2:=(ok.rng t ht).2.1
    rw [e] at h1
    exact absurd h1 (by show ¬ t.2 < t.1;omega)
theorem zf5 {m:Int}{ts:List Tie}(ok:xy m ts):(vQ ts).Pairwise ltP:=X1 (zcF ok)
theorem ze2 {m:Int}{ts:List Tie}(ok:xy m ts){t:Tie}(h:t∈vQ ts):Xr t.1 t.2∈ts:=by
  rcases List.mem_append.mp ((Zh _).mem_iff.mp h) with h | h
  · rw [(zcv ok h).1];exact h
  · obtain ⟨s,hs,rfl⟩:=List.mem_map.mp h
    show Xr s.2 s.1∈ts
    rw [(zcv ok hs).2];exact hs
theorem zf4 {m:Int}{ts:List Tie}(ok:xy m ts):(vQ ts).length≤56:=by
  have:=zkb ok
  unfold vQ
  rw [(Zh _).length_eq,List.length_append,List.length_map]
  omega
def wE:SE→Ctl :=
  (sIf (tOf (zm Xj (zm xu (zt 2 zD (zc (zf 1) (zc (zm xD (eC (.int 300)) (zf 5)) zp))) (eC (.int 2))) (eC (.int 1)))) (ZS false 4 (zm xD (zf 6) (wW (zc (zm xD (eC (.int 1)) (zm xu (zt 2 zD (zc (zf 1) (zc (zm xD (eC (.int 360)) (zf 5)) zp))) (zf 2))) zp)))) zP)
def yY:SE→Ctl :=
  (zL (xB false 3 (xW (fFn WY (zc (zm xD (xW (fFn wo (zc (zm ixD (zf 0) (eC (.int 1))) zp))) (xW (fLC (iOf (zm ixD (zf 0) (eC (.int 1)))) b2 yg (wW (zc (zf 1) (zc (zf 0) zp)))))) zp))))
    (zL (Zf 4 (xX zp))
    (zL (Zv (yW (zc (zf 3) zp)) (XX 2 (xv (yo 5) (xv (yo 6) X6))) wE)
    (sFz 4 (yR (eFn zS (zc (zf 4) zp)))))))
def we:List D→Option D:=fnD 7 yY
theorem zbm {m:Int}{ts:List Tie}{c mo:Int}(ok:xy m ts)(h1:1≤mo)(h3:mo≤300):∃ rs:List TR,we [zN m ts,.int c,.int mo]=some (.tup (rs.map trD))∧Yn ts rs∧rs.length≤56∧∀ r∈rs,r.2.2≤mo:=by
  have h28:=zkb ok
  have h56:=zf4 ok
  have key:=zfV (m:=7) (g:=yY) (ds:=[zN m ts,.int c,.int mo]) (R:=fun d=>∃ rs:List TR,d=.tup (rs.map trD)∧(rs.map trP).Sublist (vQ ts)∧∀ r∈rs,1≤r.2.2∧r.2.2≤mo) (ρ:=[.v (zN m ts),.v (.int c),.v (.int mo),.no,.no,.no,.no]) rfl ?_
  · obtain ⟨d,e,rs,rfl,hs,hr⟩:=key
    refine ⟨rs,e,⟨fun r hr'=>⟨ze2 ok (hs.subset (List.mem_map.mpr ⟨r,hr',rfl⟩)),(hr r hr').1,Int.le_trans (hr r hr').2 h3⟩,List.pairwise_map.mp ((zf5 ok).sublist hs),?_⟩,?_,fun r hr'=>(hr r hr').2⟩
    all_goals
      have:=hs.length_le
      rw [List.length_map] at this
      omega
  unfold yY
  refine zI (ρ':=[.v (zN m ts),.v (.int c),.v (.int mo),.v (.lst ((vQ ts).map zi)),.no,.no,.no]) (Y1 (d:=.lst ((vQ ts).map zi)) ?_) ?_
  · have e1:fLC (iOf (zm ixD (zf 0) (eC (.int 1)))) b2 yg (wW (zc (zf 1) (zc (zf 0) zp))) (visG [.v (zN m ts),.v (.int c),.v (.int mo),.no,.no,.no,.no])=some ((ts.map swP).map zi):=by
      unfold fLC
      show (if lim (ts.map zi).length=true then _ else none)=_
      rw [if_pos (vS (by rw [List.length_map];omega)),List.map_map]
      exact WB zi (zi ∘ swP) ts fun t _=>⟨[some (.int t.1),some (.int t.2)],rfl,rfl,rfl⟩
    show (((((fLC (iOf (zm ixD (zf 0) (eC (.int 1)))) b2 yg (wW (zc (zf 1) (zc (zf 0) zp))) (visG [.v (zN m ts),.v (.int c),.v (.int mo),.no,.no,.no,.no])).map D.lst).bind fun y=>xD (.lst (ts.map zi)) y).bind fun d=>(some []).map (d::·)).bind WY).map D.lst=_
    rw [e1]
    show (((if lim ((ts.map zi).length+((ts.map swP).map zi).length)=true then some (D.lst (ts.map zi++(ts.map swP).map zi)) else none).bind fun d=>(some []).map (d::·)).bind WY).map D.lst=_
    rw [if_pos (vS (by simp only [List.length_map];omega)),← List.map_append]
    show (WY [.lst ((ts++ts.map swP).map zi)]).map D.lst=_
    rw [VB (by rw [List.length_append,List.length_map];omega)]
    rfl
  refine zI (ρ':=[.v (zN m ts),.v (.int c),.v (.int mo),.v (.lst ((vQ ts).map zi)),.o [],.no,.no]) (Wx (ds:=[]) rfl) ?_
  refine yp (Vo (ds:=Xm 0 ((vQ ts).map zi)) (fun i ρ=>∃ (rs:List TR) (o5 o6:Sl),ρ=[.v (zN m ts),.v (.int c),.v (.int mo),.v (.lst ((vQ ts).map zi)),.o (rs.map trD),o5,o6]∧(rs.map trP).Sublist ((vQ ts).take i)∧∀ r∈rs,1≤r.2.2∧r.2.2≤mo) rfl ⟨[],_,_,rfl,List.Sublist.refl _,fun r hr=>by cases hr⟩ ?_ ?_)
  · rintro i d ρ hd ⟨rs,o5,o6,rfl,hs,hr⟩
    rw [vG,List.getElem?_map,Nat.zero_add] at hd
    obtain ⟨x,hx,rfl⟩:=Option.map_eq_some_iff.mp hd
    obtain ⟨t,ht,rfl⟩:=Option.map_eq_some_iff.mp hx
    have hl:rs.length≤56:=by
      have a1:=hs.length_le
      rw [List.length_map] at a1
      exact Nat.le_trans a1 (Nat.le_trans (List.take_sublist _ _).length_le h56)
    have htk:(vQ ts).take (i+1)=(vQ ts).take i++[t]:=by rw [List.take_add_one,ht];rfl
    refine ⟨[.v (zN m ts),.v (.int c),.v (.int mo),.v (.lst ((vQ ts).map zi)),.o (rs.map trD),.v (.int (i:Int)),.v (zi t)],rfl,?_⟩
    unfold wE
    refine Zn (c:=decide (zaD c (300+(i:Int)) % 2=1)) ?_ (fun _=>?_) (fun _=>vR rfl ⟨rs,_,_,rfl,by rw [htk];exact hs.trans (List.sublist_append_left _ _),hr⟩)
    · show (((xu (.int (zaD c (300+(i:Int)))) (.int 2)).bind fun a=>Xj a (.int 1)).bind asB)=_
      rw [xI (by decide)]
      rfl
    obtain ⟨v,hv⟩:∃ v:Int,zaD c (360+(i:Int)) % mo=v:=⟨_,rfl⟩
    obtain ⟨v0,v1⟩:=ZW (by omega) hv
    refine vR (zcZ (ds:=rs.map trD) (d:=trD (t.1,t.2,1+v)) ?_ rfl (by rw [List.length_map];omega)) ⟨rs++[(t.1,t.2,1+v)],_,_,by rw [List.map_append];rfl,?_,fun r hr'=>?_⟩
    · show ((some (zi t)).bind fun a=>((((xu (.int (zaD c (360+(i:Int)))) (.int mo)).bind fun b=>xD (.int 1) b).bind fun d=>(some []).map (d::·)).bind fun ds=>if lim ds.length=true then some (D.tup ds) else none).bind fun b=>xD a b)=_
      rw [xI (by omega),hv]
      rfl
    · rw [htk,List.map_append]
      exact hs.append (List.Sublist.refl _)
    · rcases List.mem_append.mp hr' with h | h
      · exact hr r h
      · rw [List.mem_singleton.mp h]
        exact ⟨by show 1≤1+v;omega,by show 1+v≤mo;omega⟩
  · rintro ρ ⟨rs,o5,o6,rfl,hs,hr⟩
    rw [wV,List.length_map,List.take_length] at hs
    exact zh4 rfl (ZQ rfl ⟨rs,rfl,hs,hr⟩)
theorem X4 (T:Txt K mg ad):xE P w K mg base CX0 2 ad.f__law_tally_by ad.e__law_tally_by ["web","cell","most"] (@spD ⟨K⟩ 3 we):=by
  letI:KK:=⟨K⟩
  have G__law_stir:=xP (P:=P) (w:=w) (base:=base) T
  refine xj (N:=["web","cell","most","every","found","k","step"]) (ps:=["web","cell","most"]) T.d__law_tally_by.fn yL (g:=yY) fun cdv A outer s H E hr=>?_
  unfold yY wE
  exact (zj (yb (m:=false) (i:=3) yL.nd rfl (Or.inl rfl) (vq (zbB rfl rfl T.z_sorted (zb (yf (vq (XA rfl T.z_list (zb (zF (za 0 (pv 0)) (zd ze) (fun _ _=>rfl)) zh))) (vq (Y8 (L:=["a","b"]) (M:=["web","cell","most","every","found","k","step"]) rfl (vm (by rfl) (by rfl) (by rfl) (by with_unfolding_all rfl) (by rfl) (by rfl) (by kernel_rfl) y0) (xU (zF (za 0 (pv 0)) (zd ze) (fun _ _=>rfl))) gs2 rb2 (fun _ _ _ _=>(zfc rfl (Xi (zw (i:=0) zj5 rfl (Or.inl rfl) (.inr rfl)) (Xi (zw (i:=1) zj5 rfl (Or.inl rfl) (.inr rfl)) zcG)))) (fun _ _ _ _=>(xm (zb (za 1 (pv 1)) (zb (za 0 (pv 0)) zh))))))) zh))))
      (zj (Y6 (i:=4) yL.nd rfl (Or.inl rfl) (ZF zh))
      (zj (Zq PassesOwn.never rfl (W7 rfl T.z_enumerate wQ (zb (za 3 (pv 3)) zh)) (V0 rfl (xg (zU (zw (i:=5) yL.nd rfl (Or.inl rfl))) (xg (zU (zw (i:=6) yL.nd rfl (Or.inl rfl))) XG))) (zk (xo (zJ (YH hr) w6 (zH _) (wk (zo (G__law_stir.mono (by decide)) hr rfl T.d__law_stir.at_ T.d__law_stir.kp T.d__law_stir.bd (zb (za 1 (pv 1)) (zb (yf (zd ze) (za 5 (pv 5))) zh))) (zd ze)) (zd ze)) (zk (W2 (m:=false) (pv 4) (yf (za 6 (pv 6)) (xm (zb (yf (zd ze) (wk (zo (G__law_stir.mono (by decide)) hr rfl T.d__law_stir.at_ T.d__law_stir.kp T.d__law_stir.bd (zb (za 1 (pv 1)) (zb (yf (zd ze) (za 5 (pv 5))) zh))) (za 2 (pv 2)))) zh))) (fun a b=>ZG PySem.F.plainAttrs_list PySem.F.slot_list_append PySem.F.type_list_append vE a b))) zG)))
      (XV 4 (zk (zB (xr zR xt rfl T.z_tuple ym (zb (za 4 (pv 4)) zh))))))))
abbrev Hl:=List Int
def hD (h:Hl):D:=.tup (h.map .int)
def zav (h:Hl)(i x:Int):Hl:=h.set i.toNat x
def YK (h:Hl)(s:Tie):Hl:=zav (zav h s.1 (vAt h s.1 - 2)) s.2 (vAt (zav h s.1 (vAt h s.1 - 2)) s.2+1)
theorem Wh (h:Hl)(i x:Int):(zav h i x).length=h.length:=by unfold zav;exact List.length_set
theorem zbG (h:Hl)(s:Tie):(YK h s).length=h.length:=by unfold YK;rw [Wh,Wh]
theorem zgz {h:Hl}{i j x:Int}(hi:0≤i)(hl:i < h.length)(hj:0≤j):vAt (zav h i x) j=if j=i then x else vAt h j:=by
  unfold vAt zav
  rw [List.getD_eq_getElem?_getD,List.getElem?_set,List.getD_eq_getElem?_getD]
  by_cases e:j=i
  · subst e
    rw [if_pos rfl,if_pos (by omega),if_pos rfl]
    rfl
  · rw [if_neg (by omega),if_neg e]
theorem zgQ {h:Hl}{i x:Int}(hi:0≤i)(hl:i < h.length):(zav h i x).sum=h.sum - vAt h i+x:=by
  unfold zav
  rw [zeb (h:=by omega)]
  unfold vAt
  rw [Dl.getD_at (by omega)]
theorem zhL {h:Hl}{i x v:Int}(hv:v∈zav h i x):v=x∨v∈h:=by
  unfold zav at hv
  rcases List.mem_or_eq_of_mem_set hv with e | e
  · exact .inr e
  · exact .inl e
set_option genInjectivity false in
set_option genSizeOf false in
set_option genCtorIdx false in
structure zeo (n:Nat) (s:Tie):Prop where
  a0:0≤s.1
  a1:s.1 < (n:Int)
  b0:0≤s.2
  b1:s.2 < (n:Int)
  ne:s.1≠s.2
theorem zet {h:Hl}{i:Int}(hi:0≤i)(hl:i < h.length):vAt h i∈h:=by
  unfold vAt
  exact Dl.getD_mem (by omega)
def gMv:SE→Ctl :=
  (zL (Zf 2 (fFn wo (zc (zf 0) zp)))
    (zL (ZK true 2 (zm ixD (zf 1) (eC (.int 0))) (zm YW (zm ixD (zf 2) (zm ixD (zf 1) (eC (.int 0)))) (eC (.int 2))))
    (zL (ZK true 2 (zm ixD (zf 1) (eC (.int 1))) (zm xD (zm ixD (zf 2) (zm ixD (zf 1) (eC (.int 1)))) (eC (.int 1))))
    (sFz 2 (yR (eFn zS (zc (zf 2) zp)))))))
theorem zma {h:Hl}{s:Tie}(hs:zeo h.length s):fnD 3 gMv [hD h,zi s]=some (hD (YK h s)):=by
  obtain ⟨a,b⟩:=s
  obtain ⟨a0,a1,b0,b1,ne⟩:=hs
  dsimp only at a0 a1 b0 b1 ne
  refine Vx (ρ:=[.v (hD h),.v (zi (a,b)),.no]) rfl ?_
  unfold gMv
  refine zI (ρ':=[.v (hD h),.v (zi (a,b)),.o (h.map .int)]) rfl ?_
  have ea:=Zl (ns:=h) a0 a1
  obtain ⟨g,hg⟩:∃ g,zav h a (vAt h a - 2)=g:=⟨_,rfl⟩
  have gl:g.length=h.length:=by rw [←hg,Wh]
  have eb:=Zl (ns:=g) b0 (by rw [gl];exact b1)
  have hm:YK h (a,b)=zav g b (vAt g b+1):=by unfold YK;rw [hg]
  rw [hm]
  refine yp (zhA (h.map .int) (.int (vAt h a - 2)) a ?_ rfl rfl a0 (by rw [List.length_map];exact a1) ?_)
  · show (Option.bind ((atI (h.map D.int) a).bind fun x=>YW x (.int 2)) fun d=>if noL d=true then some d else none)=_
    rw [ea]
    rfl
  rw [show (h.map D.int).set a.toNat (.int (vAt h a - 2))=g.map .int by rw [←hg];unfold zav;rw [List.map_set]]
  refine yp (zhA (g.map .int) (.int (vAt g b+1)) b ?_ rfl rfl b0 (by rw [List.length_map,gl];exact b1) ?_)
  · show (Option.bind ((atI (g.map D.int) b).bind fun x=>xD x (.int 1)) fun d=>if noL d=true then some d else none)=_
    rw [eb]
    rfl
  rw [show (g.map D.int).set b.toNat (.int (vAt g b+1))=(zav g b (vAt g b+1)).map .int by unfold zav;rw [List.map_set]]
  exact zh4 rfl (ZQ rfl rfl)
def YZ:SE→Ctl :=
  (zL (Zf 2 (fFn wo (zc (zf 0) zp)))
    (zL (ZK true 2 (zm ixD (zf 1) (eC (.int 0))) (zm YW (zm ixD (zf 2) (zm ixD (zf 1) (eC (.int 0)))) (eC (.int 2))))
    (zL (ZK true 2 (zm ixD (zf 1) (eC (.int 1))) (zm xD (zm ixD (zf 2) (zm ixD (zf 1) (eC (.int 1)))) (eC (.int 1))))
    (sFz 2 (yR (eFn zS (zc (zf 2) zp)))))))
def vO:List D→Option D:=fnD 3 YZ
theorem XW {h:Hl}{s:Tie}(hs:zeo h.length s):vO [hD h,zi s]=some (hD (YK h s)):=zma hs
theorem Z0 (T:Txt K mg ad):xE P w K mg base CX0 1 ad.f__law_moved ad.e__law_moved ["heap","step"] (@spD ⟨K⟩ 2 vO):=by
  letI:KK:=⟨K⟩
  refine xj (N:=["heap","step","found"]) (ps:=["heap","step"]) T.d__law_moved.fn Z4 (g:=YZ) fun cdv A outer s H E hr=>?_
  unfold YZ
  exact (zj (Y6 (i:=2) Z4.nd rfl (Or.inl rfl) (XA rfl T.z_list (zb (za 0 (pv 0)) zh)))
      (zj (VY (m:=true) (Z5 (zF (za 2 (pv 2)) (zF (za 1 (pv 1)) (zd ze) (fun _ _=>rfl)) (fun _ _=>rfl)) (zd ze)) (pv 2) (zF (za 1 (pv 1)) (zd ze) (fun _ _=>rfl)))
      (zj (VY (m:=true) (yf (zF (za 2 (pv 2)) (zF (za 1 (pv 1)) (zd ze) (fun _ _=>rfl)) (fun _ _=>rfl)) (zd ze)) (pv 2) (zF (za 1 (pv 1)) (zd ze) (fun _ _=>rfl)))
      (XV 2 (zk (zB (xr zR xt rfl T.z_tuple ym (zb (za 2 (pv 2)) zh))))))))
inductive zde:D→Prop
  | pair (a b:Int):zde (.tup [.int a,.int b])
  | lst:zde (.lst [.int 0,.int 1])
  | tru:zde (.tup [.bl true,.int 0])
  | fal:zde (.tup [.int 0,.bl false])
  | non:zde .non
  | text (s:String):zde (.str s)
  | three:zde (.tup [.int 0,.int 1,.int 1])
  | one:zde (.tup [.int 0])
  | num (n:Int):zde (.int n)
def zab (ts:List Tie):D→Option Tie
  | .tup [.int a,.int b]=>if decide (Xr a b∈ts)=true then some (a,b) else none
  | _=>none
theorem zbj (ts:List Tie)(a b:Int):zab ts (.tup [.int a,.int b])=if decide (Xr a b∈ts)=true then some (a,b) else none:=rfl
def YN:SE→Ctl :=
  (yR (Y3 (eUn (xL .int) (zf 0)) (Vn (eUn (xL .bool) (zf 0)))))
def X3:List D→Option D:=fnD 1 YN
theorem zaz (T:Txt K mg ad):xE P w K mg base CX0 1 ad.f__law_whole ad.e__law_whole ["found"] (@spD ⟨K⟩ 1 X3):=by
  letI:KK:=⟨K⟩
  refine xj (N:=["found"]) (ps:=["found"]) T.d__law_whole.fn zax (g:=YN) fun cdv A outer s H E hr=>?_
  unfold YN
  exact (zk (zB (YQ (yM .int rfl T.z_isinstance (za 0 (pv 0)) (wx (v:=.ty "int") rfl T.z_int zih rfl)) (Zu (zil (yM .bool rfl T.z_isinstance (za 0 (pv 0)) (wx (v:=.ty "bool") rfl T.z_bool zfM rfl)))))))
def wI:SE→Ctl :=
  (zL (sIf (Zt (yT (tOf (eUn (xL .tuple) (zf 1)))) (Zt (tOf (zm neD (eFn Zo (zc (zf 1) zp)) (eC (.int 2)))) (yT (tOf (eFn zjC (zc (xW (fLC (iOf (zf 1)) b1 yg (zt 1 X3 (zc (zf 0) zp)))) zp)))))) (yR (eC (.bl false))) zP)
    (yR (zm inD (wW (zc (eFn zdz (zc (zf 1) zp)) (zc (eFn zj9 (zc (zf 1) zp)) zp))) (zm ixD (zf 0) (eC (.int 1))))))
def vX:List D→Option D:=fnD 2 wI
theorem Vf (a b:Int):Xr a b=(zaA [a,b],zg5 [a,b]):=by
  unfold Xr zaA zg5
  rw [show [a,b].min?=some (min a b) from rfl,show [a,b].max?=some (max a b) from rfl]
  show _=(min a b,max a b)
  rw [Int.min_def,Int.max_def]
  refine Prod.ext ?_ ?_ <;> dsimp only <;> split <;> split <;> omega
theorem Vj {m:Int}{ts:List Tie}{d:D}(h:zde d):vX [zN m ts,d]=some (.bl (zab ts d).isSome):=by
  cases h with
  | pair a b =>
    refine Vx (ρ:=[.v (zN m ts),.v (.tup [.int a,.int b])]) rfl ?_
    unfold wI
    refine yp (Zn (c:=false) rfl (fun z=>by cases z) (fun _=>vR rfl ?_))
    refine ZQ (vH (d:=.bl (zab ts (.tup [.int a,.int b])).isSome) ?_) rfl
    have ei:=zdd (Xr a b) ts
    rw [Vf] at ei
    rw [zbj]
    show inD (.tup [.int (zaA [a,b]),.int (zg5 [a,b])]) (.tup (ts.map zi))=_
    refine ei.trans ?_
    rw [←Vf]
    cases decide (Xr a b∈ts) <;> rfl
  | _=>rfl
theorem WR (T:Txt K mg ad):xE P w K mg base CX0 2 ad.f__law_is_step ad.e__law_is_step ["web","thing"] (@spD ⟨K⟩ 2 vX):=by
  letI:KK:=⟨K⟩
  have G__law_whole:=zaz (P:=P) (w:=w) (base:=base) T
  refine xj (N:=["web","thing"]) (ps:=["web","thing"]) T.d__law_is_step.fn Wz (g:=wI) fun cdv A outer s H E hr=>?_
  unfold wI
  exact (zj (xo (zb5 (Vp (vf (wq (yM .tuple rfl T.z_isinstance (za 1 (pv 1)) (wx (v:=.ty "tuple") rfl T.z_tuple ym rfl)))) (Vp (zJ WF ZC (zH _) (zK zW v4 rfl T.z_len ZB (zb (za 1 (pv 1)) zh)) (zd ze)) (Xb (vf (wq (zK (zaY rfl) zeL rfl T.z_all zh0 (zb (vq (Y8 (L:=["place"]) (M:=["web","thing"]) rfl (vm (by rfl) (by rfl) (by rfl) (by with_unfolding_all rfl) (by rfl) (by rfl) (by kernel_rfl) y0) (xU (za 1 (pv 1))) gs1 rb1 (fun _ _ _ _=>(zw (i:=0) zlW rfl (Or.inl rfl) (.inr rfl))) (fun _ _ _ _=>(zo (G__law_whole.mono (by decide)) hr rfl T.d__law_whole.at_ T.d__law_whole.kp T.d__law_whole.bd (zb (za 0 (pv 0)) zh))))) zh)))))))) (zk (zB (YE vZ))) zG)
      (zk (zB (XJ (VZ hr) VD (by with_unfolding_all rfl) (xm (zb (zK (W3 rfl) zag rfl T.z_min zbx (zb (za 1 (pv 1)) zh)) (zb (zK (zfG rfl) zg2 rfl T.z_max zeI (zb (za 1 (pv 1)) zh)) zh))) (zF (za 0 (pv 0)) (zd ze) (fun _ _=>rfl))))))
theorem zbc {m:Int}{ts:List Tie}{d:D}{s:Tie}(ok:xy m ts)(h:zde d)(e:zab ts d=some s):d=zi s∧(0≤s.1∧s.1 < m)∧(0≤s.2∧s.2 < m)∧s.1≠s.2:=by
  cases h with
  | pair a b =>
    rw [zbj] at e
    by_cases h1:decide (Xr a b∈ts)=true
    · rw [if_pos h1] at e
      cases e
      exact ⟨rfl,zao ok (of_decide_eq_true h1)⟩
    · rw [if_neg h1] at e
      cases e
  | _=>cases e
theorem zgn {m:Int}{h:Hl}{s:Tie}(hl:(h.length:Int)=m)(r:(0≤s.1∧s.1 < m)∧(0≤s.2∧s.2 < m)∧s.1≠s.2):zeo h.length s:=by
  obtain ⟨⟨a,b⟩,⟨c,d⟩,e⟩:=r
  exact ⟨a,by omega,c,by omega,e⟩
def v8 (ts:List Tie):Hl→Nat→List D→D
  | _,_,[]=>.non
  | h,k,d::es=>match zab ts d with
    | none=>.tup [.str "form",.int (k:Int)]
    | some s=>if decide (vAt h s.1 < 2)=true then .tup [.str "bare",.int (k:Int)] else v8 ts (YK h s) (k+1) es
def zle (ts:List Tie):Hl→List D→List Hl
  | _,[]=>[]
  | h,d::es=>match zab ts d with
    | none=>[]
    | some s=>if decide (vAt h s.1 < 2)=true then [] else YK h s::zle ts (YK h s) es
def ziK (ts:List Tie):Hl→List D→Hl
  | h,[]=>h
  | h,d::es=>match zab ts d with
    | none=>h
    | some s=>if decide (vAt h s.1 < 2)=true then h else ziK ts (YK h s) es
theorem WM {ts:List Tie} {h:Hl} {k:Nat} {d:D} {es:List D} (e:zab ts d=none):v8 ts h k (d::es)=.tup [.str "form",.int (k:Int)]:=by
  show (match zab ts d with | none=>_ | some s=>_)=_
  rw [e]
theorem WE {ts:List Tie} {h:Hl} {k:Nat} {d:D} {s:Tie} {es:List D} (e:zab ts d=some s) (c:vAt h s.1 < 2):v8 ts h k (d::es)=.tup [.str "bare",.int (k:Int)]:=by
  show (match zab ts d with | none=>_ | some s=>_)=_
  rw [e]
  show (if decide (vAt h s.1 < 2)=true then _ else _)=_
  rw [if_pos (decide_eq_true c)]
theorem WO {ts:List Tie}{h:Hl}{k:Nat}{d:D}{s:Tie}{es:List D}(e:zab ts d=some s)(c:¬ vAt h s.1 < 2):v8 ts h k (d::es)=v8 ts (YK h s) (k+1) es:=by
  show (match zab ts d with | none=>_ | some s=>_)=_
  rw [e]
  show (if decide (vAt h s.1 < 2)=true then _ else _)=_
  rw [if_neg (by rw [decide_eq_false c];exact Bool.false_ne_true)]
theorem ze8 {ts:List Tie}{h:Hl}{d:D}{s:Tie}{es:List D}(e:zab ts d=some s)(c:¬ vAt h s.1 < 2):ziK ts h (d::es)=ziK ts (YK h s) es:=by
  show (match zab ts d with | none=>_ | some s=>_)=_
  rw [e]
  show (if decide (vAt h s.1 < 2)=true then _ else _)=_
  rw [if_neg (by rw [decide_eq_false c];exact Bool.false_ne_true)]
theorem zes {es:List D}{i:Nat}{d:D}(h:es[i]?=some d):es.drop i=d::es.drop (i+1):=by
  obtain ⟨h1,h2⟩:=List.getElem?_eq_some_iff.mp h
  rw [List.drop_eq_getElem_cons h1,h2]
def vW:SE→Ctl :=
  (zL (sIf (yT (tOf (zt 2 vX (zc (zf 0) (zc (zf 5) zp))))) (yR (wW (zc (eC (.str "form")) (zc (zf 4) zp)))) zP)
    (zL (sIf (tOf (zm ltD (zm ixD (zf 3) (zm ixD (zf 5) (eC (.int 0)))) (eC (.int 2)))) (yR (wW (zc (eC (.str "bare")) (zc (zf 4) zp)))) zP)
    (xB false 3 (zt 2 vO (zc (zf 3) (zc (zf 5) zp))))))
def vN:SE→Ctl :=
  (zL (sIf (yT (tOf (eUn (xL .list) (zf 2)))) (yR (wW (zc (eC (.str "list")) (zc (eC (.int 0)) zp)))) zP)
    (zL (xB false 3 (zf 1))
    (zL (Zv (yW (zc (zf 2) zp)) (XX 2 (xv (yo 4) (xv (yo 5) X6))) vW)
    (yR (eC .non)))))
def vL:List D→Option D:=fnD 6 vN
theorem zbM {m:Int}{ts:List Tie}{h:Hl}{es:List D}(ok:xy m ts)(hl:(h.length:Int)=m)(he:∀ e∈es,zde e):vL [zN m ts,hD h,.lst es]=some (v8 ts h 0 es):=by
  refine Vx (ρ:=[.v (zN m ts),.v (hD h),.v (.lst es),.no,.no,.no]) rfl ?_
  unfold vN
  refine yp (Zn (c:=false) rfl (fun z=>by cases z) (fun _=>vR rfl ?_))
  refine zI (ρ':=[.v (zN m ts),.v (hD h),.v (.lst es),.v (hD h),.no,.no]) rfl ?_
  refine yp (Vo (ds:=Xm 0 es) (fun i ρ=>∃ (g:Hl) (o5 o6:Sl),ρ=[.v (zN m ts),.v (hD h),.v (.lst es),.v (hD g),o5,o6]∧(g.length:Int)=m∧v8 ts h 0 es=v8 ts g i (es.drop i)) rfl ⟨h,_,_,rfl,hl,rfl⟩ ?_ ?_)
  · rintro i d ρ hd ⟨g,o5,o6,rfl,gl,ew⟩
    rw [vG,Nat.zero_add] at hd
    obtain ⟨x,hx,rfl⟩:=Option.map_eq_some_iff.mp hd
    have hst:=he x (List.mem_of_getElem? hx)
    have e1:=Vj (m:=m) (ts:=ts) hst
    rw [zes hx] at ew
    refine ⟨[.v (zN m ts),.v (hD h),.v (.lst es),.v (hD g),.v (.int (i:Int)),.v x],rfl,?_⟩
    unfold vW
    cases e:zab ts x with
    | none =>
      rw [e] at e1
      rw [ew,WM e]
      exact yp (Zn (c:=true) (zhX (b:=false) (v7 (wZ (ds:=[_,_]) rfl e1))) (fun _=>ZQ rfl rfl) (fun z=>by cases z))
    | some s =>
      rw [e] at e1
      obtain ⟨rfl,r⟩:=zbc ok hst e
      have hs:=zgn gl r
      refine yp (Zn (c:=false) (zhX (b:=true) (v7 (wZ (ds:=[_,_]) rfl e1))) (fun z=>by cases z) (fun _=>vR rfl ?_))
      have ea:=Zl (ns:=g) hs.a0 hs.a1
      refine yp (Zn (c:=decide (vAt g s.1 < 2)) (v7 (zC (x:=.int (vAt g s.1)) (y:=.int 2) (zC (x:=hD g) (y:=.int s.1) rfl rfl ea) rfl rfl)) (fun c=>?_) (fun c=>vR rfl ?_))
      · have c:=of_decide_eq_true c
        rw [ew,WE e c]
        exact ZQ rfl rfl
      · have c:=of_decide_eq_false c
        rw [WO e c] at ew
        exact vR (ρ':=[.v (zN m ts),.v (hD h),.v (.lst es),.v (hD (YK g s)),.v (.int (i:Int)),.v (zi s)]) (wN (ds:=[_,_]) rfl (XW hs)) ⟨YK g s,_,_,rfl,by rw [zbG];exact gl,ew⟩
  · rintro ρ ⟨g,o5,o6,rfl,gl,ew⟩
    rw [wV,List.drop_length] at ew
    rw [ew]
    exact ZQ rfl rfl
theorem V5 (T:Txt K mg ad):xE P w K mg base CX0 3 ad.f__law_wrong ad.e__law_wrong ["web","heap","thing"] (@spD ⟨K⟩ 3 vL):=by
  letI:KK:=⟨K⟩
  have G__law_is_step:=WR (P:=P) (w:=w) (base:=base) T
  have G__law_moved:=Z0 (P:=P) (w:=w) (base:=base) T
  refine xj (N:=["web","heap","thing","here","at","step"]) (ps:=["web","heap","thing"]) T.d__law_wrong.fn wg (g:=vN) fun cdv A outer s H E hr=>?_
  unfold vN vW
  exact (zj (xo (vf (wq (yM .list rfl T.z_isinstance (za 2 (pv 2)) (wx (v:=.ty "list") rfl T.z_list zfN rfl)))) (zk (zB (xm (zb (zft zfu) (zb (zd ze) zh))))) zG)
      (zj (yb (m:=false) (i:=3) wg.nd rfl (Or.inl rfl) (za 1 (pv 1)))
      (zj (Zq PassesOwn.never rfl (W7 rfl T.z_enumerate wQ (zb (za 2 (pv 2)) zh)) (V0 rfl (xg (zU (zw (i:=4) wg.nd rfl (Or.inl rfl))) (xg (zU (zw (i:=5) wg.nd rfl (Or.inl rfl))) XG))) (zj (xo (vf (wq (zo (G__law_is_step.mono (by decide)) hr rfl T.d__law_is_step.at_ T.d__law_is_step.kp T.d__law_is_step.bd (zb (za 0 (pv 0)) (zb (za 5 (pv 5)) zh))))) (zk (zB (xm (zb (zft zfu) (zb (za 4 (pv 4)) zh))))) zG)
      (zj (xo (zJ zdG yq (zH _) (zF (za 3 (pv 3)) (zF (za 5 (pv 5)) (zd ze) (fun _ _=>rfl)) (fun _ _=>rfl)) (zd ze)) (zk (zB (xm (zb (zft zfu) (zb (za 4 (pv 4)) zh))))) zG)
      (zk (yb (m:=false) (i:=3) wg.nd rfl (Or.inl rfl) (zo (G__law_moved.mono (by decide)) hr rfl T.d__law_moved.at_ T.d__law_moved.kp T.d__law_moved.bd (zb (za 3 (pv 3)) (zb (za 5 (pv 5)) zh))))))))
      (zk (zB (zby zbJ))))))
theorem zdp {ts:List Tie}{h:Hl}{k:Nat}{d:D}{es:List D}(e:v8 ts h k (d::es)=.non):∃ s,zab ts d=some s∧¬ vAt h s.1 < 2∧v8 ts (YK h s) (k+1) es=.non:=by
  cases e1:zab ts d with
  | none=>rw [WM e1] at e;cases e
  | some s =>
    by_cases c:vAt h s.1 < 2
    · rw [WE e1 c] at e;cases e
    · exact ⟨s,rfl,c,by rw [←WO e1 c];exact e⟩
def YT:SE→Ctl :=
  (xB false 2 (zt 2 vO (zc (zf 2) (zc (zf 3) zp))))
def Ze:SE→Ctl :=
  (zL (xB false 2 (zf 0))
    (zL (Zv (iOf (zf 1)) (yo 3) YT)
    (yR (zf 2))))
def XF:List D→Option D:=fnD 4 Ze
theorem zdT {m:Int}{ts:List Tie}{h:Hl}{es:List D}(ok:xy m ts)(hl:(h.length:Int)=m)(he:∀ e∈es,zde e)(hw:v8 ts h 0 es=.non):XF [hD h,.lst es]=some (hD (ziK ts h es)):=by
  refine Vx (ρ:=[.v (hD h),.v (.lst es),.no,.no]) rfl ?_
  unfold Ze
  refine zI (ρ':=[.v (hD h),.v (.lst es),.v (hD h),.no]) rfl ?_
  refine yp (Vo (ds:=es) (fun i ρ=>∃ (g:Hl) (o3:Sl),ρ=[.v (hD h),.v (.lst es),.v (hD g),o3]∧(g.length:Int)=m∧v8 ts g i (es.drop i)=.non∧ziK ts h es=ziK ts g (es.drop i)) rfl ⟨h,_,rfl,hl,hw,rfl⟩ ?_ ?_)
  · rintro i x ρ hx ⟨g,o3,rfl,gl,ew,ee⟩
    have hst:=he x (List.mem_of_getElem? hx)
    rw [zes hx] at ew ee
    obtain ⟨s,e1,c,e2⟩:=zdp ew
    rw [ze8 e1 c] at ee
    obtain ⟨rfl,r⟩:=zbc ok hst e1
    have hs:=zgn gl r
    refine ⟨[.v (hD h),.v (.lst es),.v (hD g),.v (zi s)],rfl,?_⟩
    unfold YT
    exact vR (ρ':=[.v (hD h),.v (.lst es),.v (hD (YK g s)),.v (zi s)]) (wN (ds:=[_,_]) rfl (XW hs)) ⟨YK g s,_,rfl,by rw [zbG];exact gl,e2,ee⟩
  · rintro ρ ⟨g,o3,rfl,gl,ew,ee⟩
    rw [List.drop_length] at ee
    rw [ee]
    exact ZQ rfl rfl
theorem zcc (T:Txt K mg ad):xE P w K mg base CX0 2 ad.f__law_end ad.e__law_end ["heap","steps"] (@spD ⟨K⟩ 2 XF):=by
  letI:KK:=⟨K⟩
  have G__law_moved:=Z0 (P:=P) (w:=w) (base:=base) T
  refine xj (N:=["heap","steps","here","step"]) (ps:=["heap","steps"]) T.d__law_end.fn Yy (g:=Ze) fun cdv A outer s H E hr=>?_
  unfold Ze YT
  exact (zj (yb (m:=false) (i:=2) Yy.nd rfl (Or.inl rfl) (za 0 (pv 0)))
      (zj (Zq PassesOwn.never rfl (xU (za 1 (pv 1))) (zU (zw (i:=3) Yy.nd rfl (Or.inl rfl))) (zk (yb (m:=false) (i:=2) Yy.nd rfl (Or.inl rfl) (zo (G__law_moved.mono (by decide)) hr rfl T.d__law_moved.at_ T.d__law_moved.kp T.d__law_moved.bd (zb (za 2 (pv 2)) (zb (za 3 (pv 3)) zh))))))
      (zk (zB (za 2 (pv 2))))))
theorem zcP {it:Ev→Option (List D)}{b:D→Option (List (Option D))}{t:Ev→Option Bool}{f:Ev→Option D}{ρ:Ev}{α:Type}{c:α→D}{p:α→Bool}{y:α→D}{xs:List α}(h1:it ρ=some (xs.map c))(hl:xs.length≤1000)(h:∀ x∈xs,∃ own,b (c x)=some own∧t (own++ρ)=some (p x)∧(p x=true→f (own++ρ)=some (y x))):fLC it b t f ρ=some ((xs.filter p).map y):=by
  unfold fLC
  rw [h1,Option.bind_some,if_pos (vS (by rw [List.length_map];exact hl))]
  exact Xo c p y xs h
theorem VU {it:Ev→Option (List D)}{b:D→Option (List (Option D))}{t:Ev→Option Bool}{f:Ev→Option D}{ρ:Ev}{α:Type}{c y:α→D}{xs:List α}(h1:it ρ=some (xs.map c))(hl:xs.length≤1000)(h:∀ x∈xs,∃ own,b (c x)=some own∧t (own++ρ)=some true∧f (own++ρ)=some (y x)):fLC it b t f ρ=some (xs.map y):=by
  unfold fLC
  rw [h1,Option.bind_some,if_pos (vS (by rw [List.length_map];exact hl))]
  exact WB c y xs h
theorem zbd (ns:List Int):(ns.map D.int).all (okE 20)=true:=by
  rw [List.all_map,List.all_eq_true]
  exact fun x _=>rfl
theorem zc3 (x:Int)(ns:List Int):zfq (.int x) (ns.map .int)=some (decide (x∈ns)):=by
  unfold zfq
  rw [if_pos ⟨rfl,zbd ns⟩,List.any_map]
  congr 1
  rw [Bool.eq_iff_iff,List.any_eq_true,decide_eq_true_eq]
  constructor
  · rintro ⟨s,hs,h⟩
    have h:(s == x)=true:=h
    rw [beq_iff_eq] at h
    subst h
    exact hs
  · exact fun h=>⟨x,h,(show (x == x)=true from beq_self_eq_true x)⟩
theorem in_i (x:Int)(ns:List Int):inD (.int x) (.lst (ns.map .int))=some (.bl (decide (x∈ns))):=by
  show (zfq (.int x) (ns.map .int)).map D.bl=_
  rw [zc3]
  rfl
theorem zi2 (x:Int)(ns:List Int):zeH (.int x) (.lst (ns.map .int))=some (.bl (!decide (x∈ns))):=by
  show (zfq (.int x) (ns.map .int)).map (fun b=>D.bl (!b))=_
  rw [zc3]
  rfl
theorem zgH {α:Type}(f:α→Bool)(l:List α):zl3 [.lst (l.map fun x=>.bl (f x))]=some (.bl (l.any f)):=by
  have:zgx (l.map fun x=>D.bl (f x))=some (l.map f):=by
    have:=zcO (l.map f)
    rwa [List.map_map] at this
  show ((zgx (l.map fun x=>D.bl (f x))).bind fun bs=>some (D.bl (bs.any id)))=_
  rw [this]
  show some (D.bl ((l.map f).any id))=_
  rw [List.any_map]
  rfl
theorem zgo:∀ (q p:List Int),((List.zipWith (eqN 19) (q.map D.int) (p.map D.int)).all id&&(q.map D.int).length == (p.map D.int).length)=decide (q=p):=by
  intro q
  induction q with
  | nil =>
    intro p
    cases p <;> rfl
  | cons a q ih =>
    intro p
    cases p with
    | nil=>rfl
    | cons b p =>
      have:=ih p
      show ((a == b&&(List.zipWith (eqN 19) (q.map D.int) (p.map D.int)).all id)&&((q.map D.int).length+1 == (p.map D.int).length+1))=_
      rw [Bool.and_assoc,show ((q.map D.int).length+1 == (p.map D.int).length+1)=((q.map D.int).length == (p.map D.int).length) by rw [Bool.eq_iff_iff,beq_iff_eq,beq_iff_eq];omega,this]
      rw [Bool.eq_iff_iff,Bool.and_eq_true,beq_iff_eq,decide_eq_true_eq,decide_eq_true_eq,List.cons.injEq]
theorem Wb (ns:List Int):okE 20 (.lst (ns.map .int))=true:=by
  show (ns.map D.int).all (okE 19)=true
  rw [List.all_map,List.all_eq_true]
  exact fun x _=>rfl
theorem ziN (q p:List Int):zkI (.lst (q.map .int)) (.lst (p.map .int))=some (.bl (!decide (q=p))):=by
  show (if (okE 20 (.lst (q.map .int))&&okE 20 (.lst (p.map .int)))=true then some (D.bl (!((List.zipWith (eqN 19) (q.map D.int) (p.map D.int)).all id&&(q.map D.int).length == (p.map D.int).length))) else none)=_
  rw [Wb,Wb,if_pos (show (true&&true)=true from rfl),zgo]
def Wp (P:List Int)(E:List Tie):List Int:=P.filter fun p=>E.any fun s=>decide (s.1=p)&&decide (s.2∈P)
theorem ziH {P:List Int}{E:List Tie}{p:Int}:p∈Wp P E↔p∈P∧∃ s∈E,s.1=p∧s.2∈P:=by
  unfold Wp
  rw [List.mem_filter,List.any_eq_true]
  simp only [Bool.and_eq_true,decide_eq_true_eq]
def Wn:SE→Ctl :=
  (yR (xW (fLC (iOf (zf 0)) b1 (tOf (eFn zl3 (zc (xW (fLC (iOf (zf 2)) b1 yg (Y3 (zm Xj (zm ixD (zf 0) (eC (.int 0))) (zf 1)) (zm inD (zm ixD (zf 0) (eC (.int 1))) (zf 2))))) zp))) (zf 0))))
def Xg:List D→Option D:=fnD 2 Wn
theorem zbl {P:List Int}{E:List Tie}(hP:P.length≤1000)(hE:E.length≤1000):Xg [.lst (P.map .int),.lst (E.map zi)]=some (.lst ((Wp P E).map .int)):=by
  refine Vx (ρ:=[.v (.lst (P.map .int)),.v (.lst (E.map zi))]) rfl ?_
  unfold Wn
  refine ZQ (vH (Y0 (zcP (c:=D.int) (xs:=P) (p:=fun p=>E.any fun s=>decide (s.1=p)&&decide (s.2∈P)) (y:=D.int) rfl hP fun p _=>⟨[some (.int p)],rfl,?_,fun _=>rfl⟩))) rfl
  refine v7 (zaH (ds:=[.lst (E.map fun s=>.bl (decide (s.1=p)&&decide (s.2∈P)))]) (xJ (Y0 (VU (c:=zi) (xs:=E) rfl hE fun s _=>⟨[some (zi s)],rfl,rfl,?_⟩)) Y9) (zgH _ _))
  exact zk3 (zC (x:=.int s.1) (y:=.int p) rfl rfl rfl) (zC (x:=.int s.2) (y:=.lst (P.map .int)) rfl rfl (in_i _ _))
theorem zeQ (T:Txt K mg ad):xE P w K mg base CX0 1 ad.f_led_on ad.e_led_on ["places","steps"] (@spD ⟨K⟩ 2 Xg):=by
  letI:KK:=⟨K⟩
  refine xj (N:=["places","steps"]) (ps:=["places","steps"]) T.d_led_on.fn zgk (g:=Wn) fun cdv A outer s H E hr=>?_
  unfold Wn
  exact (zk (zB (vq (ziy (x0:="place") (M:=["places","steps"]) rfl (zkv (by rfl) (by rfl) (by rfl) (by with_unfolding_all rfl) (fun _=>rfl) (fun _=>rfl) (by rfl) (by rfl) (by kernel_rfl) (all_cons rfl (all_cons rfl y0))) (xU (za 0 (pv 0))) gs1 rb1 (fun _ _ _ _=>(zw (i:=0) zmc rfl (Or.inr rfl) (.inl rfl))) (fun _ _ _ _=>(wq (zK (zgg rfl) zjn rfl T.z_any zkY (zb (vq (Y8 (L:=["step"]) (M:=["place","places","steps"]) rfl (vm (by rfl) (by rfl) (by rfl) (by with_unfolding_all rfl) (by rfl) (by rfl) (by kernel_rfl) (all_cons rfl (all_cons rfl y0))) (xU (za 2 (pv 2))) gs1 rb1 (fun _ _ _ _=>(zw (i:=0) zmh rfl (Or.inl rfl) (.inr rfl))) (fun _ _ _ _=>(YQ (XJ (YH hr) w6 (zH _) (zF (za 0 (pv 0)) (zd ze) (fun _ _=>rfl)) (za 1 (pv 1))) (Zu (XJ (VZ hr) VD (by with_unfolding_all rfl) (zF (za 0 (pv 0)) (zd ze) (fun _ _=>rfl)) (za 2 (pv 2)))))))) zh)))) (fun _ _ _ _=>(za 0 (pv 0)))))))
def zjZ (ρ:SE):Nat:=match ρ[1]? with
  | some (Sl.v (D.lst ds))=>ds.length
  | _=>0
def ziJ (E:List Tie)(P:List Int):Nat→List Int
  | 0=>P
  | n+1=>Wp (ziJ E P n) E
def zg8 (E:List Tie):List Int:=(zkl (E.map fun s=>s.1.toNat)).map fun k:Nat=>(k:Int)
def SmE (E:List Tie):Prop:=∀ s∈E,0≤s.1∧s.1 < 8
theorem zjf (E:List Tie):(zg8 E).length≤8:=by
  unfold zg8 zkl OwnSet.ksOf
  rw [List.length_map]
  exact Nat.le_trans (List.length_filter_le _ _) (by rw [List.length_range];exact Nat.le_refl _)
theorem zkR {P:List Int}{E:List Tie}(h:Wp P E≠P):(Wp P E).length < P.length:=by
  have hs:(Wp P E).Sublist P:=List.filter_sublist
  exact Nat.lt_of_le_of_ne hs.length_le fun e=>h (hs.eq_of_length e)
def W4:SE→Ctl :=
  (zL (zhJ 4 (fLC (iOf (zf 0)) b1 (xK (tOf (zm Xj (zm ixD (zf 0) (eC (.int 0))) (zm ixD (zf 4) (eUn Wk (eC (.int 1)))))) (tOf (zm inD (zm ixD (zf 0) (eC (.int 1))) (zf 2)))) (zm ixD (zf 0) (eC (.int 1)))))
    (zL (sIf (tOf (zm inD (zm ixD (zf 4) (eC (.int 0))) (zf 3))) (yR (eFn zS (zc (eSl slD (zf 3) (yA (zcC zib (zf 3) (zc (zm ixD (zf 4) (eC (.int 0))) zp))) yS) zp))) zP)
    (ZS false 3 (zm ixD (zf 4) (eC (.int 0))))))
def YD:SE→Ctl :=
  (zL (xB false 1 (zf 2))
    (xB false 2 (zt 2 Xg (zc (zf 1) (zc (zf 0) zp)))))
def Xf:SE→Ctl :=
  (zL (xB false 1 (xW (fSS (xW (fLC (iOf (zf 0)) b1 yg (zm ixD (zf 0) (eC (.int 0))))))))
    (zL (xB false 2 (zt 2 Xg (zc (zf 1) (zc (zf 0) zp))))
    (zL (YG (tOf (zm zkI (zf 2) (zf 1))) YD 20)
    (zL (sIf (tOf (zm Xj (eFn Zo (zc (zf 1) zp)) (eC (.int 0)))) (yR (eC .non)) zP)
    (zL (Zf 3 (xX (zc (zm ixD (zf 1) (eC (.int 0))) zp)))
    (YG (tOf (eC (.bl true))) W4 20))))))
def xx:List D→Option D:=fnD 5 Xf
theorem zeV {E:List Tie}{N B C:SE→Prop}{R:D→Prop}{g:SE→Ctl}(hE:E.length≤1000)(h8:SmE E)(hg:∀ P j,P=ziJ E (zg8 E) j→j+P.length≤8→Wp P E=P→(g [.v (.lst (E.map zi)),.v (.lst (P.map .int)),.v (.lst (P.map .int)),.no,.no]).w N B C R) :
    (zL (xB false 1 (xW (fSS (xW (fLC (iOf (zf 0)) b1 yg (zm ixD (zf 0) (eC (.int 0))))))))
    (zL (xB false 2 (zt 2 Xg (zc (zf 1) (zc (zf 0) zp))))
    (zL (YG (tOf (zm zkI (zf 2) (zf 1))) YD 20) g)) [.v (.lst (E.map zi)),.no,.no,.no,.no]).w N B C R:=by
  have e1:xW (fSS (xW (fLC (iOf (zf 0)) b1 yg (zm ixD (zf 0) (eC (.int 0)))))) (visF [.v (.lst (E.map zi)),.no,.no,.no,.no])=some (.lst ((zg8 E).map .int)):=by
    refine Y0 (zlJ (d:=.lst (((E.map fun s=>s.1.toNat).map fun k:Nat=>(k:Int)).map .int)) (Y0 ?_) ?_)
    · rw [List.map_map,List.map_map]
      refine VU (c:=zi) (xs:=E) rfl hE fun s hs=>⟨[some (zi s)],rfl,rfl,?_⟩
      show some (D.int s.1)=some (D.int ((s.1.toNat:Nat):Int))
      rw [Int.toNat_of_nonneg (h8 s hs).1]
    · show (ZN _).map _=_
      rw [zcq fun k hk=>?_]
      · rfl
      · obtain ⟨s,hs,rfl⟩:=List.mem_map.mp hk
        have:=h8 s hs
        omega
  refine zI (zce e1) ?_
  have hl:=zjf E
  refine zI (ρ':=[.v (.lst (E.map zi)),.v (.lst ((zg8 E).map .int)),.v (.lst ((Wp (zg8 E) E).map .int)),.no,.no]) (wN (ds:=[_,_]) rfl (zbl (by omega) hE)) ?_
  refine yp (zaS (fun ρ=>∃ P j,ρ=[.v (.lst (E.map zi)),.v (.lst (P.map .int)),.v (.lst ((Wp P E).map .int)),.no,.no]∧P=ziJ E (zg8 E) j∧j+P.length≤8) zjZ ?_ 20 _ ⟨zg8 E,0,rfl,rfl,by omega⟩ ?_)
  · rintro ρ ⟨P,j,rfl,hP,hj⟩
    refine ⟨!decide (Wp P E=P),v7 (zC (x:=.lst ((Wp P E).map .int)) (y:=.lst (P.map .int)) rfl rfl (ziN _ _)),fun c=>?_,fun c=>?_⟩
    · have hne:Wp P E≠P:=fun e=>by rw [decide_eq_true e] at c;cases c
      have hlt:=zkR hne
      unfold YD
      refine zI (ρ':=[.v (.lst (E.map zi)),.v (.lst ((Wp P E).map .int)),.v (.lst ((Wp P E).map .int)),.no,.no]) rfl ?_
      refine vR (ρ':=[.v (.lst (E.map zi)),.v (.lst ((Wp P E).map .int)),.v (.lst ((Wp (Wp P E) E).map .int)),.no,.no]) (wN (ds:=[_,_]) rfl (zbl (by omega) hE)) ⟨⟨Wp P E,j+1,rfl,by rw [hP];rfl,by omega⟩,?_⟩
      show ((Wp P E).map D.int).length < (P.map D.int).length
      rw [List.length_map,List.length_map]
      exact hlt
    · have he:Wp P E=P:=by
        by_cases z:Wp P E=P
        · exact z
        · rw [decide_eq_false z] at c;cases c
      rw [he]
      exact hg P j hP hj he
  · show ((zg8 E).map D.int).length < 20
    rw [List.length_map]
    omega
theorem zhN (rank:Int→Int):∀ (P:List Int),P≠[]→∃ p∈P,∀ q∈P,rank q≤rank p:=by
  intro P
  induction P with
  | nil=>intro h;exact absurd rfl h
  | cons a P ih =>
    intro _
    by_cases hP:P=[]
    · subst hP
      exact ⟨a,List.mem_cons_self,fun q hq=>by rw [List.mem_singleton.mp hq];exact Int.le_refl _⟩
    · obtain ⟨p,hp,hm⟩:=ih hP
      by_cases c:rank a≤rank p
      · exact ⟨p,List.mem_cons_of_mem _ hp,fun q hq=>by
          rcases List.mem_cons.mp hq with rfl | hq
          · exact c
          · exact hm q hq⟩
      · exact ⟨a,List.mem_cons_self,fun q hq=>by
          rcases List.mem_cons.mp hq with rfl | hq
          · exact Int.le_refl _
          · have:=hm q hq;omega⟩
theorem zjt {rank:Int→Int}{E:List Tie}{P:List Int}(h:∀ s∈E,rank s.1 < rank s.2)(hf:Wp P E=P):P=[]:=by
  by_cases c:P=[]
  · exact c
  · obtain ⟨p,hp,hm⟩:=zhN rank P c
    rw [←hf] at hp
    obtain ⟨-,s,hs,rfl,h2⟩:=ziH.mp hp
    have:=h s hs
    have:=hm _ h2
    omega
theorem zbE {E:List Tie}{rank:Int→Int}(hE:E.length≤1000)(h8:SmE E)(h:∀ s∈E,rank s.1 < rank s.2):xx [.lst (E.map zi)]=some .non:=by
  refine Vx (ρ:=[.v (.lst (E.map zi)),.no,.no,.no,.no]) rfl ?_
  unfold Xf
  refine zeV hE h8 fun P j hP hj hf=>?_
  rw [zjt h hf]
  exact yp (Zn (c:=true) rfl (fun _=>ZQ rfl rfl) (fun z=>by cases z))
def zhY (a b:Nat):Bool:=match xx [.lst [zi ((a:Int),(b:Int)),zi ((b:Int),(a:Int))]] with
  | some (.tup _)=>true
  | _=>false
theorem zdn:∀ a b:_root_.Fin 8,a < b→zhY a.val b.val=true:=by decide +kernel
theorem VE (T:Txt K mg ad):xE P w K mg base CX0 2 ad.f_ring_of ad.e_ring_of ["steps"] (@spD ⟨K⟩ 1 xx):=by
  letI:KK:=⟨K⟩
  have G_led_on:=zeQ (P:=P) (w:=w) (base:=base) T
  refine xj (N:=["steps","places","kept","way","onward"]) (ps:=["steps"]) T.d_ring_of.fn wG (g:=Xf) fun cdv A outer s H E hr=>?_
  unfold Xf YD W4
  exact (zj (yb (m:=false) (i:=1) wG.nd rfl (Or.inr rfl) (vq (zdE rfl rfl T.z_sorted rfl T.z_set (vq (Y8 (L:=["step"]) (M:=["steps","places","kept","way","onward"]) rfl (vm (by rfl) (by rfl) (by rfl) (by with_unfolding_all rfl) (by rfl) (by rfl) (by kernel_rfl) y0) (xU (za 0 (pv 0))) gs1 rb1 (fun _ _ _ _=>(zw (i:=0) zkx rfl (Or.inl rfl) (.inr rfl))) (fun _ _ _ _=>(zF (za 0 (pv 0)) (zd ze) (fun _ _=>rfl))))))))
      (zj (yb (m:=false) (i:=2) wG.nd rfl (Or.inl rfl) (zo (G_led_on.mono (by decide)) hr rfl T.d_led_on.at_ T.d_led_on.kp T.d_led_on.bd (zb (za 1 (pv 1)) (zb (za 0 (pv 0)) zh))))
      (zj (zaw 20 PassesOwn.never (zJ (zlj hr) ziS (zH _) (za 2 (pv 2)) (za 1 (pv 1))) (zj (yb (m:=false) (i:=1) wG.nd rfl (Or.inr rfl) (za 2 (pv 2)))
      (zk (yb (m:=false) (i:=2) wG.nd rfl (Or.inl rfl) (zo (G_led_on.mono (by decide)) hr rfl T.d_led_on.at_ T.d_led_on.kp T.d_led_on.bd (zb (za 1 (pv 1)) (zb (za 0 (pv 0)) zh)))))))
      (zj (xo (zJ (YH hr) w6 (zH _) (zK zW v4 rfl T.z_len ZB (zb (za 1 (pv 1)) zh)) (zd ze)) (zk (zB (zby zbJ))) zG)
      (zj (Y6 (i:=3) wG.nd rfl (Or.inr rfl) (ZF (zb (zF (za 1 (pv 1)) (zd ze) (fun _ _=>rfl)) zh)))
      (zk (zaw 20 PassesOwn.never (wq (YE vZ)) (zj (zgZ (i:=4) (zgc (L:=["step"]) (M:=["steps","places","kept","way","onward"]) wG.nd rfl (Or.inl rfl) rfl (vm (by rfl) (by rfl) (by rfl) (by with_unfolding_all rfl) (by rfl) (by rfl) (by kernel_rfl) (all_cons rfl (all_cons rfl y0))) (xU (za 0 (pv 0))) gs1 rb1 (fun _ _ _ _=>(zw (i:=0) zkx rfl (Or.inl rfl) (.inr rfl))) (fun _ _ _ _=>(zb5 (VP (zJ (YH hr) w6 (zH _) (zF (za 0 (pv 0)) (zd ze) (fun _ _=>rfl)) (zF (za 4 (pv 4)) (zea (zd ze)) (fun _ _=>rfl))) (Xx (zJ (VZ hr) VD (by with_unfolding_all rfl) (zF (za 0 (pv 0)) (zd ze) (fun _ _=>rfl)) (za 2 (pv 2))))))) (fun _ _ _ _=>(zF (za 0 (pv 0)) (zd ze) (fun _ _=>rfl)))))
      (zj (xo (zJ (VZ hr) VD (by with_unfolding_all rfl) (zF (za 4 (pv 4)) (zd ze) (fun _ _=>rfl)) (za 3 (pv 3))) (zk (zB (xr zR xt rfl T.z_tuple ym (zb (wb (za 3 (pv 3)) (vA (zat (za 3 (pv 3)) (zb (zF (za 4 (pv 4)) (zd ze) (fun _ _=>rfl)) zh) (fun a b=>ZG PySem.F.plainAttrs_list PySem.F.slot_list_index PySem.F.type_list_index (Wt hr) a b))) vF) zh)))) zG)
      (zk (W2 (m:=false) (pv 3) (zF (za 4 (pv 4)) (zd ze) (fun _ _=>rfl)) (fun a b=>ZG PySem.F.plainAttrs_list PySem.F.slot_list_append PySem.F.type_list_append vE a b))))))))))))
def tdl (r:TR)(x:Int):Int:=(if x=r.2.1 then r.2.2 else 0) - (if x=r.1 then 2*r.2.2 else 0)
def tsd (R:List TR)(x:Int):Int:=(R.map fun r=>tdl r x).sum
theorem wM (r:TR)(R:List TR)(x:Int):tsd (r::R) x=tdl r x+tsd R x:=rfl
theorem ziv (R S:List TR)(x:Int):tsd (R++S) x=tsd R x+tsd S x:=by
  unfold tsd
  rw [List.map_append,List.sum_append]
theorem V8 {R S:List TR}(h:R.Perm S)(x:Int):tsd R x=tsd S x:=by
  induction h with
  | nil=>rfl
  | cons r _ ih=>rw [wM,wM,ih]
  | swap a b l=>rw [wM,wM,wM,wM];omega
  | trans _ _ h1 h2=>rw [h1,h2]
theorem zie {g:List Int}{m:Int}{r:TR}{x:Int}(hg:(g.length:Int)=m)(hr:zhc m r)(hx:0≤x):vAt (vB g r) x=vAt g x+tdl r x:=by
  obtain ⟨a,b,n⟩:=r
  obtain ⟨p1,p2,p3,p4,p5⟩:=hr
  dsimp only at p1 p2 p3 p4 p5
  rw [wP hg p1 p2 p3 hx]
  show _=vAt g x+((if x=b then n else 0) - (if x=a then 2*n else 0))
  by_cases c:x=b
  · subst c
    rw [if_pos rfl,if_pos rfl,if_neg (fun e=>p3 e.symm)]
    omega
  · rw [if_neg c,if_neg c]
    by_cases d:x=a
    · subst d
      rw [if_pos rfl,if_pos rfl]
      omega
    · rw [if_neg d,if_neg d]
      omega
theorem wS (R:List TR):∀ g:List Int,(yH g R).length=g.length:=by
  induction R with
  | nil=>intro g;rfl
  | cons r R ih=>intro g;show (yH (vB g r) R).length=_;rw [ih,zX]
theorem VN {m x:Int}(hx:0≤x):∀ (R:List TR) (g:List Int),(g.length:Int)=m→(∀ r∈R,zhc m r)→vAt (yH g R) x=vAt g x+tsd R x:=by
  intro R
  induction R with
  | nil=>intro g _ _;show vAt g x=vAt g x+0;omega
  | cons r R ih =>
    intro g hg hr
    show vAt (yH (vB g r) R) x=_
    rw [ih (vB g r) (by rw [zX];exact hg) (fun q hq=>hr q (List.mem_cons_of_mem _ hq)),zie hg (hr r List.mem_cons_self) hx,wM]
    omega
theorem zdB {m:Int}{R S:List TR}{g:List Int}(h:R.Perm S)(hg:(g.length:Int)=m)(hr:∀ r∈R,zhc m r):yH g R=yH g S :=
  zb7 (by rw [wS,wS]) fun x x0 _=>by rw [VN x0 R g hg hr,VN x0 S g hg (fun r hs=>hr r (h.mem_iff.mpr hs)),V8 h]
def Can (ts:List Tie):Hl→List Tie→Hl→Prop
  | g,[],g'=>g'=g
  | g,s::S,g'=>Xr s.1 s.2∈ts∧2≤vAt g s.1∧Can ts (YK g s) S g'
theorem Can.app {ts:List Tie}:∀ {S S2:List Tie} {g g1 g2:Hl},Can ts g S g1→Can ts g1 S2 g2→Can ts g (S++S2) g2:=by
  intro S
  induction S with
  | nil=>intro S2 g g1 g2 h h2;cases h;exact h2
  | cons s S ih=>intro S2 g g1 g2 h h2;exact ⟨h.1,h.2.1,ih h.2.2 h2⟩
theorem zeK {ts:List Tie}:∀ {S:List Tie} {g g':Hl} (k:Nat),Can ts g S g'→v8 ts g k (S.map zi)=.non∧ziK ts g (S.map zi)=g':=by
  intro S
  induction S with
  | nil=>intro g g' k h;cases h;exact ⟨rfl,rfl⟩
  | cons s S ih =>
    intro g g' k h
    have e:zab ts (zi s)=some s:=by
      show (if decide (Xr s.1 s.2∈ts)=true then some (s.1,s.2) else none)=_
      rw [if_pos (decide_eq_true h.1)]
    have c:¬ vAt g s.1 < 2:=by have:=h.2.1;omega
    have:=ih (k+1) h.2.2
    rw [List.map_cons,WO e c,ze8 e c]
    exact this
def xY (R:List TR):List Tie:=R.flatMap fun r=>List.replicate r.2.2.toNat (trP r)
theorem zdc (R S:List TR):xY (R++S)=xY R++xY S:=List.flatMap_append
theorem zjg {m:Int}{ts:List Tie}{g:Hl}{a b:Int}(hg:(g.length:Int)=m)(ha:0≤a∧a < m)(hb:0≤b∧b < m)(hne:a≠b)(ht:Xr a b∈ts):∀ k:Nat,2*(k:Int)≤vAt g a→Can ts g (List.replicate k (a,b)) (vB g (a,b,(k:Int))):=by
  intro k
  induction k with
  | zero=>intro _;exact VS hg ha hb hne
  | succ k ih =>
    intro h
    rw [List.replicate_succ',show ((k+1:Nat):Int)=(k:Int)+1 from rfl,← za1 hg ha hb hne]
    refine (ih (by omega)).app ⟨ht,?_,rfl⟩
    show 2≤vAt (vB g (a,b,(k:Int))) a
    rw [wP hg ha hb hne ha.1,if_neg hne,if_pos rfl]
    omega
theorem zlp {r:TR}{x:Int}(h:r.2.1≠x)(hn:0≤r.2.2):tdl r x≤0:=by
  unfold tdl
  rw [if_neg (fun e=>h e.symm)]
  split <;> omega
theorem zfs {x:Int}:∀ {R:List TR},(∀ r∈R,r.2.1≠x)→(∀ r∈R,0≤r.2.2)→tsd R x≤0:=by
  intro R
  induction R with
  | nil=>intro _ _;exact Int.le_refl _
  | cons r R ih =>
    intro h hn
    rw [wM]
    have:=ih (fun q hq=>h q (List.mem_cons_of_mem _ hq)) (fun q hq=>hn q (List.mem_cons_of_mem _ hq))
    have:=zlp (h r List.mem_cons_self) (hn r List.mem_cons_self)
    omega
theorem zeC {m:Int}{ts:List Tie}{G:List TR}(hG:∀ r∈G,zhc m r):∀ (F:List TR) (g:Hl),(g.length:Int)=m→(∀ r∈F,zhc m r)→(∀ r∈F,Xr r.1 r.2.1∈ts)→(∀ r∈F,∀ q∈F++G,q.2.1≠r.1)→(∀ x,0≤x→x < m→0≤vAt g x+tsd F x+tsd G x)→Can ts g (xY F) (yH g F):=by
  intro F
  induction F with
  | nil=>intro g _ _ _ _ _;rfl
  | cons r F ih =>
    intro g hg hr ht hf hx
    obtain ⟨a,b,n⟩:=r
    have hin:=hr _ List.mem_cons_self
    obtain ⟨p1,p2,p3,p4,p5⟩:=id hin
    dsimp only at p1 p2 p3 p4 p5
    have hF:∀ q∈F,q.2.1≠a:=fun q hq=>hf _ List.mem_cons_self q (List.mem_append_left _ (List.mem_cons_of_mem _ hq))
    have hG':∀ q∈G,q.2.1≠a:=fun q hq=>hf _ List.mem_cons_self q (List.mem_append_right _ hq)
    have s1:=zfs hF (fun q hq=>by have:=(hr q (List.mem_cons_of_mem _ hq)).2.2.2.1;omega)
    have s2:=zfs hG' (fun q hq=>by have:=(hG q hq).2.2.2.1;omega)
    have h0:=hx a p1.1 p1.2
    rw [wM,show tdl (a,b,n) a=0 - 2*n by unfold tdl;dsimp only;rw [if_neg p3,if_pos rfl]] at h0
    have hk:n=((n.toNat:Nat):Int):=by omega
    show Can ts g (List.replicate n.toNat (a,b)++xY F) (yH (vB g (a,b,n)) F)
    have c1:=zjg hg p1 p2 p3 (ht _ List.mem_cons_self) n.toNat (by omega)
    rw [←hk] at c1
    refine c1.app (ih _ (by rw [zX];exact hg) (fun q hq=>hr q (List.mem_cons_of_mem _ hq)) (fun q hq=>ht q (List.mem_cons_of_mem _ hq)) (fun q hq q2 hq2=>hf q (List.mem_cons_of_mem _ hq) q2 (List.mem_cons_of_mem _ hq2)) fun x x0 x1=>?_)
    have:=hx x x0 x1
    rw [wM] at this
    rw [zie hg hin x0]
    omega
def v9 (R:List TR)(r:TR):Bool:=!decide (r.1∈R.map fun q=>q.2.1)
theorem zhg (rank:Int→Int):∀ (R:List TR),R≠[]→∃ r∈R,∀ q∈R,rank r.1≤rank q.1:=by
  intro R
  induction R with
  | nil=>intro h;exact absurd rfl h
  | cons a R ih =>
    intro _
    by_cases hR:R=[]
    · subst hR
      exact ⟨a,List.mem_cons_self,fun q hq=>by rw [List.mem_singleton.mp hq];exact Int.le_refl _⟩
    · obtain ⟨p,hp,hm⟩:=ih hR
      by_cases c:rank p.1≤rank a.1
      · exact ⟨p,List.mem_cons_of_mem _ hp,fun q hq=>by
          rcases List.mem_cons.mp hq with rfl | hq
          · exact c
          · exact hm q hq⟩
      · exact ⟨a,List.mem_cons_self,fun q hq=>by
          rcases List.mem_cons.mp hq with rfl | hq
          · exact Int.le_refl _
          · have:=hm q hq;omega⟩
theorem ze3 {rank:Int→Int}{R:List TR}(h:∀ r∈R,rank r.1 < rank r.2.1)(hne:R≠[]):(R.filter fun r=>!v9 R r).length < R.length:=by
  obtain ⟨r,hr,hm⟩:=zhg rank R hne
  refine List.length_filter_lt_length_iff_exists.mpr ⟨r,hr,?_⟩
  unfold v9
  rw [Bool.not_not,decide_eq_true_eq]
  intro hmem
  obtain ⟨q,hq,e⟩:=List.mem_map.mp hmem
  have h1:=h q hq
  have h2:=hm q hq
  have e:q.2.1=r.1:=e
  rw [e] at h1
  omega
theorem zif {m:Int}{ts:List Tie}(ok:xy m ts):yD [zN m ts]=some .non:=by
  have hw:ZD (zN m ts)=true:=(XC _).mpr ⟨_,_,rfl,ok⟩
  simp only [yD]
  rw [if_pos hw]
set_option genInjectivity false in
set_option genSizeOf false in
set_option genCtorIdx false in
structure zgp (m:Int) (h:Hl):Prop where
  len:(h.length:Int)=m
  nn:∀ v∈h,0≤v
  sum:h.sum≤300
theorem zgl {m:Int}{ts:List Tie}{h:Hl}(ok:xy m ts)(hp:zgp m h):yn [zN m ts,hD h]=some .non:=by
  show (if (noS (.tup (h.map .int))&&decide (m≤1000)&&ZP m (.tup (h.map .int)))=true then some D.non else none)=_
  rw [zhP,ze5 ok,zdU hp.len hp.nn hp.sum]
  rfl
theorem zcx {gx hx:SE→Option Nat}{g:SE→Ctl}{ρ ρ':SE}{j:Nat}(e:gx ρ=none)(e2:g ρ=.nx ρ')(e3:hx ρ'=some j):ziA gx g hx ρ=some j:=by
  unfold ziA
  rw [e,e2]
  exact e3
theorem zgX {gx:SE→Option Nat}{g:SE→Ctl}{h:Nat→Option D}{ρ:SE}{j:Nat}{d:D}(e:gx ρ=some j)(e2:h j=some d):zjW gx g h ρ=.rt d:=by
  unfold zjW
  rw [e]
  show (match h j with | some d=>Ctl.rt d | none=>.no)=_
  rw [e2]
def Za:SE→Ctl :=
  (sIf (tOf (zm zeH (zm ixD (zf 6) (eC (.int 0))) (zf 5))) (WU 3 (zm Yu (xW (xX (zc (eSl slD (zf 6) yS (yA (eC (.int 2)))) zp))) (zm ixD (zf 6) (eC (.int 2))))) zP)
def vU:SE→Ctl :=
  (zL (xB false 5 (xW (fLC (iOf (zf 4)) b1 yg (zm ixD (zf 0) (eC (.int 1))))))
    (zL (Zv (iOf (zf 4)) (yo 6) Za)
    (xB false 4 (xW (fLC (iOf (zf 4)) b1 (tOf (zm inD (zm ixD (zf 0) (eC (.int 0))) (zf 6))) (zf 0))))))
def Yh:SE→Ctl :=
  (zL (Zy (zt 1 yD (zc (zf 0) zp)))
    (zL (Zy (zt 2 yn (zc (zf 0) (zc (zf 1) zp))))
    (zL (Zy (zt 2 y8 (zc (zf 0) (zc (zf 2) zp))))
    (zL (sIf (Zt (tOf (zm zO (zt 1 xx (zc (xW (fLC (iOf (zf 2)) b1 yg (eSl slD (zf 0) yS (yA (eC (.int 2)))))) zp)) (eC .non))) (tOf (zm ltD (eFn zdz (zc (zt 2 za3 (zc (zf 1) (zc (zf 2) zp))) zp)) (eC (.int 0))))) sNo zP)
    (zL (Zf 3 (xX zp))
    (zL (xB false 4 (xW (fFn wo (zc (zf 2) zp))))
    (zL (YG (tOf (zm gtD (eFn Zo (zc (zf 4) zp)) (eC (.int 0)))) vU 60)
    zP)))))))
def Ye:List D→Option (List D):=zkh 7 Yh 3
def Xl:List D→Option D:=fun ds=>(Ye ds).map .lst
theorem zhD {d:D}{n:Int}(h0:0≤n)(h1:n≤1000):Yu (.lst [d]) (.int n)=some (.lst (List.replicate n.toNat d)):=by
  show (if -(2 ^ 63)≤n∧n < 2 ^ 63∧lim (1*n.toNat)=true then _ else none)=_
  rw [if_pos ⟨by omega,by omega,vS (by omega)⟩,List.flatten_replicate_singleton]
theorem zjv {i:Nat}{f:Ev→Option D}{ρ:SE}{ds es:List D}(h1:f (visF ρ)=some (.lst es))(h2:ρ[i]?=some (.o ds))(h3:ds.length+es.length≤1000):WU i f ρ=.nx (ρ.set i (.o (ds++es))):=by
  unfold WU
  rw [h1,h2]
  show (match (if lim (ds.length+es.length)=true then some (ρ.set i (Sl.o (ds++es))) else none) with | some ρ'=>Ctl.nx ρ' | none=>Ctl.no)=_
  rw [if_pos (vS h3)]
theorem zhG {A B:List TR}(h:A.Sublist B):(xY A).length≤(xY B).length:=by
  induction h with
  | slnil=>exact Nat.le_refl _
  | cons b _ ih=>exact Nat.le_trans ih (by show _≤(List.replicate b.2.2.toNat (trP b)++xY _).length;rw [List.length_append];omega)
  | cons_cons b _ ih =>
    show (List.replicate b.2.2.toNat (trP b)++xY _).length≤(List.replicate b.2.2.toNat (trP b)++xY _).length
    rw [List.length_append,List.length_append]
    omega
theorem za7 {A B:List TR}(h:A.Perm B):(xY A).Perm (xY B):=h.flatMap_right _
theorem zcV {ns:List Int}(h:ns≠[]):zaA ns < 0↔∃ y∈ns,y < 0:=by
  unfold zaA
  cases e:ns.min? with
  | none=>exact absurd (List.min?_eq_none_iff.mp e) h
  | some m =>
    obtain ⟨h1,h2⟩:=List.min?_eq_some_iff.mp e
    show m < 0↔_
    constructor
    · exact fun hm=>⟨m,h1,hm⟩
    · rintro ⟨y,hy,hyW⟩
      have:=h2 y hy
      omega
theorem zhy {ns:List Int}(h:ns≠[]):zdz [.tup (ns.map .int)]=some (.int (zaA ns)):=by
  show ((zd7 (ns.map .int)).bind fun ns=>if ns=[] then none else some (D.int (zaA ns)))=_
  rw [Wo]
  show (if ns=[] then none else some (D.int (zaA ns)))=_
  rw [if_neg h]
theorem zhk {ρ:Ev}{rs:List TR}(h:zf 2 ρ=some (.tup (rs.map trD)))(hl:rs.length≤1000):xW (fLC (iOf (zf 2)) b1 yg (eSl slD (zf 0) yS (yA (eC (.int 2))))) ρ=some (.lst ((rs.map trP).map zi)):=by
  rw [List.map_map]
  exact Y0 (VU (c:=trD) (xs:=rs) (zfy h rfl) hl fun r _=>⟨[some (trD r)],rfl,rfl,rfl⟩)
theorem VR {m:Int}{ts:List Tie}{h:Hl}{rs:List TR}{rd:D}{c:Bool}{σ:SE}(ok:xy m ts)(hp:zgp m h)(hT:Yn ts rs)(h0:visG σ=[some (zN m ts),some (hD h),some (.tup (rs.map trD)),none,none,none,none])(hr:xx [.lst ((rs.map trP).map zi)]=some rd)(hc:zO rd .non=some (.bl c)):Zt (tOf (zm zO (zt 1 xx (zc (xW (fLC (iOf (zf 2)) b1 yg (eSl slD (zf 0) yS (yA (eC (.int 2)))))) zp)) (eC .non))) (tOf (zm ltD (eFn zdz (zc (zt 2 za3 (zc (zf 1) (zc (zf 2) zp))) zp)) (eC (.int 0)))) (visG σ)=some (c||decide (zaA (yH h rs) < 0)):=by
  have e4:=zjz hp.len ok.hi (hT.trIn ok)
  have hne:yH h rs≠[]:=by
    intro e
    have:=wS rs h
    rw [e] at this
    have h1:=hp.len
    have h2:=ok.lo
    rw [←this] at h1
    exact absurd h1 (by show ¬ ((0:Nat):Int)=m;omega)
  rw [h0]
  refine zjK (v7 (zC (x:=rd) (y:=.non) (wZ (ds:=[.lst ((rs.map trP).map zi)]) (xJ (zhk rfl hT.len) Y9) hr) rfl hc)) (v7 (zC (x:=.int (zaA (yH h rs))) (y:=.int 0) (zaH (ds:=[.tup ((yH h rs).map .int)]) (xJ (wZ (ds:=[hD h,.tup (rs.map trD)]) rfl e4) Y9) (zhy hne)) rfl rfl))
theorem zjs {m:Int}{ts:List Tie}{rs:List TR}(ok:xy m ts)(hT:Yn ts rs):SmE (rs.map trP):=fun s hs=>by
  obtain ⟨r,hr,rfl⟩:=List.mem_map.mp hs
  have:=(hT.trIn ok r hr).1
  have:=ok.hi
  show 0≤r.1∧r.1 < 8
  omega
theorem ZZ {m:Int}{ts:List Tie}{rs:List TR}{rank:Int→Int}(ok:xy m ts)(hT:Yn ts rs)(hrk:∀ r∈rs,rank r.1 < rank r.2.1):xx [.lst ((rs.map trP).map zi)]=some .non :=
  zbE (rank:=rank) (by rw [List.length_map];exact hT.len) (zjs ok hT) fun s hs=>by
    obtain ⟨r,hr,rfl⟩:=List.mem_map.mp hs
    exact hrk r hr
def zkq (ρ:SE):Nat:=match ρ[4]? with
  | some (Sl.v (D.lst ds))=>ds.length
  | _=>0
theorem zhB {m:Int}{ts:List Tie}{h:Hl}{rs T R:List TR}{o5 o6:Sl}(hT:∀ r∈R,zhc m r)(hR:R.length≤1000)(hlen:(xY (T++R)).length≤900){N B C:SE→Prop}{Q:D→Prop}(hN:∀ o5 o6,N [.v (zN m ts),.v (hD h),.v (.tup (rs.map trD)),.o ((xY (T++R.filter (v9 R))).map zi),.v (.lst ((R.filter fun r=>!v9 R r).map trD)),o5,o6]):(vU [.v (zN m ts),.v (hD h),.v (.tup (rs.map trD)),.o ((xY T).map zi),.v (.lst (R.map trD)),o5,o6]).w N B C Q:=by
  unfold vU
  have e5:xW (fLC (iOf (zf 4)) b1 yg (zm ixD (zf 0) (eC (.int 1)))) (visF [.v (zN m ts),.v (hD h),.v (.tup (rs.map trD)),.o ((xY T).map zi),.v (.lst (R.map trD)),o5,o6])=some (.lst ((R.map fun q=>q.2.1).map .int)):=by
    rw [List.map_map]
    exact Y0 (VU (c:=trD) (xs:=R) rfl hR fun r _=>⟨[some (trD r)],rfl,rfl,rfl⟩)
  refine zI (zce e5) ?_
  refine yp (Vo (ds:=R.map trD) (fun i ρ=>∃ o6:Sl,ρ=[.v (zN m ts),.v (hD h),.v (.tup (rs.map trD)),.o ((xY (T++(R.take i).filter (v9 R))).map zi),.v (.lst (R.map trD)),.v (.lst ((R.map fun q=>q.2.1).map .int)),o6]) rfl ⟨o6,by rw [List.take_zero,List.filter_nil,List.append_nil];rfl⟩ ?_ ?_)
  · rintro i d ρ hd ⟨o6,rfl⟩
    rw [List.getElem?_map] at hd
    obtain ⟨r,hr,rfl⟩:=Option.map_eq_some_iff.mp hd
    obtain ⟨p1,p2,p3,p4,p5⟩:=hT r (List.mem_of_getElem? hr)
    have htk:R.take (i+1)=R.take i++[r]:=by rw [List.take_add_one,hr];rfl
    obtain ⟨A,hA⟩:∃ A,(R.take i).filter (v9 R)=A:=⟨_,rfl⟩
    refine ⟨[.v (zN m ts),.v (hD h),.v (.tup (rs.map trD)),.o ((xY (T++A)).map zi),.v (.lst (R.map trD)),.v (.lst ((R.map fun q=>q.2.1).map .int)),.v (trD r)],by rw [hA];rfl,?_⟩
    unfold Za
    refine Zn (c:=v9 R r) (v7 (zC (x:=.int r.1) (y:=.lst ((R.map fun q=>q.2.1).map .int)) rfl rfl (zi2 _ _))) (fun c=>?_) (fun c=>vR rfl ⟨.v (trD r),?_⟩)
    · have hsub:(xY (T++(A++[r]))).length≤900:=by
        refine Nat.le_trans (zhG ((List.Sublist.refl T).append ?_)) hlen
        have:A++[r]=(R.take (i+1)).filter (v9 R):=by rw [htk,List.filter_append,hA,List.filter_cons,if_pos c];rfl
        rw [this]
        exact List.filter_sublist.trans (List.take_sublist _ _)
      have er:xY (T++(A++[r]))=xY (T++A)++List.replicate r.2.2.toNat (trP r):=by
        rw [←List.append_assoc,zdc]
        congr 1
        show List.replicate r.2.2.toNat (trP r)++[]=_
        rw [List.append_nil]
      have hl2:((xY (T++A)).map zi).length+(List.replicate r.2.2.toNat (zi (trP r))).length≤1000:=by
        rw [List.length_map,List.length_replicate]
        rw [er,List.length_append,List.length_replicate] at hsub
        omega
      refine vR (zjv (ds:=(xY (T++A)).map zi) (es:=List.replicate r.2.2.toNat (zi (trP r))) (zC (x:=.lst [zi (trP r)]) (y:=.int r.2.2) rfl rfl (zhD (by omega) (by omega))) rfl hl2) ⟨.v (trD r),?_⟩
      rw [htk,List.filter_append,hA,List.filter_cons,if_pos c,List.filter_nil,er,List.map_append,List.map_replicate]
      rfl
    · rw [htk,List.filter_append,hA,List.filter_cons,if_neg (by rw [c];exact Bool.false_ne_true),List.filter_nil,List.append_nil]
  · rintro ρ ⟨o6,rfl⟩
    rw [List.length_map,List.take_length]
    have e4:xW (fLC (iOf (zf 4)) b1 (tOf (zm inD (zm ixD (zf 0) (eC (.int 0))) (zf 6))) (zf 0)) (visF [.v (zN m ts),.v (hD h),.v (.tup (rs.map trD)),.o ((xY (T++R.filter (v9 R))).map zi),.v (.lst (R.map trD)),.v (.lst ((R.map fun q=>q.2.1).map .int)),o6])=some (.lst ((R.filter fun r=>!v9 R r).map trD)):=by
      refine Y0 (zcP (c:=trD) (xs:=R) rfl hR fun r _=>⟨[some (trD r)],rfl,?_,fun _=>rfl⟩)
      refine v7 (zC (x:=.int r.1) (y:=.lst ((R.map fun q=>q.2.1).map .int)) rfl rfl ?_)
      unfold v9
      rw [Bool.not_not]
      exact in_i _ _
    exact vR (zce e4) (hN _ _)
theorem zbW {m:Int}{ts:List Tie}{h:Hl}{rs:List TR}{N B C:SE→Prop}{Q:D→Prop}{g:SE→Ctl}(ok:xy m ts)(hp:zgp m h)(hT:Yn ts rs)(hg:(g [.v (zN m ts),.v (hD h),.v (.tup (rs.map trD)),.no,.no,.no,.no]).w N B C Q) :
    (zL (Zy (zt 1 yD (zc (zf 0) zp)))
    (zL (Zy (zt 2 yn (zc (zf 0) (zc (zf 1) zp))))
    (zL (Zy (zt 2 y8 (zc (zf 0) (zc (zf 2) zp)))) g)) [.v (zN m ts),.v (hD h),.v (.tup (rs.map trD)),.no,.no,.no,.no]).w N B C Q:=by
  refine zI (Xw (d:=.non) (zif ok)) ?_
  refine zI (Xw (d:=.non) (zgl ok hp)) ?_
  exact zI (Xw (d:=.non) (Zx (YS ok hT))) hg
theorem zc5 {m:Int}{ts:List Tie}{h:Hl}{rs:List TR}{rank:Int→Int}(ok:xy m ts)(hp:zgp m h)(hT:Yn ts rs)(hrk:∀ r∈rs,rank r.1 < rank r.2.1)(hfin:∀ x,0≤x→x < m→0≤vAt h x+tsd rs x)(hlen:(xY rs).length≤900)(h56:rs.length≤58):∃ T:List TR,Ye [zN m ts,hD h,.tup (rs.map trD)]=some ((xY T).map zi)∧T.Perm rs∧Can ts h (xY T) (yH h rs):=by
  have hin:=hT.trIn ok
  have key:=zi7 (m:=7) (g:=Yh) (i:=3) (ds:=[zN m ts,hD h,.tup (rs.map trD)]) (R:=fun es=>∃ T:List TR,es=(xY T).map zi∧T.Perm rs∧Can ts h (xY T) (yH h rs)) (ρ:=[.v (zN m ts),.v (hD h),.v (.tup (rs.map trD)),.no,.no,.no,.no]) rfl ?_
  · obtain ⟨es,e,T,rfl,h1,h2⟩:=key
    exact ⟨T,e,h1,h2⟩
  unfold Yh
  refine zbW ok hp hT ?_
  have et:=VR (σ:=[.v (zN m ts),.v (hD h),.v (.tup (rs.map trD)),.no,.no,.no,.no]) (c:=false) ok hp hT rfl (ZZ ok hT hrk) rfl
  have hmin:¬ zaA (yH h rs) < 0:=by
    have hne:yH h rs≠[]:=by
      intro e
      have:=wS rs h
      rw [e] at this
      have h1:=hp.len
      have h2:=ok.lo
      rw [←this] at h1
      exact absurd h1 (by show ¬ ((0:Nat):Int)=m;omega)
    rw [zcV hne]
    rintro ⟨y,hy,hy0⟩
    obtain ⟨i,hi,e⟩:=List.mem_iff_getElem.mp hy
    have hl:=wS rs h
    have hm:=hp.len
    have hf:=hfin (i:Int) (Int.natCast_nonneg i) (by rw [←hm,← hl];exact Int.ofNat_lt.mpr hi)
    have hv:=VN (x:=(i:Int)) (Int.natCast_nonneg i) rs h hm hin
    have hy2:vAt (yH h rs) (i:Int)=y:=by
      unfold vAt
      rw [Int.toNat_natCast,Dl.getD_at hi,e]
    rw [hy2] at hv
    omega
  rw [decide_eq_false hmin] at et
  refine yp (Zn (c:=false) et (fun z=>by cases z) (fun _=>vR rfl ?_))
  refine zI (ρ':=[.v (zN m ts),.v (hD h),.v (.tup (rs.map trD)),.o [],.no,.no,.no]) rfl ?_
  refine zI (ρ':=[.v (zN m ts),.v (hD h),.v (.tup (rs.map trD)),.o [],.v (.lst (rs.map trD)),.no,.no]) rfl ?_
  refine yp (zaS (fun ρ=>∃ (T R:List TR) (o5 o6:Sl),ρ=[.v (zN m ts),.v (hD h),.v (.tup (rs.map trD)),.o ((xY T).map zi),.v (.lst (R.map trD)),o5,o6]∧(T++R).Perm rs∧Can ts h (xY T) (yH h T)) zkq ?_ 60 _ ⟨[],rs,_,_,rfl,List.Perm.refl _,rfl⟩ ?_)
  · rintro ρ ⟨T,R,o5,o6,rfl,hpm,hcan⟩
    have hRin:∀ r∈R,r∈rs:=fun r hr=>hpm.mem_iff.mp (List.mem_append_right _ hr)
    have hTin:∀ r∈T,r∈rs:=fun r hr=>hpm.mem_iff.mp (List.mem_append_left _ hr)
    have hRl:R.length≤58:=by
      have:=hpm.length_eq
      rw [List.length_append] at this
      omega
    refine ⟨decide ((0:Int) < ((R.map trD).length:Int)),v7 (zC (x:=.int ((R.map trD).length:Int)) (y:=.int 0) (zaH (ds:=[.lst (R.map trD)]) rfl rfl) rfl rfl),fun c=>?_,fun c=>?_⟩
    · have hne:R≠[]:=by
        intro e
        rw [e] at c
        cases c
      refine zhB (fun r hr=>hin r (hRin r hr)) (by omega) (by rw [(za7 hpm).length_eq];exact hlen) fun o5 o6=>⟨⟨T++R.filter (v9 R),R.filter fun r=>!v9 R r,o5,o6,rfl,?_,?_⟩,?_⟩
      · rw [List.append_assoc]
        exact ((List.Perm.refl T).append (List.filter_append_perm (v9 R) R)).trans hpm
      · rw [zdc,show yH h (T++R.filter (v9 R))=yH (yH h T) (R.filter (v9 R)) from List.foldl_append]
        refine hcan.app (zeC (m:=m) (G:=R.filter fun r=>!v9 R r) (fun r hr=>hin r (hRin r (List.mem_filter.mp hr).1)) _ _ (by rw [wS];exact hp.len) (fun r hr=>hin r (hRin r (List.mem_filter.mp hr).1)) (fun r hr=>(hT.row r (hRin r (List.mem_filter.mp hr).1)).1) (fun r hr q hq e=>?_) fun x x0 x1=>?_)
        · have hq':q∈R:=by
            rcases List.mem_append.mp hq with z | z
            · exact (List.mem_filter.mp z).1
            · exact (List.mem_filter.mp z).1
          have hf:=(List.mem_filter.mp hr).2
          unfold v9 at hf
          rw [Bool.not_eq_true',decide_eq_false_iff_not] at hf
          exact hf (List.mem_map.mpr ⟨q,hq',e⟩)
        · have:=hfin x x0 x1
          have e1:=V8 hpm x
          have e2:=V8 (List.filter_append_perm (v9 R) R) x
          rw [ziv] at e1 e2
          rw [VN x0 T h hp.len (fun r hr=>hin r (hTin r hr))]
          omega
      · show ((R.filter fun r=>!v9 R r).map trD).length < (R.map trD).length
        rw [List.length_map,List.length_map]
        exact ze3 (fun r hr=>hrk r (hRin r hr)) hne
    · have he:R=[]:=by
        cases R with
        | nil=>rfl
        | cons r R=>exact absurd c (by rw [List.length_map,List.length_cons,decide_eq_true (by omega)];exact fun z=>by cases z)
      subst he
      rw [List.append_nil] at hpm
      refine vR rfl ⟨(xY T).map zi,rfl,T,rfl,hpm,?_⟩
      rw [←zdB hpm hp.len (fun r hr=>hin r (hTin r hr))]
      exact hcan
  · show (rs.map trD).length < 60
    rw [List.length_map]
    omega
theorem YU (T:Txt K mg ad):xE P w K mg base CX0 9 ad.f_in_order ad.e_in_order ["web","heap","tally"] (@zlF ⟨K⟩ 3 Ye):=by
  letI:KK:=⟨K⟩
  have G_must_be_web:=Zs (P:=P) (w:=w) (base:=base) T
  have G_must_be_heap:=YR (P:=P) (w:=w) (base:=base) T
  have G_must_be_tally:=YI (P:=P) (w:=w) (base:=base) T
  have X_must_be_tally:=Yg (P:=P) (w:=w) (base:=base) T
  have G_left:=zfz (P:=P) (w:=w) (base:=base) T
  have G_ring_of:=VE (P:=P) (w:=w) (base:=base) T
  refine zkD (N:=["web","heap","tally","steps","rows","ends","row"]) (ps:=["web","heap","tally"]) T.d_in_order.fn xH (g:=Yh) (i:=3) fun cdv A outer s H E hr=>?_
  unfold Yh vU Za
  exact (Yw (ZR (zo (G_must_be_web.mono (by decide)) hr rfl T.d_must_be_web.at_ T.d_must_be_web.kp T.d_must_be_web.bd (zb (za 0 (pv 0)) zh)))
      (Yw (ZR (zo (G_must_be_heap.mono (by decide)) hr rfl T.d_must_be_heap.at_ T.d_must_be_heap.kp T.d_must_be_heap.bd (zb (za 0 (pv 0)) (zb (za 1 (pv 1)) zh))))
      (Yw (ZR (zo (G_must_be_tally.mono (by decide)) hr rfl T.d_must_be_tally.at_ T.d_must_be_tally.kp T.d_must_be_tally.bd (zb (za 0 (pv 0)) (zb (za 2 (pv 2)) zh))))
      (Yw (xo (zb5 (Vp (zJ WK Xu (zH _) (zo (G_ring_of.mono (by decide)) hr rfl T.d_ring_of.at_ T.d_ring_of.kp T.d_ring_of.bd (zb (vq (Y8 (L:=["row"]) (M:=["web","heap","tally","steps","rows","ends","·row"]) rfl (vm (by rfl) (by rfl) (by rfl) (by with_unfolding_all rfl) (by rfl) (by rfl) (by kernel_rfl) y0) (xU (za 2 (pv 2))) gs1 rb1 (fun _ _ _ _=>(zw (i:=0) zhK rfl (Or.inl rfl) (.inr rfl))) (fun _ _ _ _=>(wb (za 0 (pv 0)) vF (vA (zd ze)))))) zh)) (zby zbJ)) (Xb (zJ zdG yq (zH _) (zK (W3 rfl) zag rfl T.z_min zbx (zb (zo (G_left.mono (by decide)) hr rfl T.d_left.at_ T.d_left.kp T.d_left.bd (zb (za 1 (pv 1)) (zb (za 2 (pv 2)) zh))) zh)) (zd ze))))) (zk X9) zG)
      (Yw (Y6 (i:=3) xH.nd rfl (Or.inl rfl) (ZF zh))
      (Yw (yb (m:=false) (i:=4) xH.nd rfl (Or.inl rfl) (vq (XA rfl T.z_list (zb (za 2 (pv 2)) zh))))
      (Yw (zaw 60 PassesOwn.never (zJ zee yq (zH _) (zK zW v4 rfl T.z_len ZB (zb (za 4 (pv 4)) zh)) (zd ze)) (zj (yb (m:=false) (i:=5) xH.nd rfl (Or.inr rfl) (vq (Y8 (L:=["row"]) (M:=["web","heap","tally","steps","rows","ends","·row"]) rfl (vm (by rfl) (by rfl) (by rfl) (by with_unfolding_all rfl) (by rfl) (by rfl) (by kernel_rfl) y0) (xU (za 4 (pv 4))) gs1 rb1 (fun _ _ _ _=>(zw (i:=0) zhK rfl (Or.inl rfl) (.inr rfl))) (fun _ _ _ _=>(zF (za 0 (pv 0)) (zd ze) (fun _ _=>rfl))))))
      (zj (Zq PassesOwn.never rfl (xU (za 4 (pv 4))) (zU (zw (i:=6) xH.nd rfl (Or.inl rfl))) (zk (xo (zJ (zeU hr) zfO (by with_unfolding_all rfl) (zF (za 6 (pv 6)) (zd ze) (fun _ _=>rfl)) (za 5 (pv 5))) (zk (zks (pv 3) (XM (vq (ZF (zb (wb (za 6 (pv 6)) vF (vA (zd ze))) zh))) (zF (za 6 (pv 6)) (zd ze) (fun _ _=>rfl))) (fun a b=>ZG PySem.F.plainAttrs_list PySem.F.slot_list_extend PySem.F.type_list_extend zgi a b))) zG)))
      (zk (ziY (m:=false) (i:=4) (zgc (L:=["row"]) (M:=["web","heap","tally","steps","rows","ends","·row"]) xH.nd rfl (Or.inl rfl) rfl (vm (by rfl) (by rfl) (by rfl) (by with_unfolding_all rfl) (by rfl) (by rfl) (by kernel_rfl) (all_cons rfl y0)) (xU (za 4 (pv 4))) gs1 rb1 (fun _ _ _ _=>(zw (i:=0) zhK rfl (Or.inl rfl) (.inr rfl))) (fun _ _ _ _=>(zJ (VZ hr) VD (by with_unfolding_all rfl) (zF (za 0 (pv 0)) (zd ze) (fun _ _=>rfl)) (za 6 (pv 6)))) (fun _ _ _ _=>(za 0 (pv 0)))))))))
      (ziu (pv 3)))))))))
theorem Vb (T:Txt K mg ad):xE P w K mg base CX0 9 ad.f_in_order ad.e_in_order ["web","heap","tally"] (@spD ⟨K⟩ 3 Xl):=by
  letI:KK:=⟨K⟩
  exact zkS (YU (P:=P) (w:=w) (base:=base) T)
def vI:SE→Option Nat :=
  (ziA xNo (Zy (zt 1 yD (zc (zf 0) zp)))
    (ziA xNo (Zy (zt 2 yn (zc (zf 0) (zc (zf 1) zp))))
    (ziA (xEx (zjm 2 xC (zc (zf 0) (zc (zf 2) zp)))) (Zy (zt 2 y8 (zc (zf 0) (zc (zf 2) zp))))
    (xIf (Zt (tOf (zm zO (zt 1 xx (zc (xW (fLC (iOf (zf 2)) b1 yg (eSl slD (zf 0) yS (yA (eC (.int 2)))))) zp)) (eC .non))) (tOf (zm ltD (eFn zdz (zc (zt 2 za3 (zc (zf 1) (zc (zf 2) zp))) zp)) (eC (.int 0))))) (zfF 5) xNo))))
def Yx:List D→Option Nat:=fnX 7 vI
theorem Vs {m:Int}{ts:List Tie}{d:D}(h:zE [zN m ts,d]=some (.bl true)):xC [zN m ts,d]=none:=by
  show (match (((zE [zN m ts,d]).bind asB).map (!·)) with | some true=>some 5 | some false=>none | none=>none)=_
  rw [h]
  rfl
theorem zed {m:Int}{ts:List Tie}{h:Hl}{rs:List TR}{rd:D}{c:Bool}(ok:xy m ts)(hp:zgp m h)(hT:Yn ts rs)(hr:xx [.lst ((rs.map trP).map zi)]=some rd)(hc:zO rd .non=some (.bl c))(hm:(c||decide (zaA (yH h rs) < 0))=true):Yx [zN m ts,hD h,.tup (rs.map trD)]=some 5:=by
  have et:=VR (σ:=[.v (zN m ts),.v (hD h),.v (.tup (rs.map trD)),.no,.no,.no,.no]) ok hp hT rfl hr hc
  rw [hm] at et
  show vI [.v (zN m ts),.v (hD h),.v (.tup (rs.map trD)),.no,.no,.no,.no]=some 5
  unfold vI
  refine zcx rfl (Xw (d:=.non) (zif ok)) ?_
  refine zcx rfl (Xw (d:=.non) (zgl ok hp)) ?_
  refine zcx (Vs (YS ok hT)) (Xw (d:=.non) (Zx (YS ok hT))) ?_
  unfold xIf
  rw [et]
  rfl
theorem X2 (T:Txt K mg ad):xE P w K mg base (Air P w) 9 ad.f_in_order ad.e_in_order ["web","heap","tally"] (@spX ⟨K⟩ (clT ad) 3 Yx):=by
  letI:KK:=⟨K⟩
  have G_must_be_web:=Zs (P:=P) (w:=w) (base:=base) T
  have G_must_be_heap:=YR (P:=P) (w:=w) (base:=base) T
  have G_must_be_tally:=YI (P:=P) (w:=w) (base:=base) T
  have X_must_be_tally:=Yg (P:=P) (w:=w) (base:=base) T
  have G_left:=zfz (P:=P) (w:=w) (base:=base) T
  have G_ring_of:=VE (P:=P) (w:=w) (base:=base) T
  refine zin (cl:=clT ad) (N:=["web","heap","tally","steps","rows","ends","row"]) (ps:=["web","heap","tally"]) T.d_in_order.fn xH (gx:=vI) fun cdv A outer s H E hr=>?_
  unfold vI
  exact (zaL zdh (SD.nox (ZR (zo (G_must_be_web.mono (by decide)) hr rfl T.d_must_be_web.at_ T.d_must_be_web.kp T.d_must_be_web.bd (zb (za 0 (pv 0)) zh))))
      (zaL zdh (SD.nox (ZR (zo (G_must_be_heap.mono (by decide)) hr rfl T.d_must_be_heap.at_ T.d_must_be_heap.kp T.d_must_be_heap.bd (zb (za 0 (pv 0)) (zb (za 1 (pv 1)) zh)))))
      (zaL (zeD (zeT (X_must_be_tally.mono (by decide)) zdH hr rfl T.d_must_be_tally.at_ T.d_must_be_tally.kp T.d_must_be_tally.bd (zb (za 0 (pv 0)) (zb (za 2 (pv 2)) zh)))) (SD.nox (ZR (zo (G_must_be_tally.mono (by decide)) hr rfl T.d_must_be_tally.at_ T.d_must_be_tally.kp T.d_must_be_tally.bd (zb (za 0 (pv 0)) (zb (za 2 (pv 2)) zh)))))
      (zeq (zkT (zb5 (Vp (zJ WK Xu (zH _) (zo (G_ring_of.mono (by decide)) hr rfl T.d_ring_of.at_ T.d_ring_of.kp T.d_ring_of.bd (zb (vq (Y8 (L:=["row"]) (M:=["web","heap","tally","steps","rows","ends","·row"]) rfl (vm (by rfl) (by rfl) (by rfl) (by with_unfolding_all rfl) (by rfl) (by rfl) (by kernel_rfl) y0) (xU (za 2 (pv 2))) gs1 rb1 (fun _ _ _ _=>(zw (i:=0) zhK rfl (Or.inl rfl) (.inr rfl))) (fun _ _ _ _=>(wb (za 0 (pv 0)) vF (vA (zd ze)))))) zh)) (zby zbJ)) (Xb (zJ zdG yq (zH _) (zK (W3 rfl) zag rfl T.z_min zbx (zb (zo (G_left.mono (by decide)) hr rfl T.d_left.at_ T.d_left.kp T.d_left.bd (zb (za 1 (pv 1)) (zb (za 2 (pv 2)) zh))) zh)) (zd ze))))) (zap (zcQ (cl:=clT ad) (j:=5) ⟨T.g_NoTally,T.c_NoTally⟩ rfl)) zbr)))))
theorem zaO:bootBuiltins "ValueError"=some (.type "ValueError"):=by decide +kernel
theorem zhe {n:Nat}(h:n≤13):n≤sizeLine:=by rw [sizeLine_eq];omega
theorem Vy (T:Txt K mg ad):zfU P w K mg base 1 ad.f__law_kinds ad.e__law_kinds ["e"] (zf7 (clT ad) (fun j=>j < 13∧zcI K (zlA ad) ad.x_StoneError (clT ad j) j)):=by
  letI:KK:=⟨K⟩
  refine zjc (N:=["e","found"]) (ps:=["e"]) T.d__law_kinds.fn x5 (fun vs H Q E h=>by obtain ⟨a,j,rfl,_⟩:=h;rfl) fun cdv A outer s H vs Q E ev hr hsp=>?_
  obtain ⟨a,j,rfl,hH,⟨hj,kj⟩,q⟩:=hsp
  refine ⟨_,(vn (VO (i:=1) x5.nd rfl (Or.inl rfl) (zba (zq (yl yX rfl T.z_isinstance zA (zq (pv 0) (zq (xq (v:=.ref ad.x_NoWeb) rfl T.g_NoWeb rfl) yB))) (zq (yl yX rfl T.z_isinstance zA (zq (pv 0) (zq (xq (v:=.ref ad.x_NoKind) rfl T.g_NoKind rfl) yB))) (zq (yl yX rfl T.z_isinstance zA (zq (pv 0) (zq (xq (v:=.ref ad.x_NoHeap) rfl T.g_NoHeap rfl) yB))) (zq (yl yX rfl T.z_isinstance zA (zq (pv 0) (zq (xq (v:=.ref ad.x_NoPlace) rfl T.g_NoPlace rfl) yB))) yB))))))
      (vn (VO (i:=1) x5.nd rfl (Or.inl rfl) (zg6 zcT (pv 1) (zba (zq (yl yX rfl T.z_isinstance zA (zq (pv 0) (zq (xq (v:=.ref ad.x_NoNumber) rfl T.g_NoNumber rfl) yB))) (zq (yl yX rfl T.z_isinstance zA (zq (pv 0) (zq (xq (v:=.ref ad.x_NoTally) rfl T.g_NoTally rfl) yB))) (zq (yl yX rfl T.z_isinstance zA (zq (pv 0) (zq (xq (v:=.ref ad.x_NotTree) rfl T.g_NotTree rfl) yB))) (zq (yl yX rfl T.z_isinstance zA (zq (pv 0) (zq (xq (v:=.ref ad.x_NotJoined) rfl T.g_NotJoined rfl) yB))) yB)))))))
      (vn (VO (i:=1) x5.nd rfl (Or.inl rfl) (zg6 zcT (pv 1) (zba (zq (yl yX rfl T.z_isinstance zA (zq (pv 0) (zq (xq (v:=.ref ad.x_NoWeights) rfl T.g_NoWeights rfl) yB))) (zq (yl yX rfl T.z_isinstance zA (zq (pv 0) (zq (xq (v:=.ref ad.x_NoRow) rfl T.g_NoRow rfl) yB))) (zq (yl yX rfl T.z_isinstance zA (zq (pv 0) (zq (xq (v:=.ref ad.x_NoSteps) rfl T.g_NoSteps rfl) yB))) (zq (yl yX rfl T.z_isinstance zA (zq (pv 0) (zq (xq (v:=.ref ad.x_NoText) rfl T.g_NoText rfl) yB))) yB)))))))
      (vn (VO (i:=1) x5.nd rfl (Or.inl rfl) (zg6 zcT (pv 1) (zba (zq (yl yX rfl T.z_isinstance zA (zq (pv 0) (zq (xq (v:=.ref ad.x_TooGreat) rfl T.g_TooGreat rfl) yB))) yB))))
      (vn (zit (PW.pt (zj0 (zh7 (zh1 (yl yX rfl T.z_isinstance zA (zq (pv 0) (zq (wx (v:=.ty "ValueError") rfl T.z_ValueError zaO rfl) yB))))) (zii (zeX WF (ZG PySem.F.plainAttrs_list PySem.F.slot_list_count PySem.F.type_list_count zeW (pv 1) (zq vZ yB)) ze (zH _))))) (Xy (zaZ (zi1 zeO ze))) zfp) (Xy (zaZ (ZG PySem.F.plainAttrs_list PySem.F.slot_list_index PySem.F.type_list_index zen (pv 1) (zq vZ yB))))))))),?_⟩
  refine zfB (cs:=[ad.x_NoWeb,ad.x_NoKind,ad.x_NoHeap,ad.x_NoPlace]) (bs:=[0 == j,1 == j,2 == j,3 == j]) kj.look (congrArg (fun l=>(l.drop 0).take 4) kj.hot) (zhe (n:=4) (by decide)) rfl rfl hH fun σ1 H1 S1=>?_
  refine zaf (cs:=[ad.x_NoNumber,ad.x_NoTally,ad.x_NotTree,ad.x_NotJoined]) (bs:=[4 == j,5 == j,6 == j,7 == j]) kj.look (congrArg (fun l=>(l.drop 4).take 4) kj.hot) (by exact zhe (n:=8) (by decide)) S1 fun σ2 H2 S2=>?_
  refine zaf (cs:=[ad.x_NoWeights,ad.x_NoRow,ad.x_NoSteps,ad.x_NoText]) (bs:=[8 == j,9 == j,10 == j,11 == j]) kj.look (congrArg (fun l=>(l.drop 8).take 4) kj.hot) (by exact zhe (n:=12) (by decide)) S2 fun σ3 H3 S3=>?_
  refine zaf (cs:=[ad.x_TooGreat]) (bs:=[12 == j]) kj.look (congrArg (fun l=>(l.drop 12).take 1) kj.hot) (by exact zhe (n:=13) (by decide)) S3 fun σ4 H4 S4=>?_
  exact ziP kj.val kj.look hj S4 (q _ S4.same)
def wF:SE→Ctl :=
  (zk8 false 3 (zm xu (zt 2 zD (zc (zf 1) (zc (zm xD (eC (.int 420)) (zf 4)) zp))) (zm xD (zf 4) (eC (.int 1)))) (zf 4))
def yZ:SE→Ctl :=
  (zL (Zf 3 (xX zp))
    (zL (xM Zz (zc (zm ixD (zf 0) (eC (.int 0))) zp) (yo 4) wF)
    (sFz 3 (yR (eFn zS (zc (xW (fLC (iOf (zt 3 we (zc (zf 0) (zc (zf 1) (zc (zf 2) zp))))) b1 (tOf (zm ltD (zcC zib (zf 4) (zc (zm ixD (zf 0) (eC (.int 0))) zp)) (zcC zib (zf 4) (zc (zm ixD (zf 0) (eC (.int 1))) zp)))) (zf 0))) zp))))))
def vJ:List D→Option D:=fnD 5 yZ
theorem zf1 (O:List Int)(x:Int):(O.map D.int).findIdx? (fun e=>eqN 20 e (.int x))=O.findIdx? (fun y=>y == x):=by
  rw [List.findIdx?_map]
  rfl
theorem zhU {O:List Int}{x:Int}(h:x∈O):zib (.lst (O.map .int)) (.int x)=some (.int (((O.findIdx? fun y=>y == x).getD 0:Nat):Int)):=by
  show (if okE 20 (.int x)=true∧(O.map D.int).all (okE 20)=true then ((O.map D.int).findIdx? fun e=>eqN 20 e (.int x)).map fun (j:Nat)=>D.int (j:Int) else none)=_
  rw [if_pos ⟨rfl,zbd O⟩,zf1]
  cases e:O.findIdx? fun y=>y == x with
  | none =>
    have:=List.findIdx?_eq_none_iff.mp e x h
    rw [beq_self_eq_true] at this
    cases this
  | some j=>rfl
theorem Yn.filter {ts:List Tie}{rs:List TR}(h:Yn ts rs)(p:TR→Bool):Yn ts (rs.filter p) :=
  ⟨fun r hr=>h.row r (List.mem_filter.mp hr).1,h.srt.filter p,Nat.le_trans (List.length_filter_le _ _) h.len⟩
theorem zb3 {m:Int}{ts:List Tie}{c mo:Int}(ok:xy m ts)(h1:1≤mo)(h3:mo≤300):∃ (rs0:List TR) (p:TR→Bool) (rank:Int→Int),we [zN m ts,.int c,.int mo]=some (.tup (rs0.map trD))∧(Yn ts rs0∧rs0.length≤56∧∀ r∈rs0,r.2.2≤mo)∧vJ [zN m ts,.int c,.int mo]=some (.tup ((rs0.filter p).map trD))∧∀ r∈rs0.filter p,rank r.1 < rank r.2.1:=by
  obtain ⟨rs0,et,hT,hT2⟩:=zbm (c:=c) ok h1 h3
  have hm1:=ok.lo
  have hm8:=ok.hi
  have key:=zfV (m:=5) (g:=yZ) (ds:=[zN m ts,.int c,.int mo]) (R:=fun d=>∃ (p:TR→Bool) (rank:Int→Int),d=.tup ((rs0.filter p).map trD)∧∀ r∈rs0.filter p,rank r.1 < rank r.2.1) (ρ:=[.v (zN m ts),.v (.int c),.v (.int mo),.no,.no]) rfl ?_
  · obtain ⟨d,e,p,rank,rfl,hr⟩:=key
    exact ⟨rs0,p,rank,et,⟨hT,hT2⟩,e,hr⟩
  unfold yZ
  refine zI (ρ':=[.v (zN m ts),.v (.int c),.v (.int mo),.o [],.no]) rfl ?_
  refine yp (Ww (lo:=0) (c:=m.toNat) (fun i ρ=>∃ (O:List Int) (o4:Sl),ρ=[.v (zN m ts),.v (.int c),.v (.int mo),.o (O.map .int),o4]∧O.length=i∧∀ x:Int,x∈O↔0≤x∧x < (i:Int)) (show Zz [.int m]=some (XY 0 m.toNat) from vy (by omega) (by omega)) ⟨[],_,rfl,rfl,fun x=>⟨(fun h=>by cases h),(fun h=>by omega)⟩⟩ ?_ ?_)
  · rintro i ρ hi ⟨O,o4,rfl,hl,hO⟩
    refine ⟨[.v (zN m ts),.v (.int c),.v (.int mo),.o (O.map .int),.v (.int ((0:Int)+(i:Int)))],rfl,?_⟩
    unfold wF
    obtain ⟨k,hk⟩:∃ k:Int,zaD c (420+(0+(i:Int))) % (0+(i:Int)+1)=k:=⟨_,rfl⟩
    obtain ⟨k0,k1⟩:=ZW (by omega) hk
    have ek:zm xu (zt 2 zD (zc (zf 1) (zc (zm xD (eC (.int 420)) (zf 4)) zp))) (zm xD (zf 4) (eC (.int 1))) (visF [.v (zN m ts),.v (.int c),.v (.int mo),.o (O.map .int),.v (.int ((0:Int)+(i:Int)))])=some (.int k):=zC (x:=.int (zaD c (420+(0+(i:Int))))) (y:=.int (0+(i:Int)+1)) rfl rfl (by rw [xI (by omega),hk])
    refine vR (zls (ds:=O.map .int) (d:=.int ((0:Int)+(i:Int))) (k:=k) ek rfl rfl (by rw [List.length_map];omega) k0 (by omega)) ⟨O.take k.toNat++((0:Int)+(i:Int))::O.drop k.toNat,.v (.int ((0:Int)+(i:Int))),?_,?_,fun x=>?_⟩
    · show [Sl.v (zN m ts),.v (.int c),.v (.int mo),.o ((O.map D.int).take k.toNat++D.int ((0:Int)+(i:Int))::(O.map D.int).drop k.toNat),.v (.int ((0:Int)+(i:Int)))]=_
      rw [List.map_append,List.map_cons,List.map_take,List.map_drop]
    · rw [List.length_append,List.length_cons,List.length_take,List.length_drop]
      omega
    · have hx:=hO x
      have hmem:x∈O.take k.toNat++((0:Int)+(i:Int))::O.drop k.toNat↔x=(0:Int)+(i:Int)∨x∈O:=by
        rw [List.mem_append,List.mem_cons]
        have:x∈O↔x∈O.take k.toNat∨x∈O.drop k.toNat:=by rw [←List.mem_append,List.take_append_drop]
        rw [this]
        constructor
        · rintro (h | h | h)
          · exact .inr (.inl h)
          · exact .inl h
          · exact .inr (.inr h)
        · rintro (h | h | h)
          · exact .inr (.inl h)
          · exact .inl h
          · exact .inr (.inr h)
      rw [hmem,hx]
      omega
  · rintro ρ ⟨O,o4,rfl,hl,hO⟩
    refine zh4 (ρ':=[.v (zN m ts),.v (.int c),.v (.int mo),.v (.lst (O.map .int)),o4]) rfl ?_
    have hin:=hT.trIn ok
    refine ZQ (vH (zaH (ds:=[.lst ((rs0.filter fun r=>decide ((((O.findIdx? fun y=>y == r.1).getD 0:Nat):Int) < (((O.findIdx? fun y=>y == r.2.1).getD 0:Nat):Int))).map trD)]) (xJ (Y0 (zcP (c:=trD) (xs:=rs0) (zfy (wZ (ds:=[_,_,_]) rfl et) rfl) hT.len fun r hr=>⟨[some (trD r)],rfl,?_,fun _=>rfl⟩)) Y9) rfl)) ⟨_,fun x=>(((O.findIdx? fun y=>y == x).getD 0:Nat):Int),rfl,fun r hr=>of_decide_eq_true (List.mem_filter.mp hr).2⟩
    obtain ⟨q1,q2,-,-,-⟩:=hin r hr
    have g1:r.1∈O:=(hO _).mpr (by omega)
    have g2:r.2.1∈O:=(hO _).mpr (by omega)
    refine v7 (zC (x:=.int (((O.findIdx? fun y=>y == r.1).getD 0:Nat):Int)) (y:=.int (((O.findIdx? fun y=>y == r.2.1).getD 0:Nat):Int)) ?_ ?_ rfl)
    · show zib (.lst (O.map .int)) (.int r.1)=_
      exact zhU g1
    · show zib (.lst (O.map .int)) (.int r.2.1)=_
      exact zhU g2
theorem X5 (T:Txt K mg ad):xE P w K mg base CX0 3 ad.f__law_ringless ad.e__law_ringless ["web","cell","most"] (@spD ⟨K⟩ 3 vJ):=by
  letI:KK:=⟨K⟩
  have G__law_stir:=xP (P:=P) (w:=w) (base:=base) T
  have G__law_tally_by:=X4 (P:=P) (w:=w) (base:=base) T
  refine xj (N:=["web","cell","most","order","place"]) (ps:=["web","cell","most"]) T.d__law_ringless.fn ve (g:=yZ) fun cdv A outer s H E hr=>?_
  unfold yZ wF
  exact (zj (Y6 (i:=3) ve.nd rfl (Or.inr rfl) (ZF zh))
      (zj (Zi PassesOwn.never rfl rfl T.z_range (zb (zF (za 0 (pv 0)) (zd ze) (fun _ _=>rfl)) zh) (zU (zw (i:=4) ve.nd rfl (Or.inl rfl))) (zk (zkL (m:=false) (pv 3) (wk (zo (G__law_stir.mono (by decide)) hr rfl T.d__law_stir.at_ T.d__law_stir.kp T.d__law_stir.bd (zb (za 1 (pv 1)) (zb (yf (zd ze) (za 4 (pv 4))) zh))) (yf (za 4 (pv 4)) (zd ze))) (za 4 (pv 4)) (fun a b=>ZG PySem.F.plainAttrs_list PySem.F.slot_list_insert PySem.F.type_list_insert ze9 a b))))
      (XV 3 (zk (zB (xr zR xt rfl T.z_tuple ym (zb (vq (zez (L:=["row"]) (M:=["web","cell","most","order","place"]) rfl (vm (by rfl) (by rfl) (by rfl) (by with_unfolding_all rfl) (by rfl) (by rfl) (by kernel_rfl) (all_cons rfl y0)) (xU (zo (G__law_tally_by.mono (by decide)) hr rfl T.d__law_tally_by.at_ T.d__law_tally_by.kp T.d__law_tally_by.bd (zb (za 0 (pv 0)) (zb (za 1 (pv 1)) (zb (za 2 (pv 2)) zh))))) gs1 rb1 (fun _ _ _ _=>(zw (i:=0) zl1 rfl (Or.inl rfl) (.inr rfl))) (fun _ _ _ _=>(zJ zdG yq (zH _) (zat (za 4 (pv 4)) (zb (zF (za 0 (pv 0)) (zd ze) (fun _ _=>rfl)) zh) (fun a b=>ZG PySem.F.plainAttrs_list PySem.F.slot_list_index PySem.F.type_list_index (Wt hr) a b)) (zat (za 4 (pv 4)) (zb (zF (za 0 (pv 0)) (zd ze) (fun _ _=>rfl)) zh) (fun a b=>ZG PySem.F.plainAttrs_list PySem.F.slot_list_index PySem.F.type_list_index (Wt hr) a b)))) (fun _ _ _ _=>(za 0 (pv 0))))) zh)))))))
def Yo:SE→Ctl :=
  (zL (zjW (xEx (zjm 3 Yx (zc (zf 0) (zc (zf 1) (zc (zf 2) zp))))) (Zy (zt 3 Xl (zc (zf 0) (zc (zf 1) (zc (zf 2) zp))))) (hIn [5]))
    (yR (eUn Wk (eC (.int 2)))))
def vz:List D→Option D:=fnD 4 Yo
theorem zh6 {m:Int}{ts:List Tie}{h:Hl}{rs:List TR}(hx:Yx [zN m ts,hD h,.tup (rs.map trD)]=some 5):vz [zN m ts,hD h,.tup (rs.map trD)]=some (.int 5):=by
  refine Vx (ρ:=[.v (zN m ts),.v (hD h),.v (.tup (rs.map trD)),.no]) rfl ?_
  unfold Yo
  exact yp (ZQ (zgX (j:=5) hx rfl) rfl)
theorem za9 (T:Txt K mg ad):xE P w K mg base CX0 10 ad.f__law_came ad.e__law_came ["web","heap","tally"] (@spD ⟨K⟩ 3 vz):=by
  letI:KK:=⟨K⟩
  have G_in_order:=Vb (P:=P) (w:=w) (base:=base) T
  have X_in_order:=X2 (P:=P) (w:=w) (base:=base) T
  have O_in_order:=YU (P:=P) (w:=w) (base:=base) T
  have H_kinds:=Vy (P:=P) (w:=w) (base:=base) T
  have okj:∀ j,j∈[5]→j < 13∧zcI K (zlA ad) ad.x_StoneError (clT ad j) j:=by
    intro j hj
    simp only [List.mem_cons,List.not_mem_nil,or_false] at hj
    rcases hj with rfl
    · exact ⟨by decide,.of T.y_NoTally⟩
  have exj:∀ j d,(hIn [5]) j=some d→PySem.W.exmOne K (.ref (clT ad j)) (.ref ad.x_StoneError)=some true:=fun j d e=>(okj j (by unfold hIn at e;split at e <;> first | assumption | cases e)).2.exm
  refine xj (N:=["web","heap","tally","e"]) (ps:=["web","heap","tally"]) T.d__law_came.fn XO (g:=Yo) fun cdv A outer s H E hr=>?_
  unfold Yo
  exact (zj (zli (i:=3) rfl rfl rfl XO.nd rfl rfl rfl T.g_StoneError (fun ps W E0 hx=>(zap (zeD (zeT (X_in_order.mono (by decide)) hx hr rfl T.d_in_order.at_ T.d_in_order.kp T.d_in_order.bd (zb (za 0 (pv 0)) (zb (za 1 (pv 1)) (zb (za 2 (pv 2)) zh))))))) (fun ps W=>(zk (ZR (zo (G_in_order.mono (by decide)) hr rfl T.d_in_order.at_ T.d_in_order.kp T.d_in_order.bd (zb (za 0 (pv 0)) (zb (za 1 (pv 1)) (zb (za 2 (pv 2)) zh))))))) exj (fun ok ea=>Xy (zaZ (zgC (E:=fun _ _ _=>False) H_kinds (hr.mono (by decide)) rfl T.d__law_kinds.at_ T.d__law_kinds.kp T.d__law_kinds.bd ok (zq (pv 3) yB)))) (zgJ (ok:=_) okj))
      (zk (zB (zea (zd ze)))))
def zaR:SE→Ctl :=
  (sIf (xK (tOf (zm ltD (zm ixD (zf 4) (zf 9)) (eC (.int 0)))) (tOf (zm Xj (zm xu (zt 2 zD (zc (zf 1) (zc (eC (.int 30)) zp))) (eC (.int 2))) (eC (.int 0))))) (zL (xB false 10 (zm xD (zm xD (eSl slD (zf 6) yS (yA (zf 9))) (wW (zc (zm YW (zm ixD (zf 6) (zf 9)) (eC (.int 1))) zp))) (eSl slD (zf 6) (yA (zm xD (zf 9) (eC (.int 1)))) yS)))
    (sIf (tOf (zm neD (zt 3 vz (zc (zf 2) (zc (zf 10) (zc (zf 3) zp)))) (eC (.int 5)))) (yR (eC (.bl false))) zP)) zP)
def zaN:SE→Ctl :=
  (zL (Zf 8 (zcM 3 Ye (zc (zf 2) (zc (zf 6) (zc (zf 3) zp)))))
    (zL (sIf (Zt (tOf (zm zO (zt 3 vL (zc (zf 2) (zc (zf 6) (zc (zf 8) zp)))) (eC .non))) (tOf (zm neD (eFn Zo (zc (zf 8) zp)) (eFn zim (zc (xW (fLC (iOf (zf 3)) b1 yg (zm ixD (zf 0) (eC (.int 2))))) zp))))) (yR (eC (.bl false))) zP)
    (zL (sIf (tOf (zm gtD (eFn Zo (zc (xW (fLC (iOf (zf 3)) b1 (tOf (zm neD (zcC zjF (zf 9) (zc (eSl slD (zf 0) yS (yA (eC (.int 2)))) zp)) (zm ixD (zf 0) (eC (.int 2))))) (zf 0))) zp)) (eC (.int 0)))) (yR (eC (.bl false))) zP)
    (zL (sIf (tOf (zm zlB (zt 2 XF (zc (zf 6) (zc (zf 8) zp))) (zt 2 YC (zc (zf 6) (zc (zf 3) zp))))) (yR (eC (.bl false))) zP)
    (ZS false 8 (wW (zc (eC (.int 0)) (zc (eC (.int 0)) zp))))))))
def zaE:SE→Ctl :=
  (zL (xB false 2 (zt 2 vd (zc (zm xD (eC (.int 2)) (zm xu (zm y6 (zf 1) (eC (.int 64))) (eC (.int 7)))) (zc (zm y6 (zf 1) (eC (.int 448))) zp))))
    (zL (xB false 3 (zt 3 vJ (zc (zf 2) (zc (zf 1) (zc (eC (.int 4)) zp)))))
    (zL (xB false 4 (zt 2 YC (zc (zm zch (wW (zc (eC (.int 0)) zp)) (zm ixD (zf 2) (eC (.int 0)))) (zc (zf 3) zp))))
    (zL (xB false 5 (zt 3 vY (zc (zm ixD (zf 2) (eC (.int 0))) (zc (zf 1) (zc (eC (.int 9)) zp)))))
    (zL (xB false 6 (eFn zS (zc (xW (fLC (vK (zc (zf 4) (zc (zf 5) zp))) b2 yg (zm xD (eFn zhR (zc (eC (.int 0)) (zc (zm YW (eC (.int 0)) (zf 0)) zp))) (zm Yu (zf 1) (zm xu (zt 2 zD (zc (zf 3) (zc (eC (.int 30)) zp))) (eC (.int 2))))))) zp)))
    (zL (sIf (tOf (zm leD (eFn zim (zc (zf 6) zp)) (eC (.int 300)))) (zL (xM Zz (zc (eC (.int 2)) zp) (yo 7) zaN)
    (xM Zz (zc (zm ixD (zf 2) (eC (.int 0))) zp) (yo 9) zaR)) zP)
    (zL (xB false 11 (zm ixD (zm ixD (zf 2) (eC (.int 1))) (eUn Wk (eC (.int 1)))))
    (zL (xB false 12 (wW (zc (zm xD (zf 11) (wW (zc (eC (.int 1)) zp))) (zc (zm xD (eUn zhx (zf 11)) (wW (zc (eC (.int 1)) zp))) zp))))
    (sIf (tOf (zm neD (zt 3 vz (zc (zf 2) (zc (zm zch (wW (zc (eC (.int 9)) zp)) (zm ixD (zf 2) (eC (.int 0)))) (zc (zf 12) zp)))) (eC (.int 5)))) (yR (eC (.bl false))) zP)))))))))
def zg3:SE→Ctl :=
  (zL (Zv (iOf (zm xD (eSl slD (zf 0) yS (yA (eC (.int 8)))) (xW (xX (zc (eC (.int 0)) (zc (eC (.int 7)) (zc (eC (.int 14)) zp))))))) (yo 1) zaE)
    (yR (zm Xj (zt 3 Xl (zc (wW (zc (eC (.int 1)) (zc (wW zp) zp))) (zc (wW (zc (eC (.int 3)) zp)) (zc (wW zp) zp)))) (xW (xX zp)))))
def zkG:List D→Option D:=fnD 13 zg3
theorem zjj (q p:List Int):zlB (.tup (q.map .int)) (.tup (p.map .int))=some (.bl (!decide (q=p))):=by
  show (if (okE 20 (.lst (q.map .int))&&okE 20 (.lst (p.map .int)))=true then some (D.bl (!((List.zipWith (eqN 19) (q.map D.int) (p.map D.int)).all id&&(q.map D.int).length == (p.map D.int).length))) else none)=_
  rw [Wb,Wb,if_pos (show (true&&true)=true from rfl),zgo]
theorem zew (S:List Tie)(t:Tie):zjF (.lst (S.map zi)) (zi t)=some (.int ((S.count t:Nat):Int)):=by
  show (if okE 20 (zi t)=true∧(S.map zi).all (okE 20)=true then some (D.int (((S.map zi).countP fun e=>eqN 20 e (zi t):Nat):Int)) else none)=_
  rw [if_pos ⟨rfl,zbK S⟩,List.countP_map]
  congr 3
  unfold List.count
  congr 1
  funext s
  show eqN 20 (zi s) (zi t)=(s == t)
  rw [zaF,Bool.eq_iff_iff,decide_eq_true_eq,beq_iff_eq]
theorem zgS {t:Tie}:∀ {rs:List TR},(∀ q∈rs,trP q≠t)→(xY rs).count t=0:=fun {rs} h=>List.count_eq_zero.mpr fun hm=>by
  unfold xY at hm
  obtain ⟨q,hq,hr⟩:=List.mem_flatMap.mp hm
  exact h q hq (List.eq_of_mem_replicate hr).symm
theorem zis {r:TR}:∀ {rs:List TR},rs.Pairwise (fun a b=>ltP (trP a) (trP b))→r∈rs→(xY rs).count (trP r)=r.2.2.toNat:=by
  intro rs
  induction rs with
  | nil=>intro _ h;cases h
  | cons q rs ih =>
    intro hs hr
    rw [List.pairwise_cons] at hs
    show (List.replicate q.2.2.toNat (trP q)++xY rs).count (trP r)=_
    rw [List.count_append]
    rcases List.mem_cons.mp hr with rfl | hr
    · rw [List.count_replicate_self,zgS fun p hp e=>zda (hs.1 p hp) e.symm,Nat.add_zero]
    · rw [ih hs.2 hr,List.count_replicate,if_neg,Nat.zero_add]
      intro e
      exact zda (hs.1 r hr) (beq_iff_eq.mp e)
theorem W9:∀ {rs:List TR},(∀ r∈rs,0≤r.2.2)→(((xY rs).length:Nat):Int)=(rs.map fun r=>r.2.2).sum:=by
  intro rs
  induction rs with
  | nil=>intro _;rfl
  | cons r rs ih =>
    intro h
    have h1:=ih fun q hq=>h q (List.mem_cons_of_mem _ hq)
    have h2:=h r List.mem_cons_self
    show (((List.replicate r.2.2.toNat (trP r)++xY rs).length:Nat):Int)=r.2.2+(rs.map fun r=>r.2.2).sum
    rw [List.length_append,List.length_replicate,← h1]
    omega
theorem zje:∀ {rs:List TR},(∀ r∈rs,r.2.2≤4)→(xY rs).length≤4*rs.length:=by
  intro rs
  induction rs with
  | nil=>intro _;exact Nat.le_refl _
  | cons r rs ih =>
    intro h
    have h1:=ih fun q hq=>h q (List.mem_cons_of_mem _ hq)
    have h2:=h r List.mem_cons_self
    show (List.replicate r.2.2.toNat (trP r)++xY rs).length≤4*(rs.length+1)
    rw [List.length_append,List.length_replicate]
    omega
theorem zcJ (a:Int):neD (.int a) (.int a)=some (.bl false):=by
  show some (D.bl (!decide (a=a)))=_
  rw [decide_eq_true rfl]
  rfl
theorem zeN (ns:List Int):zim [.tup (ns.map .int)]=some (.int ns.sum):=by
  show ((zd7 (ns.map .int)).bind fun ns=>some (D.int ns.sum))=_
  rw [Wo]
  rfl
theorem zhO:∀ (l s:List Int),zd1 (l.map .int) (s.map .int)=(l.zip s).map zi:=by
  intro l
  induction l with
  | nil=>intro s;rfl
  | cons a l ih =>
    intro s
    cases s with
    | nil=>rfl
    | cons b s =>
      show D.tup [.int a,.int b]::zd1 (l.map .int) (s.map .int)=_
      rw [ih]
      rfl
def zig (e:Int)(p:Tie):Int:=(if 0 - p.1 > 0 then 0 - p.1 else 0)+p.2*e
theorem ziU {l s:List Int}{e x:Int}(h:l.length=s.length)(h0:0≤x)(h1:x < l.length):vAt ((l.zip s).map (zig e)) x=zig e (vAt l x,vAt s x):=by
  have hx:x.toNat < l.length:=by omega
  unfold vAt
  rw [Dl.getD_at (by rw [List.length_map,List.length_zip];omega),Dl.getD_at hx,Dl.getD_at (by omega),List.getElem_map,List.getElem_zip]
theorem zfD {e:Int}{p:Tie}(he:e=0∨e=1)(h:0≤p.2):0≤zig e p∧0≤zig e p+p.1:=by
  unfold zig
  rcases he with rfl | rfl <;> split <;> omega
theorem zjH {x m:Int}(h0:0≤m)(h1:m≤8):zch (.tup [.int x]) (.int m)=some (.tup ((List.replicate m.toNat x).map .int)):=by
  show (if [D.int x]≠[]∧-(2 ^ 63)≤m∧m < 2 ^ 63∧lim (1*m.toNat)=true then some (D.tup (List.replicate m.toNat [D.int x]).flatten) else none)=_
  rw [if_pos ⟨List.cons_ne_nil _ _,by omega,by omega,vS (by omega)⟩,List.map_replicate]
  congr 2
  induction m.toNat with
  | zero=>rfl
  | succ n ih=>rw [List.replicate_succ,List.replicate_succ,List.flatten_cons,ih];rfl
theorem zi4 {n:Nat}{a x:Int}(h0:0≤x)(h1:x < n):vAt (List.replicate n a) x=a:=by
  unfold vAt
  rw [Dl.getD_at (by rw [List.length_replicate];omega),List.getElem_replicate]
theorem zlf {s mo le:D}{z:Int}{m:Int}{ts:List Tie}{hs:Hl}{rs:List TR}{rank:Int→Int}{o7 o8 o9 o10 o11 o12:Sl}(ok:xy m ts)(hp:zgp m hs)(hT:Yn ts rs)(hrk:∀ r∈rs,rank r.1 < rank r.2.1)(hfin:∀ x,0≤x→x < m→0≤vAt hs x+tsd rs x)(hlen:(xY rs).length≤900)(h56:rs.length≤58){I B C:SE→Prop}{R:D→Prop}(hI:∀ o7 o8 o9 o10 o11 o12,I [.v s,.v (.int z),.v (zN m ts),.v (.tup (rs.map trD)),.v le,.v mo,.v (hD hs),o7,o8,o9,o10,o11,o12]):(zaN [.v s,.v (.int z),.v (zN m ts),.v (.tup (rs.map trD)),.v le,.v mo,.v (hD hs),o7,o8,o9,o10,o11,o12]).w I B C R:=by
  obtain ⟨T,eo,hpm,hcan⟩:=zc5 ok hp hT hrk hfin hlen h56
  have hin:=hT.trIn ok
  have hpr:=za7 hpm
  have hel:∀ e∈(xY T).map zi,zde e:=fun e he=>by obtain ⟨t,-,rfl⟩:=List.mem_map.mp he;exact .pair _ _
  obtain ⟨cw,ce⟩:=zeK 0 hcan
  have e1:=zbM ok hp.len hel
  rw [cw] at e1
  have e2:=zdT ok hp.len hel cw
  rw [ce] at e2
  have e3:=Va hp.len ok.hi hin
  have hl2:(xY T).length≤900:=by rw [hpr.length_eq];exact hlen
  unfold zaN
  refine zI (ρ':=[.v s,.v (.int z),.v (zN m ts),.v (.tup (rs.map trD)),.v le,.v mo,.v (hD hs),o7,.o ((xY T).map zi),o9,o10,o11,o12]) (Wx (zhI (ds:=[_,_,_]) rfl eo)) ?_
  have t1:tOf (zm zO (zt 3 vL (zc (zf 2) (zc (zf 6) (zc (zf 8) zp)))) (eC .non)) (visG [.v s,.v (.int z),.v (zN m ts),.v (.tup (rs.map trD)),.v le,.v mo,.v (hD hs),o7,.o ((xY T).map zi),o9,o10,o11,o12])=some false:=v7 (zC (x:=.non) (y:=.non) (wZ (ds:=[zN m ts,hD hs,.lst ((xY T).map zi)]) rfl e1) rfl rfl)
  have hlr:=W9 (rs:=rs) (fun r hr=>by have:=(hin r hr).2.2.2.1;omega)
  have t2:tOf (zm neD (eFn Zo (zc (zf 8) zp)) (eFn zim (zc (xW (fLC (iOf (zf 3)) b1 yg (zm ixD (zf 0) (eC (.int 2))))) zp))) (visG [.v s,.v (.int z),.v (zN m ts),.v (.tup (rs.map trD)),.v le,.v mo,.v (hD hs),o7,.o ((xY T).map zi),o9,o10,o11,o12])=some false:=by
    refine v7 (zC (x:=.int (((xY rs).length:Nat):Int)) (y:=.int (((xY rs).length:Nat):Int)) (zaH (ds:=[.lst ((xY T).map zi)]) rfl ?_) (zaH (ds:=[.lst ((rs.map fun r=>r.2.2).map .int)]) (xJ (Y0 ?_) Y9) ?_) (zcJ _))
    · show some (D.int ((((xY T).map zi).length:Nat):Int))=_
      rw [List.length_map,hpr.length_eq]
    · rw [List.map_map]
      exact VU (c:=trD) (xs:=rs) rfl hT.len fun r _=>⟨[some (trD r)],rfl,rfl,rfl⟩
    · rw [zgW,hlr]
  refine yp (Zn (c:=false) (zjK t1 t2) (fun z=>by cases z) (fun _=>vR rfl ?_))
  have t3:tOf (zm gtD (eFn Zo (zc (xW (fLC (iOf (zf 3)) b1 (tOf (zm neD (zcC zjF (zf 9) (zc (eSl slD (zf 0) yS (yA (eC (.int 2)))) zp)) (zm ixD (zf 0) (eC (.int 2))))) (zf 0))) zp)) (eC (.int 0))) (visG [.v s,.v (.int z),.v (zN m ts),.v (.tup (rs.map trD)),.v le,.v mo,.v (hD hs),o7,.o ((xY T).map zi),o9,o10,o11,o12])=some false:=by
    refine v7 (zC (x:=.int 0) (y:=.int 0) (zaH (ds:=[.lst ((rs.filter fun _=>false).map trD)]) (xJ (Y0 (zcP (c:=trD) (xs:=rs) rfl hT.len fun r hr=>⟨[some (trD r)],rfl,?_,fun _=>rfl⟩)) Y9) ?_) rfl rfl)
    · refine v7 (zC (x:=.int r.2.2) (y:=.int r.2.2) ?_ rfl (zcJ _))
      show zjF (.lst ((xY T).map zi)) (zi (trP r))=_
      rw [zew,hpr.count_eq,zis hT.srt hr]
      have:=(hin r hr).2.2.2.1
      rw [Int.toNat_of_nonneg (by omega)]
    · rw [List.filter_eq_nil_iff.mpr fun r _=>Bool.false_ne_true]
      rfl
  refine yp (Zn (c:=false) t3 (fun z=>by cases z) (fun _=>vR rfl ?_))
  refine yp (Zn (c:=false) (v7 (zC (x:=hD (yH hs rs)) (y:=hD (yH hs rs)) (wZ (ds:=[hD hs,.lst ((xY T).map zi)]) rfl e2) (wZ (ds:=[hD hs,.tup (rs.map trD)]) rfl e3) ((zjj _ _).trans (by rw [decide_eq_true rfl];rfl)))) (fun z=>by cases z) (fun _=>vR rfl ?_))
  exact vR (zcZ (ds:=(xY T).map zi) (d:=.tup [.int 0,.int 0]) rfl rfl (by rw [List.length_map];omega)) (hI _ _ _ _ _ _)
theorem zjd {ρ:Ev}{ns:List Int}{p:Int}(e4:zf 6 ρ=some (hD ns))(e5:zf 9 ρ=some (.int p))(h0:0≤p)(hp:p < ns.length)(hl:ns.length≤8) :
    zm xD (zm xD (eSl slD (zf 6) yS (yA (zf 9))) (wW (zc (zm YW (zm ixD (zf 6) (zf 9)) (eC (.int 1))) zp))) (eSl slD (zf 6) (yA (zm xD (zf 9) (eC (.int 1)))) yS) ρ=some (hD (zav ns p (vAt ns p - 1))):=by
  have o5:yA (zf 9) ρ=some (some p):=by unfold yA;rw [e5];rfl
  have hk:p.toNat < ns.length:=by omega
  have hpk:p=((p.toNat:Nat):Int):=by omega
  have hpk1:p+1=((p.toNat+1:Nat):Int):=by omega
  have o6:yA (zm xD (zf 9) (eC (.int 1))) ρ=some (some (p+1)):=by
    unfold yA
    rw [zC (x:=.int p) (y:=.int 1) (z:=.int (p+1)) e5 rfl rfl]
    rfl
  have a1:eSl slD (zf 6) yS (yA (zf 9)) ρ=some (.tup ((ns.take p.toNat).map .int)):=by
    unfold eSl
    rw [e4,o5]
    show some (D.tup (V7 (ns.map D.int) none (some p)))=_
    rw [hpk,zey,List.map_take,Int.toNat_natCast]
  have a3:eSl slD (zf 6) (yA (zm xD (zf 9) (eC (.int 1)))) yS ρ=some (.tup ((ns.drop (p.toNat+1)).map .int)):=by
    unfold eSl
    rw [e4,o6]
    show some (D.tup (V7 (ns.map D.int) (some (p+1)) none))=_
    rw [hpk1,zfJ,List.map_drop]
  have cat:∀ {a b:List D},a.length+b.length≤1000→xD (.tup a) (.tup b)=some (.tup (a++b)):=fun {a b} h=>by
    show (if lim (a.length+b.length)=true then some (D.tup (a++b)) else none)=_
    rw [if_pos (vS h)]
  refine zC (x:=.tup ((ns.take p.toNat++[vAt ns p - 1]).map .int)) (y:=.tup ((ns.drop (p.toNat+1)).map .int)) (zC (x:=.tup ((ns.take p.toNat).map .int)) (y:=.tup [.int (vAt ns p - 1)]) a1 (zkZ (xJ (zC (x:=.int (vAt ns p)) (y:=.int 1) (zC (x:=hD ns) (y:=.int p) e4 e5 (Zl h0 hp)) rfl rfl) Y9) (by show 1≤1000;decide)) ?_) a3 ?_
  · rw [cat (by rw [List.length_map,List.length_take];show _+1≤1000;omega),List.map_append]
    rfl
  · rw [cat (by simp only [List.length_map,List.length_append,List.length_take,List.length_drop,List.length_cons,List.length_nil];omega),← List.map_append]
    unfold zav hD
    rw [List.set_eq_take_append_cons_drop,if_pos hk,List.append_assoc]
    rfl
theorem ziB {s mo:D}{z e:Int}{m:Int}{ts:List Tie}{hs L:Hl}{rs:List TR}{rank:Int→Int}{i:Nat}{o7 o8 o10 o11 o12:Sl}(ok:xy m ts)(hp:zgp m hs)(hT:Yn ts rs)(hrk:∀ r∈rs,rank r.1 < rank r.2.1)(he:zaD z 30 % 2=e)(hL:(L.length:Int)=m)(hLs:∀ x,0≤x→x < m→vAt L x=tsd rs x)(hH:∀ x,0≤x→x < m→e=0→vAt L x < 0→vAt hs x=0 - vAt L x)(hi:i < m.toNat){I B C:SE→Prop}{R:D→Prop}(hI:∀ o7 o8 o9 o10 o11 o12,I [.v s,.v (.int z),.v (zN m ts),.v (.tup (rs.map trD)),.v (hD L),.v mo,.v (hD hs),o7,o8,o9,o10,o11,o12]):(zaR [.v s,.v (.int z),.v (zN m ts),.v (.tup (rs.map trD)),.v (hD L),.v mo,.v (hD hs),o7,o8,.v (.int ((0:Int)+(i:Int))),o10,o11,o12]).w I B C R:=by
  have hm8:=ok.hi
  obtain ⟨x,hx⟩:∃ x:Int,(0:Int)+(i:Int)=x:=⟨_,rfl⟩
  have x0:0≤x:=by omega
  have x1:x < m:=by omega
  rw [hx]
  unfold zaR
  have t1:tOf (zm ltD (zm ixD (zf 4) (zf 9)) (eC (.int 0))) (visG [.v s,.v (.int z),.v (zN m ts),.v (.tup (rs.map trD)),.v (hD L),.v mo,.v (hD hs),o7,o8,.v (.int x),o10,o11,o12])=some (decide (vAt L x < 0)):=v7 (zC (x:=.int (vAt L x)) (y:=.int 0) (zC (x:=hD L) (y:=.int x) rfl rfl (Zl x0 (by omega))) rfl rfl)
  have t2:tOf (zm Xj (zm xu (zt 2 zD (zc (zf 1) (zc (eC (.int 30)) zp))) (eC (.int 2))) (eC (.int 0))) (visG [.v s,.v (.int z),.v (zN m ts),.v (.tup (rs.map trD)),.v (hD L),.v mo,.v (hD hs),o7,o8,.v (.int x),o10,o11,o12])=some (decide (e=0)):=v7 (zC (x:=.int e) (y:=.int 0) (zC (x:=.int (zaD z 30)) (y:=.int 2) rfl rfl (by rw [xI (by decide),he])) rfl rfl)
  refine Zn (c:=decide (vAt L x < 0)&&decide (e=0)) (zj1 t1 t2) (fun c=>?_) (fun _=>vR rfl (hI _ _ _ _ _ _))
  rw [Bool.and_eq_true,decide_eq_true_eq,decide_eq_true_eq] at c
  obtain ⟨c1,c2⟩:=c
  have hv:=hH x x0 x1 c2 c1
  have hhl:=hp.len
  obtain ⟨ls,hls⟩:∃ ls,zav hs x (vAt hs x - 1)=ls:=⟨_,rfl⟩
  have ll:ls.length=hs.length:=by rw [←hls,Wh]
  have hp2:zgp m ls:=by
    refine ⟨by omega,fun v hvm=>?_,?_⟩
    · rw [←hls] at hvm
      rcases zhL hvm with rfl | h
      · omega
      · exact hp.nn v h
    · rw [←hls,zgQ x0 (by omega)]
      have:=hp.sum
      omega
  have el:=zjd (ρ:=visF [.v s,.v (.int z),.v (zN m ts),.v (.tup (rs.map trD)),.v (hD L),.v mo,.v (hD hs),o7,o8,.v (.int x),o10,o11,o12]) (ns:=hs) (p:=x) rfl rfl x0 (by omega) (by omega)
  rw [hls] at el
  refine zI (ρ':=[.v s,.v (.int z),.v (zN m ts),.v (.tup (rs.map trD)),.v (hD L),.v mo,.v (hD hs),o7,o8,.v (.int x),.v (hD ls),o11,o12]) (zce el) ?_
  have hmin:zaA (yH ls rs) < 0:=by
    have hv2:=VN x0 rs ls hp2.len (hT.trIn ok)
    have hlx:vAt ls x=vAt hs x - 1:=by rw [←hls,zgz x0 (by omega) x0,if_pos rfl]
    have hmem:vAt (yH ls rs) x∈yH ls rs:=zet x0 (by rw [wS];omega)
    have hLx:=hLs x x0 x1
    exact (zcV (List.ne_nil_of_mem hmem)).mpr ⟨_,hmem,by omega⟩
  have ec:=zh6 (zed (c:=false) ok hp2 hT (ZZ ok hT hrk) rfl (by rw [decide_eq_true hmin];rfl))
  exact Zn (c:=false) (v7 (zC (x:=.int 5) (y:=.int 5) (wZ (ds:=[zN m ts,hD ls,.tup (rs.map trD)]) rfl ec) rfl rfl)) (fun z=>by cases z) (fun _=>vR rfl (hI _ _ _ _ _ _))
theorem zfo {a b:Int}(h0:0≤a)(h1:a < b)(h2:b < 8):∃ ds,xx [.lst [zi (a,b),zi (b,a)]]=some (.tup ds):=by
  have h:=zdn ⟨a.toNat,by omega⟩ ⟨b.toNat,by omega⟩ (by show a.toNat < b.toNat;omega)
  unfold zhY at h
  rw [show ((a.toNat:Nat):Int)=a by omega,show ((b.toNat:Nat):Int)=b by omega] at h
  split at h
  · exact ⟨_,by assumption⟩
  · cases h
theorem zgG {α:Type}(xs:List α)(x:α):L2.atI (xs++[x]) (-1)=some x:=by
  have e:L2.ixN (xs++[x]).length (-1)=some xs.length:=by
    unfold L2.ixN
    rw [List.length_append]
    simp
    omega
  unfold L2.atI
  rw [e]
  simp
theorem zhV {s:D}{z:Int}{m:Int}{ts:List Tie}{o3 o4 o5 o6 o7 o8 o9 o10 o11 o12:Sl}(ok:xy m ts)(hne:ts≠[]){I B C:SE→Prop}{R:D→Prop}(hI:∀ o3 o4 o5 o6 o7 o8 o9 o10 o11 o12,I [.v s,.v (.int z),.v (zN m ts),o3,o4,o5,o6,o7,o8,o9,o10,o11,o12]) :
    (zL (xB false 11 (zm ixD (zm ixD (zf 2) (eC (.int 1))) (eUn Wk (eC (.int 1)))))
    (zL (xB false 12 (wW (zc (zm xD (zf 11) (wW (zc (eC (.int 1)) zp))) (zc (zm xD (eUn zhx (zf 11)) (wW (zc (eC (.int 1)) zp))) zp))))
    (sIf (tOf (zm neD (zt 3 vz (zc (zf 2) (zc (zm zch (wW (zc (eC (.int 9)) zp)) (zm ixD (zf 2) (eC (.int 0)))) (zc (zf 12) zp)))) (eC (.int 5)))) (yR (eC (.bl false))) zP)) [.v s,.v (.int z),.v (zN m ts),o3,o4,o5,o6,o7,o8,o9,o10,o11,o12]).w I B C R:=by
  have hm1:=ok.lo
  have hm8:=ok.hi
  obtain ⟨ts',t,hts⟩:∃ ts' t,ts=ts'++[t]:=⟨ts.dropLast,ts.getLast hne,(List.dropLast_concat_getLast hne).symm⟩
  have htm:t∈ts:=by rw [hts];exact List.mem_append_right _ List.mem_cons_self
  have r:=ok.rng t htm
  obtain ⟨b1,b2⟩:=zcv ok htm
  have e0:zm ixD (zm ixD (zf 2) (eC (.int 1))) (eUn Wk (eC (.int 1))) (visF [.v s,.v (.int z),.v (zN m ts),o3,o4,o5,o6,o7,o8,o9,o10,o11,o12])=some (zi t):=by
    refine zC (x:=.tup (ts.map zi)) (y:=.int (-1)) rfl rfl ?_
    show L2.atI (ts.map zi) (-1)=_
    rw [hts,List.map_append]
    exact zgG _ _
  refine zI (ρ':=[.v s,.v (.int z),.v (zN m ts),o3,o4,o5,o6,o7,o8,o9,o10,.v (zi t),o12]) (zce e0) ?_
  refine zI (ρ':=[.v s,.v (.int z),.v (zN m ts),o3,o4,o5,o6,o7,o8,o9,o10,.v (zi t),.v (.tup ([(t.1,t.2,1),(t.2,t.1,1)].map trD))]) (zce rfl) ?_
  have hT:Yn ts [(t.1,t.2,1),(t.2,t.1,1)]:=by
    refine ⟨fun q hq=>?_,List.pairwise_cons.mpr ⟨fun q hq=>?_,List.pairwise_singleton _ _⟩,by show 2≤1000;decide⟩
    · rcases List.mem_cons.mp hq with rfl | hq
      · exact ⟨by rw [b1];exact htm,by show (1:Int)≤1;decide,by show (1:Int)≤300;decide⟩
      · rw [List.mem_singleton.mp hq]
        exact ⟨by rw [b2];exact htm,by show (1:Int)≤1;decide,by show (1:Int)≤300;decide⟩
    · rw [List.mem_singleton.mp hq]
      show ltP (t.1,t.2) (t.2,t.1)
      unfold ltP
      exact .inl r.2.1
  have hp9:zgp m (List.replicate m.toNat 9):=by
    refine ⟨by rw [List.length_replicate];omega,fun v hv=>by rw [List.eq_of_mem_replicate hv];decide,?_⟩
    have:∀ n:Nat,(List.replicate n (9:Int)).sum=9*(n:Int):=fun n=>by
      induction n with
      | zero=>rfl
      | succ n ih=>rw [List.replicate_succ,List.sum_cons,ih];omega
    rw [this]
    omega
  obtain ⟨ds,er⟩:=zfo r.1 r.2.1 (by omega)
  have ec:=zh6 (zed (c:=true) ok hp9 hT er rfl rfl)
  exact Zn (c:=false) (v7 (zC (x:=.int 5) (y:=.int 5) (wZ (ds:=[zN m ts,hD (List.replicate m.toNat 9),.tup ([(t.1,t.2,1),(t.2,t.1,1)].map trD)]) (xJ rfl (xJ (zC (x:=.tup [.int 9]) (y:=.int m) rfl rfl (zjH (by omega) hm8)) (xJ rfl Y9))) ec) rfl rfl)) (fun z=>by cases z) (fun _=>vR rfl (hI _ _ _ _ _ _ _ _ _ _))
theorem zjy (s:D)(z:Int)(o2 o3 o4 o5 o6 o7 o8 o9 o10 o11 o12:Sl)(n b:SE→Prop)(r:D→Prop)(I:SE→Prop)(hI:∀ o2 o3 o4 o5 o6 o7 o8 o9 o10 o11 o12,I [.v s,.v (.int z),o2,o3,o4,o5,o6,o7,o8,o9,o10,o11,o12]):(zaE [.v s,.v (.int z),o2,o3,o4,o5,o6,o7,o8,o9,o10,o11,o12]).w I b n r:=by
  obtain ⟨q,hq⟩:∃ q:Int,z / 64 % 7=q:=⟨_,rfl⟩
  obtain ⟨q0,q1⟩:=ZW (by decide) hq
  obtain ⟨m,hm⟩:∃ m:Int,2+q=m:=⟨_,rfl⟩
  have hm2:2≤m:=by omega
  have hm8:m≤8:=by omega
  obtain ⟨ts,ew,ok,has⟩:=zbN (n:=m) (c:=z / 448) (by omega) (by omega)
  have hne:ts≠[]:=by
    obtain ⟨t,ht,-⟩:=has 1 (by decide) (by omega)
    intro e
    rw [e] at ht
    cases ht
  obtain ⟨rs0,p,rank,-,⟨hT0,h56,h4⟩,er,hrk⟩:=zb3 (c:=z) (mo:=4) ok (by decide) (by decide)
  obtain ⟨rs,hrs⟩:∃ rs,rs0.filter p=rs:=⟨_,rfl⟩
  have hT:Yn ts rs:=by rw [←hrs];exact hT0.filter p
  have hlr:rs.length≤56:=by rw [←hrs];exact Nat.le_trans (List.length_filter_le _ _) h56
  have hrep:(xY rs).length≤900:=by
    have:=zje (rs:=rs) fun r hr=>h4 r (by rw [←hrs] at hr;exact (List.mem_filter.mp hr).1)
    omega
  rw [hrs] at er hrk
  have hin:=hT.trIn ok
  obtain ⟨L,hL⟩:∃ L,yH (List.replicate m.toNat 0) rs=L:=⟨_,rfl⟩
  have z0:((List.replicate m.toNat (0:Int)).length:Int)=m:=by rw [List.length_replicate];omega
  have eL:=Va (hs:=List.replicate m.toNat 0) z0 hm8 hin
  rw [hL] at eL
  have hLl:(L.length:Int)=m:=by rw [←hL,wS];exact z0
  have hLs:∀ x,0≤x→x < m→vAt L x=tsd rs x:=fun x x0 x1=>by
    rw [←hL,VN x0 rs _ z0 hin,zi4 x0 (by omega)]
    omega
  obtain ⟨mo,eh,hml,hmn,-⟩:=zdA (n:=m) (c:=z) (mo:=9) (by omega) (by omega) (by decide) (by decide)
  obtain ⟨e,he⟩:∃ e:Int,zaD z 30 % 2=e:=⟨_,rfl⟩
  have he2:e=0∨e=1:=by
    obtain ⟨a,b⟩:=ZW (by decide) he
    omega
  obtain ⟨hs,hhs⟩:∃ hs,(L.zip mo).map (zig e)=hs:=⟨_,rfl⟩
  have hlm:L.length=mo.length:=by omega
  have hsl:(hs.length:Int)=m:=by rw [←hhs,List.length_map,List.length_zip];omega
  have hv:∀ x,0≤x→x < m→vAt hs x=zig e (vAt L x,vAt mo x):=fun x x0 x1=>by rw [←hhs];exact ziU hlm x0 (by omega)
  unfold zaE
  refine zI (ρ':=[.v s,.v (.int z),.v (zN m ts),o3,o4,o5,o6,o7,o8,o9,o10,o11,o12]) (wN (ds:=[.int m,.int (z / 448)]) (xJ (zC (x:=.int 2) (y:=.int q) rfl (zC (x:=.int (z / 64)) (y:=.int 7) (zC (x:=.int z) (y:=.int 64) rfl rfl (Wd (by decide) (by decide))) rfl (by rw [xI (by decide),hq])) (by rw [zV,hm])) (xJ (zC (x:=.int z) (y:=.int 448) rfl rfl (Wd (by decide) (by decide))) Y9)) ew) ?_
  refine zI (ρ':=[.v s,.v (.int z),.v (zN m ts),.v (.tup (rs.map trD)),o4,o5,o6,o7,o8,o9,o10,o11,o12]) (wN (ds:=[_,_,_]) rfl er) ?_
  refine zI (ρ':=[.v s,.v (.int z),.v (zN m ts),.v (.tup (rs.map trD)),.v (hD L),o5,o6,o7,o8,o9,o10,o11,o12]) (wN (ds:=[.tup ((List.replicate m.toNat (0:Int)).map .int),.tup (rs.map trD)]) (xJ (zC (x:=.tup [.int 0]) (y:=.int m) rfl rfl (zjH (by omega) hm8)) (xJ rfl Y9)) eL) ?_
  refine zI (ρ':=[.v s,.v (.int z),.v (zN m ts),.v (.tup (rs.map trD)),.v (hD L),.v (hD mo),o6,o7,o8,o9,o10,o11,o12]) (wN (ds:=[.int m,.int z,.int 9]) rfl eh) ?_
  have ez:vK (zc (zf 4) (zc (zf 5) zp)) (visF [.v s,.v (.int z),.v (zN m ts),.v (.tup (rs.map trD)),.v (hD L),.v (hD mo),o6,o7,o8,o9,o10,o11,o12])=some ((L.zip mo).map zi):=by
    show (if (L.map D.int).length≤(mo.map D.int).length then some (zd1 (L.map D.int) (mo.map D.int)) else none)=_
    rw [if_pos (by rw [List.length_map,List.length_map];omega),zhO]
  have e6:eFn zS (zc (xW (fLC (vK (zc (zf 4) (zc (zf 5) zp))) b2 yg (zm xD (eFn zhR (zc (eC (.int 0)) (zc (zm YW (eC (.int 0)) (zf 0)) zp))) (zm Yu (zf 1) (zm xu (zt 2 zD (zc (zf 3) (zc (eC (.int 30)) zp))) (eC (.int 2))))))) zp) (visF [.v s,.v (.int z),.v (zN m ts),.v (.tup (rs.map trD)),.v (hD L),.v (hD mo),o6,o7,o8,o9,o10,o11,o12])=some (hD hs):=by
    refine zaH (ds:=[.lst (hs.map .int)]) (xJ (Y0 ?_) Y9) rfl
    rw [←hhs,List.map_map]
    refine VU (c:=zi) (xs:=L.zip mo) ez (by rw [List.length_zip];omega) fun t _=>⟨[some (.int t.1),some (.int t.2)],rfl,rfl,?_⟩
    exact zC (x:=.int (if 0 - t.1 > 0 then 0 - t.1 else 0)) (y:=.int (t.2*e)) rfl (zC (x:=.int t.2) (y:=.int e) rfl (zC (x:=.int (zaD z 30)) (y:=.int 2) rfl rfl (by rw [xI (by decide),he])) (ZL (zbU (by rcases he2 with h | h <;> rw [h] <;> decide) (by rcases he2 with h | h <;> rw [h] <;> decide)))) rfl
  refine zI (ρ':=[.v s,.v (.int z),.v (zN m ts),.v (.tup (rs.map trD)),.v (hD L),.v (hD mo),.v (hD hs),o7,o8,o9,o10,o11,o12]) (zce e6) ?_
  have hmo:∀ x,0≤x→x < m→0≤vAt mo x:=fun x x0 x1=>hmn _ (zet x0 (by omega))
  refine yp (Zn (c:=decide (hs.sum≤300)) (v7 (zC (x:=.int hs.sum) (y:=.int 300) (zaH (ds:=[hD hs]) rfl (zeN hs)) rfl rfl)) (fun c=>?_) (fun _=>vR rfl (zhV ok hne fun _ _ _ _ _ _ _ _ _ _=>hI _ _ _ _ _ _ _ _ _ _ _)))
  have hp:zgp m hs:=by
    refine ⟨hsl,fun v hvm=>?_,of_decide_eq_true c⟩
    obtain ⟨i,hi,ee⟩:=List.mem_iff_getElem.mp hvm
    have h1:vAt hs (i:Int)=v:=by
      unfold vAt
      rw [Int.toNat_natCast,Dl.getD_at hi,ee]
    rw [←h1,hv _ (Int.natCast_nonneg i) (by omega)]
    exact (zfD he2 (hmo _ (Int.natCast_nonneg i) (by omega))).1
  have hfin:∀ x,0≤x→x < m→0≤vAt hs x+tsd rs x:=fun x x0 x1=>by
    rw [hv x x0 x1,← hLs x x0 x1]
    exact (zfD he2 (hmo x x0 x1)).2
  refine yp (Ww (lo:=0) (c:=2) (fun _ ρ=>∃ o7 o8 o9 o10 o11 o12:Sl,ρ=[.v s,.v (.int z),.v (zN m ts),.v (.tup (rs.map trD)),.v (hD L),.v (hD mo),.v (hD hs),o7,o8,o9,o10,o11,o12]) (show Zz [.int 2]=some (XY 0 2) from vy (by decide) (by decide)) ⟨_,_,_,_,_,_,rfl⟩ ?_ ?_)
  · rintro i ρ hi ⟨o7,o8,o9,o10,o11,o12,rfl⟩
    exact ⟨_,rfl,zlf ok hp hT hrk hfin hrep (by omega) fun _ _ _ _ _ _=>⟨_,_,_,_,_,_,rfl⟩⟩
  · rintro ρ ⟨o7,o8,o9,o10,o11,o12,rfl⟩
    refine Ww (lo:=0) (c:=m.toNat) (fun _ ρ=>∃ o7 o8 o9 o10 o11 o12:Sl,ρ=[.v s,.v (.int z),.v (zN m ts),.v (.tup (rs.map trD)),.v (hD L),.v (hD mo),.v (hD hs),o7,o8,o9,o10,o11,o12]) (show Zz [.int m]=some (XY 0 m.toNat) from vy (by omega) (by omega)) ⟨_,_,_,_,_,_,rfl⟩ ?_ ?_
    · rintro i ρ hi ⟨o7,o8,o9,o10,o11,o12,rfl⟩
      refine ⟨_,rfl,ziB ok hp hT hrk he hLl hLs (fun x x0 x1 e0 l0=>?_) hi fun _ _ _ _ _ _=>⟨_,_,_,_,_,_,rfl⟩⟩
      rw [hv x x0 x1,e0]
      unfold zig
      rw [if_pos (by show 0 - vAt L x > 0;omega),Int.mul_zero,Int.add_zero]
    · rintro ρ ⟨o7,o8,o9,o10,o11,o12,rfl⟩
      exact zhV ok hne fun _ _ _ _ _ _ _ _ _ _=>hI _ _ _ _ _ _ _ _ _ _ _
theorem zhu (ns:List Int)(h:ns.length≤63):zkG [.scr ns]=some (.bl true):=by
  refine Vx (ρ:=[.v (.scr ns),.no,.no,.no,.no,.no,.no,.no,.no,.no,.no,.no,.no]) rfl ?_
  unfold zg3
  obtain ⟨xs,hxs⟩:∃ xs:List Int,(V7 ns none (some 8))++[0,7,14]=xs:=⟨_,rfl⟩
  have hl:((V7 ns none (some 8)).map D.int).length+[D.int 0,.int 7,.int 14].length≤1000:=by rw [List.length_map];have:=zgM ns none (some 8);show _+3≤1000;omega
  refine yp (Vo (ds:=xs.map .int) (fun i ρ=>∃ o1 o2 o3 o4 o5 o6 o7 o8 o9 o10 o11 o12,ρ=[.v (.scr ns),o1,o2,o3,o4,o5,o6,o7,o8,o9,o10,o11,o12]) ?_ ⟨_,_,_,_,_,_,_,_,_,_,_,_,rfl⟩ ?_ ?_)
  · refine zfy (d:=.lst (xs.map .int)) (zC (x:=.lst ((V7 ns none (some 8)).map D.int)) (y:=.lst [.int 0,.int 7,.int 14]) rfl rfl ?_) rfl
    rw [zdb hl,← hxs,List.map_append]
    rfl
  · rintro i d ρ hd ⟨o1,o2,o3,o4,o5,o6,o7,o8,o9,o10,o11,o12,rfl⟩
    rw [List.getElem?_map] at hd
    obtain ⟨z,hz,rfl⟩:=Option.map_eq_some_iff.mp hd
    exact ⟨_,rfl,zjy _ _ _ _ _ _ _ _ _ _ _ _ _ _ _ _ _ fun _ _ _ _ _ _ _ _ _ _ _=>⟨_,_,_,_,_,_,_,_,_,_,_,_,rfl⟩⟩
  · rintro ρ ⟨o1,o2,o3,o4,o5,o6,o7,o8,o9,o10,o11,o12,rfl⟩
    have okw:xy 1 []:=⟨by decide,by decide,(fun t h=>nomatch h),List.Pairwise.nil⟩
    have okt:Yn [] []:=⟨(fun r h=>nomatch h),List.Pairwise.nil,by decide⟩
    have h3:zgp 1 [3]:=⟨rfl,(fun v hv=>by cases List.mem_singleton.mp hv;decide),by decide⟩
    obtain ⟨T,eo,hp,-⟩:=zc5 (rank:=fun x=>x) okw h3 okt (fun r h=>nomatch h) (fun x x0 x1=>by
      obtain rfl:x=0:=by omega
      decide) (by decide) (by decide)
    rw [hp.eq_nil] at eo
    refine ZQ (vH (zC (x:=.lst []) (y:=.lst []) (wZ (ds:=[zN 1 [],hD [3],.tup []]) rfl ?_) rfl rfl)) rfl
    show (Ye [zN 1 [],hD [3],.tup ([].map trD)]).map D.lst=_
    rw [eo]
    rfl
theorem zkA (T:Txt K mg ad):xE P w K mg base CX0 20 ad.f_law ad.e_law ["script"] (zgm K):=by
  letI:KK:=⟨K⟩
  have G_in_order:=Vb (P:=P) (w:=w) (base:=base) T
  have X_in_order:=X2 (P:=P) (w:=w) (base:=base) T
  have O_in_order:=YU (P:=P) (w:=w) (base:=base) T
  have G__law_stir:=xP (P:=P) (w:=w) (base:=base) T
  have G__law_joined_by:=Xs (P:=P) (w:=w) (base:=base) T
  have G__law_ringless:=X5 (P:=P) (w:=w) (base:=base) T
  have G__law_left:=zbv (P:=P) (w:=w) (base:=base) T
  have G__law_heap_by:=Wy (P:=P) (w:=w) (base:=base) T
  have G__law_wrong:=V5 (P:=P) (w:=w) (base:=base) T
  have G__law_end:=zcc (P:=P) (w:=w) (base:=base) T
  have G__law_came:=za9 (P:=P) (w:=w) (base:=base) T
  refine (zkc (p:=zkG) (xj (N:=["script","cell","web","tally","left_v","more","heap","turn","found","place","less","tie","ring"]) (ps:=["script"]) T.d_law.fn Yf (g:=zg3) fun cdv A outer s H E hr=>?_) zhu).mono (j:=11) (by decide)
  unfold zg3 zaE zaN zaR
  exact (zj (Zq PassesOwn.never rfl (xU (yf (wb (za 0 (pv 0)) vF (vA (zd ze))) (vq (ZF (zb (zd ze) (zb (zd ze) (zb (zd ze) zh))))))) (zU (zw (i:=1) Yf.nd rfl (Or.inr rfl))) (zj (yb (m:=false) (i:=2) Yf.nd rfl (Or.inl rfl) (zo (G__law_joined_by.mono (by decide)) hr rfl T.d__law_joined_by.at_ T.d__law_joined_by.kp T.d__law_joined_by.bd (zb (yf (zd ze) (wk (ZJ (za 1 (pv 1)) (zd ze)) (zd ze))) (zb (ZJ (za 1 (pv 1)) (zd ze)) zh))))
      (zj (yb (m:=false) (i:=3) Yf.nd rfl (Or.inl rfl) (zo (G__law_ringless.mono (by decide)) hr rfl T.d__law_ringless.at_ T.d__law_ringless.kp T.d__law_ringless.bd (zb (za 2 (pv 2)) (zb (za 1 (pv 1)) (zb (zd ze) zh)))))
      (zj (yb (m:=false) (i:=4) Yf.nd rfl (Or.inl rfl) (zo (G__law_left.mono (by decide)) hr rfl T.d__law_left.at_ T.d__law_left.kp T.d__law_left.bd (zb (zgj (xm (zb (zd ze) zh)) (zF (za 2 (pv 2)) (zd ze) (fun _ _=>rfl))) (zb (za 3 (pv 3)) zh))))
      (zj (yb (m:=false) (i:=5) Yf.nd rfl (Or.inl rfl) (zo (G__law_heap_by.mono (by decide)) hr rfl T.d__law_heap_by.at_ T.d__law_heap_by.kp T.d__law_heap_by.bd (zb (zF (za 2 (pv 2)) (zd ze) (fun _ _=>rfl)) (zb (za 1 (pv 1)) (zb (zd ze) zh)))))
      (zj (yb (m:=false) (i:=6) Yf.nd rfl (Or.inl rfl) (xr zR xt rfl T.z_tuple ym (zb (vq (Y8 (L:=["number","some"]) (M:=["script","cell","web","tally","left_v","more","heap","turn","found","place","less","tie","ring"]) rfl (vm (by rfl) (by rfl) (by rfl) (by with_unfolding_all rfl) (by rfl) (by rfl) (by kernel_rfl) (all_cons rfl y0)) (zlb rfl T.z_zip (zb (za 4 (pv 4)) (zb (za 5 (pv 5)) zh))) gs2 rb2 (fun _ _ _ _=>(zfc rfl (Xi (zw (i:=0) zia rfl (Or.inl rfl) (.inr rfl)) (Xi (zw (i:=1) zia rfl (Or.inl rfl) (.inr rfl)) zcG)))) (fun _ _ _ _=>(yf (zK (zbf rfl) zc9 rfl T.z_max zeI (zb (zd ze) (zb (Z5 (zd ze) (za 0 (pv 0))) zh))) (XM (za 1 (pv 1)) (wk (zo (G__law_stir.mono (by decide)) hr rfl T.d__law_stir.at_ T.d__law_stir.kp T.d__law_stir.bd (zb (za 3 (pv 3)) (zb (zd ze) zh))) (zd ze))))))) zh)))
      (zj (xo (zJ zdk yq (zH _) (zK (WZ rfl) zbS rfl T.z_sum zeM (zb (za 6 (pv 6)) zh)) (zd ze)) (zj (Zi PassesOwn.never rfl rfl T.z_range (zb (zd ze) zh) (zU (zw (i:=7) Yf.nd rfl (Or.inl rfl))) (zj (Y6 (i:=8) Yf.nd rfl (Or.inr rfl) (zjw (O_in_order.mono (by decide)) hr rfl T.d_in_order.at_ T.d_in_order.kp T.d_in_order.bd (zb (za 2 (pv 2)) (zb (za 6 (pv 6)) (zb (za 3 (pv 3)) zh)))))
      (zj (xo (zb5 (Vp (zJ WK Xu (zH _) (zo (G__law_wrong.mono (by decide)) hr rfl T.d__law_wrong.at_ T.d__law_wrong.kp T.d__law_wrong.bd (zb (za 2 (pv 2)) (zb (za 6 (pv 6)) (zb (za 8 (pv 8)) zh)))) (zby zbJ)) (Xb (zJ WF ZC (zH _) (zK zW v4 rfl T.z_len ZB (zb (za 8 (pv 8)) zh)) (zK (WZ rfl) zbS rfl T.z_sum zeM (zb (vq (Y8 (L:=["row"]) (M:=["script","cell","web","tally","left_v","more","heap","turn","found","place","less","tie","ring"]) rfl (vm (by rfl) (by rfl) (by rfl) (by with_unfolding_all rfl) (by rfl) (by rfl) (by kernel_rfl) y0) (xU (za 3 (pv 3))) gs1 rb1 (fun _ _ _ _=>(zw (i:=0) zh5 rfl (Or.inl rfl) (.inr rfl))) (fun _ _ _ _=>(zF (za 0 (pv 0)) (zd ze) (fun _ _=>rfl))))) zh)))))) (zk (zB (YE vZ))) zG)
      (zj (xo (zJ zee yq (zH _) (zK zW v4 rfl T.z_len ZB (zb (vq (zez (L:=["row"]) (M:=["script","cell","web","tally","left_v","more","heap","turn","found","place","less","tie","ring"]) rfl (vm (by rfl) (by rfl) (by rfl) (by with_unfolding_all rfl) (by rfl) (by rfl) (by kernel_rfl) (all_cons rfl y0)) (xU (za 3 (pv 3))) gs1 rb1 (fun _ _ _ _=>(zw (i:=0) zh5 rfl (Or.inl rfl) (.inr rfl))) (fun _ _ _ _=>(zJ WF ZC (zH _) (zhQ (za 9 (pv 9)) (zb (wb (za 0 (pv 0)) vF (vA (zd ze))) zh) (fun a b=>ZG PySem.F.plainAttrs_list PySem.F.slot_list_count PySem.F.type_list_count (ze1 hr) a b)) (zF (za 0 (pv 0)) (zd ze) (fun _ _=>rfl)))) (fun _ _ _ _=>(za 0 (pv 0))))) zh)) (zd ze)) (zk (zB (YE vZ))) zG)
      (zj (xo (zJ (zlh hr) zja (zH _) (zo (G__law_end.mono (by decide)) hr rfl T.d__law_end.at_ T.d__law_end.kp T.d__law_end.bd (zb (za 6 (pv 6)) (zb (za 8 (pv 8)) zh))) (zo (G__law_left.mono (by decide)) hr rfl T.d__law_left.at_ T.d__law_left.kp T.d__law_left.bd (zb (za 6 (pv 6)) (zb (za 3 (pv 3)) zh)))) (zk (zB (YE vZ))) zG)
      (zk (W2 (m:=false) (pv 8) (xm (zb (zd ze) (zb (zd ze) zh))) (fun a b=>ZG PySem.F.plainAttrs_list PySem.F.slot_list_append PySem.F.type_list_append vE a b))))))))
      (zk (Zi PassesOwn.never rfl rfl T.z_range (zb (zF (za 2 (pv 2)) (zd ze) (fun _ _=>rfl)) zh) (zU (zw (i:=9) Yf.nd rfl (Or.inl rfl))) (zk (xo (zb5 (VP (zJ zdG yq (zH _) (zF (za 4 (pv 4)) (za 9 (pv 9)) (fun _ _=>rfl)) (zd ze)) (Xx (zJ (YH hr) w6 (zH _) (wk (zo (G__law_stir.mono (by decide)) hr rfl T.d__law_stir.at_ T.d__law_stir.kp T.d__law_stir.bd (zb (za 1 (pv 1)) (zb (zd ze) zh))) (zd ze)) (zd ze))))) (zj (yb (m:=false) (i:=10) Yf.nd rfl (Or.inl rfl) (yf (yf (wb (za 6 (pv 6)) vF (vA (za 9 (pv 9)))) (xm (zb (Z5 (zF (za 6 (pv 6)) (za 9 (pv 9)) (fun _ _=>rfl)) (zd ze)) zh))) (wb (za 6 (pv 6)) (vA (yf (za 9 (pv 9)) (zd ze))) vF)))
      (zk (xo (zJ WF ZC (zH _) (zo (G__law_came.mono (by decide)) hr rfl T.d__law_came.at_ T.d__law_came.kp T.d__law_came.bd (zb (za 2 (pv 2)) (zb (za 10 (pv 10)) (zb (za 3 (pv 3)) zh)))) (zd ze)) (zk (zB (YE vZ))) zG))) zG))))) zG)
      (zj (yb (m:=false) (i:=11) Yf.nd rfl (Or.inl rfl) (zF (zF (za 2 (pv 2)) (zd ze) (fun _ _=>rfl)) (zea (zd ze)) (fun _ _=>rfl)))
      (zj (yb (m:=false) (i:=12) Yf.nd rfl (Or.inl rfl) (xm (zb (yf (za 11 (pv 11)) (xm (zb (zd ze) zh))) (zb (yf (zjb (za 11 (pv 11)) (zi1 zeO ze)) (xm (zb (zd ze) zh))) zh))))
      (zk (xo (zJ WF ZC (zH _) (zo (G__law_came.mono (by decide)) hr rfl T.d__law_came.at_ T.d__law_came.kp T.d__law_came.bd (zb (za 2 (pv 2)) (zb (zgj (xm (zb (zd ze) zh)) (zF (za 2 (pv 2)) (zd ze) (fun _ _=>rfl))) (zb (za 12 (pv 12)) zh)))) (zd ze)) (zk (zB (YE vZ))) zG)))))))))))
      (zk (zB (XJ (YH hr) w6 (zH _) (zo (G_in_order.mono (by decide)) hr rfl T.d_in_order.at_ T.d_in_order.kp T.d_in_order.bd (zb (xm (zb (zd ze) (zb (xm zh) zh))) (zb (xm (zb (zd ze) zh)) (zb (xm zh) zh)))) (vq (ZF zh))))))
end
theorem zar {us:List Value}(h:us.length=1):∃ x0,us=[x0]:=by
  cases us with
  | nil=>cases h
  | cons x0 us =>
    cases us with
    | nil=>exact ⟨x0,rfl⟩
    | cons _ _=>cases h
theorem Yk {us:List Value}(h:us.length=2):∃ x0 x1,us=[x0,x1]:=by
  cases us with
  | nil=>cases h
  | cons x0 us =>
    cases us with
    | nil=>cases h
    | cons x1 us =>
      cases us with
      | nil=>exact ⟨x0,x1,rfl⟩
      | cons _ _=>cases h
theorem zcw {us:List Value}(h:us.length=3):∃ x0 x1 x2,us=[x0,x1,x2]:=by
  cases us with
  | nil=>cases h
  | cons x0 us =>
    cases us with
    | nil=>cases h
    | cons x1 us =>
      cases us with
      | nil=>cases h
      | cons x2 us =>
        cases us with
        | nil=>exact ⟨x0,x1,x2,rfl⟩
        | cons _ _=>cases h
theorem all_mk {l:PySem.W.OpenLaw} {w:World} {K:PySem.W.Frag} {h:Heap} {mg:Str→Option Value} {fa f0 f1 f2 f3 f4 f5 f6 f7 f8 f9 f10 f11 f12 f13 f14 f15 f16 f17 f18 f19 f20 f21 f22 f23 f24 f25 f26 f27 f28 f29 f30 f31 f32 f33 f34 f35:Addr} (X:K.In h) (G:h.Ns mainGlobals mg) (hfa:mg "law"=some (.ref fa))
    {od0 an0 od1 an1 od2 an2 od3 an3 od4 an4 od5 an5 od6 an6 od7 an7 od8 an8 od9 an9 od10 an10 od11 an11 od12 an12 od13 an13 od14 an14 od15 an15 od16 an16 od17 an17 od18 an18 od19 an19 od20 an20 od21 an21 od22 an22 od23 an23 od24 an24 od25 an25 od26 an26 od27 an27 od28 an28 od29 an29 od30 an30 od31 an31 od32 an32 od33 an33 od34 an34 od35 an35:Option Addr} {sl0 sl1 sl2 sl3 sl4 sl5 sl6 sl7 sl8 sl9 sl10 sl11 sl12 sl13 sl14 sl15 sl16 sl17 sl18 sl19 sl20 sl21 sl22 sl23 sl24 sl25 sl26 sl27 sl28 sl29 sl30 sl31 sl32 sl33 sl34 sl35:Array (Option Value)} {oc0 kV0 dc0 pm0 cd0 ct0 oc1 kV1 dc1 pm1 cd1 ct1 oc2 kV2 dc2 pm2 cd2 ct2 oc3 kV3 dc3 pm3 cd3 ct3 oc4 kV4 dc4 pm4 cd4 ct4 oc5 kV5 dc5 pm5 cd5 ct5 oc6 kV6 dc6 pm6 cd6 ct6 oc7 kV7 dc7 pm7 cd7 ct7 oc8 kV8 dc8 pm8 cd8 ct8 oc9 kV9 dc9 pm9 cd9 ct9 oc10 kV10 dc10 pm10 cd10 ct10 oc11 kV11 dc11 pm11 cd11 ct11 oc12 kV12 dc12 pm12 cd12 ct12 oc13 kV13 dc13 pm13 cd13 ct13 oc14 kV14 dc14 pm14 cd14 ct14 oc15 kV15 dc15 pm15 cd15 ct15 oc16 kV16 dc16 pm16 cd16 ct16 oc17 kV17 dc17 pm17 cd17 ct17 oc18 kV18 dc18 pm18 cd18 ct18 oc19 kV19 dc19 pm19 cd19 ct19 oc20 kV20 dc20 pm20 cd20 ct20 oc21 kV21 dc21 pm21 cd21 ct21 oc22 kV22 dc22 pm22 cd22 ct22 oc23 kV23 dc23 pm23 cd23 ct23 oc24 kV24 dc24 pm24 cd24 ct24 oc25 kV25 dc25 pm25 cd25 ct25 oc26 kV26 dc26 pm26 cd26 ct26 oc27 kV27 dc27 pm27 cd27 ct27 oc28 kV28 dc28 pm28 cd28 ct28 oc29 kV29 dc29 pm29 cd29 ct29 oc30 kV30 dc30 pm30 cd30 ct30 oc31 kV31 dc31 pm31 cd31 ct31 oc32 kV32 dc32 pm32 cd32 ct32 oc33 kV33 dc33 pm33 cd33 ct33 oc34 kV34 dc34 pm34 cd34 ct34 oc35 kV35 dc35 pm35 cd35 ct35:Value} {tk0:Tok} {tk1:Tok} {tk2:Tok}
    (a0:PySem.W.nsIn K mainGlobals "is_whole"=some (some (.ref f0))) (l0:K.lookup f0=some ⟨oc0,od0,.func (PySem.W.fnOf "is_whole" "is_whole" (zz wv) (zv wv) (zg wv) .none kV0 dc0 pm0 an0 cd0 ct0),sl0⟩) (c0:PySem.W.codeIn K cd0 "is_whole"=true) (k0:PySem.W.keepIn K (.ref f0)=true)
    (a1:PySem.W.nsIn K mainGlobals "is_whole_within"=some (some (.ref f1))) (l1:K.lookup f1=some ⟨oc1,od1,.func (PySem.W.fnOf "is_whole_within" "is_whole_within" (zz zT) (zv zT) (zg zT) .none kV1 dc1 pm1 an1 cd1 ct1),sl1⟩) (c1:PySem.W.codeIn K cd1 "is_whole_within"=true) (k1:PySem.W.keepIn K (.ref f1)=true)
    (a2:PySem.W.nsIn K mainGlobals "is_place_count"=some (some (.ref f2))) (l2:K.lookup f2=some ⟨oc2,od2,.func (PySem.W.fnOf "is_place_count" "is_place_count" (zz zY) (zv zY) (zg zY) .none kV2 dc2 pm2 an2 cd2 ct2),sl2⟩) (c2:PySem.W.codeIn K cd2 "is_place_count"=true) (k2:PySem.W.keepIn K (.ref f2)=true)
    (a3:PySem.W.nsIn K mainGlobals "is_place"=some (some (.ref f3))) (l3:K.lookup f3=some ⟨oc3,od3,.func (PySem.W.fnOf "is_place" "is_place" (zz wz) (zv wz) (zg wz) .none kV3 dc3 pm3 an3 cd3 ct3),sl3⟩) (c3:PySem.W.codeIn K cd3 "is_place"=true) (k3:PySem.W.keepIn K (.ref f3)=true)
    (a4:PySem.W.nsIn K mainGlobals "are_counts"=some (some (.ref f4))) (l4:K.lookup f4=some ⟨oc4,od4,.func (PySem.W.fnOf "are_counts" "are_counts" (zz xb) (zv xb) (zg xb) .none kV4 dc4 pm4 an4 cd4 ct4),sl4⟩) (c4:PySem.W.codeIn K cd4 "are_counts"=true) (k4:PySem.W.keepIn K (.ref f4)=true)
    (a5:PySem.W.nsIn K mainGlobals "is_pair"=some (some (.ref f5))) (l5:K.lookup f5=some ⟨oc5,od5,.func (PySem.W.fnOf "is_pair" "is_pair" (zz vw) (zv vw) (zg vw) .none kV5 dc5 pm5 an5 cd5 ct5),sl5⟩) (c5:PySem.W.codeIn K cd5 "is_pair"=true) (k5:PySem.W.keepIn K (.ref f5)=true)
    (a6:PySem.W.nsIn K mainGlobals "are_ties"=some (some (.ref f6))) (l6:K.lookup f6=some ⟨oc6,od6,.func (PySem.W.fnOf "are_ties" "are_ties" (zz wC) (zv wC) (zg wC) .none kV6 dc6 pm6 an6 cd6 ct6),sl6⟩) (c6:PySem.W.codeIn K cd6 "are_ties"=true) (k6:PySem.W.keepIn K (.ref f6)=true)
    (a7:PySem.W.nsIn K mainGlobals "is_web"=some (some (.ref f7))) (l7:K.lookup f7=some ⟨oc7,od7,.func (PySem.W.fnOf "is_web" "is_web" (zz Yb) (zv Yb) (zg Yb) .none kV7 dc7 pm7 an7 cd7 ct7),sl7⟩) (c7:PySem.W.codeIn K cd7 "is_web"=true) (k7:PySem.W.keepIn K (.ref f7)=true)
    (a8:PySem.W.nsIn K mainGlobals "must_be_web"=some (some (.ref f8))) (l8:K.lookup f8=some ⟨oc8,od8,.func (PySem.W.fnOf "must_be_web" "must_be_web" (zz yP) (zv yP) (zg yP) .none kV8 dc8 pm8 an8 cd8 ct8),sl8⟩) (c8:PySem.W.codeIn K cd8 "must_be_web"=true) (k8:PySem.W.keepIn K (.ref f8)=true)
    (a9:PySem.W.nsIn K mainGlobals "tie_between"=some (some (.ref f9))) (l9:K.lookup f9=some ⟨oc9,od9,.func (PySem.W.fnOf "tie_between" "tie_between" (zz yO) (zv yO) (zg yO) .none kV9 dc9 pm9 an9 cd9 ct9),sl9⟩) (c9:PySem.W.codeIn K cd9 "tie_between"=true) (k9:PySem.W.keepIn K (.ref f9)=true)
    (a10:PySem.W.nsIn K mainGlobals "are_stones"=some (some (.ref f10))) (l10:K.lookup f10=some ⟨oc10,od10,.func (PySem.W.fnOf "are_stones" "are_stones" (zz xi) (zv xi) (zg xi) .none kV10 dc10 pm10 an10 cd10 ct10),sl10⟩) (c10:PySem.W.codeIn K cd10 "are_stones"=true) (k10:PySem.W.keepIn K (.ref f10)=true)
    (a11:PySem.W.nsIn K mainGlobals "must_be_heap"=some (some (.ref f11))) (l11:K.lookup f11=some ⟨oc11,od11,.func (PySem.W.fnOf "must_be_heap" "must_be_heap" (zz yw) (zv yw) (zg yw) .none kV11 dc11 pm11 an11 cd11 ct11),sl11⟩) (c11:PySem.W.codeIn K cd11 "must_be_heap"=true) (k11:PySem.W.keepIn K (.ref f11)=true)
    (a12:PySem.W.nsIn K mainGlobals "is_step"=some (some (.ref f12))) (l12:K.lookup f12=some ⟨oc12,od12,.func (PySem.W.fnOf "is_step" "is_step" (zz vx) (zv vx) (zg vx) .none kV12 dc12 pm12 an12 cd12 ct12),sl12⟩) (c12:PySem.W.codeIn K cd12 "is_step"=true) (k12:PySem.W.keepIn K (.ref f12)=true)
    (a13:PySem.W.nsIn K mainGlobals "is_tally_row"=some (some (.ref f13))) (l13:K.lookup f13=some ⟨oc13,od13,.func (PySem.W.fnOf "is_tally_row" "is_tally_row" (zz yz) (zv yz) (zg yz) .none kV13 dc13 pm13 an13 cd13 ct13),sl13⟩) (c13:PySem.W.codeIn K cd13 "is_tally_row"=true) (k13:PySem.W.keepIn K (.ref f13)=true)
    (a14:PySem.W.nsIn K mainGlobals "are_tally_rows"=some (some (.ref f14))) (l14:K.lookup f14=some ⟨oc14,od14,.func (PySem.W.fnOf "are_tally_rows" "are_tally_rows" (zz zZ) (zv zZ) (zg zZ) .none kV14 dc14 pm14 an14 cd14 ct14),sl14⟩) (c14:PySem.W.codeIn K cd14 "are_tally_rows"=true) (k14:PySem.W.keepIn K (.ref f14)=true)
    (a15:PySem.W.nsIn K mainGlobals "must_be_tally"=some (some (.ref f15))) (l15:K.lookup f15=some ⟨oc15,od15,.func (PySem.W.fnOf "must_be_tally" "must_be_tally" (zz yk) (zv yk) (zg yk) .none kV15 dc15 pm15 an15 cd15 ct15),sl15⟩) (c15:PySem.W.codeIn K cd15 "must_be_tally"=true) (k15:PySem.W.keepIn K (.ref f15)=true)
    (a16:PySem.W.nsIn K mainGlobals "left"=some (some (.ref f16))) (l16:K.lookup f16=some ⟨oc16,od16,.func (PySem.W.fnOf "left" "left" (zz Xt) (zv Xt) (zg Xt) .none kV16 dc16 pm16 an16 cd16 ct16),sl16⟩) (c16:PySem.W.codeIn K cd16 "left"=true) (k16:PySem.W.keepIn K (.ref f16)=true)
    (a17:PySem.W.nsIn K mainGlobals "led_on"=some (some (.ref f17))) (l17:K.lookup f17=some ⟨oc17,od17,.func (PySem.W.fnOf "led_on" "led_on" (zz Yj) (zv Yj) (zg Yj) .none kV17 dc17 pm17 an17 cd17 ct17),sl17⟩) (c17:PySem.W.codeIn K cd17 "led_on"=true) (k17:PySem.W.keepIn K (.ref f17)=true)
    (a18:PySem.W.nsIn K mainGlobals "ring_of"=some (some (.ref f18))) (l18:K.lookup f18=some ⟨oc18,od18,.func (PySem.W.fnOf "ring_of" "ring_of" (zz vv) (zv vv) (zg vv) .none kV18 dc18 pm18 an18 cd18 ct18),sl18⟩) (c18:PySem.W.codeIn K cd18 "ring_of"=true) (k18:PySem.W.keepIn K (.ref f18)=true)
    (a19:PySem.W.nsIn K mainGlobals "in_order"=some (some (.ref f19))) (l19:K.lookup f19=some ⟨oc19,od19,.func (PySem.W.fnOf "in_order" "in_order" (zz wy) (zv wy) (zg wy) .none kV19 dc19 pm19 an19 cd19 ct19),sl19⟩) (c19:PySem.W.codeIn K cd19 "in_order"=true) (k19:PySem.W.keepIn K (.ref f19)=true)
    (a20:PySem.W.nsIn K mainGlobals "_law_kinds"=some (some (.ref f20))) (l20:K.lookup f20=some ⟨oc20,od20,.func (PySem.W.fnOf "_law_kinds" "_law_kinds" (zz xc) (zv xc) (zg xc) .none kV20 dc20 pm20 an20 cd20 ct20),sl20⟩) (c20:PySem.W.codeIn K cd20 "_law_kinds"=true) (k20:PySem.W.keepIn K (.ref f20)=true)
    (a21:PySem.W.nsIn K mainGlobals "_law_pairs"=some (some (.ref f21))) (l21:K.lookup f21=some ⟨oc21,od21,.func (PySem.W.fnOf "_law_pairs" "_law_pairs" (zz xh) (zv xh) (zg xh) .none kV21 dc21 pm21 an21 cd21 ct21),sl21⟩) (c21:PySem.W.codeIn K cd21 "_law_pairs"=true) (k21:PySem.W.keepIn K (.ref f21)=true)
    (a22:PySem.W.nsIn K mainGlobals "_law_stir"=some (some (.ref f22))) (l22:K.lookup f22=some ⟨oc22,od22,.func (PySem.W.fnOf "_law_stir" "_law_stir" (zz xV) (zv xV) (zg xV) .none kV22 dc22 pm22 an22 cd22 ct22),sl22⟩) (c22:PySem.W.codeIn K cd22 "_law_stir"=true) (k22:PySem.W.keepIn K (.ref f22)=true)
    (a23:PySem.W.nsIn K mainGlobals "_law_web_by"=some (some (.ref f23))) (l23:K.lookup f23=some ⟨oc23,od23,.func (PySem.W.fnOf "_law_web_by" "_law_web_by" (zz yQ) (zv yQ) (zg yQ) .none kV23 dc23 pm23 an23 cd23 ct23),sl23⟩) (c23:PySem.W.codeIn K cd23 "_law_web_by"=true) (k23:PySem.W.keepIn K (.ref f23)=true)
    (a24:PySem.W.nsIn K mainGlobals "_law_joined_by"=some (some (.ref f24))) (l24:K.lookup f24=some ⟨oc24,od24,.func (PySem.W.fnOf "_law_joined_by" "_law_joined_by" (zz ya) (zv ya) (zg ya) .none kV24 dc24 pm24 an24 cd24 ct24),sl24⟩) (c24:PySem.W.codeIn K cd24 "_law_joined_by"=true) (k24:PySem.W.keepIn K (.ref f24)=true)
    (a25:PySem.W.nsIn K mainGlobals "_law_tally_by"=some (some (.ref f25))) (l25:K.lookup f25=some ⟨oc25,od25,.func (PySem.W.fnOf "_law_tally_by" "_law_tally_by" (zz yj) (zv yj) (zg yj) .none kV25 dc25 pm25 an25 cd25 ct25),sl25⟩) (c25:PySem.W.codeIn K cd25 "_law_tally_by"=true) (k25:PySem.W.keepIn K (.ref f25)=true)
    (a26:PySem.W.nsIn K mainGlobals "_law_ringless"=some (some (.ref f26))) (l26:K.lookup f26=some ⟨oc26,od26,.func (PySem.W.fnOf "_law_ringless" "_law_ringless" (zz yi) (zv yi) (zg yi) .none kV26 dc26 pm26 an26 cd26 ct26),sl26⟩) (c26:PySem.W.codeIn K cd26 "_law_ringless"=true) (k26:PySem.W.keepIn K (.ref f26)=true)
    (a27:PySem.W.nsIn K mainGlobals "_law_left"=some (some (.ref f27))) (l27:K.lookup f27=some ⟨oc27,od27,.func (PySem.W.fnOf "_law_left" "_law_left" (zz xS) (zv xS) (zg xS) .none kV27 dc27 pm27 an27 cd27 ct27),sl27⟩) (c27:PySem.W.codeIn K cd27 "_law_left"=true) (k27:PySem.W.keepIn K (.ref f27)=true)
    (a28:PySem.W.nsIn K mainGlobals "_law_heap_by"=some (some (.ref f28))) (l28:K.lookup f28=some ⟨oc28,od28,.func (PySem.W.fnOf "_law_heap_by" "_law_heap_by" (zz yx) (zv yx) (zg yx) .none kV28 dc28 pm28 an28 cd28 ct28),sl28⟩) (c28:PySem.W.codeIn K cd28 "_law_heap_by"=true) (k28:PySem.W.keepIn K (.ref f28)=true)
    (a29:PySem.W.nsIn K mainGlobals "_law_whole"=some (some (.ref f29))) (l29:K.lookup f29=some ⟨oc29,od29,.func (PySem.W.fnOf "_law_whole" "_law_whole" (zz xa) (zv xa) (zg xa) .none kV29 dc29 pm29 an29 cd29 ct29),sl29⟩) (c29:PySem.W.codeIn K cd29 "_law_whole"=true) (k29:PySem.W.keepIn K (.ref f29)=true)
    (a30:PySem.W.nsIn K mainGlobals "_law_is_step"=some (some (.ref f30))) (l30:K.lookup f30=some ⟨oc30,od30,.func (PySem.W.fnOf "_law_is_step" "_law_is_step" (zz yu) (zv yu) (zg yu) .none kV30 dc30 pm30 an30 cd30 ct30),sl30⟩) (c30:PySem.W.codeIn K cd30 "_law_is_step"=true) (k30:PySem.W.keepIn K (.ref f30)=true)
    (a31:PySem.W.nsIn K mainGlobals "_law_moved"=some (some (.ref f31))) (l31:K.lookup f31=some ⟨oc31,od31,.func (PySem.W.fnOf "_law_moved" "_law_moved" (zz xf) (zv xf) (zg xf) .none kV31 dc31 pm31 an31 cd31 ct31),sl31⟩) (c31:PySem.W.codeIn K cd31 "_law_moved"=true) (k31:PySem.W.keepIn K (.ref f31)=true)
    (a32:PySem.W.nsIn K mainGlobals "_law_wrong"=some (some (.ref f32))) (l32:K.lookup f32=some ⟨oc32,od32,.func (PySem.W.fnOf "_law_wrong" "_law_wrong" (zz xk) (zv xk) (zg xk) .none kV32 dc32 pm32 an32 cd32 ct32),sl32⟩) (c32:PySem.W.codeIn K cd32 "_law_wrong"=true) (k32:PySem.W.keepIn K (.ref f32)=true)
    (a33:PySem.W.nsIn K mainGlobals "_law_end"=some (some (.ref f33))) (l33:K.lookup f33=some ⟨oc33,od33,.func (PySem.W.fnOf "_law_end" "_law_end" (zz wA) (zv wA) (zg wA) .none kV33 dc33 pm33 an33 cd33 ct33),sl33⟩) (c33:PySem.W.codeIn K cd33 "_law_end"=true) (k33:PySem.W.keepIn K (.ref f33)=true)
    (a34:PySem.W.nsIn K mainGlobals "_law_came"=some (some (.ref f34))) (l34:K.lookup f34=some ⟨oc34,od34,.func (PySem.W.fnOf "_law_came" "_law_came" (zz xQ) (zv xQ) (zg xQ) .none kV34 dc34 pm34 an34 cd34 ct34),sl34⟩) (c34:PySem.W.codeIn K cd34 "_law_came"=true) (k34:PySem.W.keepIn K (.ref f34)=true)
    (a35:PySem.W.nsIn K mainGlobals "law"=some (some (.ref f35))) (l35:K.lookup f35=some ⟨oc35,od35,.func (PySem.W.fnOf "law" "law" (zz VJ) (zv VJ) (zg VJ) .none kV35 dc35 pm35 an35 cd35 ct35),sl35⟩) (c35:PySem.W.codeIn K cd35 "law"=true) (k35:PySem.W.keepIn K (.ref f35)=true)
    (gg0:PySem.W.nsIn K mainGlobals "MOST_PLACES"=some (some (.int 8 tk0)))
    (gg1:PySem.W.nsIn K mainGlobals "MOST_STONES"=some (some (.int 300 tk1)))
    (gg2:PySem.W.nsIn K mainGlobals "MOST_TIMES"=some (some (.int 300 tk2)))
    {xx0 xx1 xx2 xx3 xx4 xx5 xx6 xx7 xx8 xx9 xx10 xx11 xx12 xx13:Addr}
    (xa0:PySem.W.nsIn K mainGlobals "NoWeb"=some (some (.ref xx0)))
    (xa1:PySem.W.nsIn K mainGlobals "NoKind"=some (some (.ref xx1)))
    (xa2:PySem.W.nsIn K mainGlobals "NoHeap"=some (some (.ref xx2)))
    (xa3:PySem.W.nsIn K mainGlobals "NoPlace"=some (some (.ref xx3)))
    (xa4:PySem.W.nsIn K mainGlobals "NoNumber"=some (some (.ref xx4)))
    (xa5:PySem.W.nsIn K mainGlobals "NoTally"=some (some (.ref xx5)))
    (xa6:PySem.W.nsIn K mainGlobals "NotTree"=some (some (.ref xx6)))
    (xa7:PySem.W.nsIn K mainGlobals "NotJoined"=some (some (.ref xx7)))
    (xa8:PySem.W.nsIn K mainGlobals "NoWeights"=some (some (.ref xx8)))
    (xa9:PySem.W.nsIn K mainGlobals "NoRow"=some (some (.ref xx9)))
    (xa10:PySem.W.nsIn K mainGlobals "NoSteps"=some (some (.ref xx10)))
    (xa11:PySem.W.nsIn K mainGlobals "NoText"=some (some (.ref xx11)))
    (xa12:PySem.W.nsIn K mainGlobals "TooGreat"=some (some (.ref xx12)))
    (xa13:PySem.W.nsIn K mainGlobals "StoneError"=some (some (.ref xx13)))
    (xb5:PySem.W.excIn K xx5 bmV "ValueError.__new__"=true) (xc5:zdf K [xx0,xx1,xx2,xx3,xx4,xx5,xx6,xx7,xx8,xx9,xx10,xx11,xx12] xx13 xx5 5=true)
    (z0:PySem.W.nsIn K mainGlobals "ValueError"=some none)
    (z1:PySem.W.nsIn K mainGlobals "all"=some none)
    (z2:PySem.W.nsIn K mainGlobals "any"=some none)
    (z3:PySem.W.nsIn K mainGlobals "bool"=some none)
    (z4:PySem.W.nsIn K mainGlobals "enumerate"=some none)
    (z5:PySem.W.nsIn K mainGlobals "int"=some none)
    (z6:PySem.W.nsIn K mainGlobals "isinstance"=some none)
    (z7:PySem.W.nsIn K mainGlobals "len"=some none)
    (z8:PySem.W.nsIn K mainGlobals "list"=some none)
    (z9:PySem.W.nsIn K mainGlobals "max"=some none)
    (z10:PySem.W.nsIn K mainGlobals "min"=some none)
    (z11:PySem.W.nsIn K mainGlobals "range"=some none)
    (z12:PySem.W.nsIn K mainGlobals "set"=some none)
    (z13:PySem.W.nsIn K mainGlobals "sorted"=some none)
    (z14:PySem.W.nsIn K mainGlobals "sum"=some none)
    (z15:PySem.W.nsIn K mainGlobals "tuple"=some none)
    (z16:PySem.W.nsIn K mainGlobals "zip"=some none)
    : ∃ fd:FuncData,(∀ (s:Shared) (v:Value),BindsTo s fd ⟨[v],[]⟩ [("script",v)])∧∀ base:Heap,K.In base→base.Ns mainGlobals mg→xE l.prog w K mg base CX0 20 fa fd ["script"] (zgm K):=by
  have e:=hfa.symm.trans (PySem.W.mg_of X G a35)
  cases e
  have F0:=zQ (st:=wv) l0 c0 k0
  have F1:=zQ (st:=zT) l1 c1 k1
  have F2:=zQ (st:=zY) l2 c2 k2
  have F3:=zQ (st:=wz) l3 c3 k3
  have F4:=zQ (st:=xb) l4 c4 k4
  have F5:=zQ (st:=vw) l5 c5 k5
  have F6:=zQ (st:=wC) l6 c6 k6
  have F7:=zQ (st:=Yb) l7 c7 k7
  have F8:=zQ (st:=yP) l8 c8 k8
  have F9:=zQ (st:=yO) l9 c9 k9
  have F10:=zQ (st:=xi) l10 c10 k10
  have F11:=zQ (st:=yw) l11 c11 k11
  have F12:=zQ (st:=vx) l12 c12 k12
  have F13:=zQ (st:=yz) l13 c13 k13
  have F14:=zQ (st:=zZ) l14 c14 k14
  have F15:=zQ (st:=yk) l15 c15 k15
  have F16:=zQ (st:=Xt) l16 c16 k16
  have F17:=zQ (st:=Yj) l17 c17 k17
  have F18:=zQ (st:=vv) l18 c18 k18
  have F19:=zQ (st:=wy) l19 c19 k19
  have F20:=zQ (st:=xc) l20 c20 k20
  have F21:=zQ (st:=xh) l21 c21 k21
  have F22:=zQ (st:=xV) l22 c22 k22
  have F23:=zQ (st:=yQ) l23 c23 k23
  have F24:=zQ (st:=ya) l24 c24 k24
  have F25:=zQ (st:=yj) l25 c25 k25
  have F26:=zQ (st:=yi) l26 c26 k26
  have F27:=zQ (st:=xS) l27 c27 k27
  have F28:=zQ (st:=yx) l28 c28 k28
  have F29:=zQ (st:=xa) l29 c29 k29
  have F30:=zQ (st:=yu) l30 c30 k30
  have F31:=zQ (st:=xf) l31 c31 k31
  have F32:=zQ (st:=xk) l32 c32 k32
  have F33:=zQ (st:=wA) l33 c33 k33
  have F34:=zQ (st:=xQ) l34 c34 k34
  have F35:=zQ (st:=VJ) l35 c35 k35
  have T:Txt K mg ⟨_,_,_,_,_,_,_,_,_,_,_,_,_,_,_,_,_,_,_,_,_,_,_,_,_,_,_,_,_,_,_,_,_,_,_,_,_,_,_,_,_,_,_,_,_,_,_,_,_,_,_,_,_,_,_,_,_,_,_,_,_,_,_,_,_,_,_,_,_,_,_,_,tk0,tk1,tk2,xx0,xx1,xx2,xx3,xx4,xx5,xx6,xx7,xx8,xx9,xx10,xx11,xx12,xx13⟩:=⟨
    ⟨F0,F0.binds (ps:=["thing"]) (fun _ _ _ _ _ _ us hl=>by obtain ⟨_,rfl⟩:=zar hl;rfl),PySem.W.mg_of X G a0⟩,
    ⟨F1,F1.binds (ps:=["thing","least","most"]) (fun _ _ _ _ _ _ us hl=>by obtain ⟨_,_,_,rfl⟩:=zcw hl;rfl),PySem.W.mg_of X G a1⟩,
    ⟨F2,F2.binds (ps:=["thing"]) (fun _ _ _ _ _ _ us hl=>by obtain ⟨_,rfl⟩:=zar hl;rfl),PySem.W.mg_of X G a2⟩,
    ⟨F3,F3.binds (ps:=["many","thing"]) (fun _ _ _ _ _ _ us hl=>by obtain ⟨_,_,rfl⟩:=Yk hl;rfl),PySem.W.mg_of X G a3⟩,
    ⟨F4,F4.binds (ps:=["many","thing"]) (fun _ _ _ _ _ _ us hl=>by obtain ⟨_,_,rfl⟩:=Yk hl;rfl),PySem.W.mg_of X G a4⟩,
    ⟨F5,F5.binds (ps:=["many","thing"]) (fun _ _ _ _ _ _ us hl=>by obtain ⟨_,_,rfl⟩:=Yk hl;rfl),PySem.W.mg_of X G a5⟩,
    ⟨F6,F6.binds (ps:=["many","thing"]) (fun _ _ _ _ _ _ us hl=>by obtain ⟨_,_,rfl⟩:=Yk hl;rfl),PySem.W.mg_of X G a6⟩,
    ⟨F7,F7.binds (ps:=["thing"]) (fun _ _ _ _ _ _ us hl=>by obtain ⟨_,rfl⟩:=zar hl;rfl),PySem.W.mg_of X G a7⟩,
    ⟨F8,F8.binds (ps:=["thing"]) (fun _ _ _ _ _ _ us hl=>by obtain ⟨_,rfl⟩:=zar hl;rfl),PySem.W.mg_of X G a8⟩,
    ⟨F9,F9.binds (ps:=["one","other"]) (fun _ _ _ _ _ _ us hl=>by obtain ⟨_,_,rfl⟩:=Yk hl;rfl),PySem.W.mg_of X G a9⟩,
    ⟨F10,F10.binds (ps:=["web","thing"]) (fun _ _ _ _ _ _ us hl=>by obtain ⟨_,_,rfl⟩:=Yk hl;rfl),PySem.W.mg_of X G a10⟩,
    ⟨F11,F11.binds (ps:=["web","thing"]) (fun _ _ _ _ _ _ us hl=>by obtain ⟨_,_,rfl⟩:=Yk hl;rfl),PySem.W.mg_of X G a11⟩,
    ⟨F12,F12.binds (ps:=["web","thing"]) (fun _ _ _ _ _ _ us hl=>by obtain ⟨_,_,rfl⟩:=Yk hl;rfl),PySem.W.mg_of X G a12⟩,
    ⟨F13,F13.binds (ps:=["web","thing"]) (fun _ _ _ _ _ _ us hl=>by obtain ⟨_,_,rfl⟩:=Yk hl;rfl),PySem.W.mg_of X G a13⟩,
    ⟨F14,F14.binds (ps:=["web","thing"]) (fun _ _ _ _ _ _ us hl=>by obtain ⟨_,_,rfl⟩:=Yk hl;rfl),PySem.W.mg_of X G a14⟩,
    ⟨F15,F15.binds (ps:=["web","thing"]) (fun _ _ _ _ _ _ us hl=>by obtain ⟨_,_,rfl⟩:=Yk hl;rfl),PySem.W.mg_of X G a15⟩,
    ⟨F16,F16.binds (ps:=["heap","tally"]) (fun _ _ _ _ _ _ us hl=>by obtain ⟨_,_,rfl⟩:=Yk hl;rfl),PySem.W.mg_of X G a16⟩,
    ⟨F17,F17.binds (ps:=["places","steps"]) (fun _ _ _ _ _ _ us hl=>by obtain ⟨_,_,rfl⟩:=Yk hl;rfl),PySem.W.mg_of X G a17⟩,
    ⟨F18,F18.binds (ps:=["steps"]) (fun _ _ _ _ _ _ us hl=>by obtain ⟨_,rfl⟩:=zar hl;rfl),PySem.W.mg_of X G a18⟩,
    ⟨F19,F19.binds (ps:=["web","heap","tally"]) (fun _ _ _ _ _ _ us hl=>by obtain ⟨_,_,_,rfl⟩:=zcw hl;rfl),PySem.W.mg_of X G a19⟩,
    ⟨F20,F20.binds (ps:=["e"]) (fun _ _ _ _ _ _ us hl=>by obtain ⟨_,rfl⟩:=zar hl;rfl),PySem.W.mg_of X G a20⟩,
    ⟨F21,F21.binds (ps:=["many"]) (fun _ _ _ _ _ _ us hl=>by obtain ⟨_,rfl⟩:=zar hl;rfl),PySem.W.mg_of X G a21⟩,
    ⟨F22,F22.binds (ps:=["cell","k"]) (fun _ _ _ _ _ _ us hl=>by obtain ⟨_,_,rfl⟩:=Yk hl;rfl),PySem.W.mg_of X G a22⟩,
    ⟨F23,F23.binds (ps:=["many","cell"]) (fun _ _ _ _ _ _ us hl=>by obtain ⟨_,_,rfl⟩:=Yk hl;rfl),PySem.W.mg_of X G a23⟩,
    ⟨F24,F24.binds (ps:=["many","cell"]) (fun _ _ _ _ _ _ us hl=>by obtain ⟨_,_,rfl⟩:=Yk hl;rfl),PySem.W.mg_of X G a24⟩,
    ⟨F25,F25.binds (ps:=["web","cell","most"]) (fun _ _ _ _ _ _ us hl=>by obtain ⟨_,_,_,rfl⟩:=zcw hl;rfl),PySem.W.mg_of X G a25⟩,
    ⟨F26,F26.binds (ps:=["web","cell","most"]) (fun _ _ _ _ _ _ us hl=>by obtain ⟨_,_,_,rfl⟩:=zcw hl;rfl),PySem.W.mg_of X G a26⟩,
    ⟨F27,F27.binds (ps:=["heap","tally"]) (fun _ _ _ _ _ _ us hl=>by obtain ⟨_,_,rfl⟩:=Yk hl;rfl),PySem.W.mg_of X G a27⟩,
    ⟨F28,F28.binds (ps:=["many","cell","most"]) (fun _ _ _ _ _ _ us hl=>by obtain ⟨_,_,_,rfl⟩:=zcw hl;rfl),PySem.W.mg_of X G a28⟩,
    ⟨F29,F29.binds (ps:=["found"]) (fun _ _ _ _ _ _ us hl=>by obtain ⟨_,rfl⟩:=zar hl;rfl),PySem.W.mg_of X G a29⟩,
    ⟨F30,F30.binds (ps:=["web","thing"]) (fun _ _ _ _ _ _ us hl=>by obtain ⟨_,_,rfl⟩:=Yk hl;rfl),PySem.W.mg_of X G a30⟩,
    ⟨F31,F31.binds (ps:=["heap","step"]) (fun _ _ _ _ _ _ us hl=>by obtain ⟨_,_,rfl⟩:=Yk hl;rfl),PySem.W.mg_of X G a31⟩,
    ⟨F32,F32.binds (ps:=["web","heap","thing"]) (fun _ _ _ _ _ _ us hl=>by obtain ⟨_,_,_,rfl⟩:=zcw hl;rfl),PySem.W.mg_of X G a32⟩,
    ⟨F33,F33.binds (ps:=["heap","steps"]) (fun _ _ _ _ _ _ us hl=>by obtain ⟨_,_,rfl⟩:=Yk hl;rfl),PySem.W.mg_of X G a33⟩,
    ⟨F34,F34.binds (ps:=["web","heap","tally"]) (fun _ _ _ _ _ _ us hl=>by obtain ⟨_,_,_,rfl⟩:=zcw hl;rfl),PySem.W.mg_of X G a34⟩,
    ⟨F35,F35.binds (ps:=["script"]) (fun _ _ _ _ _ _ us hl=>by obtain ⟨_,rfl⟩:=zar hl;rfl),PySem.W.mg_of X G a35⟩,
    PySem.W.mg_of X G gg0,
    PySem.W.mg_of X G gg1,
    PySem.W.mg_of X G gg2,
    PySem.W.mg_none_of X G z0,
    PySem.W.mg_none_of X G z1,
    PySem.W.mg_none_of X G z2,
    PySem.W.mg_none_of X G z3,
    PySem.W.mg_none_of X G z4,
    PySem.W.mg_none_of X G z5,
    PySem.W.mg_none_of X G z6,
    PySem.W.mg_none_of X G z7,
    PySem.W.mg_none_of X G z8,
    PySem.W.mg_none_of X G z9,
    PySem.W.mg_none_of X G z10,
    PySem.W.mg_none_of X G z11,
    PySem.W.mg_none_of X G z12,
    PySem.W.mg_none_of X G z13,
    PySem.W.mg_none_of X G z14,
    PySem.W.mg_none_of X G z15,
    PySem.W.mg_none_of X G z16,
    PySem.W.mg_of X G xa0,
    PySem.W.mg_of X G xa1,
    PySem.W.mg_of X G xa2,
    PySem.W.mg_of X G xa3,
    PySem.W.mg_of X G xa4,
    PySem.W.mg_of X G xa5,
    PySem.W.mg_of X G xa6,
    PySem.W.mg_of X G xa7,
    PySem.W.mg_of X G xa8,
    PySem.W.mg_of X G xa9,
    PySem.W.mg_of X G xa10,
    PySem.W.mg_of X G xa11,
    PySem.W.mg_of X G xa12,
    PySem.W.mg_of X G xa13,
    xb5,
    xc5⟩
  exact ⟨_,fun s v=>.of_eq rfl,fun base _ _=>zkA T⟩
theorem walk {l:PySem.W.OpenLaw}{q:Program}{loose:List Str}{XP:(Str→Option Value)→Heap→Prop}{YP:World→Heap→Prop}{d:DefRec}{K:Params→PySem.W.Frag}(hn:l.most=some 63)(hdf:d.params.defaults=[])
    (hY:∀ (w:World) (h:Heap),YP w h→(K w.params).In h)
    (F:∀ (w:World) (mg:Str→Option Value) (fa:Addr) (h:Heap),(K w.params).In h→h.Ns mainGlobals mg→mg d.name=some (.ref fa) →
      ∃ fd:FuncData,(∀ (s:Shared) (u:Value),BindsTo s fd ⟨[u],[]⟩ [("script",u)])∧∀ base:Heap,(K w.params).In base→base.Ns mainGlobals mg→xE l.prog w (K w.params) mg base CX0 20 fa fd ["script"] (zgm (K w.params))) :
    PySem.W.WalkO q loose XP YP l.row.toRowW d [] (fun f vs=>PySem.call f vs) :=
  L2.walk_of (n:=63) (k:=20) (x:="script") (CX:=fun _=>CX0) (sp:=fun w=>zgm (K w.params)) hn (by decide) hdf ⟨rfl,by decide,by decide⟩ hY F (fun _ _ a ns hl _ hS=>⟨a,ns,rfl,hS,hl,fun _=>rfl⟩) fun _ _ _ _ _ z=>z
end Mz
open PySem PySem.W PyProof.Rows
theorem PySem.W.Fast.tw126281751648499710 : True := trivial
theorem PySem.W.Fast.tw8142259721591193931 : True := trivial
theorem PySem.W.Fast.tw18391234755922110921 : True := trivial
theorem PySem.W.Fast.tw4198437359878624131 : True := trivial
theorem PySem.W.Fast.tw6048971099744186794 : True := trivial
theorem PySem.W.Fast.tw7632273549983765385 : True := trivial
theorem PySem.W.Fast.tw12310962339972329188 : True := trivial
theorem PySem.W.Fast.tw5099357100155734318 : True := trivial
theorem PySem.W.Fast.tw1258657272742634002 : True := trivial
theorem PySem.W.Fast.tw15235350838635505081 : True := trivial
theorem PySem.W.Fast.tw10034491281578130919 : True := trivial
theorem PySem.W.Fast.tw6687811206351532126 : True := trivial
theorem PySem.W.Fast.tw9313539862360987371 : True := trivial
theorem PySem.W.Fast.tw7997353140059708810 : True := trivial
theorem PySem.W.Fast.tw7602591755934081972 : True := trivial
theorem PySem.W.Fast.tw5305784946716009772 : True := trivial
theorem PySem.W.Fast.tw9640440910523844824 : True := trivial
theorem PySem.W.Fast.tw6354975137023740617 : True := trivial
theorem PySem.W.Fast.tw6014558493767824914 : True := trivial
theorem PySem.W.Fast.tw14135168476626442776 : True := trivial
theorem PySem.W.Fast.tw11783919621519045687 : True := trivial
theorem PySem.W.Fast.tw1819379214937975534 : True := trivial
theorem PySem.W.Fast.tw11405439907876535323 : True := trivial
theorem PySem.W.Fast.tw15555062889125846702 : True := trivial
theorem PySem.W.Fast.tw5402399696862166779 : True := trivial
theorem PySem.W.Fast.tw3268953597270130528 : True := trivial
theorem PySem.W.Fast.tw11120175932659399964 : True := trivial
theorem PySem.W.Fast.tw11856246592799974613 : True := trivial
theorem PySem.W.Fast.tw17137943870530579644 : True := trivial
theorem PySem.W.Fast.tw8370869282936668481 : True := trivial
theorem PySem.W.Fast.tw15101741411869999604 : True := trivial
theorem PySem.W.Fast.tw13332607872370709697 : True := trivial
theorem PySem.W.Fast.tw9246561377523483300 : True := trivial
theorem PySem.W.Fast.tw11298041462250182074 : True := trivial
theorem PySem.W.Fast.tw1310930323556200765 : True := trivial
theorem PySem.W.Fast.tw6467043940887905153 : True := trivial
theorem PySem.W.Fast.tw4264795116718471722 : True := trivial
set_option maxRecDepth 100000 in
set_option maxHeartbeats 0 in
theorem PySem.Challenge.cw_twoforone_k18_whole_put_in_order_holds : PySem.Challenge.rw_twoforone_k18_whole_put_in_order.Holds := by
  w_on;o_law;k_head;(case hw=>w_witness2)
  k_fill
  refine Mz.walk (l:=PySem.Challenge.rw_twoforone_k18_whole_put_in_order) rfl rfl (fun w h Y=>PySem.W.kIn_of Y) ?F
  case F =>
    intro w mg fa h KX G hmg
    refine' Mz.all_mk KX G hmg ?a0 ?l0 ?c0 ?k0 ?a1 ?l1 ?c1 ?k1 ?a2 ?l2 ?c2 ?k2 ?a3 ?l3 ?c3 ?k3 ?a4 ?l4 ?c4 ?k4 ?a5 ?l5 ?c5 ?k5 ?a6 ?l6 ?c6 ?k6 ?a7 ?l7 ?c7 ?k7 ?a8 ?l8 ?c8 ?k8 ?a9 ?l9 ?c9 ?k9 ?a10 ?l10 ?c10 ?k10 ?a11 ?l11 ?c11 ?k11 ?a12 ?l12 ?c12 ?k12 ?a13 ?l13 ?c13 ?k13 ?a14 ?l14 ?c14 ?k14 ?a15 ?l15 ?c15 ?k15 ?a16 ?l16 ?c16 ?k16 ?a17 ?l17 ?c17 ?k17 ?a18 ?l18 ?c18 ?k18 ?a19 ?l19 ?c19 ?k19 ?a20 ?l20 ?c20 ?k20 ?a21 ?l21 ?c21 ?k21 ?a22 ?l22 ?c22 ?k22 ?a23 ?l23 ?c23 ?k23 ?a24 ?l24 ?c24 ?k24 ?a25 ?l25 ?c25 ?k25 ?a26 ?l26 ?c26 ?k26 ?a27 ?l27 ?c27 ?k27 ?a28 ?l28 ?c28 ?k28 ?a29 ?l29 ?c29 ?k29 ?a30 ?l30 ?c30 ?k30 ?a31 ?l31 ?c31 ?k31 ?a32 ?l32 ?c32 ?k32 ?a33 ?l33 ?c33 ?k33 ?a34 ?l34 ?c34 ?k34 ?a35 ?l35 ?c35 ?k35 ?gg0 ?gg1 ?gg2 ?xa0 ?xa1 ?xa2 ?xa3 ?xa4 ?xa5 ?xa6 ?xa7 ?xa8 ?xa9 ?xa10 ?xa11 ?xa12 ?xa13 ?xb5 ?xc5 ?z0 ?z1 ?z2 ?z3 ?z4 ?z5 ?z6 ?z7 ?z8 ?z9 ?z10 ?z11 ?z12 ?z13 ?z14 ?z15 ?z16
    (case a0=>k_is)
    (case l0=>k_is)
    (case c0=>k_is)
    (case k0=>k_is)
    (case a1=>k_is)
    (case l1=>k_is)
    (case c1=>k_is)
    (case k1=>k_is)
    (case a2=>k_is)
    (case l2=>k_is)
    (case c2=>k_is)
    (case k2=>k_is)
    (case a3=>k_is)
    (case l3=>k_is)
    (case c3=>k_is)
    (case k3=>k_is)
    (case a4=>k_is)
    (case l4=>k_is)
    (case c4=>k_is)
    (case k4=>k_is)
    (case a5=>k_is)
    (case l5=>k_is)
    (case c5=>k_is)
    (case k5=>k_is)
    (case a6=>k_is)
    (case l6=>k_is)
    (case c6=>k_is)
    (case k6=>k_is)
    (case a7=>k_is)
    (case l7=>k_is)
    (case c7=>k_is)
    (case k7=>k_is)
    (case a8=>k_is)
    (case l8=>k_is)
    (case c8=>k_is)
    (case k8=>k_is)
    (case a9=>k_is)
    (case l9=>k_is)
    (case c9=>k_is)
    (case k9=>k_is)
    (case a10=>k_is)
    (case l10=>k_is)
    (case c10=>k_is)
    (case k10=>k_is)
    (case a11=>k_is)
    (case l11=>k_is)
    (case c11=>k_is)
    (case k11=>k_is)
    (case a12=>k_is)
    (case l12=>k_is)
    (case c12=>k_is)
    (case k12=>k_is)
    (case a13=>k_is)
    (case l13=>k_is)
    (case c13=>k_is)
    (case k13=>k_is)
    (case a14=>k_is)
    (case l14=>k_is)
    (case c14=>k_is)
    (case k14=>k_is)
    (case a15=>k_is)
    (case l15=>k_is)
    (case c15=>k_is)
    (case k15=>k_is)
    (case a16=>k_is)
    (case l16=>k_is)
    (case c16=>k_is)
    (case k16=>k_is)
    (case a17=>k_is)
    (case l17=>k_is)
    (case c17=>k_is)
    (case k17=>k_is)
    (case a18=>k_is)
    (case l18=>k_is)
    (case c18=>k_is)
    (case k18=>k_is)
    (case a19=>k_is)
    (case l19=>k_is)
    (case c19=>k_is)
    (case k19=>k_is)
    (case a20=>k_is)
    (case l20=>k_is)
    (case c20=>k_is)
    (case k20=>k_is)
    (case a21=>k_is)
    (case l21=>k_is)
    (case c21=>k_is)
    (case k21=>k_is)
    (case a22=>k_is)
    (case l22=>k_is)
    (case c22=>k_is)
    (case k22=>k_is)
    (case a23=>k_is)
    (case l23=>k_is)
    (case c23=>k_is)
    (case k23=>k_is)
    (case a24=>k_is)
    (case l24=>k_is)
    (case c24=>k_is)
    (case k24=>k_is)
    (case a25=>k_is)
    (case l25=>k_is)
    (case c25=>k_is)
    (case k25=>k_is)
    (case a26=>k_is)
    (case l26=>k_is)
    (case c26=>k_is)
    (case k26=>k_is)
    (case a27=>k_is)
    (case l27=>k_is)
    (case c27=>k_is)
    (case k27=>k_is)
    (case a28=>k_is)
    (case l28=>k_is)
    (case c28=>k_is)
    (case k28=>k_is)
    (case a29=>k_is)
    (case l29=>k_is)
    (case c29=>k_is)
    (case k29=>k_is)
    (case a30=>k_is)
    (case l30=>k_is)
    (case c30=>k_is)
    (case k30=>k_is)
    (case a31=>k_is)
    (case l31=>k_is)
    (case c31=>k_is)
    (case k31=>k_is)
    (case a32=>k_is)
    (case l32=>k_is)
    (case c32=>k_is)
    (case k32=>k_is)
    (case a33=>k_is)
    (case l33=>k_is)
    (case c33=>k_is)
    (case k33=>k_is)
    (case a34=>k_is)
    (case l34=>k_is)
    (case c34=>k_is)
    (case k34=>k_is)
    (case a35=>k_is)
    (case l35=>k_is)
    (case c35=>k_is)
    (case k35=>k_is)
    (case gg0=>k_is)
    (case gg1=>k_is)
    (case gg2=>k_is)
    (case xa0=>k_is)
    (case xa1=>k_is)
    (case xa2=>k_is)
    (case xa3=>k_is)
    (case xa4=>k_is)
    (case xa5=>k_is)
    (case xa6=>k_is)
    (case xa7=>k_is)
    (case xa8=>k_is)
    (case xa9=>k_is)
    (case xa10=>k_is)
    (case xa11=>k_is)
    (case xa12=>k_is)
    (case xa13=>k_is)
    (case xb5=>kernel_rfl)
    (case xc5=>kernel_rfl)
    (case z0=>k_is)
    (case z1=>k_is)
    (case z2=>k_is)
    (case z3=>k_is)
    (case z4=>k_is)
    (case z5=>k_is)
    (case z6=>k_is)
    (case z7=>k_is)
    (case z8=>k_is)
    (case z9=>k_is)
    (case z10=>k_is)
    (case z11=>k_is)
    (case z12=>k_is)
    (case z13=>k_is)
    (case z14=>k_is)
    (case z15=>k_is)
    (case z16=>k_is)
