import PyProof.Rows.All
import Wide.All
import OpenK.AllK
import Wide.FinOn
import Lean
import PyProof.EqAt
import PyProof.EqKinds
import PyProof.TupleCall
import PyProof.NeKinds
import PySem.Challenge.RW_twoforone_k42_closed_lists_looked_at
set_option Elab.async false
set_option linter.all false
set_option maxRecDepth 100000
set_option maxHeartbeats 4000000
namespace L2
open PySem PySem.Spec PyProof.Rows
noncomputable abbrev Key:=Sum Int Str
noncomputable def zc5:Key->Value->Bool
 | .inl k,v=>Value.isInt k v
 | .inr x,v=>Value.isStrOf x v
noncomputable def keyH (w:World):Key->Int
 | .inl k=>hashInt k
 | .inr x=>hashStr w x
theorem yp:∀ {k:Key} {v:Value},zc5 k v=true->(∃ i t,k=Sum.inl i/\v=Value.int i t)\/(∃ x t,k=Sum.inr x/\v=Value.str x t)
 | .inl i,v,h=>by
  obtain⟨t,e⟩:=Value.isInt_shape (k:=i) (v:=v) h
  exact .inl ⟨i,t,rfl,e⟩
 | .inr x,v,h=>by
  obtain⟨t,e⟩:=Value.isStrOf_shape (x:=x) (v:=v) h
  exact .inr ⟨x,t,rfl,e⟩
theorem zfl (i:Int)(t:Tok):zc5 (.inl i) (.int i t)=true:=by simp[zc5,Value.isInt]
theorem zeQ (x:Str)(t:Tok):zc5 (.inr x) (.str x t)=true:=by simp[zc5,Value.isStrOf]
theorem zjn (a b:Int):decide ((Sum.inl a:Key)=Sum.inl b)=(a == b):=by
 by_cases e:a=b
 .subst e;simp
 .have h:¬ (Sum.inl a:Key)=Sum.inl b:=λq=>e (Sum.inl.inj q)
  rw[decide_eq_false h]
  exact(beq_eq_false_iff_ne.mpr e).symm
theorem zkr (a b:Str):decide ((Sum.inr a:Key)=Sum.inr b)=decide (a=b):=by
 by_cases e:a=b
 .subst e;simp
 .have h:¬ (Sum.inr a:Key)=Sum.inr b:=λq=>e (Sum.inr.inj q)
  rw[decide_eq_false h,decide_eq_false e]
theorem zkR (a:Int)(b:Str):decide ((Sum.inl a:Key)=Sum.inr b)=false:=decide_eq_false (λq=>nomatch q)
theorem zj7 (a:Str)(b:Int):decide ((Sum.inr a:Key)=Sum.inl b)=false:=decide_eq_false (λq=>nomatch q)
noncomputable def yI (prog:Program)(w:World):PySem.KeyKind prog w Key where
 is:=zc5
 hash:=keyH w
 inj:=λv a b ha hb=>by
  rcases yp ha with ⟨i,t,rfl,rfl⟩ | ⟨x,t,rfl,rfl⟩
  .rcases yp hb with ⟨j,u,rfl,e⟩ | ⟨y,u,rfl,e⟩
   .injection e with e1 _;rw[e1]
   .exact nomatch e
  .rcases yp hb with ⟨j,u,rfl,e⟩ | ⟨y,u,rfl,e⟩
   .exact nomatch e
   .injection e with e1 _;rw[e1]
 byValue:=λk v h=>by
  rcases yp h with ⟨i,t,rfl,rfl⟩ | ⟨x,t,rfl,rfl⟩ <;> rfl
 pyHash:=λhv h=>by
  rcases yp hv with ⟨i,t,rfl,rfl⟩ | ⟨x,t,rfl,rfl⟩
  .exact wpAny_pyHash_int h
  .exact wpAny_pyHash_str h
 eqBool:=λhu hv h=>by
  rcases yp hu with ⟨i,t,rfl,rfl⟩ | ⟨x,t,rfl,rfl⟩
  .rcases yp hv with ⟨j,u,rfl,rfl⟩ | ⟨y,u,rfl,rfl⟩
   .rw[zjn]at h;exact wpAny_eqBool_int h
   .rw[zkR]at h;exact SeqAt.EqAt.int_str i t y u _ _ _ _ h
  .rcases yp hv with ⟨j,u,rfl,rfl⟩ | ⟨y,u,rfl,rfl⟩
   .rw[zj7]at h;exact SeqAt.EqAt.str_int x t j u _ _ _ _ h
   .rw[zkr]at h;exact wpAny_eqBool_str h
 «strs»:=λk x t v h=>by
  rcases yp h with ⟨i,u,rfl,e⟩ | ⟨y,u,rfl,e⟩
  .exact nomatch e
  .injection e with e1 _
   subst e1
   cases v <;> rfl
theorem zbK (prog:Program)(w:World)(i:Int)(t:Tok):(yI prog w).is (.inl i) (.int i t)=true:=zfl i t
theorem zbR (prog:Program)(w:World)(x:Str)(t:Tok):(yI prog w).is (.inr x) (.str x t)=true:=zeQ x t
inductive V where
 | non | bl (b:Bool) | int (i:Int) | str (x:Str) | byt (b:Array UInt8) | flt (b:UInt64) | ref (a:Addr) | ty (n:String)
 deriving DecidableEq
noncomputable def yZ:V->Value->Prop
 | .non,u=>u=Value.none
 | .bl b,u=>u=Value.bool b
 | .int i,u=>∃ t,u=Value.int i t
 | .str x,u=>∃ t,u=Value.str x t
 | .byt b,u=>∃ t,u=Value.bytes b t
 | .flt b,u=>∃ t,u=Value.float b t
 | .ref a,u=>u=Value.ref a
 | .ty n,u=>u=Value.type n
noncomputable abbrev yw:List V->List Value->Prop:=Paired yZ
theorem yw.length {xs:List V}{us:List Value}(r:yw xs us):xs.length=us.length:=Paired.length r
theorem yw.get:∀ {xs:List V} {us:List Value} {i:Nat} {x:V},yw xs us->xs[i]?=some x->∃ u,us[i]?=some u/\yZ x u
 | _,_,_,_,.nil,e=>by simp at e
 | _,_,0,_,.cons r _,e=>by simp at e;subst e;exact⟨_,rfl,r⟩
 | _,_,i+1,x,.cons _ t,e=>by
  obtain⟨u,h1,h2⟩:=yw.get (i:=i) (x:=x) t (by simpa using e)
  exact⟨u,by simpa using h1,h2⟩
theorem yw.set {x:V}{u:Value}(r:yZ x u):∀ {xs:List V} {us:List Value} (i:Nat),yw xs us->yw (xs.set i x) (us.set i u)
 | _,_,_,.nil=>.nil
 | _,_,0,.cons _ t=>.cons r t
 | _,_,i+1,.cons q t=>.cons q (yw.set r i t)
theorem yw.append:∀ {xs ys:List V} {us ws:List Value},yw xs us->yw ys ws->yw (xs++ys) (us++ws):=by
 intro xs ys us ws h s
 induction h with
 | nil=>exact s
 | cons r t ih=>exact .cons r ih
theorem yw.take:∀ {xs:List V} {us:List Value} (n:Nat),yw xs us->yw (xs.take n) (us.take n)
 | _,_,0,_=>.nil
 | _,_,_+1,.nil=>.nil
 | _,_,n+1,.cons r t=>.cons r (yw.take n t)
theorem yw.drop:∀ {xs:List V} {us:List Value} (n:Nat),yw xs us->yw (xs.drop n) (us.drop n)
 | _,_,0,r=>r
 | _,_,_+1,.nil=>.nil
 | _,_,n+1,.cons _ t=>yw.drop n t
noncomputable def zh7:Option V->Option Value->Prop
 | some v,some u=>yZ v u
 | none,none=>True
 | _,_=>False
noncomputable def KV {κ:Type}:List (κ × V)->List (κ × Value)->Prop:=Paired λ(p:κ × V) (q:κ × Value)=>p.1=q.1/\yZ p.2 q.2
noncomputable def kV:Key->V
 | .inl i=>.int i
 | .inr x=>.str x
inductive HO where
 | lst (xs:List V)
 | tup (xs:List V)
 | dK (kvs:List (Key × V)) | dT (kvs:List (List Key × V))
 | set (S:Int->Bool) (n:Nat)
 | ins (C dx:Addr) (fs:List (Str × V))
 | own (x:Addr)
 | xd (fs:List (Str × V))
 | met (f x:Addr)
 | rng (lo hi:Int)
 | frz (o:Obj) (u:HO)
 | tbl (ps:Array Value)
 | ext (φ:Heap->Prop)
noncomputable abbrev Hp:=Addr->Option HO
noncomputable def upd (H:Hp)(a:Addr)(o:HO):Hp:=λb=>if b=a then some o else H b
theorem zo {H:Hp}{a:Addr}{o:HO}:upd H a o a=some o:=by unfold upd;rw[if_pos rfl]
theorem zq {H:Hp}{a b:Addr}{o:HO}(h:b≠a):upd H a o b=H b:=by unfold upd;rw[if_neg h]
theorem Wq {H:Hp}{a:Addr}{o u:HO}:upd (upd H a o) a u=upd H a u:=by
 funext b;unfold upd;split <;> rfl
theorem zfU {H:Hp}{a b:Addr}{o u:HO}(h:H a=some o)(h':H b=some u)(d:o≠u):a≠b:=by
 intro e;subst e;rw[h]at h';exact d (Option.some.inj h')
theorem zn {H:Hp}{a b:Addr}{o:HO}(h:H a=some o)(h':H b=none):a≠b:=by
 intro e;subst e;rw[h]at h';cases h'
section
variable (P:Program)(w:World)
noncomputable def yR (H:Hp)(h:Heap)(a:Addr):HO->Prop
 | .lst xs=>xs.length<=sizeLine/\∃ (its:List Value) (n:Nat),yw xs its/\h.get? a=some { cls:=.type "list",data:=.seq its.toArray n }
 | .tup xs=>xs.length<=sizeLine/\∃ its:List Value,yw xs its/\IsTup h a its.toArray
 | .dK kvs=>kvs.length<=sizeLine/\(a == sysModules)=false/\∃ vs,KV kvs vs/\h.DictOf (yI P w) a vs
 | .dT kvs=>kvs.length<=sizeLine/\(a == sysModules)=false/\∃ xs:List (List Key × Addr × Value),
  Paired (λ(p:List Key × V) (q:List Key × Addr × Value)=>p.1=q.1/\H q.2.1=some (.tup (p.1.map kV))/\yZ p.2 q.2.2) kvs xs /\
  ∃ o es ep,h.get? a=some o/\o.ExactDict/\o.data=.dict es ep/\es.toList=xs.map (entryOfKey (tupleKind (yI P w)))/\(xs.map (·.1)).Nodup
 | .set S n=>h.SetOf (intKind P w) a S n
 | .ins C dx fs=>H dx=some (.own a)/\fs.length<=1000/\dx≠a/\h.get? a=some (W.instObj C dx) /\
  ∃ mA,h.Ns1 dx mA/\(∀ f,zh7 (fs.lookup f) (mA f))/\PySem.Within mA (fs.map (·.1))
 | .own _=>∃ o,h.get? a=some o
 | .xd fs=>∃ mA,h.Ns1 a mA/\∀ f,zh7 (fs.lookup f) (mA f)
 | .rng lo hi=>∃ t u v,h.get? a=some { cls:=.type "range",data:=.fields #[.int lo t,.int hi u,.int 1 v] }
 | .frz o u=>h.get? a=some o/\yR H h a u
 | .tbl ps=>h.get? a=some { cls:=.none,data:=.fields ps }
 | .met f x=>h.get? a=some (W.methodObj (.ref f) (.ref x))
 | .ext φ=>φ h/\(∃ o,h.get? a=some o)/\∀ h1 h2:Heap,φ h1->(∀ o,h1.get? a=some o->h2.get? a=some o)->φ h2
noncomputable def HOk (H:Hp)(h:Heap):Prop:=∀ a o,H a=some o->yR P w H h a o
end
section
variable {P:Program}{w:World}{H H':Hp}{h h':Heap}{a:Addr}{o:HO}
theorem yR.lt (x:yR P w H h a o):a < h.objs.size:=by
 cases o with
 | lst xs=>obtain⟨_,_,_,_,e⟩:=x;exact Heap.lt_size e
 | tup xs=>obtain⟨_,_,_,p⟩:=x;exact p.lt
 | dK kvs=>obtain⟨_,_,_,_,o,_,_,e,_⟩:=x;exact Heap.lt_size e
 | dT kvs=>obtain⟨_,_,_,_,o,_,_,e,_⟩:=x;exact Heap.lt_size e
 | set S n=>obtain⟨o,_,_,_,e,_⟩:=x;exact Heap.lt_size e
 | ins C dx fs=>obtain⟨_,_,_,e,_⟩:=x;exact Heap.lt_size e
 | own y=>obtain⟨_,e⟩:=x;exact Heap.lt_size e
 | xd fs=>obtain⟨_,⟨_,_,_,e,_⟩,_⟩:=x;exact Heap.lt_size e
 | rng lo hi=>obtain⟨_,_,_,e⟩:=x;exact Heap.lt_size e
 | frz ob u=>obtain⟨e,_⟩:=x;exact Heap.lt_size e
 | tbl ps=>exact Heap.lt_size (show h.get? a=some _ from x)
 | met f y=>exact Heap.lt_size (show h.get? a=some _ from x)
 | ext φ=>obtain⟨_,⟨_,e⟩,_⟩:=x;exact Heap.lt_size e
theorem Paired.mapP {α β:Type}{F G:α->β->Prop}:∀ {l₁:List α} {l₂:List β},Paired F l₁ l₂->(∀ a b,F a b->G a b)->Paired G l₁ l₂:=by
 intro l1 l2 h f
 induction h with
 | nil=>exact .nil
 | cons r t ih=>exact .cons (f _ _ r) ih
theorem yR.stay (x:yR P w H h a o)(k:∀ b u,(b=a\/H b=some (.own a))->h.get? b=some u->h'.get? b=some u)
 (ho:∀ b,H b=some (.own a)->H' b=some (.own a)) (ht:∀ b xs,H b=some (.tup xs)->H' b=some (.tup xs)):yR P w H' h' a o:=by
 induction o with
 | lst xs=>obtain⟨z,its,n,r,e⟩:=x;exact⟨z,its,n,r,k _ _ (.inl rfl) e⟩
 | tup xs=>obtain⟨z,its,r,ob,e,c⟩:=x;exact⟨z,its,r,ob,k _ _ (.inl rfl) e,c⟩
 | dK kvs=>obtain⟨z,y,vs,r,ob,es,ep,e,c⟩:=x;exact⟨z,y,vs,r,ob,es,ep,k _ _ (.inl rfl) e,c⟩
 | dT kvs =>
  obtain⟨z,y,xs,r,ob,es,ep,e,c⟩:=x
  exact⟨z,y,xs,Paired.mapP r λp q z=>⟨z.1,ht _ _ z.2.1,z.2.2⟩,ob,es,ep,k _ _ (.inl rfl) e,c⟩
 | set S n=>obtain⟨ob,es,ep,t,e,c⟩:=x;exact⟨ob,es,ep,t,k _ _ (.inl rfl) e,c⟩
 | ins C dx fs =>
  obtain⟨d,z,ne,e,mA,⟨od,es,ep,e2,c⟩,r⟩:=x
  exact⟨ho _ d,z,ne,k _ _ (.inl rfl) e,mA,⟨od,es,ep,k _ _ (.inr d) e2,c⟩,r⟩
 | own y=>obtain⟨ob,e⟩:=x;exact⟨ob,k _ _ (.inl rfl) e⟩
 | xd fs=>obtain⟨mA,⟨od,es,ep,e,c⟩,r⟩:=x;exact⟨mA,⟨od,es,ep,k _ _ (.inl rfl) e,c⟩,r⟩
 | rng lo hi=>obtain⟨t,u,v,e⟩:=x;exact⟨t,u,v,k _ _ (.inl rfl) e⟩
 | frz ob u ih=>obtain⟨e,q⟩:=x;exact⟨k _ _ (.inl rfl) e,ih q⟩
 | tbl ps =>
  have e:h.get? a=some { cls:=.none,data:=.fields ps }:=x
  show h'.get? a=some { cls:=.none,data:=.fields ps }
  exact k a _ (.inl rfl) e
 | met f y =>
  have e:h.get? a=some (W.methodObj (.ref f) (.ref y)):=x
  show h'.get? a=some (W.methodObj (.ref f) (.ref y))
  exact k a _ (.inl rfl) e
 | ext φ=>obtain⟨p,⟨o,e⟩,st⟩:=x;exact⟨st _ _ p λo q=>k _ _ (.inl rfl) q,⟨o,k _ _ (.inl rfl) e⟩,st⟩
theorem HOk.lt (x:HOk P w H h)(e:H a=some o):a < h.objs.size:=(x a o e).lt
theorem HOk.fresh (x:HOk P w H h)(e:h.objs.size<=a):H a=none:=by
 cases q:H a with
 | none=>rfl
 | some u=>exact absurd (Nat.lt_of_lt_of_le (x.lt q) e) (Nat.lt_irrefl _)
theorem HOk.kept (x:HOk P w H h)(k:∀ b u,h.get? b=some u->h'.get? b=some u):HOk P w H h':=λa o e =>
 (x a o e).stay (λb u _ q=>k b u q) (λ_ q=>q) λ_ _ q=>q
theorem HOk.laid (x:HOk P w H h)(k:∀ b u,h.get? b=some u->h'.get? b=some u)(hp:h.objs.size<=a)(new:yR P w (upd H a o) h' a o):HOk P w (upd H a o) h':=λb u e=>by
 have hn:=x.fresh hp
 by_cases hb:b=a
 .subst hb;rw[zo]at e;cases e;exact new
 .rw[zq hb]at e
  exact(x b u e).stay (λc v _ q=>k c v q) (λc q=>by rw[zq (zn q hn)];exact q) λc xs q=>by rw[zq (zn q hn)];exact q
end
noncomputable def Rd (H:Hp)(a:Addr)(u:HO):Prop:=H a=some u\/∃ o,H a=some (.frz o u)
theorem Rd.ok {P:Program}{w:World}{H:Hp}{h:Heap}{a:Addr}{u:HO}(r:Rd H a u)(x:HOk P w H h):yR P w H h a u:=by
 rcases r with r | ⟨o,r⟩
 .exact x a u r
 .obtain⟨_,q⟩:=x a _ r
  exact q
noncomputable def Mut:Option HO->Prop
 | some (.lst _)=>True
 | some (.dK _)=>True
 | some (.dT _)=>True
 | some (.set _ _)=>True
 | some (.ins _ _ _)=>True
 | some (.ext _)=>True
 | _=>False
section
variable {P:Program}{w:World}{H:Hp}{h h':Heap}{x e:Addr}{o':HO}
theorem HOk.write (ok:HOk P w H h)(mu:Mut (H x))(he:e=x\/H e=some (.own x))(k:∀ b u,b≠e->h.get? b=some u->h'.get? b=some u)(heo:∃ u,h'.get? e=some u)
 (new:yR P w (upd H x o') h' x o'):HOk P w (upd H x o') h':=λb u q=>by
 have nown:∀ c y,H c=some (.own y)->c≠x:=λc y r z=>by subst z;rw[r]at mu;exact mu
 have ntup:∀ c xs,H c=some (.tup xs)->c≠x:=λc xs r z=>by subst z;rw[r]at mu;exact mu
 by_cases hb:b=x
 .subst hb;rw[zo]at q;cases q;exact new
 .rw[zq hb]at q
  by_cases hbe:b=e
  .have q':H b=some (.own x):=by
    rcases he with z | z
    .exact absurd (hbe.trans z) hb
    .rw[hbe];exact z
   rw[q]at q';cases q'
   obtain⟨v,hv⟩:=heo
   exact⟨v,by rw[hbe];exact hv⟩
  .refine(ok b u q).stay (λc v hc r=>k c v ?_ r) (λc r=>by rw[zq (nown c b r)];exact r) λc xs r=>by rw[zq (ntup c xs r)];exact r
   rcases hc with rfl | hc
   .exact hbe
   .rintro rfl
    rcases he with z | z
    .exact nown c b hc z
    .rw[hc]at z;cases z;exact hb rfl
end
structure Un (fs ex:List Addr) (H H':Hp) (h h':Heap):Prop where
 keep:∀ b o,h.get? b=some o->H b=none->b∉fs->b∉ex->h'.get? b=some o
 slot:∀ b o,h.get? b=some o->H b=none->b∈fs->b∉ex->∃ sl,h'.get? b=some { o with slots:=sl }
 free:∀ b o,h.get? b=some o->H b=none->b∉ex->H' b=none
 there:∀ b o,h.get? b=some o->b∉ex->∃ o',h'.get? b=some o'
 tups:∀ b xs,H b=some (.tup xs)->H' b=some (.tup xs)
 frzs:∀ b o u,H b=some (.frz o u)->H' b=some (.frz o u)
 tbls:∀ b ps,H b=some (.tbl ps)->∃ more,H' b=some (.tbl (ps++more))
section
variable {fs fs' ex ex':List Addr}{H H1 H2:Hp}{h h1 h2 h':Heap}{a x e:Addr}{o:HO}
theorem Un.any (u:Un fs ex H H1 h h1){b:Addr}{ob:Obj}(q:h.get? b=some ob)(n:H b=none)(hx:b∉ex):∃ sl,h1.get? b=some { ob with slots:=sl }:=by
 by_cases hb:b∈fs
 .exact u.slot b ob q n hb hx
 .exact⟨ob.slots,u.keep b ob q n hb hx⟩
theorem Un.kept (k:∀ b u,h.get? b=some u->h'.get? b=some u):Un fs ex H H h h' :=
 ⟨λb ob q _ _ _=>k b ob q,λb ob q _ _ _=>⟨ob.slots,k b ob q⟩,λ_ _ _ n _=>n,λb ob q _=>⟨ob,k b ob q⟩,λ_ _ q=>q,λ_ _ _ q=>q,λ_ ps q=>⟨#[],by rw[q];simp⟩⟩
theorem Un.refl:Un fs ex H H h h:=Un.kept λ_ _ q=>q
theorem Un.laid (k:∀ b u,h.get? b=some u->h'.get? b=some u)(hp:h.objs.size<=a)(hn:H a=none):Un fs ex H (upd H a o) h h' where
 keep:=λb u q _ _ _=>k b u q
 slot:=λb u q _ _ _=>⟨u.slots,k b u q⟩
 free:=λb u q n _=>by rw[zq (Nat.ne_of_lt (Nat.lt_of_lt_of_le (Heap.lt_size q) hp))];exact n
 there:=λb u q _=>⟨u,k b u q⟩
 tups:=λb xs q=>by rw[zq (zn q hn)];exact q
 frzs:=λb u xs q=>by rw[zq (zn q hn)];exact q
 tbls:=λb ps q=>⟨#[],by rw[zq (zn q hn),q];simp⟩
theorem Un.write (mu:Mut (H x))(he:e=x\/H e=some (.own x))(k:∀ b u,b≠e->h.get? b=some u->h'.get? b=some u)(heo:∃ u,h'.get? e=some u):Un fs ex H (upd H x o) h h':=by
 have hx:∀ b,H b=none->b≠x:=λb n z=>by subst z;rw[n]at mu;exact mu
 have hb:∀ b,H b=none->b≠e:=λb n z=>by
  subst z
  rcases he with r | r
  .exact hx b n r
  .rw[n]at r;cases r
 have hm:∀ b u,H b=some u->¬ Mut (some u)->b≠x:=λb u q nm z=>by subst z;rw[q]at mu;exact nm mu
 refine⟨λb u q n _ _=>k b u (hb b n) q,λb u q n _ _=>⟨u.slots,k b u (hb b n) q⟩,λb u q n _=>by rw[zq (hx b n)];exact n,λb u q _=>?_,
  λb xs q=>by rw[zq (hm b _ q λz=>z)];exact q,λb u xs q=>by rw[zq (hm b _ q λz=>z)];exact q,λb ps q=>⟨#[],by rw[zq (hm b _ q λz=>z),q];simp⟩⟩
 by_cases hbe:b=e
 .subst hbe;exact heo
 .exact⟨u,k b u hbe q⟩
end
noncomputable def trk (h:Heap)(H:Hp):List Addr:=(List.range h.objs.size).filter λa=>(H a).isSome
noncomputable def zg8 (h:Heap)(H:Hp):Heap:=W.hideAll h (trk h H)
theorem zfF (h:Heap)(H:Hp):(zg8 h H).objs.size=h.objs.size:=W.hideAll_size _ _
theorem zgU {h:Heap}{H:Hp}{b:Addr}{o:Obj}(e:h.get? b=some o)(n:H b=none):(zg8 h H).get? b=some o :=
 W.hideAll_get _ e λhm=>by
  have q:(H b).isSome=true:=(List.mem_filter.mp hm).2
  rw[n]at q;simp at q
theorem zic {h:Heap}{H:Hp}{b:Addr}{o:Obj}(e:(zg8 h H).get? b=some o):h.get? b=some o/\H b=none:=by
 have e':h.get? b=some o:=W.of_hideAll (trk h H) e
 refine⟨e',?_⟩
 cases q:H b with
 | none=>rfl
 | some x =>
  have hm:b∈trk h H:=List.mem_filter.mpr ⟨List.mem_range.mpr (Heap.lt_size e'),by simp[q]⟩
  have z:(zg8 h H).get? b=none:=W.hideAll_none (trk h H) hm
  rw[z]at e;cases e
noncomputable def zij (g h:Heap)(L:Addr):List (Addr × Obj):=(List.range h.objs.size).filterMap λa=>if a=L\/(g.get? a).isSome=true then none else (h.get? a).map λo=>(a,o)
noncomputable def rest (g h:Heap)(L d:Addr):List (Addr × Obj):=(zij g h L).filter λp=>decide (p.1≠d)
structure Mod (K:W.Frag) (mg:Str->Option Value) (base:Heap):Prop where
 kin:K.In base
 glob:base.Ns mainGlobals mg
 blt:∃ mb,base.Ns builtinsNs mb/\∀ x:Str,x≠"__name__"->mb x=bootBuiltins x
 nolimit:base.NoLimit
structure Cx where
 prog:Program
 w:World
 K:W.Frag
 mg:Str->Option Value
 base:Heap
 A:Around
 N:List Str
 s₀:Shared
 H₀:Hp
 env:Env
 outer:List Env
 stack:List Env
 ex:List Addr
 fn:Str->Bool
 calm:Bool
 pn:List (Addr × Obj)
 xe:Value->Shared->Prop
noncomputable def frs (l:List Env):List Addr:=l.filterMap (·.frame)
noncomputable abbrev Cx.fs (X:Cx):List Addr:=frs X.outer
noncomputable def Vis (sc:Scope)(x:Str):Prop:=sc.names.lookup x=some .local\/sc.names.lookup x=some .cell\/sc.names.lookup x=some .free
noncomputable def Loc (sc:Scope)(x:Str):Prop:=sc.names.lookup x=some .local\/sc.names.lookup x=some .cell
noncomputable def Look (env:Env)(h:Heap)(m:Str->Option Value)(x:Str)(u:Value):Prop :=
 (env.kindOf x=some .local/\m x=some u)\/((env.kindOf x=some .cell\/env.kindOf x=some .free)/\∃ c,env.cells.lookup x=some c/\h.IsCell c (some u))
structure Cx.Ok (X:Cx):Prop where
 mod:Mod X.K X.mg X.base
 kind:X.env.scope.kind=.function
 glob:X.env.globals=mainGlobals
 blt:X.env.builtins=builtinsNs
 above:X.s₀.heap.objs.size<=X.env.locals
 inj:∀ x y c,X.env.cells.lookup x=some c->X.env.cells.lookup y=some c->x=y
 has:∀ x,(X.env.kindOf x=some .cell\/X.env.kindOf x=some .free)->∃ c,X.env.cells.lookup x=some c
 cab:∀ x c,X.fn x=true->X.env.cells.lookup x=some c->X.s₀.heap.objs.size<=c
 hd:X.calm=true->X.A.handled=none
 frames:X.A.frames=some X.stack
 stk:X.stack=X.outer\/(X.stack=X.env::X.outer/\X.env.frame=some X.env.locals)
 exf:∀ b∈X.ex,b≠X.env.locals/\∀ x c,X.env.cells.lookup x=some c->c≠b
 bs:∀ b o,X.base.get? b=some o->X.s₀.heap.get? b=some o/\X.H₀ b=none
 bsz:X.base.objs.size<=X.s₀.heap.objs.size
 noex:∀ b o,X.base.get? b=some o->b∉X.ex
 exfs:∀ b∈X.ex,b∉X.fs
 funs:X.s₀.heap.FunFrames X.base X.outer
 frf:∀ b∈X.fs,X.H₀ b=none
structure Inv (X:Cx) (pins:List (Addr × Obj)) (σ:List (Option V)) (H:Hp) (s:Shared):Prop where
 ok:X.Ok
 os:s.os=X.s₀.os
 bare:AllBare s.gens
 base:Un X.fs X.ex X.H₀ H X.s₀.heap s.heap
 loc:∃ m,s.heap.Ns X.env.locals m/\∀ (i:Nat) (x:Str) (v:V),X.N[i]?=some x->σ[i]?=some (some v)->Vis X.env.scope x->∃ u,yZ v u/\Look X.env s.heap m x u
 cell:∀ x c,X.env.cells.lookup x=some c->∃ v,s.heap.IsCell c v
 free:H X.env.locals=none
 freeC:∀ x c,X.env.cells.lookup x=some c->H c=none
 pin:∀ p∈X.pn++pins,s.heap.get? p.1=some p.2/\H p.1=none/\p.1≠X.env.locals/\p.1∉X.fs/\∀ v,p.2.data≠.cell v
 hok:HOk X.prog X.w H s.heap
 len:σ.length=X.N.length
section
variable {X:Cx}{pins:List (Addr × Obj)}{σ:List (Option V)}{H H':Hp}{s:Shared}{h':Heap}
theorem Cx.Ok.nofr (ok:X.Ok){b:Addr}{o:Obj}(e:X.base.get? b=some o):b∉X.fs:=λhb=>by
 have:=(ok.funs.mem hb).1
 rw[e]at this;cases this
theorem Inv.bs (I:Inv X pins σ H s):∀ b o,X.base.get? b=some o->s.heap.get? b=some o/\H b=none:=λb o e =>
 ⟨I.base.keep b o (I.ok.bs b o e).1 (I.ok.bs b o e).2 (I.ok.nofr e) (I.ok.noex b o e),I.base.free b o (I.ok.bs b o e).1 (I.ok.bs b o e).2 (I.ok.noex b o e)⟩
theorem Inv.bk (I:Inv X pins σ H s):∀ b o,X.base.get? b=some o->s.heap.get? b=some o:=λb o e=>(I.bs b o e).1
theorem Inv.mod (I:Inv X pins σ H s):Mod X.K X.mg X.base:=I.ok.mod
theorem Inv.kIn (I:Inv X pins σ H s):X.K.In s.heap:=I.ok.mod.kin.keeps I.bk
theorem Inv.fr (I:Inv X pins σ H s):∃ m,Fr X.base X.env.locals s.heap m :=
 let ⟨m,hn,_⟩:=I.loc
 ⟨m,hn,I.bk,Nat.le_trans I.ok.bsz I.ok.above⟩
theorem Inv.lt (I:Inv X pins σ H s):X.env.locals < s.heap.objs.size:=let ⟨_,hn,_⟩:=I.loc;hn.lt
theorem Inv.sz (I:Inv X pins σ H s):X.s₀.heap.objs.size<=s.heap.objs.size:=Nat.le_trans I.ok.above (Nat.le_of_lt I.lt)
theorem Inv.nofs (I:Inv X pins σ H s){a:Addr}(h:s.heap.objs.size<=a):a∉X.fs:=λhb=>by
 obtain⟨_,o,ho,_⟩:=I.ok.funs.mem hb
 exact absurd (Nat.lt_of_lt_of_le (Heap.lt_size ho) (Nat.le_trans I.sz h)) (Nat.lt_irrefl _)
theorem Inv.cne (I:Inv X pins σ H s):∀ x c,X.env.cells.lookup x=some c->c≠X.env.locals:=λx c e z=>by
 obtain⟨v,o,ho,hd⟩:=I.cell x c e
 obtain⟨m,⟨o',es,ep,ho',hd',_⟩,_⟩:=I.loc
 rw[z,ho']at ho;cases ho;rw[hd']at hd;cases hd
theorem Inv.funs (I:Inv X pins σ H s):s.heap.FunFrames X.base X.outer:=by
 have all:∀ (l:List Env),(∀ b∈frs l,b∈X.fs)->X.s₀.heap.FunFrames X.base l->s.heap.FunFrames X.base l:=by
  intro l
  induction l with
  | nil=>intro _ _;trivial
  | cons env r ih =>
   intro hs hl
   obtain⟨hk,⟨L,o,hf,hn,ho,hd⟩,hr⟩:=hl
   have hL:L∈X.fs:=hs L (by unfold frs;rw[List.filterMap_cons,hf];exact List.mem_cons_self)
   obtain⟨sl,e⟩:=I.base.slot L o ho (I.ok.frf L hL) hL λz=>I.ok.exfs L z hL
   exact⟨hk,⟨L,_,hf,hn,e,hd⟩,ih (λb hb=>hs b (by unfold frs;rw[List.filterMap_cons,hf];exact List.mem_cons_of_mem _ hb)) hr⟩
 exact all X.outer (λ_ hb=>hb) I.ok.funs
theorem Inv.stack (I:Inv X pins σ H s):s.heap.FunFrames X.base X.stack:=by
 rcases I.ok.stk with e | ⟨e,hf⟩
 .rw[e];exact I.funs
 .rw[e]
  obtain⟨m,hn,_⟩:=I.loc
  refine .cons (by rw[I.ok.kind];decide) hf hn ?_ I.funs
  exact Heap.get?_none_of_le (Nat.le_trans I.ok.bsz I.ok.above)
theorem Inv.stkSub (I:Inv X pins σ H s):∀ b∈frs X.stack,b∈X.env.locals::X.fs:=λb hb=>by
 rcases I.ok.stk with e | ⟨e,hf⟩
 .rw[e]at hb;exact List.mem_cons_of_mem _ hb
 .rw[e]at hb
  unfold frs at hb
  rw[List.filterMap_cons,hf]at hb
  exact hb
theorem Inv.stkFree (I:Inv X pins σ H s):∀ b∈frs X.stack,H b=none:=λb hb=>by
 rcases List.mem_cons.mp (I.stkSub b hb)with e | hb
 .rw[e];exact I.free
 .obtain⟨_,o,ho,_⟩:=I.ok.funs.mem hb
  exact I.base.free b o ho (I.ok.frf b hb) λz=>I.ok.exfs b z hb
theorem Inv.step {g':Array GenState}{t':Nat}{d':Drawn}{ch:List Addr}(I:Inv X pins σ H s)
 (hch:∀ b∈ch,(b∈X.ex\/X.s₀.heap.objs.size<=b)/\b≠X.env.locals/\(∀ x c,X.env.cells.lookup x=some c->c≠b)/\∀ p∈X.pn++pins,p.1≠b)
 (keep:∀ b o,b≠X.env.locals->b∉X.fs->b∉ch->s.heap.get? b=some o->H b=none->h'.get? b=some o)
 (slot:∀ b o,b≠X.env.locals->b∈X.fs->b∉ch->s.heap.get? b=some o->H b=none->∃ sl,h'.get? b=some { o with slots:=sl }) (free:∀ b o,b∉ch->s.heap.get? b=some o->H b=none->H' b=none)
 (there:∀ b o,b∉ch->s.heap.get? b=some o->∃ o',h'.get? b=some o')
 (tups:∀ b xs,H b=some (.tup xs)->H' b=some (.tup xs)) (frzs:∀ b o u,H b=some (.frz o u)->H' b=some (.frz o u)) (tbls:∀ b ps,H b=some (.tbl ps)->∃ more,H' b=some (.tbl (ps++more)))
 (ns:∀ m,s.heap.Ns X.env.locals m->h'.Ns X.env.locals m) (hok:HOk X.prog X.w H' h') (hg:AllBare g') :
 Inv X pins σ H' { s with heap:=h',gens:=g',drawn:=d',toks:=t' }:=by
 have neL:∀ b o,X.s₀.heap.get? b=some o->b≠X.env.locals:=λb o e=>Nat.ne_of_lt (Nat.lt_of_lt_of_le (Heap.lt_size e) I.ok.above)
 have neC:∀ b o,X.s₀.heap.get? b=some o->b∉X.ex->b∉ch:=λb o e hx hb=>by
  rcases(hch b hb).1 with z | z
  .exact hx z
  .exact absurd (Nat.lt_of_lt_of_le (Heap.lt_size e) z) (Nat.lt_irrefl _)
 have cellK:∀ x c,X.env.cells.lookup x=some c->∀ v,s.heap.IsCell c v->h'.IsCell c v:=λx c e v ⟨o,ho,hd⟩=>by
  have nch:c∉ch:=λz=>(hch c z).2.2.1 x c e rfl
  by_cases hc:c∈X.fs
  .obtain⟨sl,q⟩:=slot c o (I.cne x c e) hc nch ho (I.freeC x c e)
   exact⟨_,q,hd⟩
  .exact⟨o,keep c o (I.cne x c e) hc nch ho (I.freeC x c e),hd⟩
 refine⟨I.ok,I.os,hg,⟨λb o e n hb hx=>?_,λb o e n hb hx=>?_,λb o e n hx=>?_,λb o e hx=>?_,λb xs e=>tups b xs (I.base.tups b xs e),λb o xs e=>frzs b o xs (I.base.frzs b o xs e),λb ps e=>?_⟩,?_,λx c e=>?_,?_,λx c e=>?_,λp hp=>?_,hok,I.len⟩
 .exact keep b o (neL b o e) hb (neC b o e hx) (I.base.keep b o e n hb hx) (I.base.free b o e n hx)
 .obtain⟨sl,e1⟩:=I.base.slot b o e n hb hx
  obtain⟨sl',e2⟩:=slot b _ (neL b o e) hb (neC b o e hx) e1 (I.base.free b o e n hx)
  exact⟨sl',e2⟩
 .obtain⟨o',e1⟩:=I.base.there b o e hx
  exact free b o' (neC b o e hx) e1 (I.base.free b o e n hx)
 .obtain⟨o',e1⟩:=I.base.there b o e hx
  exact there b o' (neC b o e hx) e1
 .obtain⟨m1,e1⟩:=I.base.tbls b ps e
  obtain⟨m2,e2⟩:=tbls b _ e1
  exact⟨m1++m2,by rw[e2,Array.append_assoc]⟩
 .obtain⟨m,hn,hl⟩:=I.loc
  refine⟨m,ns m hn,λi x v e1 e2 e3=>?_⟩
  obtain⟨u,r,l⟩:=hl i x v e1 e2 e3
  refine⟨u,r,?_⟩
  rcases l with l | ⟨k,c,e,z⟩
  .exact .inl l
  .exact .inr ⟨k,c,e,cellK x c e _ z⟩
 .obtain⟨v,z⟩:=I.cell x c e
  exact⟨v,cellK x c e v z⟩
 .obtain⟨m,⟨o,_,_,ho,_⟩,_⟩:=I.loc
  exact free _ o (λz=>(hch _ z).2.1 rfl) ho I.free
 .obtain⟨v,o,ho,hd⟩:=I.cell x c e
  exact free c o (λz=>(hch c z).2.2.1 x c e rfl) ho (I.freeC x c e)
 .obtain⟨e,n,ne,nf,d⟩:=I.pin p hp
  have nch:p.1∉ch:=λz=>(hch p.1 z).2.2.2 p hp rfl
  exact⟨keep p.1 p.2 ne nf nch e n,free p.1 p.2 nch e n,ne,nf,d⟩
theorem Inv.un {t':Nat}(I:Inv X pins σ H s)(u:Un X.fs [] H H' s.heap h')(hok:HOk X.prog X.w H' h'):Inv X pins σ H' { s with heap:=h',toks:=t' }:=by
 obtain⟨m,⟨o,es,ep,ho,r⟩,_⟩:=id I.loc
 obtain⟨sl,hL⟩:=u.any ho I.free (by simp)
 exact I.step (g':=s.gens) (d':=s.drawn) (ch:=[]) (λ_ z=>nomatch z) (λb o _ hb _ e n=>u.keep b o e n hb (by simp)) (λb o _ hb _ e n=>u.slot b o e n hb (by simp)) (λb o _ e n=>u.free b o e n (by simp)) (λb o _ e=>u.there b o e (by simp)) u.tups u.frzs u.tbls (λm' hm=>by
  obtain⟨o',es',ep',ho',r'⟩:=hm
  rw[ho]at ho';cases ho'
  exact⟨_,es',ep',hL,r'⟩) hok I.bare
theorem Inv.call {g':Array GenState}{t':Nat}{d':Drawn}{ch:List Addr}(I:Inv X pins σ H s)(u:Un (frs X.stack) ch H H' s.heap h')(hok:HOk X.prog X.w H' h')(hg:AllBare g')
 (hch:∀ b∈ch,(b∈X.ex\/X.s₀.heap.objs.size<=b)/\b≠X.env.locals/\(∀ x c,X.env.cells.lookup x=some c->c≠b)/\∀ p∈X.pn++pins,p.1≠b) :
 Inv X pins σ H' { s with heap:=h',gens:=g',drawn:=d',toks:=t' }:=by
 obtain⟨m,⟨o,es,ep,ho,r⟩,_⟩:=id I.loc
 obtain⟨sl,hL⟩:=u.any ho I.free λz=>(hch _ z).2.1 rfl
 exact I.step (ch:=ch) hch (λb o hL hb hc e n=>u.keep b o e n (λz=>(List.mem_cons.mp (I.stkSub b z)).elim hL hb) hc) (λb o _ _ hc e n=>u.any e n hc) (λb o hc e n=>u.free b o e n hc) (λb o hc e=>u.there b o e hc) u.tups u.frzs u.tbls (λm' hm=>by
  obtain⟨o',es',ep',ho',r'⟩:=hm
  rw[ho]at ho';cases ho'
  exact⟨_,es',ep',hL,r'⟩) hok hg
theorem Inv.turned {t':Nat}{it:Addr}(I:Inv X pins σ H s)(k:∀ b o,b≠it->s.heap.get? b=some o->h'.get? b=some o)(hn:H it=none)(hL:it≠X.env.locals)
 (h1:it∈X.ex\/X.s₀.heap.objs.size<=it) (h2:∀ x c,X.env.cells.lookup x=some c->c≠it) (h3:∀ p∈X.pn++pins,p.1≠it):Inv X pins σ H { s with heap:=h',toks:=t' }:=by
 have nit:∀ b u,H b=some u->b≠it:=λb u e z=>by rw[z,hn]at e;cases e
 refine I.step (g':=s.gens) (d':=s.drawn) (ch:=[it]) (λb hb=>?_) (λb o _ _ hc e _=>k b o (λz=>hc (by simp[z])) e) (λb o _ _ hc e _=>⟨o.slots,k b o (λz=>hc (by simp[z])) e⟩) (λ_ _ _ _ n=>n)
  (λb o hc e=>⟨o,k b o (λz=>hc (by simp[z])) e⟩) (λ_ _ e=>e) (λ_ _ _ e=>e) (λb ps e=>⟨#[],by rw[e];simp⟩) (λm hm=>?_) (λb u e=>?_) I.bare
 .have e:b=it:=by simpa using hb
  subst e
  exact⟨h1,hL,h2,h3⟩
 .obtain⟨o,es,ep,ho,r⟩:=hm
  exact⟨o,es,ep,k _ o (Ne.symm hL) ho,r⟩
 .refine(I.hok b u e).stay (λc v hc q=>k c v ?_ q) (λ_ q=>q) λ_ _ q=>q
  rcases hc with z | z
  .rw[z];exact nit b u e
  .exact nit c _ z
theorem Inv.tok (I:Inv X pins σ H s)(t:Nat):Inv X pins σ H { s with toks:=t }:=I.un (h':=s.heap) (t':=t) Un.refl I.hok
theorem Inv.kept {t':Nat}(I:Inv X pins σ H s)(k:∀ b u,s.heap.get? b=some u->h'.get? b=some u):Inv X pins σ H { s with heap:=h',toks:=t' }:=I.un (Un.kept k) (I.hok.kept k)
theorem Inv.laid {a:Addr}{o:HO}{t':Nat}(I:Inv X pins σ H s)(k:∀ b u,s.heap.get? b=some u->h'.get? b=some u)(hp:s.heap.objs.size<=a)(new:yR X.prog X.w (upd H a o) h' a o) :
 Inv X pins σ (upd H a o) { s with heap:=h',toks:=t' }:=I.un (Un.laid k hp (I.hok.fresh hp)) (I.hok.laid k hp new)
theorem Inv.write {x e:Addr}{o:HO}{t':Nat}(I:Inv X pins σ H s)(mu:Mut (H x))(he:e=x\/H e=some (.own x))(k:∀ b u,b≠e->s.heap.get? b=some u->h'.get? b=some u)(heo:∃ u,h'.get? e=some u)
 (new:yR X.prog X.w (upd H x o) h' x o):Inv X pins σ (upd H x o) { s with heap:=h',toks:=t' }:=I.un (Un.write mu he k heo) (I.hok.write mu he k heo new)
theorem Inv.weak {σ':List (Option V)}(I:Inv X pins σ H s)(hl:σ'.length=σ.length)(w:∀ (i:Nat) v,σ'[i]?=some (some v)->σ[i]?=some (some v)):Inv X pins σ' H s :=
 ⟨I.ok,I.os,I.bare,I.base,let ⟨m,hn,hl'⟩:=I.loc;⟨m,hn,λi x v e1 e2 e3=>hl' i x v e1 (w i v e2) e3⟩,I.cell,I.free,I.freeC,I.pin,I.hok,hl.trans I.len⟩
theorem Inv.pins_of {pins':List (Addr × Obj)}(I:Inv X pins σ H s)(h:∀ p∈pins',s.heap.get? p.1=some p.2/\H p.1=none/\p.1≠X.env.locals/\p.1∉X.fs/\∀ v,p.2.data≠.cell v):Inv X pins' σ H s :=
 ⟨I.ok,I.os,I.bare,I.base,I.loc,I.cell,I.free,I.freeC,λp hp=>(List.mem_append.mp hp).elim (λz=>I.pin p (List.mem_append_left _ z)) (h p),I.hok,I.len⟩
theorem zcm {N:List Str}(hN:N.Nodup){i j:Nat}{x:Str}(a:N[i]?=some x)(b:N[j]?=some x):i=j:=by
 obtain⟨h1,e1⟩:=List.getElem?_eq_some_iff.mp a
 obtain⟨h2,e2⟩:=List.getElem?_eq_some_iff.mp b
 exact(List.getElem_inj hN).mp (e1.trans e2.symm)
theorem zfn {M:Model}{A:Around}{E:Value->Shared->Prop}{i:Nat}{x:Str}{v:V}{u:Value}{Q:Unit->Shared->Prop}(I:Inv X pins σ H s)(hN:X.N.Nodup)(hi:X.N[i]?=some x)(hx:Loc X.env.scope x)(r:yZ v u)
 (h:∀ s',Inv X pins (σ.set i (some v)) H s'->(∃ a,Heap.SameBut a s.heap s'.heap/\(a=X.env.locals\/X.env.cells.lookup x=some a))->Q () s') (hf:X.fn x=true\/X.env.scope.names.lookup x=some .local:=by first | exact .inl rfl | exact .inr rfl | assumption):wpAny M A (storeName X.env x u) Q E s:=by
 obtain⟨m,hn,hl⟩:=id I.loc
 have hcls:(X.env.scope.kind == .class||(X.env.scope.kind == .module&&X.env.locals != X.env.globals))=false:=by rw[I.ok.kind];rfl
 have hiσ:i < σ.length:=by rw[I.len];exact(List.getElem?_eq_some_iff.mp hi).1
 have cne:=I.cne
 have tracked:∀ {a:Addr} {h':Heap},(∃ o,s.heap.get? a=some o/\H a=none)->Heap.SameBut a s.heap h'->HOk X.prog X.w H h':=λ{a h'} ha hs b ob e=>by
  obtain⟨_,_,hfree⟩:=ha
  refine(I.hok b ob e).stay (λc w' hc q=>(hs.2 c ?_).trans q) (λ_ q=>q) λ_ _ q=>q
  rintro rfl
  rcases hc with rfl | hc
  .rw[hfree]at e;cases e
  .rw[hfree]at hc;cases hc
 rcases hx with hk | hk
 .refine wpAny_storeName_local hk hn (λh' hn' hs=>?_) hcls
  obtain⟨oL,_,_,hoL,_⟩:=id hn
  refine h _ ⟨I.ok,I.os,I.bare,⟨λb o e n hb hx=>?_,λb o e n hb hx=>?_,I.base.free,λb o e hx=>?_,I.base.tups,I.base.frzs,I.base.tbls⟩,⟨_,hn',λj y v' e1 e2 e3=>?_⟩,λy c e=>?_,I.free,I.freeC,λp hp=>?_,tracked ⟨oL,hoL,I.free⟩ hs,by simpa using I.len⟩ ⟨_,hs,.inl rfl⟩
  .exact(hs.2 b (Nat.ne_of_lt (Nat.lt_of_lt_of_le (Heap.lt_size e) I.ok.above))).trans (I.base.keep b o e n hb hx)
  .obtain⟨sl,e1⟩:=I.base.slot b o e n hb hx
   exact⟨sl,(hs.2 b (Nat.ne_of_lt (Nat.lt_of_lt_of_le (Heap.lt_size e) I.ok.above))).trans e1⟩
  .obtain⟨o',e1⟩:=I.base.there b o e hx
   exact⟨o',(hs.2 b (Nat.ne_of_lt (Nat.lt_of_lt_of_le (Heap.lt_size e) I.ok.above))).trans e1⟩
  .by_cases hj:j=i
   .subst hj
    rw[hi]at e1;cases e1
    rw[List.getElem?_set_self hiσ]at e2
    cases e2
    exact⟨u,r,.inl ⟨hk,by simp⟩⟩
   .rw[List.getElem?_set_ne (Ne.symm hj)]at e2
    obtain⟨u',r',q⟩:=hl j y v' e1 e2 e3
    refine⟨u',r',?_⟩
    rcases q with ⟨k,e⟩ | ⟨k,c,e,z⟩
    .refine .inl ⟨k,?_⟩
     have:y≠x:=λe=>hj (zcm hN e1 (e ▸ hi))
     simp[this,e]
    .exact .inr ⟨k,c,e,z.sameBut hs (cne y c e)⟩
  .obtain⟨w',z⟩:=I.cell y c e
   exact⟨w',z.sameBut hs (cne y c e)⟩
  .obtain⟨e,n,ne,nf,d⟩:=I.pin p hp
   exact⟨(hs.2 p.1 ne).trans e,n,ne,nf,d⟩
 .have hfn:X.fn x=true:=by
   rcases hf with z | z
   .exact z
   .rw[z]at hk;cases hk
  obtain⟨c,hc⟩:=I.ok.has x (.inl hk)
  obtain⟨w',z⟩:=I.cell x c hc
  refine wpAny_storeName_cell I.ok.kind hk hc z (λh' hc' hs=>?_)
  obtain⟨oc,hoc,hocd⟩:=id z
  refine h { s with heap:=h' } ⟨I.ok,I.os,I.bare,⟨λb o e n hb hx=>?_,λb o e n hb hx=>?_,I.base.free,λb o e hx=>?_,I.base.tups,I.base.frzs,I.base.tbls⟩,⟨m,hn.sameBut hs (Ne.symm (cne x c hc)),λj y v' e1 e2 e3=>?_⟩,λy c' e=>?_,I.free,I.freeC,λp hp=>?_,tracked ⟨oc,hoc,I.freeC x c hc⟩ hs,by simpa using I.len⟩ ⟨c,hs,.inr hc⟩
  .exact(hs.2 b (Nat.ne_of_lt (Nat.lt_of_lt_of_le (Heap.lt_size e) (I.ok.cab x c hfn hc)))).trans (I.base.keep b o e n hb hx)
  .obtain⟨sl,e1⟩:=I.base.slot b o e n hb hx
   exact⟨sl,(hs.2 b (Nat.ne_of_lt (Nat.lt_of_lt_of_le (Heap.lt_size e) (I.ok.cab x c hfn hc)))).trans e1⟩
  .obtain⟨o',e1⟩:=I.base.there b o e hx
   exact⟨o',(hs.2 b (Nat.ne_of_lt (Nat.lt_of_lt_of_le (Heap.lt_size e) (I.ok.cab x c hfn hc)))).trans e1⟩
  .by_cases hj:j=i
   .subst hj
    rw[hi]at e1;cases e1
    rw[List.getElem?_set_self hiσ]at e2
    cases e2
    exact⟨u,r,.inr ⟨.inl hk,c,hc,hc'⟩⟩
   .rw[List.getElem?_set_ne (Ne.symm hj)]at e2
    obtain⟨u',r',q⟩:=hl j y v' e1 e2 e3
    refine⟨u',r',?_⟩
    rcases q with q | ⟨k,c',e,z'⟩
    .exact .inl q
    .refine .inr ⟨k,c',e,z'.sameBut hs ?_⟩
     rintro rfl
     exact hj (zcm hN e1 (I.ok.inj _ _ _ e hc ▸ hi))
  .by_cases hcc:c'=c
   .subst hcc;exact⟨_,hc'⟩
   .obtain⟨w2,z2⟩:=I.cell y c' e
    exact⟨w2,z2.sameBut hs hcc⟩
  .obtain⟨e,n,ne,nf,d⟩:=I.pin p hp
   refine⟨(hs.2 p.1 ?_).trans e,n,ne,nf,d⟩
   intro q
   rw[q,hoc]at e
   have q':oc=p.2:=Option.some.inj e
   exact d w' (by rw[<-q'];exact hocd)
theorem zcH {M:Model}{A:Around}{E:Value->Shared->Prop}{i:Nat}{x:Str}{v:V}{u:Value}{Q:Unit->Shared->Prop}(I:Inv X pins σ H s)(hN:X.N.Nodup)(hi:X.N[i]?=some x)(hx:Loc X.env.scope x)(r:yZ v u)
 (h:∀ s',Inv X pins (σ.set i (some v)) H s'->Q () s') (hf:X.fn x=true\/X.env.scope.names.lookup x=some .local:=by first | exact .inl rfl | exact .inr rfl | assumption):wpAny M A (storeName X.env x u) Q E s :=
 zfn I hN hi hx r (λs' I' _=>h s' I') hf
theorem Inv.call' {s':Shared}{ch:List Addr}(I:Inv X pins σ H s)(ho:s'.os=s.os)(u:Un (frs X.stack) ch H H' s.heap s'.heap)(hok:HOk X.prog X.w H' s'.heap)(hg:AllBare s'.gens)
 (hch:∀ b∈ch,(b∈X.ex\/X.s₀.heap.objs.size<=b)/\b≠X.env.locals/\(∀ x c,X.env.cells.lookup x=some c->c≠b)/\∀ p∈X.pn++pins,p.1≠b):Inv X pins σ H' s':=by
 obtain⟨h',g',d',t',o'⟩:=s'
 have e:o'=s.os:=ho
 subst e
 exact I.call (g':=g') (t':=t') (d':=d') u hok hg hch
end
noncomputable abbrev XK:=Value->Option Addr->Hp->Prop
noncomputable abbrev St:=List (Option V)
noncomputable abbrev VK:=V->Hp->Prop
noncomputable abbrev TE:=St->Hp->VK->Prop
noncomputable abbrev TT:=St->Hp->(Bool->Hp->Prop)->Prop
noncomputable abbrev TA:=St->Hp->(List V->Hp->Prop)->Prop
structure zf6 where
 nx:St->Hp->Prop
 rt:VK
 bk:St->Hp->Prop:=λ_ _=>False
 ct:St->Hp->Prop:=λ_ _=>False
noncomputable abbrev TS:=zf6->St->Hp->Prop
noncomputable def EP (X:Cx)(pins:List (Addr × Obj))(σ:St)(Q:VK)(u:Value)(s':Shared):Prop:=∃ v H',Inv X pins σ H' s'/\yZ v u/\Q v H'
noncomputable def TP (X:Cx)(pins:List (Addr × Obj))(σ:St)(Q:Bool->Hp->Prop)(b:Bool)(s':Shared):Prop:=∃ H',Inv X pins σ H' s'/\Q b H'
noncomputable def AP (X:Cx)(pins:List (Addr × Obj))(σ:St)(Q:List V->Hp->Prop)(us:List Value)(s':Shared):Prop:=∃ vs H',Inv X pins σ H' s'/\yw vs us/\Q vs H'
noncomputable def SP (X:Cx)(pins:List (Addr × Obj))(D:zf6)(f:Flow)(s':Shared):Prop :=
 match f with
 | .next=>∃ σ' H',Inv X pins σ' H' s'/\D.nx σ' H'
 | .brk=>∃ σ' H',Inv X pins σ' H' s'/\D.bk σ' H'
 | .cont=>∃ σ' H',Inv X pins σ' H' s'/\D.ct σ' H'
 | .ret u=>∃ v σ' H',Inv X pins σ' H' s'/\yZ v u/\D.rt v H'
noncomputable def PE (X:Cx)(e:Expr)(t:TE):Prop :=
 ∀ (pins:List (Addr × Obj)) (s:Shared) (σ:St) (H:Hp) (Q:VK),Inv X pins σ H s->t σ H Q->wpAny (model X.prog X.w) X.A (eval e X.env) (EP X pins σ Q) X.xe s
noncomputable def PT (X:Cx)(e:Expr)(t:TT):Prop :=
 ∀ (pins:List (Addr × Obj)) (s:Shared) (σ:St) (H:Hp) (Q:Bool->Hp->Prop),Inv X pins σ H s->t σ H Q->wpAny (model X.prog X.w) X.A (isTrue e X.env (eval e X.env)) (TP X pins σ Q) X.xe s
noncomputable def PW (X:Cx)(e:Expr)(t:TT):Prop :=
 ∀ (whole:Sem Value) (pins:List (Addr × Obj)) (s:Shared) (σ:St) (H:Hp) (Q:Bool->Hp->Prop),Inv X pins σ H s->t σ H Q->wpAny (model X.prog X.w) X.A (isTrue e X.env whole) (TP X pins σ Q) X.xe s
theorem PW.pt {X:Cx}{e:Expr}{t:TT}(h:PW X e t):PT X e t:=h _
noncomputable def PA (X:Cx)(es:List Expr)(t:TA):Prop :=
 ∀ (pos:Pos) (pins:List (Addr × Obj)) (s:Shared) (σ:St) (H:Hp) (Q:List V->Hp->Prop),Inv X pins σ H s->t σ H Q->wpAny (model X.prog X.w) X.A (spliced (backTo pos (starEach es X.env))) (AP X pins σ Q) X.xe s
noncomputable def PS (X:Cx)(st:Stmt)(t:TS):Prop :=
 ∀ (pins:List (Addr × Obj)) (s:Shared) (σ:St) (H:Hp) (D:zf6),Inv X pins σ H s->t D σ H->wpAny (model X.prog X.w) X.A (exec st X.env) (SP X pins D) X.xe s
noncomputable def PSs (X:Cx)(st:List Stmt)(t:TS):Prop :=
 ∀ (pins:List (Addr × Obj)) (s:Shared) (σ:St) (H:Hp) (D:zf6),Inv X pins σ H s->t D σ H->wpAny (model X.prog X.w) X.A (execs st X.env) (SP X pins D) X.xe s
theorem thn {α:Type}{t:Sem α}{Q Q':α->Shared->Prop}{M:Model}{A:Around}{E:Value->Shared->Prop}{s:Shared}(h:wpAny M A t Q E s)(hQ:∀ a s,Q a s->Q' a s):wpAny M A t Q' E s:=wpAny_mono h hQ λ_ _ x=>x
section
variable {X:Cx}
theorem bin {a b:Expr}{ta tb:TE}(ha:PE X a ta)(hb:PE X b tb){pins:List (Addr × Obj)}{s:Shared}{σ:St}{H:Hp}{R:V->V->Hp->Prop}(I:Inv X pins σ H s)(h:ta σ H λx H1=>tb σ H1 λy H2=>R x y H2)
 {α:Type} {Q:α->Shared->Prop} {f:Value->Value->Sem α}
 (hf:∀ v u s2 x y H2,Inv X pins σ H2 s2->yZ x v->yZ y u->R x y H2->wpAny (model X.prog X.w) X.A (f v u) Q X.xe s2) :
 wpAny (model X.prog X.w) X.A (eval a X.env) (λv s₁=>wpAny (model X.prog X.w) X.A (eval b X.env) (λu s₂=>wpAny (model X.prog X.w) X.A (f v u) Q X.xe s₂) X.xe s₁) X.xe s:=by
 refine thn (ha pins s σ H _ I h) λv s1 hh9=>?_
 obtain⟨x,H1,I1,r1,q1⟩:=hh9
 refine thn (hb pins s1 σ H1 _ I1 q1) λu s2 hh9=>?_
 obtain⟨y,H2,I2,r2,q2⟩:=hh9
 exact hf v u s2 x y H2 I2 r1 r2 q2
noncomputable def zhO (i:Nat):TE:=fun σ H Q=>∃ v,σ[i]?=some (some v)/\Q v H
noncomputable def tC (v:V):TE:=λ_ H Q=>Q v H
theorem zkA {i:Nat} {x:Str} {pos:Pos} (hN:X.N[i]?=some x) (hv:Vis X.env.scope x) (hd:(x == ("__debug__":Str))=false:=by decide) (hcd:(x == ("__classdict__":Str))=false:=by decide):PE X (.Name x pos) (zhO i):=by
 intro pins s σ H Q I h
 obtain⟨v,e,h⟩:=h
 obtain⟨m,hn,hl⟩:=I.loc
 obtain⟨u,r,l⟩:=hl i x v hN e hv
 have fin:EP X pins σ Q u s:=⟨v,H,I,r,h⟩
 rcases l with ⟨hk,hm⟩ | ⟨hk,c,hc,hcell⟩
 .exact wpAny_Name (wpAny_loadName_local I.ok.kind hk hn hm fin) hd
 .rcases hk with hk | hk
  .exact wpAny_Name (wpAny_loadName_cell I.ok.kind hk hc hcell fin) hd
  .exact wpAny_Name (wpAny_loadName_free I.ok.kind hk hc hcell fin hcd) hd
theorem zg {i j pos}:PE X (.Constant (.int i) j pos) (tC (.int i)):=λ_ _ _ H _ I h=>wpAny_Constant_int ⟨.int i,H,I.tok _,⟨_,rfl⟩,h⟩
theorem wc {b j pos}:PE X (.Constant (.bool b) j pos) (tC (.bl b)):=λ_ _ _ H _ I h=>Constant_bool ⟨.bl b,H,I,rfl,h⟩
theorem zb9 {j pos}:PE X (.Constant .none j pos) (tC .non):=λ_ _ _ H _ I h=>Constant_none ⟨.non,H,I,rfl,h⟩
theorem zkP {x j pos}:PE X (.Constant (.str x) j pos) (tC (.str x)):=λ_ _ _ H _ I h=>Calls.Constant_str ⟨.str x,H,I.tok _,⟨_,rfl⟩,h⟩
noncomputable def Gl (X:Cx)(x:Str):Prop:=X.env.kindOf x=some .globalImplicit
theorem zfN {E:Value->Shared->Prop}{pins:List (Addr × Obj)}{s:Shared}{σ:St}{H:Hp}{x:Str}{u:Value}{pos:Pos}{Q:Value->Shared->Prop}(I:Inv X pins σ H s)(hg:Gl X x)(hm:X.mg x=some u)(h:Q u s)
 (hd:(x == ("__debug__":Str))=false:=by decide):wpAny (model X.prog X.w) X.A (eval (.Name x pos) X.env) Q E s :=
 Calls.Name_function_global I.ok.kind hg (Calls.loadGlobal_global (by rw[I.ok.glob];exact I.mod.glob.keeps I.bk) hm h) hd
theorem ZJ {E:Value->Shared->Prop}{pins:List (Addr × Obj)}{s:Shared}{σ:St}{H:Hp}{x:Str}{u:Value}{pos:Pos}{Q:Value->Shared->Prop}(I:Inv X pins σ H s)(hg:Gl X x)(hm:X.mg x=none)(hv:bootBuiltins x=some u)(h:Q u s)
 (hn:x≠"__name__":=by decide) (hd:(x == ("__debug__":Str))=false:=by decide):wpAny (model X.prog X.w) X.A (eval (.Name x pos) X.env) Q E s:=by
 obtain⟨mb,h1,h2⟩:=I.mod.blt
 exact Calls.Name_function_global I.ok.kind hg (Calls.loadGlobal_builtin (by rw[I.ok.glob];exact I.mod.glob.keeps I.bk) hm (by rw[I.ok.blt];exact h1.keeps I.bk) ((h2 x hn).trans hv) h) hd
theorem zbN {x:Str} {v:V} {u:Value} {pos:Pos} (hg:Gl X x) (hm:X.mg x=some u) (r:yZ v u) (hd:(x == ("__debug__":Str))=false:=by decide):PE X (.Name x pos) (tC v) :=
 λ_ _ _ H _ I h=>zfN I hg hm ⟨v,H,I,r,h⟩ hd
theorem yl {x:Str} {v:V} {u:Value} {pos:Pos} (hg:Gl X x) (hm:X.mg x=none) (hv:bootBuiltins x=some u) (r:yZ v u) (hn:x≠"__name__":=by decide) (hd:(x == ("__debug__":Str))=false:=by decide):PE X (.Name x pos) (tC v) :=
 λ_ _ _ H _ I h=>ZJ I hg hm hv ⟨v,H,I,r,h⟩ hn hd
variable {a b:Expr}{ta tb:TE}{pos:Pos}
noncomputable def PC (X:Cx)(op:CmpOp)(a b:Expr)(t:TE):Prop :=
 ∀ (pins:List (Addr × Obj)) (s:Shared) (σ:St) (H:Hp) (Q:VK),Inv X pins σ H s->t σ H Q ->
  wpAny (model X.prog X.w) X.A (eval a X.env) (λv s₁=>wpAny (model X.prog X.w) X.A (eval b X.env) (λu s₂=>wpAny (model X.prog X.w) X.A (compareOp op v u) (EP X pins σ Q) X.xe s₂) X.xe s₁) X.xe s
theorem zgr (b:Expr){op:CmpOp}(h:op≠.In)(h2:op≠.NotIn):behindInMarks op b=false:=by
 have e1:(op == CmpOp.In)=false:=by cases op <;> first | rfl | exact absurd rfl h
 have e2:(op == CmpOp.NotIn)=false:=by cases op <;> first | rfl | exact absurd rfl h2
 cases b <;> simp[behindInMarks,e1,e2]
noncomputable def tB (t:TE):TT:=fun σ H Q=>t σ H λx H1=>∃ c,x=.bl c/\Q c H1
theorem pt_cmp {op:CmpOp}{t:TE}(h:PC X op a b t)(h1:behindInMarks op b=false:=by first | exact zgr _ (by decide) (by decide) | rfl):PT X (.Compare a [op] [b] pos) (tB t):=by
 intro pins s σ H Q I hw
 refine wpAny_isTrue_Compare1 (thn (h pins s σ H _ I hw) λv s1 h1=>thn h1 λu s2 h2=>thn h2 λc s3 hh9=>?_) h1
 obtain⟨x,H1,I1,r1,q1⟩:=hh9
 obtain⟨d,rfl,q⟩:=q1
 cases r1
 exact wpAny_truthy_bool ⟨H1,I1,q⟩
theorem zkd {e:Expr}{t:TE}(h:PE X e t)(he:∀ whole,isTrue e X.env whole=(do let v<-whole;standAt e.pos;holding [v] (truthy v)):=by intro _;rfl):PT X e (tB t):=by
 intro pins s σ H Q I hw
 refine isTrue_plain (thn (h pins s σ H _ I hw) λv s1 hh9=>?_) (he _)
 obtain⟨x,H1,I1,r1,q1⟩:=hh9
 obtain⟨d,rfl,q⟩:=q1
 cases r1
 exact wpAny_truthy_bool ⟨H1,I1,q⟩
variable {tA tB':TT}{rest:List Expr}
noncomputable def tAnd (t u:TT):TT:=fun σ H Q=>t σ H λc H1=>if c=true then u σ H1 Q else Q false H1
noncomputable def tOr (t u:TT):TT:=fun σ H Q=>t σ H λc H1=>if c=true then Q true H1 else u σ H1 Q
noncomputable def tNot (t:TT):TT:=fun σ H Q=>t σ H λc H1=>Q (!c) H1
theorem zhX (ha:PT X a tA):PW X (.BoolOp .And [a] pos) tA:=by
 intro wh pins s σ H Q I h
 refine isTrue_and (thn (ha pins s σ H Q I h) λc s1 e=>?_)
 cases c with
 | true=>exact isTrue_and_nil e
 | false=>exact e
theorem zk3 (ha:PT X a tA):PW X (.BoolOp .Or [a] pos) tA:=by
 intro wh pins s σ H Q I h
 refine isTrue_or (thn (ha pins s σ H Q I h) λc s1 e=>?_)
 cases c with
 | false=>exact isTrue_or_nil e
 | true=>exact e
theorem zjv (ha:PT X a tA)(hb:PW X (.BoolOp .And (b::rest) pos) tB'):PW X (.BoolOp .And (a::b::rest) pos) (tAnd tA tB'):=by
 intro wh pins s σ H Q I h
 refine isTrue_and (thn (ha pins s σ H _ I h) λc s1 hh9=>?_)
 obtain⟨H1,I1,q1⟩:=hh9
 cases c with
 | true=>exact hb wh pins s1 σ H1 Q I1 q1
 | false=>exact⟨H1,I1,q1⟩
theorem zmq (ha:PT X a tA)(hb:PW X (.BoolOp .Or (b::rest) pos) tB'):PW X (.BoolOp .Or (a::b::rest) pos) (tOr tA tB'):=by
 intro wh pins s σ H Q I h
 refine isTrue_or (thn (ha pins s σ H _ I h) λc s1 hh9=>?_)
 obtain⟨H1,I1,q1⟩:=hh9
 cases c with
 | true=>exact⟨H1,I1,q1⟩
 | false=>exact hb wh pins s1 σ H1 Q I1 q1
theorem zkg (ha:PT X a tA):PT X (.UnaryOp .Not a pos) (tNot tA):=by
 intro pins s σ H Q I h
 exact isTrue_not (ha pins s σ H (λc H1=>Q (!c) H1) I h)
noncomputable def zl3 (ta tb:TE):TE:=fun σ H Q=>ta σ H λx H1=>∃ c,x=.bl c/\if c=true then tb σ H1 Q else Q (.bl false) H1
noncomputable def zmb (ta:TE):TE:=fun σ H Q=>ta σ H λx H1=>∃ c,x=.bl c/\Q (.bl (!c)) H1
theorem zk2 {op}{t:TE}(h:PE X a t):PE X (.BoolOp op [a] pos) t:=λpins s σ H Q I hw=>BoolOp_one (h pins s σ H Q I hw)
theorem zjR (ha:PE X a ta)(hb:PE X (.BoolOp .And (b::rest) pos) tb):PE X (.BoolOp .And (a::b::rest) pos) (zl3 ta tb):=by
 intro pins s σ H Q I h
 refine BoolOp_and (thn (ha pins s σ H _ I h) λv s1 hh9=>?_)
 obtain⟨x,H1,I1,r1,q1⟩:=hh9
 obtain⟨c,rfl,q1⟩:=q1
 cases r1
 refine wpAny_truthy_bool ?_
 cases c with
 | true=>exact hb pins s1 σ H1 Q I1 q1
 | false=>exact⟨.bl false,H1,I1,rfl,q1⟩
theorem zjm (ha:PE X a ta):PE X (.UnaryOp .Not a pos) (zmb ta):=by
 intro pins s σ H Q I h
 refine UnaryOp_ (thn (ha pins s σ H _ I h) λv s1 hh9=>?_)
 obtain⟨x,H1,I1,r1,q1⟩:=hh9
 obtain⟨c,rfl,q1⟩:=q1
 cases r1
 exact not_of (wpAny_truthy_bool ⟨.bl (!c),H1,I1,rfl,q1⟩)
end
noncomputable def SqL (K:W.Frag)(H:Hp)(a:Addr)(xs:List V):Prop :=
 Rd H a (.lst xs) \/
  ∃ (o:Obj) (its:Array Value) (n:Nat),K.lookup a=some o/\o.cls=.type "list"/\o.dict=none/\o.data=.seq its n/\its.size<=sizeLine/\yw xs its.toList
noncomputable def SqT (K:W.Frag)(H:Hp)(a:Addr)(xs:List V):Prop :=
 Rd H a (.tup xs) \/
  ∃ (o:Obj) (its:Array Value) (n:Nat),K.lookup a=some o/\o.cls=.type "tuple"/\o.data=.seq its n/\its.size<=sizeLine/\yw xs its.toList
noncomputable def absV:Value->Option V
 | .none=>some .non
 | .bool b=>some (.bl b)
 | .int i _=>some (.int i)
 | .str x _=>some (.str x)
 | .bytes b _=>some (.byt b)
 | .float b _=>some (.flt b)
 | .ref a=>some (.ref a)
 | .type n=>some (.ty n)
 | _=>none
theorem yZ.abs {x:V}{u:Value}(r:yZ x u):absV u=some x:=by
 cases x with
 | non=>cases r;rfl
 | bl _=>cases r;rfl
 | int _=>obtain⟨t,rfl⟩:=r;rfl
 | str _=>obtain⟨t,rfl⟩:=r;rfl
 | byt _=>obtain⟨t,rfl⟩:=r;rfl
 | flt _=>obtain⟨t,rfl⟩:=r;rfl
 | ref _=>cases r;rfl
 | ty _=>cases r;rfl
theorem yZ.inj {x y:V}{u:Value}(r:yZ x u)(q:yZ y u):x=y:=Option.some.inj (r.abs.symm.trans q.abs)
theorem yw.inj:∀ {xs ys:List V} {us:List Value},yw xs us->yw ys us->xs=ys:=by
 intro xs ys us h
 induction h generalizing ys with
 | nil=>intro h2;cases h2;rfl
 | cons r t ih=>intro h2;cases h2 with | cons r' t'=>rw[r.inj r',ih t']
section
variable {X:Cx}{pins:List (Addr × Obj)}{σ:St}{H:Hp}{s:Shared}{a:Addr}{xs ys:List V}
theorem SqL.of {K:W.Frag}(h:H a=some (.lst xs)):SqL K H a xs:=.inl (.inl h)
theorem SqT.of {K:W.Frag}(h:H a=some (.tup xs)):SqT K H a xs:=.inl (.inl h)
theorem Inv.list (I:Inv X pins σ H s)(h:SqL X.K H a xs):∃ its:List Value,yw xs its/\PlainL s.heap a its.toArray/\xs.length<=sizeLine:=by
 rcases h with h | ⟨o,its,n,hk,hc,hd,hs,hz,r⟩
 .obtain⟨z,its,n,r,e⟩:=h.ok I.hok
  exact⟨its,r,⟨_,n,e,rfl,rfl,rfl⟩,z⟩
 .refine⟨its.toList,r,⟨o,n,I.kIn a o hk,hc,hd,by simpa using hs⟩,?_⟩
  have e:=r.length
  simp only[Array.length_toList]at e
  omega
theorem Inv.tuple (I:Inv X pins σ H s)(h:SqT X.K H a xs):∃ its:List Value,yw xs its/\IsTup s.heap a its.toArray/\xs.length<=sizeLine:=by
 rcases h with h | ⟨o,its,n,hk,hc,hs,hz,r⟩
 .obtain⟨z,its,r,p⟩:=h.ok I.hok
  exact⟨its,r,p,z⟩
 .refine⟨its.toList,r,⟨o,I.kIn a o hk,hc,n,by simpa using hs⟩,?_⟩
  have e:=r.length
  simp only[Array.length_toList]at e
  omega
theorem Inv.list_inj (I:Inv X pins σ H s)(h:SqL X.K H a xs)(h':SqL X.K H a ys):xs=ys:=by
 obtain⟨its,r,⟨o,n,e,_,_,d⟩,_⟩:=I.list h
 obtain⟨its',r',⟨o',n',e',_,_,d'⟩,_⟩:=I.list h'
 rw[e]at e';cases e'
 rw[d]at d'
 injection d' with d1 _
 have:its=its':=by simpa using congrArg Array.toList d1
 subst this
 exact r.inj r'
theorem Inv.tuple_inj (I:Inv X pins σ H s)(h:SqT X.K H a xs)(h':SqT X.K H a ys):xs=ys:=by
 obtain⟨its,r,⟨o,e,_,n,d⟩,_⟩:=I.tuple h
 obtain⟨its',r',⟨o',e',_,n',d'⟩,_⟩:=I.tuple h'
 rw[e]at e';cases e'
 rw[d]at d'
 injection d' with d1 _
 have:its=its':=by simpa using congrArg Array.toList d1
 subst this
 exact r.inj r'
end
noncomputable abbrev Cx.wish (X:Cx)(E:Value->Shared->Prop):Cx:={ X with xe:=E }
noncomputable abbrev Cx.nox (X:Cx):Cx:=X.wish λ_ _=>False
theorem Cx.Ok.wish {X:Cx}(ok:X.Ok)(E:Value->Shared->Prop):(X.wish E).Ok :=
 ⟨ok.mod,ok.kind,ok.glob,ok.blt,ok.above,ok.inj,ok.has,ok.cab,ok.hd,ok.frames,ok.stk,ok.exf,ok.bs,ok.bsz,ok.noex,ok.exfs,ok.funs,ok.frf⟩
theorem Cx.Ok.unwish {X:Cx}{E:Value->Shared->Prop}(ok:(X.wish E).Ok):X.Ok :=
 ⟨ok.mod,ok.kind,ok.glob,ok.blt,ok.above,ok.inj,ok.has,ok.cab,ok.hd,ok.frames,ok.stk,ok.exf,ok.bs,ok.bsz,ok.noex,ok.exfs,ok.funs,ok.frf⟩
section
variable {X:Cx}{pins:List (Addr × Obj)}{σ:St}{H:Hp}{s:Shared}{E:Value->Shared->Prop}
theorem Inv.wish (I:Inv X pins σ H s)(E:Value->Shared->Prop):Inv (X.wish E) pins σ H s:=⟨I.ok.wish E,I.os,I.bare,I.base,I.loc,I.cell,I.free,I.freeC,I.pin,I.hok,I.len⟩
theorem Inv.unwish (I:Inv (X.wish E) pins σ H s):Inv X pins σ H s:=⟨I.ok.unwish,I.os,I.bare,I.base,I.loc,I.cell,I.free,I.freeC,I.pin,I.hok,I.len⟩
theorem SP.unwish {D:zf6}{f:Flow}{s':Shared}(h:SP (X.wish E) pins D f s'):SP X pins D f s':=by
 cases f with
 | next=>obtain⟨σ',H',I,q⟩:=h;exact⟨σ',H',I.unwish,q⟩
 | brk=>obtain⟨σ',H',I,q⟩:=h;exact⟨σ',H',I.unwish,q⟩
 | cont=>obtain⟨σ',H',I,q⟩:=h;exact⟨σ',H',I.unwish,q⟩
 | ret u=>obtain⟨v,σ',H',I,r,q⟩:=h;exact⟨v,σ',H',I.unwish,r,q⟩
theorem PSs.nox {st:List Stmt}{t:TS}(h:PSs X.nox st t):PSs X st t:=λpins s σ H D I hw =>
 wpAny_mono (h pins s σ H D (I.wish _) hw) (λ_ _ q=>q.unwish) λ_ _ z=>False.elim z
end
section
variable {X:Cx}{st:Stmt}{rest:List Stmt}{t u:TS}{e:Expr}{te:TE}{pos:Pos}
noncomputable def zl8:TS:=λD σ H=>D.nx σ H
noncomputable def tSeq (t u:TS):TS:=λD σ H=>t { D with nx:=u D } σ H
theorem zi7:PSs X [] zl8:=λ_ _ σ H _ I h=>wpAny_execs_nil ⟨σ,H,I,h⟩
theorem zf3 (h1:PS X st t)(h2:PSs X rest u):PSs X (st::rest) (tSeq t u):=by
 intro pins s σ H D I h
 refine wpAny_execs_cons (thn (h1 pins s σ H { D with nx:=u D } I h) λf s1 q=>?_)
 cases f with
 | next =>
  obtain⟨σ',H',I',q⟩:=q
  exact h2 pins s1 σ' H' D I' q
 | ret v=>exact q
 | brk=>exact q
 | cont=>exact q
theorem zhU (h1:PS X st t):PSs X [st] t:=by
 intro pins s σ H D I h
 refine wpAny_execs_cons (thn (h1 pins s σ H D I h) λf s1 q=>?_)
 cases f with
 | next=>exact wpAny_execs_nil q
 | ret v=>exact q
 | brk=>exact q
 | cont=>exact q
theorem Inv.quiet {pins:List (Addr × Obj)}{σ:St}{H:Hp}{s:Shared}(I:Inv X pins σ H s):interactive X.env=false:=by simp[interactive,I.ok.kind]
noncomputable def zmd (te:TE):TS:=λD σ H=>te σ H λ_ H1=>D.nx σ H1
theorem Vl (he:PE X e te)(hs:swapsWith e none pos.line X.env=pure false:=by rfl):PS X (.Expr e pos) (zmd te):=by
 intro pins s σ H D I h
 exact wpAny_Expr_any (thn (he pins s σ H _ I h) λv s1 ⟨x,H1,I1,r1,q1⟩=>⟨σ,H1,I1,q1⟩) I.quiet hs
noncomputable def tRet (te:TE):TS:=λD σ H=>te σ H D.rt
theorem zj9 (he:PE X e te):PS X (.Return (some e) pos) (tRet te):=by
 intro pins s σ H D I h
 exact wpAny_Return_some (thn (he pins s σ H _ I h) λv s1 ⟨x,H1,I1,r1,q1⟩=>⟨x,σ,H1,I1,r1,q1⟩)
noncomputable def tIfS (c:TT)(t u:TS):TS:=λD σ H=>c σ H λb H1=>if b=true then t D σ H1 else u D σ H1
theorem zmo {c:Expr}{a b:List Stmt}{tc:TT}(hc:PT X c tc)(ha:PSs X a t)(hb:PSs X b u):PS X (.If c a b pos) (tIfS tc t u):=by
 intro pins s σ H D I h
 refine wpAny_If (thn (hc pins s σ H _ I h) λd s1 hh9=>?_)
 obtain⟨H1,I1,q1⟩:=hh9
 cases d with
 | true=>exact ha pins s1 σ H1 D I1 q1
 | false=>exact hb pins s1 σ H1 D I1 q1
noncomputable def zkS:TS:=λ_ _ _=>False
theorem zhf:PS X st zkS:=λ_ _ _ _ _ _ h=>h.elim
end
noncomputable abbrev TG:=V->St->Hp->(St->Hp->Prop)->Prop
noncomputable abbrev TGs:=List V->St->Hp->(St->Hp->Prop)->Prop
noncomputable def PG (X:Cx)(target:Expr)(t:TG):Prop :=
 ∀ (pins:List (Addr × Obj)) (s:Shared) (σ:St) (H:Hp) (v:V) (u:Value) (Q:St->Hp->Prop),Inv X pins σ H s->yZ v u->t v σ H Q ->
  wpAny (model X.prog X.w) X.A (assign target X.env u) (λ_ s'=>∃ σ' H',Inv X pins σ' H' s'/\Q σ' H') X.xe s
noncomputable def PGs (X:Cx)(ts:List Expr)(t:TGs):Prop :=
 ∀ (pins:List (Addr × Obj)) (s:Shared) (σ:St) (H:Hp) (vs:List V) (us:List Value) (Q:St->Hp->Prop),Inv X pins σ H s->yw vs us->t vs σ H Q ->
  wpAny (model X.prog X.w) X.A (assignInOrder ((assignEach ts X.env).map (·.2)) us) (λ_ s'=>∃ σ' H',Inv X pins σ' H' s'/\Q σ' H') X.xe s
noncomputable abbrev zl7:=V->V->V->Hp->(Hp->Prop)->Prop
noncomputable def PSet (X:Cx)(t:zl7):Prop :=
 ∀ (pins:List (Addr × Obj)) (s:Shared) (σ:St) (H:Hp) (o i v:V) (ov iv u:Value) (Q:Hp->Prop),Inv X pins σ H s->yZ o ov->yZ i iv->yZ v u->t o i v H Q ->
  wpAny (model X.prog X.w) X.A (setItem ov iv u) (λ_ s'=>∃ H',Inv X pins σ H' s'/\Q H') X.xe s
section
variable {X:Cx}{pos:Pos}
noncomputable def zcS (i:Nat):TG:=λv σ H Q=>Q (σ.set i (some v)) H
theorem zL {i:Nat}{x:Str}(hN:X.N.Nodup)(hi:X.N[i]?=some x)(hx:Loc X.env.scope x)(hf:X.fn x=true\/X.env.scope.names.lookup x=some .local:=by first | exact .inl rfl | exact .inr rfl | assumption):PG X (.Name x pos) (zcS i):=by
 intro pins s σ H v u Q I r h
 exact wpAny_assign_Name (zcH I hN hi hx r (λs' I'=>⟨_,H,I',h⟩) hf)
noncomputable def gNil:TGs:=λvs σ H Q=>vs=[]/\Q σ H
noncomputable def zlF (t:TG)(u:TGs):TGs:=λvs σ H Q=>∃ v r,vs=v::r/\t v σ H fun σ' H'=>u r σ' H' Q
theorem ziV:PGs X [] gNil:=by
 intro pins s σ H vs us Q I r h
 obtain⟨e,h⟩:=h
 subst e
 cases r
 exact assignInOrder_nil ⟨σ,H,I,h⟩
theorem zgA {e:Expr}{es:List Expr}{t:TG}{u:TGs}(h1:PG X e t)(h2:PGs X es u)
 (hs:(assignEach (e::es) X.env).map (·.2)=assign e X.env::(assignEach es X.env).map (·.2):=by rfl):PGs X (e::es) (zlF t u):=by
 intro pins s σ H vs us Q I r h
 obtain⟨v,vr,e1,h⟩:=h
 subst e1
 cases r with
 | cons r rr =>
  rw[hs]
  refine assignInOrder_cons (thn (h1 pins s σ H _ _ _ I r h) λ_ s1 hh9=>?_)
  obtain⟨σ1,H1,I1,q1⟩:=hh9
  exact h2 pins s1 σ1 H1 _ _ Q I1 rr q1
noncomputable def gTup (K:W.Frag)(n:Nat)(t:TGs):TG:=λv σ H Q=>∃ a xs,v=.ref a/\SqT K H a xs/\xs.length=n/\t xs σ H Q
theorem zjV {es:List Expr}{k:Nat}{t:TGs}{n:Nat}(hc:X.calm=true)(h:PGs X es t)
 (hn:(assignEach es X.env).length=n:=by rfl) (hst:(assignEach es X.env).findIdx? (·.1)=none:=by rfl):PG X (.Tuple es k pos) (gTup X.K n t):=by
 intro pins s σ H v u Q I r hw
 obtain⟨a,xs,e1,hq,hl,hw⟩:=hw
 subst e1
 cases r
 obtain⟨its,rv,ht,hz⟩:=I.tuple hq
 refine assign_Tuple_tuple (I.ok.hd hc) ht (by simp[hn,<- hl,rv.length]) hst λh' hx=>?_
 have I1:Inv X pins σ H { s with heap:=h' }:=I.kept (t':=s.toks) λb o e=>hx b o (Nat.ne_of_lt (Heap.lt_size e)) e
 exact h pins _ σ H xs _ Q I1 (by simpa using rv) hw
noncomputable def gSub (to ti:TE)(t:zl7):TG:=λv σ H Q=>to σ H λo H1=>ti σ H1 λi H2=>t o i v H2 λH3=>Q σ H3
theorem zjT {o i:Expr}{to ti:TE}{t:zl7}(ho:PE X o to)(hi:PE X i ti)(hs:PSet X t)
 (ha:∀ v,assign (.Subscript o i pos) X.env v=(do
  let ov<-holding [v] (eval o X.env)
  let iv<-holding [v,ov] (eval i X.env)
  standAt pos
  holding [v,ov,iv] (setItem ov iv v)
  release [v,ov,iv] []):=by intro _;rfl):PG X (.Subscript o i pos) (gSub to ti t):=by
 intro pins s σ H v u Q I r h
 rw[ha]
 refine wpAny_bind (wpAny_holding (thn (ho pins s σ H _ I h) λov s1 hh9=>?_))
 obtain⟨x,H1,I1,r1,q1⟩:=hh9
 refine wpAny_bind (wpAny_holding (thn (hi pins s1 σ H1 _ I1 q1) λiv s2 hh9=>?_))
 obtain⟨y,H2,I2,r2,q2⟩:=hh9
 refine wpAny_bind (wpAny_standAt (wpAny_bind (wpAny_holding (thn (hs pins s2 σ H2 x y v ov iv u _ I2 r1 r2 r q2) λ_ s3 hh9=>?_))))
 obtain⟨H3,I3,q3⟩:=hh9
 exact wpAny_release ⟨σ,H3,I3,q3⟩
noncomputable def tAsg (te:TE)(g:TG):TS:=λD σ H=>te σ H λx H1=>g x σ H1 D.nx
theorem zkl {tg e:Expr}{te:TE}{g:TG}(he:PE X e te)(hg:PG X tg g)(hs:swapsWithSole [tg] e pos.line X.env=pure false:=by rfl)(hw:swappedStores [tg] e X.env=pure none:=by rfl)
 (h1:(assignEach [tg] X.env).map (·.2)=[assign tg X.env]:=by rfl):PS X (.Assign [tg] e pos) (tAsg te g):=by
 intro pins s σ H D I h
 refine wpAny_Assign_stores (thn (he pins s σ H _ I h) λv s1 hh9=>?_) hs hw
 obtain⟨x,H1,I1,r1,q1⟩:=hh9
 rw[h1]
 exact thn (hg pins s1 σ H1 x v _ I1 r1 q1) λ_ s2 q=>q
theorem zar {i:Nat}{x:Str}{e:Expr}{te:TE}{pos':Pos}(hN:X.N.Nodup)(hi:X.N[i]?=some x)(hx:Loc X.env.scope x)(he:PE X e te)(hs:swapsWith e (some (.Name x pos')) pos.line X.env=pure false:=by rfl)(hf:X.fn x=true\/X.env.scope.names.lookup x=some .local:=by first | exact .inl rfl | exact .inr rfl | assumption) :
 PS X (.Assign [.Name x pos'] e pos) (tAsg te (zcS i)):=by
 intro pins s σ H D I h
 refine wpAny_Assign_Name (thn (he pins s σ H _ I h) λv s1 hh9=>?_) hs
 obtain⟨y,H1,I1,r1,q1⟩:=hh9
 exact zcH I1 hN hi hx r1 (λs2 I2=>⟨_,H1,I2,q1⟩) hf
noncomputable def zjQ (c:TT)(tb:TS):TS:=λD σ H=>∃ W:Nat->St->Hp->Prop,(∃ m,W m σ H)/\∀ m σ H,W m σ H ->
 c σ H λb H1=>if b=true then ∃ N:St->Hp->Prop,(∀ σ' H',N σ' H'->∃ m',m' < m/\W m' σ' H')/\tb { D with nx:=N,ct:=N,bk:=D.nx } σ H1 else D.nx σ H1
theorem zf4 {c:Expr}{body:List Stmt}{tc:TT}{tb:TS}(hp:PassesOwn (model X.prog X.w) X.A X.env X.xe)(hc:PT X c tc)(hb:PSs X body tb):PS X (.While c body [] pos) (zjQ tc tb):=by
 intro pins s σ H D I h
 obtain⟨W,⟨m0,w0⟩,turn⟩:=h
 refine wpAny_While (codeAny_whileLoop (λn s'=>∃ σ' H',Inv X pins σ' H' s'/\W n σ' H') ?_ m0 ⟨σ,H,I,w0⟩)
 rintro n s1 ⟨σ1,H1,I1,w1⟩
 refine wpAny_passesOwn hp (thn (hc pins s1 σ1 H1 _ I1 (turn n σ1 H1 w1)) λb s2 hh9=>?_)
 obtain⟨H2,I2,q2⟩:=hh9
 cases b with
 | true =>
  obtain⟨N,hN,q2⟩:=q2
  rw[if_pos rfl]
  refine wpAny_passesOwn hp (thn (hb pins s2 σ1 H2 _ I2 q2) λf s3 q3=>?_)
  cases f with
  | next =>
   obtain⟨σ3,H3,I3,n3⟩:=q3
   obtain⟨m',hm,w3⟩:=hN σ3 H3 n3
   exact⟨m',hm,σ3,H3,I3,w3⟩
  | cont =>
   obtain⟨σ3,H3,I3,n3⟩:=q3
   obtain⟨m',hm,w3⟩:=hN σ3 H3 n3
   exact⟨m',hm,σ3,H3,I3,w3⟩
  | brk=>exact q3
  | ret v=>exact q3
 | false =>
  rw[if_neg Bool.false_ne_true]
  exact wpAny_execs_nil ⟨σ1,H2,I2,q2⟩
end
structure It where
 go:Nat->Hp->Prop
 yld:Nat->Hp->V->Hp->Prop
 stop:Nat->Hp->Prop
noncomputable def zag (X:Cx)(pins:List (Addr × Obj))(H:Hp)(b:Addr):Prop :=
 H b=none/\b≠X.env.locals/\b∉X.fs/\(b∈X.ex\/X.s₀.heap.objs.size<=b)/\(∀ x c,X.env.cells.lookup x=some c->c≠b)/\∀ p∈X.pn++pins,p.1≠b
theorem Inv.fpOk {X:Cx}{pins:List (Addr × Obj)}{σ:St}{H H':Hp}{s:Shared}{b:Addr}(I:Inv X pins σ H s)(hb:s.heap.objs.size<=b)(hn:H' b=none):zag X pins H' b:=by
 refine⟨hn,Nat.ne_of_gt (Nat.lt_of_lt_of_le I.lt hb),I.nofs hb,.inr (Nat.le_trans I.sz hb),λx c e z=>?_,λp hp z=>?_⟩
 .obtain⟨v,q⟩:=I.cell x c e
  exact absurd (Nat.lt_of_lt_of_le q.lt (by rw[z];exact hb)) (Nat.lt_irrefl _)
 .exact absurd (Nat.lt_of_lt_of_le (Heap.lt_size (I.pin p hp).1) (by rw[z];exact hb)) (Nat.lt_irrefl _)
structure zhR (P:Program) (w:World) (K:W.Frag) (tg:Expr) (J:It) (fp:List Addr) (it:Addr) (tn:Nat->Heap->Prop):Prop where
 mem:it∈fp
 obj:∀ i h,tn i h->∀ b∈fp,∃ o,h.get? b=some o/\∀ v,o.data≠.cell v
 keep:∀ i h h',tn i h->(∀ b∈fp,∀ o,h.get? b=some o->h'.get? b=some o)->tn i h'
 item:∀ (X:Cx),X.prog=P->X.w=w->X.K=K->X.calm=true->∀ (i:Nat) (pins:List (Addr × Obj)) (s:Shared) (σ:St) (H:Hp) (E:Value->Shared->Prop),Inv X pins σ H s->(∀ b∈fp,zag X pins H b)->tn i s.heap->J.go i H ->
  wpAny (model P w) X.A (pyNext (.ref it)) (λr s1=>∃ u,r=some u /\
   wpAny (model P w) X.A (letOwnedTupleGo tg (.ref it) u) (λ_ s2=>∃ x H',Inv X pins σ H' s2/\yZ x u/\J.yld i H x H'/\tn (i+1) s2.heap/\∀ b∈fp,H' b=none) E s1) E s
 done:∀ (X:Cx),X.prog=P->X.w=w->X.K=K->X.calm=true->∀ (i:Nat) (pins:List (Addr × Obj)) (s:Shared) (σ:St) (H:Hp) (E:Value->Shared->Prop),Inv X pins σ H s->(∀ b∈fp,zag X pins H b)->tn i s.heap->J.stop i H ->
  wpAny (model P w) X.A (pyNext (.ref it)) (λr s1=>r=none/\Inv X pins σ H s1) E s
 self:∀ (A:Around) (i:Nat) (s:Shared) (Q:Value->Shared->Prop) (E:Value->Shared->Prop),tn i s.heap->Q (.ref it) s->wpAny (model P w) A (pyIter (.ref it)) Q E s
noncomputable abbrev TI:=St->Hp->(It->Hp->Prop)->Prop
noncomputable def PIE (X:Cx)(pins:List (Addr × Obj))(σ:St)(tg:Expr)(R:It->Hp->Prop)(itv:Value)(s2:Shared):Prop :=
 ∃ (it:Addr) (fp:List Addr) (tn:Nat->Heap->Prop) (J:It) (H':Hp),itv=.ref it/\Inv X pins σ H' s2/\zhR X.prog X.w X.K tg J fp it tn/\tn 0 s2.heap/\(∀ b∈fp,zag X pins H' b)/\R J H'
noncomputable def PI (X:Cx)(tg iter:Expr)(wi:TI):Prop :=
 ∀ (pins:List (Addr × Obj)) (s:Shared) (σ:St) (H:Hp) (R:It->Hp->Prop),Inv X pins σ H s->wi σ H R ->
  wpAny (model X.prog X.w) X.A (eval iter X.env) (λv s1=>wpAny (model X.prog X.w) X.A (pyIter v) (PIE X pins σ tg R) X.xe s1) X.xe s
theorem zgp {M:Model}{A:Around}{E:Value→Shared→Prop}{s:Shared}{tg:Expr}{it:Addr}{u:Value}{o:Obj}{n:String}{vs:Array Value}{Q:Unit→Shared→Prop}(ho:s.heap.get? it=some o)(hc:o.cls=.type n)(hd:o.data=.fields vs)
    (hn:["enumerate","zip","dict_itemiterator","dict_reverseitemiterator","odict_iterator","itertools.zip_longest","itertools.pairwise"].contains n=false) (hQ:Q () s):wpAny M A (letOwnedTupleGo tg (.ref it) u) Q E s:=by
  unfold letOwnedTupleGo
  cases tg <;> first
    | exact wpAny_pure hQ
    | (cases u <;> first
        | exact wpAny_pure hQ
        | (refine wpAny_bind (wpAny_load ho ?_)
           rw [hc,hd]
           show wpAny M A (if (["enumerate","zip","dict_itemiterator","dict_reverseitemiterator","odict_iterator","itertools.zip_longest","itertools.pairwise"].contains n&&vs[0]? == some (rawInt _))=true then _ else _) Q E s
           rw [if_neg (by intro h;rw [hn,Bool.false_and] at h;cases h)]
           exact wpAny_pure hQ))
noncomputable def Itl (K:W.Frag)(a:Addr):It :=
 ⟨λi H=>∃ xs x,SqL K H a xs/\xs[i]?=some x,λi H x H'=>H'=H/\∀ xs,SqL K H a xs->xs[i]?=some x,λi H=>∃ xs,SqL K H a xs/\xs.length<=i⟩
noncomputable def Itt (K:W.Frag)(a:Addr):It :=
 ⟨λi H=>∃ xs x,SqT K H a xs/\xs[i]?=some x,λi H x H'=>H'=H/\∀ xs,SqT K H a xs->xs[i]?=some x,λi H=>∃ xs,SqT K H a xs/\xs.length<=i⟩
noncomputable def Itr (lo:Int)(n:Nat):It:=⟨λi _=>i < n,λi H x H'=>H'=H/\x=.int (lo+i),λi _=>n<=i⟩
theorem zeP {P:Program}{w:World}{K:W.Frag}{tg:Expr}(a it:Addr):zhR P w K tg (Itl K a) [it] it (λi h=>h.IsListIter it a i) where
 mem:=by simp
 obj:=λi h st b hb=>by
  have e:b=it:=by simpa using hb
  subst e
  obtain⟨o,e,c,d⟩:=st
  exact⟨o,e,λv z=>by rw[d]at z;cases z⟩
 keep:=λi h h' st k=>st.at λo e=>k it (by simp) o e
 item:=by
  intro X hP hw hK hc i pins s σ H E I hf st hg
  subst hP hw hK
  obtain⟨xs,x,hq,hx⟩:=hg
  obtain⟨its,rv,p,hz⟩:=I.list hq
  obtain⟨u,hu,ru⟩:=rv.get hx
  obtain⟨f0,f1,f2,f3,f4,f5⟩:=hf it (by simp)
  refine wpAny_pyNext_list_item st p.isList (x:=u) (by simpa using hu) λh' st' sb=>?_
  have I1:Inv X pins σ H { s with heap:=h' }:=I.turned (t':=s.toks) (λb o hb e=>(sb.2 b hb).trans e) f0 f1 f3 f4 f5
  obtain⟨o,e,c,d⟩:=id st'
  exact⟨u,rfl,zgp (s:={ s with heap:=h' }) e c d (by decide) ⟨x,H,I1,ru,⟨rfl,λys hy=>by rw[I.list_inj hy hq];exact hx⟩,st',λb hb=>(hf b hb).1⟩⟩
 done:=by
  intro X hP hw hK hc i pins s σ H E I hf st hg
  subst hP hw hK
  obtain⟨xs,hq,hx⟩:=hg
  obtain⟨its,rv,p,hz⟩:=I.list hq
  obtain⟨f0,f1,f2,f3,f4,f5⟩:=hf it (by simp)
  have hl:=rv.length
  exact wpAny_pyNext_list_end (I.ok.hd hc) st p.isList (by simp;omega) λh' eb=>⟨rfl,I.turned (t':=s.toks) (λb o hb e=>eb b o hb e) f0 f1 f3 f4 f5⟩
 self:=λ_ _ _ _ _ st h=>wpAny_pyIter_listiter st h
theorem zdk {P:Program}{w:World}{K:W.Frag}{tg:Expr}(a it:Addr):zhR P w K tg (Itt K a) [it] it (λi h=>h.IsTupleIter it a i) where
 mem:=by simp
 obj:=λi h st b hb=>by
  have e:b=it:=by simpa using hb
  subst e
  obtain⟨o,e,c,d⟩:=st
  exact⟨o,e,λv z=>by rw[d]at z;cases z⟩
 keep:=λi h h' st k=>st.at λo e=>k it (by simp) o e
 item:=by
  intro X hP hw hK hc i pins s σ H E I hf st hg
  subst hP hw hK
  obtain⟨xs,x,hq,hx⟩:=hg
  obtain⟨its,rv,p,hz⟩:=I.tuple hq
  obtain⟨u,hu,ru⟩:=rv.get hx
  obtain⟨f0,f1,f2,f3,f4,f5⟩:=hf it (by simp)
  refine wpAny_pyNext_tuple_item st (show s.heap.IsTuple a its.toArray from p) (x:=u) (by simpa using hu) λh' st' sb=>?_
  have I1:Inv X pins σ H { s with heap:=h' }:=I.turned (t':=s.toks) (λb o hb e=>(sb.2 b hb).trans e) f0 f1 f3 f4 f5
  obtain⟨o,e,c,d⟩:=id st'
  exact⟨u,rfl,zgp (s:={ s with heap:=h' }) e c d (by decide) ⟨x,H,I1,ru,⟨rfl,λys hy=>by rw[I.tuple_inj hy hq];exact hx⟩,st',λb hb=>(hf b hb).1⟩⟩
 done:=by
  intro X hP hw hK hc i pins s σ H E I hf st hg
  subst hP hw hK
  obtain⟨xs,hq,hx⟩:=hg
  obtain⟨its,rv,p,hz⟩:=I.tuple hq
  obtain⟨f0,f1,f2,f3,f4,f5⟩:=hf it (by simp)
  have hl:=rv.length
  exact wpAny_pyNext_tuple_end (I.ok.hd hc) st (show s.heap.IsTuple a its.toArray from p) (by simp;omega) λh' eb=>⟨rfl,I.turned (t':=s.toks) (λb o hb e=>eb b o hb e) f0 f1 f3 f4 f5⟩
 self:=λ_ _ _ _ _ st h=>wpAny_pyIter_tupleiter st h
theorem zc0 {P:Program}{w:World}{K:PySem.W.Frag}{tg:Expr}(it:Addr)(lo:Int)(n:Nat):zhR P w K tg (Itr lo n) [it] it (λi h=>IsRangeIter h it (lo+(i:Nat)*1) ((n:Int) - (i:Nat)) 1) where
 mem:=by simp
 obj:=λi h st b hb=>by
  have e:b=it:=by simpa using hb
  subst e
  exact⟨_,st,λv z=>by
   have z':Data.fields _=Data.cell v:=z
   cases z'⟩
 keep:=λi h h' st k=>k it (by simp) _ st
 item:=by
  intro X hP hw hK hc i pins s σ H E I hf st hg
  subst hP hw hK
  obtain⟨f0,f1,f2,f3,f4,f5⟩:=hf it (by simp)
  have W:=Walks.range (prog:=X.prog) (w:=X.w) (I.ok.hd hc) it lo 1 n
  refine W.item i s _ _ hg st λv h' tk hv st' kk=>?_
  obtain⟨t,rfl⟩:=hv
  have I1:Inv X pins σ H { s with heap:=h',toks:=tk }:=I.turned (λb o hb e=>kk b o (by simpa using hb) e) f0 f1 f3 f4 f5
  refine⟨_,rfl,zgp (s:={ s with heap:=h',toks:=tk }) (n:="range_iterator") st' rfl rfl (by decide) ⟨.int (lo+i),H,I1,⟨t,?_⟩,⟨rfl,rfl⟩,st',λb hb=>(hf b hb).1⟩⟩
  rw[Int.mul_one]
 done:=by
  intro X hP hw hK hc i pins s σ H E I hf st hg
  subst hP hw hK
  obtain⟨f0,f1,f2,f3,f4,f5⟩:=hf it (by simp)
  exact wpAny_pyNext_range_end (I.ok.hd hc) st (by have:n<=i:=hg;omega) λh' eb=>⟨rfl,I.turned (t':=s.toks) (λb o hb e=>eb b o hb e) f0 f1 f3 f4 f5⟩
 self:=λ_ _ _ _ _ st h=>wpAny_pyIter_rangeiter st h
section
variable {X:Cx}{tg:Expr}
theorem zb7 {pins:List (Addr × Obj)}{σ:St}{H:Hp}{s:Shared}{R:It->Hp->Prop}{E:Value->Shared->Prop}{lo hi:Int}{t u v:Tok}{tk:Nat}(I:Inv X pins σ H s)(h1:-(2 ^ 62)<=lo)(h2:lo < 2 ^ 62)(h3:-(2 ^ 62)<=hi)(h4:hi < 2 ^ 62)
 (q:R (Itr lo (hi - lo).toNat) H):wpAny (model X.prog X.w) X.A (pyIter (.ref s.heap.objs.size)) (PIE X pins σ tg R) E { s with heap:=s.heap.push { cls:=.type "range",data:=.fields #[.int lo t,.int hi u,.int 1 v] },toks:=tk }:=by
 refine wpAny_pyIter_range (IsRange.new ..) (small_one h1 h2 h3 h4) ?_
 have I1:Inv X pins σ H { s with heap:=s.heap.push { cls:=.type "range",data:=.fields #[.int lo t,.int hi u,.int 1 v] },toks:=tk }:=I.kept λb o e=>Heap.get?_push_of_some _ e
 refine⟨(s.heap.push { cls:=.type "range",data:=.fields #[.int lo t,.int hi u,.int 1 v] }).objs.size,[(s.heap.push { cls:=.type "range",data:=.fields #[.int lo t,.int hi u,.int 1 v] }).objs.size],_,_,H,rfl,
  I1.kept (t':=tk) λb o e=>Heap.get?_push_of_some _ e,zc0 _ lo (hi - lo).toNat,?_,λb hb=>?_,q⟩
 .have e1:lo+((0:Nat):Int)*1=lo:=by simp
  have e2:(((hi - lo).toNat:Nat):Int) - ((0:Nat):Int)=Builtin.Range.rangeSize lo hi 1:=by rw[rangeSize_one];split <;> omega
  show IsRangeIter _ _ (lo+((0:Nat):Int)*1) ((((hi - lo).toNat:Nat):Int) - ((0:Nat):Int)) 1
  rw[e1,e2]
  exact Heap.get?_push_size _ rfl
 .have e:b=(s.heap.push { cls:=.type "range",data:=.fields #[.int lo t,.int hi u,.int 1 v] }).objs.size:=by simpa using hb
  subst e
  exact I1.fpOk (Nat.le_refl _) (I1.hok.fresh (Nat.le_refl _))
noncomputable def zlz (ta:TA):TI:=fun σ H R=>ta σ H λvs H1=>∃ j:Int,vs=[.int j]/\-(2 ^ 62)<=j/\j < 2 ^ 62/\R (Itr 0 j.toNat) H1
noncomputable def zmw (ta:TA):TI:=fun σ H R=>ta σ H λvs H1=>∃ i j:Int,vs=[.int i,.int j]/\(-(2 ^ 62)<=i/\i < 2 ^ 62/\-(2 ^ 62)<=j/\j < 2 ^ 62)/\R (Itr i (j - i).toNat) H1
theorem zai {a:Expr} {ta:TA} {p pos:Pos} (hg:Gl X "range") (hm:X.mg "range"=none) (ha:PA X [a] ta) (hs:starEach [a] X.env=[(false,eval a X.env)]:=by rfl):PI X tg (.Call (.Name "range" p) [a] [] pos) (zlz ta):=by
 intro pins s σ H R I h
 refine Call_ (ZJ I hg hm boot_range (PyProof.Rows.callWith_type1 (thn (ha pos pins s σ H _ I h) λus s1 hh9=>?_) hs rfl))
 obtain⟨vs,H1,I1,r1,q1⟩:=hh9
 obtain⟨j,e,q1,q2,q⟩:=q1
 subst e
 cases r1 with
 | cons r rr =>
  cases rr
  obtain⟨t,rfl⟩:=r
  exact call_range_1 (zb7 I1 (by omega) (by omega) q1 q2 (by simpa using q))
theorem zdU {a b:Expr} {ta:TA} {p pos:Pos} (hg:Gl X "range") (hm:X.mg "range"=none) (ha:PA X [a,b] ta) (hs:starEach [a,b] X.env=[(false,eval a X.env),(false,eval b X.env)]:=by rfl) (hs2:starEach [b] X.env=[(false,eval b X.env)]:=by rfl) :
 PI X tg (.Call (.Name "range" p) [a,b] [] pos) (zmw ta):=by
 intro pins s σ H R I h
 refine Call_ (ZJ I hg hm boot_range (PyProof.Rows.callWith_type1 (thn (ha pos pins s σ H _ I h) λus s1 hh9=>?_) (by rw[hs,hs2]) (by rw[hs2];rfl)))
 obtain⟨vs,H1,I1,r1,q1⟩:=hh9
 obtain⟨i,j,e,⟨q1,q2,q3,q4⟩,q⟩:=q1
 subst e
 cases r1 with
 | cons r rr =>
  cases rr with
  | cons r' rr =>
   cases rr
   obtain⟨t,rfl⟩:=r
   obtain⟨t',rfl⟩:=r'
   exact call_range_2 (zb7 I1 q1 q2 q3 q4 q)
noncomputable def tFor (wi:TI)(g:TG)(tb:TS):TS:=λD σ H=>wi σ H λJ H1=>∃ W:Nat->Nat->St->Hp->Prop,(∃ m,W 0 m σ H1)/\∀ i m σ H,W i m σ H ->
 (J.stop i H/\D.nx σ H)\/(J.go i H/\∃ N:St->Hp->Prop,(∀ σ' H',N σ' H'->∃ m',m' < m/\W (i+1) m' σ' H')/\∀ x H',J.yld i H x H'->g x σ H' fun σ2 H2=>tb { D with nx:=N,ct:=N,bk:=D.nx } σ2 H2)
noncomputable def W5 (fp:List Addr)(h:Heap):List (Addr × Obj):=fp.filterMap λb=>(h.get? b).map λo=>(b,o)
theorem Y8 {fp:List Addr}{h:Heap}{b:Addr}{o:Obj}(hb:b∈fp)(e:h.get? b=some o):(b,o)∈W5 fp h:=List.mem_filterMap.mpr ⟨b,hb,by rw[e];rfl⟩
theorem zfv {fp:List Addr}{h:Heap}{p:Addr × Obj}(hp:p∈W5 fp h):p.1∈fp/\h.get? p.1=some p.2:=by
 obtain⟨b,hb,e⟩:=List.mem_filterMap.mp hp
 cases q:h.get? b with
 | none=>rw[q]at e;cases e
 | some o =>
  rw[q]at e
  have e':(b,o)=p:=Option.some.inj e
  subst e'
  exact⟨hb,q⟩
theorem Inv.pinned {pins:List (Addr × Obj)}{σ:St}{H:Hp}{s:Shared}{fp:List Addr}(I:Inv X pins σ H s)(hf:∀ b∈fp,zag X pins H b)(ho:∀ b∈fp,∃ o,s.heap.get? b=some o/\∀ v,o.data≠.cell v):Inv X (pins++W5 fp s.heap) σ H s :=
 I.pins_of λp hp=>(List.mem_append.mp hp).elim (λz=>I.pin p (List.mem_append_right _ z)) λz=>by
  obtain⟨hb,e⟩:=zfv z
  obtain⟨f0,f1,f2,_⟩:=hf p.1 hb
  obtain⟨o,e',d⟩:=ho p.1 hb
  rw[e]at e';cases e'
  exact⟨e,f0,f1,f2,d⟩
theorem Inv.unpinned {pins pl:List (Addr × Obj)}{σ:St}{H:Hp}{s:Shared}(I:Inv X (pins++pl) σ H s):Inv X pins σ H s:=I.pins_of λp hp=>I.pin p (List.mem_append_right _ (List.mem_append_left _ hp))
theorem zhT {iter:Expr}{body:List Stmt}{wi:TI}{g:TG}{tb:TS}{pos:Pos}(hp:PassesOwn (model X.prog X.w) X.A X.env X.xe)(hc:X.calm=true)(hi:PI X tg iter wi)(hg:PG X tg g)(hb:PSs X body tb)
 (hs:∀ x,foldedSetIterable iter X.env x=pure x:=by intro _;rfl):PS X (.For tg iter body [] pos) (tFor wi g tb):=by
 intro pins s σ H D I h
 refine wpAny_For (thn (hi pins s σ H _ I h) λv s1 h1=>thn h1 λitv s2 h2=>?_) hs
 obtain⟨it,fp,tn,J,H2,e,I2,T,st2,f2,W,⟨m0,w0⟩,turn⟩:=h2
 subst e
 -- what stays true of the iterator's objects through the loop
 have stat:∀ {H':Hp},(∀ b∈fp,H' b=none)->∀ b∈fp,zag X pins H' b:=λhn b hb=>⟨hn b hb,(f2 b hb).2⟩
 refine codeAny_forLoop_any (λn s'=>∃ i σ' H',Inv X pins σ' H' s'/\tn i s'.heap/\(∀ b∈fp,H' b=none)/\W i n σ' H') ?_ m0 ⟨0,σ,H2,I2,st2,λb hb=>(f2 b hb).1,w0⟩
 rintro n s3 ⟨i,σ3,H3,I3,st3,fr3,w3⟩
 rcases turn i n σ3 H3 w3 with ⟨stop,qn⟩ | ⟨go,N,hN,step⟩
 .refine wpAny_passesOwn hp (thn (T.done X rfl rfl rfl hc i pins s3 σ3 H3 X.xe I3 (stat fr3) st3 stop) λr s4 hh9=>?_)
  obtain⟨hr,I4⟩:=hh9
  subst hr
  exact wpAny_execs_nil ⟨σ3,H3,I4,qn⟩
 .refine wpAny_passesOwn hp (thn (T.item X rfl rfl rfl hc i pins s3 σ3 H3 X.xe I3 (stat fr3) st3 go) λr s4 hh9=>?_)
  obtain⟨u,hr,h4⟩:=hh9
  subst hr
  refine wpAny_passesOwn hp (thn h4 λ_ s5 hh9=>?_)
  obtain⟨x,H5,I5,r5,y5,st5,fr5⟩:=hh9
  have I5':=I5.pinned (stat fr5) (T.obj _ _ st5)
  refine wpAny_passesOwn hp (thn (hg _ s5 σ3 H5 x u _ I5' r5 (step x H5 y5)) λ_ s6 hh9=>?_)
  obtain⟨σ6,H6,I6,q6⟩:=hh9
  refine wpAny_passesOwn hp (thn (hb _ s6 σ6 H6 _ I6 q6) λf s7 q7=>?_)
  have again:∀ {σ7:St} {H7:Hp},Inv X (pins++W5 fp s5.heap) σ7 H7 s7->N σ7 H7->∃ m,m < n/\∃ i σ' H',Inv X pins σ' H' s7/\tn i s7.heap/\(∀ b∈fp,H' b=none)/\W i m σ' H':=λ{σ7 H7} I7 n7=>by
   obtain⟨m',hm,w7⟩:=hN σ7 H7 n7
   refine⟨m',hm,i+1,σ7,H7,I7.unpinned,T.keep _ _ _ st5 λb hb o e=>(I7.pin (b,o) (List.mem_append_right _ (List.mem_append_right _ (Y8 hb e)))).1,λb hb=>?_,w7⟩
   obtain⟨o,e,d⟩:=T.obj _ _ st5 b hb
   exact(I7.pin (b,o) (List.mem_append_right _ (List.mem_append_right _ (Y8 hb e)))).2.1
  cases f with
  | next=>obtain⟨σ7,H7,I7,n7⟩:=q7;exact again I7 n7
  | cont=>obtain⟨σ7,H7,I7,n7⟩:=q7;exact again I7 n7
  | brk=>obtain⟨σ7,H7,I7,q7⟩:=q7;exact⟨σ7,H7,I7.unpinned,q7⟩
  | ret v=>obtain⟨x7,σ7,H7,I7,r7,q7⟩:=q7;exact⟨x7,σ7,H7,I7.unpinned,r7,q7⟩
end
noncomputable abbrev R2:=V->V->Hp->VK->Prop
noncomputable def OpR (X:Cx)(f:Value->Value->Sem Value)(r:R2):Prop :=
 ∀ (pins:List (Addr × Obj)) (s:Shared) (σ:St) (H:Hp) (x y:V) (v u:Value) (Q:VK),Inv X pins σ H s->yZ x v->yZ y u->r x y H Q ->
  wpAny (model X.prog X.w) X.A (f v u) (EP X pins σ Q) X.xe s
noncomputable def UnR (X:Cx)(f:Value->Sem Value)(r:V->Hp->VK->Prop):Prop :=
 ∀ (pins:List (Addr × Obj)) (s:Shared) (σ:St) (H:Hp) (x:V) (v:Value) (Q:VK),Inv X pins σ H s->yZ x v->r x H Q ->
  wpAny (model X.prog X.w) X.A (f v) (EP X pins σ Q) X.xe s
noncomputable def Yr (X:Cx)(f:Value)(r:List V->Hp->VK->Prop):Prop :=
 ∀ (pins:List (Addr × Obj)) (s:Shared) (σ:St) (H:Hp) (xs:List V) (us:List Value) (Q:VK),Inv X pins σ H s->yw xs us->r xs H Q ->
  wpAny (model X.prog X.w) X.A (call f us) (EP X pins σ Q) X.xe s
noncomputable def tOp (r:R2)(ta tb:TE):TE:=fun σ H Q=>ta σ H λx H1=>tb σ H1 λy H2=>r x y H2 Q
noncomputable def tUn (r:V->Hp->VK->Prop)(ta:TE):TE:=fun σ H Q=>ta σ H λx H1=>r x H1 Q
noncomputable def rI (C:Int->Int->Prop)(g:Int->Int->V):R2:=λx y H Q=>∃ i j,x=.int i/\y=.int j/\C i j/\Q (g i j) H
noncomputable def rI0 (g:Int->Int->V):R2:=λx y H Q=>∃ i j,x=.int i/\y=.int j/\Q (g i j) H
noncomputable def rU (g:Int->V):V->Hp->VK->Prop:=λx H Q=>∃ i,x=.int i/\Q (g i) H
section
variable {X:Cx}{a b c:Expr}{ta tb tc:TE}{pos:Pos}
theorem zml (ha:PE X a ta)(hb:PE X b tb){pins:List (Addr × Obj)}{s:Shared}{σ:St}{H:Hp}{R:V->V->Hp->Prop}(I:Inv X pins σ H s)
 (h:ta σ H λx H1=>tb σ H1 λy H2=>R x y H2) {Q:Value->Shared->Prop} {f:Value->Value->Sem Value}
 (hf:∀ v u s2 x y H2,Inv X pins σ H2 s2->yZ x v->yZ y u->R x y H2->wpAny (model X.prog X.w) X.A (f v u) Q X.xe s2) :
 wpAny (model X.prog X.w) X.A (eval a X.env) (λv s₁=>wpAny (model X.prog X.w) X.A (eval b X.env) (λu s₂=>wpAny (model X.prog X.w) X.A (f v u) Q X.xe s₂) X.xe s₁) X.xe s:=by
 refine thn (ha pins s σ H _ I h) λv s1 hh9=>?_
 obtain⟨x,H1,I1,r1,q1⟩:=hh9
 refine thn (hb pins s1 σ H1 _ I1 q1) λu s2 hh9=>?_
 obtain⟨y,H2,I2,r2,q2⟩:=hh9
 exact hf v u s2 x y H2 I2 r1 r2 q2
theorem zlL {op:Operator}{r:R2}(ho:OpR X (binaryOp op) r)(ha:PE X a ta)(hb:PE X b tb):PE X (.BinOp a op b pos) (tOp r ta tb):=by
 intro pins s σ H Q I h
 exact wpAny_BinOp (zml ha hb I h λv u s2 x y H2 I2 rx ry q=>ho pins s2 σ H2 x y v u Q I2 rx ry q)
theorem zmt {op:UnaryOp}{r:V->Hp->VK->Prop}(ho:UnR X (unaryOp op) r)(ha:PE X a ta):PE X (.UnaryOp op a pos) (tUn r ta):=by
 intro pins s σ H Q I h
 exact UnaryOp_ (thn (ha pins s σ H _ I h) λv s1 ⟨x,H1,I1,r1,q1⟩=>ho pins s1 σ H1 x v Q I1 r1 q1)
theorem opI {f:Value->Value->Sem Value}{C:Int->Int->Prop}{g:Int->Int->Int}
 (rule:∀ (i j:Int) (t u:Tok) (s:Shared) (Q:Value->Shared->Prop) (E:Value->Shared->Prop),C i j->Q (.int (g i j) s.toks) { s with toks:=s.toks+1 }->wpAny (model X.prog X.w) X.A (f (.int i t) (.int j u)) Q E s) :
 OpR X f (rI C λi j=>.int (g i j)):=by
 intro pins s σ H x y v u Q I rx ry h
 obtain⟨i,j,rfl,rfl,hc,q⟩:=h
 obtain⟨t,rfl⟩:=rx
 obtain⟨t',rfl⟩:=ry
 exact rule i j t t' s _ _ hc ⟨.int (g i j),H,I.tok _,⟨_,rfl⟩,q⟩
theorem opI0 {f:Value->Value->Sem Value}{g:Int->Int->Int}
 (rule:∀ (i j:Int) (t u:Tok) (s:Shared) (Q:Value->Shared->Prop) (E:Value->Shared->Prop),Q (.int (g i j) s.toks) { s with toks:=s.toks+1 }->wpAny (model X.prog X.w) X.A (f (.int i t) (.int j u)) Q E s) :
 OpR X f (rI0 λi j=>.int (g i j)):=by
 intro pins s σ H x y v u Q I rx ry h
 obtain⟨i,j,rfl,rfl,q⟩:=h
 obtain⟨t,rfl⟩:=rx
 obtain⟨t',rfl⟩:=ry
 exact rule i j t t' s _ _ ⟨.int (g i j),H,I.tok _,⟨_,rfl⟩,q⟩
theorem zlr {f:Value->Value->Sem Value}{g:Int->Int->Bool}
 (rule:∀ (i j:Int) (t u:Tok) (s:Shared) (Q:Value->Shared->Prop) (E:Value->Shared->Prop),Q (.bool (g i j)) s->wpAny (model X.prog X.w) X.A (f (.int i t) (.int j u)) Q E s) :
 OpR X f (rI0 λi j=>.bl (g i j)):=by
 intro pins s σ H x y v u Q I rx ry h
 obtain⟨i,j,rfl,rfl,q⟩:=h
 obtain⟨t,rfl⟩:=rx
 obtain⟨t',rfl⟩:=ry
 exact rule i j t t' s _ _ ⟨.bl (g i j),H,I,rfl,q⟩
noncomputable def zlQ (i j:Int):Prop:=(-(2 ^ 64) < i/\i < 2 ^ 64)\/(-(2 ^ 64) < j/\j < 2 ^ 64)
theorem zlQ.ok {i j:Int}(h:zlQ i j):IntMulOk i j:=by
 rcases h with ⟨h1,h2⟩ | ⟨h1,h2⟩
 .exact .of_left (intBits_le_64 h1 h2)
 .exact .of_right (intBits_le_64 h1 h2)
theorem zdm (k:Nat):(0:Int)<=2 ^ k:=by
 rw[two_pow_cast]
 exact Int.natCast_nonneg _
theorem zkU:OpR X (binaryOp .Add) (rI0 λi j=>.int (i+j)):=opI0 λ_ _ _ _ _ _ _ q=>add_int q
theorem zkb:OpR X (binaryOp .Sub) (rI0 λi j=>.int (i - j)):=opI0 λ_ _ _ _ _ _ _ q=>sub_int q
theorem zjq:OpR X (binaryOp .Mult) (rI zlQ λi j=>.int (i*j)):=opI λ_ _ _ _ _ _ _ hc q=>mul_int q hc.ok
theorem zjH:OpR X (binaryOp .Mod) (rI (λ_ j=>0 < j) λi j=>.int (i % j)):=opI λi j _ _ _ _ _ hc q=>by
 have h1:(0:Int) < j:=hc
 exact mod_int' (by omega) (by rw[Int.fmod_eq_emod_of_nonneg i (by omega)];exact q)
theorem zj3:OpR X (binaryOp .RShift) (rI (λ_ j=>0<=j) λi j=>.int (i / 2 ^ j.toNat)):=opI λi j _ _ _ _ _ hc q =>
 rshift_int hc (by rw[Int.fdiv_eq_ediv_of_nonneg i (zdm _)];exact q)
theorem unI {f:Value->Sem Value}{g:Int->Int}
 (rule:∀ (i:Int) (t:Tok) (s:Shared) (Q:Value->Shared->Prop) (E:Value->Shared->Prop),Q (.int (g i) s.toks) { s with toks:=s.toks+1 }->wpAny (model X.prog X.w) X.A (f (.int i t)) Q E s) :
 UnR X f (rU λi=>.int (g i)):=by
 intro pins s σ H x v Q I rx h
 obtain⟨i,rfl,q⟩:=h
 obtain⟨t,rfl⟩:=rx
 exact rule i t s _ _ ⟨.int (g i),H,I.tok _,⟨_,rfl⟩,q⟩
theorem zkY:UnR X (unaryOp .USub) (rU λi=>.int (-i)):=unI λ_ _ _ _ _ q=>neg_int q
end
noncomputable def scal:V->V->Bool
 | .non,.non=>true | .non,.int _=>true | .int _,.non=>true | .non,.bl _=>true | .bl _,.non=>true | .non,.str _=>true | .str _,.non=>true
 | .int _,.int _=>true | .bl _,.bl _=>true | .str _,.str _=>true | .byt _,.byt _=>true
 | .int _,.str _=>true | .str _,.int _=>true | .bl _,.str _=>true | .str _,.bl _=>true
 | _,_=>false
noncomputable def rEq:R2:=λx y H Q=>scal x y=true/\Q (.bl (decide (x=y))) H
noncomputable def rNe:R2:=λx y H Q=>scal x y=true/\Q (.bl (!decide (x=y))) H
theorem zer {i j:Int}:decide (V.int i=V.int j)=(i == j):=by
 rw[Bool.eq_iff_iff]
 simp
theorem zhH {i j:Bool}:decide (V.bl i=V.bl j)=(i == j):=by
 rw[Bool.eq_iff_iff]
 simp
theorem zdO {i j:Str}:decide (V.str i=V.str j)=(i == j):=by
 rw[Bool.eq_iff_iff]
 simp
theorem zeg {i j:Array UInt8}:decide (V.byt i=V.byt j)=(i.toList == j.toList):=by
 rw[Bool.eq_iff_iff]
 cases i
 cases j
 simp
section
variable {X:Cx}{a b c:Expr}{ta tb tc:TE}{pos:Pos}
theorem yh {pins:List (Addr × Obj)}{σ:St}{H:Hp}{s:Shared}{Q:VK}{k k':Bool}(I:Inv X pins σ H s)(q:Q (.bl k) H)(e:k=k'):EP X pins σ Q (.bool k') s:=by
 subst e
 exact⟨.bl k,H,I,rfl,q⟩
theorem zlI:OpR X (compareOp .Eq) rEq:=by
 intro pins s σ H x y v u Q I rx ry h
 obtain⟨hs,q⟩:=h
 cases x with
 | non =>
  cases rx
  cases y with
  | non=>cases ry;exact PySem.EqNone.eq_none_none (yh I q (by simp))
  | bl j=>cases ry;exact PySem.EqNone.eq_none_bool (yh I q (by simp))
  | int j=>obtain⟨t',rfl⟩:=ry;exact PySem.EqNone.eq_none_int (yh I q (by simp))
  | str j=>obtain⟨t',rfl⟩:=ry;exact PySem.EqNone.eq_none_str (yh I q (by simp))
  | _=>exact absurd (show false=true from hs) Bool.false_ne_true
 | bl i =>
  cases rx
  cases y with
  | non=>cases ry;exact PySem.EqNone.eq_bool_none (yh I q (by simp))
  | bl j=>cases ry;exact eq_bool (yh I q zhH)
  | str j=>obtain⟨t',rfl⟩:=ry;exact PySem.EqMixed.eq_bool_str (yh I q (by simp))
  | _=>exact absurd (show false=true from hs) Bool.false_ne_true
 | int i =>
  obtain⟨t,rfl⟩:=rx
  cases y with
  | non=>cases ry;exact PySem.EqNone.eq_int_none (yh I q (by simp))
  | int j=>obtain⟨t',rfl⟩:=ry;exact eq_int (yh I q zer)
  | str j=>obtain⟨t',rfl⟩:=ry;exact PySem.EqMixed.eq_int_str (yh I q (by simp))
  | _=>exact absurd (show false=true from hs) Bool.false_ne_true
 | str i =>
  obtain⟨t,rfl⟩:=rx
  cases y with
  | non=>cases ry;exact PySem.EqNone.eq_str_none (yh I q (by simp))
  | bl j=>cases ry;exact PySem.EqMixed.eq_str_bool (yh I q (by simp))
  | int j=>obtain⟨t',rfl⟩:=ry;exact PySem.EqMixed.eq_str_int (yh I q (by simp))
  | str j=>obtain⟨t',rfl⟩:=ry;exact eq_str (yh I q zdO)
  | _=>exact absurd (show false=true from hs) Bool.false_ne_true
 | byt i =>
  obtain⟨t,rfl⟩:=rx
  cases y with
  | byt j=>obtain⟨t',rfl⟩:=ry;exact W.eq_bytes (yh I q zeg)
  | _=>exact absurd (show false=true from hs) Bool.false_ne_true
 | _=>cases y <;> exact absurd (show false=true from hs) Bool.false_ne_true
theorem zaC:OpR X (compareOp .NotEq) rNe:=by
 intro pins s σ H x y v u Q I rx ry h
 obtain⟨hs,q⟩:=h
 cases x with
 | non =>
  cases rx
  cases y with
  | non=>cases ry;exact PySem.EqNone.ne_none_none (yh I q (by simp))
  | bl j=>cases ry;exact PySem.EqNone.ne_none_bool (yh I q (by simp))
  | int j=>obtain⟨t',rfl⟩:=ry;exact PySem.EqNone.ne_none_int (yh I q (by simp))
  | str j=>obtain⟨t',rfl⟩:=ry;exact PySem.EqNone.ne_none_str (yh I q (by simp))
  | _=>exact absurd (show false=true from hs) Bool.false_ne_true
 | bl i =>
  cases rx
  cases y with
  | non=>cases ry;exact PySem.EqNone.ne_bool_none (yh I q (by simp))
  | bl j=>cases ry;exact ne_bool (yh I q (congrArg not zhH))
  | str j=>obtain⟨t',rfl⟩:=ry;exact PySem.EqMixed.ne_bool_str (yh I q (by simp))
  | _=>exact absurd (show false=true from hs) Bool.false_ne_true
 | int i =>
  obtain⟨t,rfl⟩:=rx
  cases y with
  | non=>cases ry;exact PySem.EqNone.ne_int_none (yh I q (by simp))
  | int j=>obtain⟨t',rfl⟩:=ry;exact ne_int (yh I q (congrArg not zer))
  | str j=>obtain⟨t',rfl⟩:=ry;exact PySem.EqMixed.ne_int_str (yh I q (by simp))
  | _=>exact absurd (show false=true from hs) Bool.false_ne_true
 | str i =>
  obtain⟨t,rfl⟩:=rx
  cases y with
  | non=>cases ry;exact PySem.EqNone.ne_str_none (yh I q (by simp))
  | bl j=>cases ry;exact PySem.EqMixed.ne_str_bool (yh I q (by simp))
  | int j=>obtain⟨t',rfl⟩:=ry;exact PySem.EqMixed.ne_str_int (yh I q (by simp))
  | str j=>obtain⟨t',rfl⟩:=ry;exact ne_str (yh I q (congrArg not zdO))
  | _=>exact absurd (show false=true from hs) Bool.false_ne_true
 | byt i =>
  obtain⟨t,rfl⟩:=rx
  cases y with
  | byt j=>obtain⟨t',rfl⟩:=ry;exact W.ne_bytes (yh I q (congrArg not zeg))
  | _=>exact absurd (show false=true from hs) Bool.false_ne_true
 | _=>cases y <;> exact absurd (show false=true from hs) Bool.false_ne_true
theorem zk1:OpR X (compareOp .Lt) (rI0 λi j=>.bl (decide (i < j))):=zlr λ_ _ _ _ _ _ _ q=>lt_int q
theorem zev:OpR X (compareOp .LtE) (rI0 λi j=>.bl (decide (i<=j))):=zlr λ_ _ _ _ _ _ _ q=>le_int q
theorem zcN:OpR X (compareOp .Gt) (rI0 λi j=>.bl (decide (j < i))):=zlr λ_ _ _ _ _ _ _ q=>gt_int q
theorem zge:OpR X (compareOp .GtE) (rI0 λi j=>.bl (decide (j<=i))):=zlr λ_ _ _ _ _ _ _ q=>ge_int q
theorem zj4:OpR X (compareOp .Is) (λx y H Q=>y=.non/\Q (.bl (decide (x=.non))) H):=by
 intro pins s σ H x y v u Q I rx ry h
 obtain⟨rfl,q⟩:=h
 cases ry
 refine is_none_gen (yh I q ?_)
 cases x <;> first
  | (cases rx;rfl)
  | (obtain⟨t,rfl⟩:=rx;rfl)
theorem OpR.or {f:Value->Value->Sem Value}{r r':R2}(h:OpR X f r)(h':OpR X f r'):OpR X f (λx y H Q=>r x y H Q\/r' x y H Q):=by
 intro pins s σ H x y v u Q I rx ry q
 rcases q with q | q
 .exact h pins s σ H x y v u Q I rx ry q
 .exact h' pins s σ H x y v u Q I rx ry q
theorem yc (b:Expr){op:CmpOp}(h:op≠.In:=by decide)(h2:op≠.NotIn:=by decide):behindInMarks op b=false:=by
 have e1:(op == CmpOp.In)=false:=by cases op <;> first | rfl | exact absurd rfl h
 have e2:(op == CmpOp.NotIn)=false:=by cases op <;> first | rfl | exact absurd rfl h2
 cases b <;> simp[behindInMarks,e1,e2]
theorem ziY {op:CmpOp}{r:R2}(ho:OpR X (compareOp op) r)(ha:PE X a ta)(hb:PE X b tb)(hm:behindInMarks op b=false):PE X (.Compare a [op] [b] pos) (tOp r ta tb):=by
 intro pins s σ H Q I h
 exact wpAny_Compare1 (zml ha hb I h λv u s2 x y H2 I2 rx ry q=>ho pins s2 σ H2 x y v u Q I2 rx ry q) hm
noncomputable def zkc (t:TE):TT:=fun σ H Q=>t σ H λx H'=>∃ k,x=.bl k/\Q k H'
theorem zir {op:CmpOp}{r:R2}(ho:OpR X (compareOp op) r)(ha:PE X a ta)(hb:PE X b tb)(hm:behindInMarks op b=false):PT X (.Compare a [op] [b] pos) (zkc (tOp r ta tb)):=by
 intro pins s σ H Q I h
 refine wpAny_isTrue_Compare1 (thn (ha pins s σ H _ I h) λv s1 ⟨x,H1,I1,r1,q1⟩=>thn (hb pins s1 σ H1 _ I1 q1) λu s2 ⟨y,H2,I2,r2,q2⟩ =>
  thn (ho pins s2 σ H2 x y v u _ I2 r1 r2 q2) λc s3 ⟨z,H3,I3,r3,k,e,q3⟩=>?_) hm
 subst e
 cases r3
 exact wpAny_truthy_bool ⟨H3,I3,q3⟩
noncomputable def zfr (r r':R2)(ta tb tc:TE):TE:=fun σ H Q=>ta σ H λx H1=>tb σ H1 λy H2=>r x y H2 λz H3=>∃ k,z=.bl k /\
 (if k=true then tc σ H3 λw' H4=>r' y w' H4 Q else Q (.bl false) H3)
theorem zgE {op op':CmpOp}{r r':R2}(ho:OpR X (compareOp op) r)(ho':OpR X (compareOp op') r')(ha:PE X a ta)(hb:PE X b tb)(hc:PE X c tc)
 (hm:lastMarks [op,op'] [b,c]=false:=by with_unfolding_all rfl):PE X (.Compare a [op,op'] [b,c] pos) (zfr r r' ta tb tc):=by
 intro pins s σ H Q I h
 refine Compare_chain (thn (ha pins s σ H _ I h) λv s1 ⟨x,H1,I1,r1,q1⟩=>chain_link (thn (hb pins s1 σ H1 _ I1 q1) λu s2 ⟨y,H2,I2,r2,q2⟩ =>
  thn (ho pins s2 σ H2 x y v u _ I2 r1 r2 q2) λd s3 ⟨z,H3,I3,r3,k,e,q3⟩=>?_)) hm
 subst e
 cases r3
 refine wpAny_truthy_bool ?_
 cases k with
 | false=>exact ite_ff ⟨.bl false,H3,I3,rfl,q3⟩
 | true=>exact ite_tt (chain_last (thn (hc pins s3 σ H3 _ I3 q3) λw' s4 ⟨z',H4,I4,r4,q4⟩=>ho' pins s4 σ H4 y z' u w' Q I4 r2 r4 q4))
theorem zaa:(sizeLine:Nat) < 2 ^ 63:=by rw[sizeLine_eq];decide
theorem zdr:OpR X (binaryOp .Add) (λx y H Q=>∃ i j,x=.str i/\y=.str j/\i.length+j.length<=sizeLine/\Q (.str (i++j)) H):=by
 intro pins s σ H x y v u Q I rx ry h
 obtain⟨i,j,rfl,rfl,hz,q⟩:=h
 obtain⟨t,rfl⟩:=rx
 obtain⟨t',rfl⟩:=ry
 exact add_str (λt' tk=>⟨.str (i++j),H,I.tok _,⟨_,rfl⟩,q⟩) hz
theorem Ws {x:V}{us:List Value}(r:yw [x] us):∃ u,us=[u]/\yZ x u:=by
 cases r with
 | cons r1 r2=>cases r2;exact⟨_,rfl,r1⟩
theorem zdf {x y:V}{us:List Value}(r:yw [x,y] us):∃ u w',us=[u,w']/\yZ x u/\yZ y w':=by
 cases r with
 | cons r1 r2 =>
  cases r2 with
  | cons r3 r4=>cases r4;exact⟨_,_,rfl,r1,r3⟩
theorem zea (hc:X.calm=true):Yr X (.builtin "max") (λxs H Q=>∃ i j,xs=[.int i,.int j]/\Q (.int (if j > i then j else i)) H):=by
 intro pins s σ H xs us Q I r h
 obtain⟨i,j,rfl,q⟩:=h
 obtain⟨u,w',rfl,⟨t,rfl⟩,⟨t',rfl⟩⟩:=zdf r
 refine max_two_ints (I.ok.hd hc) λh' tk k=>⟨_,H,I.kept k,?_,q⟩
 by_cases hj:j > i
 .rw[if_pos hj,if_pos hj];exact⟨_,rfl⟩
 .rw[if_neg hj,if_neg hj];exact⟨_,rfl⟩
theorem za5 (hc:X.calm=true):Yr X (.builtin "min") (λxs H Q=>∃ i j,xs=[.int i,.int j]/\Q (.int (if j < i then j else i)) H):=by
 intro pins s σ H xs us Q I r h
 obtain⟨i,j,rfl,q⟩:=h
 obtain⟨u,w',rfl,⟨t,rfl⟩,⟨t',rfl⟩⟩:=zdf r
 refine min_two_ints (I.ok.hd hc) λh' tk k=>⟨_,H,I.kept k,?_,q⟩
 by_cases hj:j < i
 .rw[if_pos hj,if_pos hj];exact⟨_,rfl⟩
 .rw[if_neg hj,if_neg hj];exact⟨_,rfl⟩
end
structure zmr (h:Heap) (x dx C:Addr) (mA:Str->Option Value):Prop where
 obj:h.get? x=some (W.instObj C dx)
 ns:h.Ns1 dx mA
 ne:dx≠x
theorem zeI {h:Heap}{dx:Addr}{mA:Str->Option Value}(n:h.Ns1 dx mA):∃ od,h.get? dx=some od/\∀ name,W.lookIn name od=some (mA name):=by
 obtain⟨o,es,ep,ho,hd,hk,_,hm⟩:=n
 refine⟨o,ho,λname=>?_⟩
 have e:=hm name
 unfold nsFind findBy at e
 rw[<-Array.find?_toList]at e
 unfold W.lookIn
 rw[hd]
 dsimp only
 split
 .rename_i y q
  rw[q]at e
  exact congrArg some e
 .rename_i q
  rw[q]at e
  have a:es.toList.any (·.refKey)=false:=by
   rw[List.any_eq_false]
   intro y hy
   obtain⟨z,t,hkey⟩:=hk y (Array.mem_toList_iff.mp hy)
   simp[DictEntry.refKey,hkey]
  have a':¬ es.toList.any (·.refKey)=true:=by rw[a];exact Bool.false_ne_true
  rw[if_neg a']
  exact congrArg some e
theorem zmr.look {h:Heap}{x dx C:Addr}{mA:Str->Option Value}(I:zmr h x dx C mA):∃ od,PySem.W.InstAt h x (W.instObj C dx) C (some od)/\∀ name,W.lookIn name od=some (mA name) :=
 let ⟨od,ho,hl⟩:=zeI I.ns
 ⟨od,⟨I.obj,rfl,rfl,ho⟩,hl⟩
section
variable {P:Program}{w:World}{H H':Hp}{h h':Heap}{a C dx:Addr}{fs fs':List (Str × V)}
theorem zid (hok:HOk P w H h)(e:H a=some (.ins C dx fs)):∃ mA,zmr h a dx C mA/\(∀ f,zh7 (fs.lookup f) (mA f))/\PySem.Within mA (fs.map (·.1))/\fs.length<=1000/\H dx=some (.own a):=by
 obtain⟨d,z,ne,ob,mA,n,r,q⟩:=(show yR P w H h a (.ins C dx fs)from hok a _ e)
 exact⟨mA,⟨ob,n,ne⟩,r,q,z,d⟩
end
structure Cls (K:W.Frag) (C:Addr):Prop where
 pg:W.plainGet K C Str.empty=true
 hd:W.hasDictIn K C=true
 po:W.plainOver K C=true
 sa:W.findIn K (.ref C) "__setattr__"=some (some (.builtin "object.__setattr__"))
theorem Cls.get {K:W.Frag}{C:Addr}(c:Cls K C)(f:Str):W.plainGet K C f=true:=c.pg
section
variable {X:Cx}{pins:List (Addr × Obj)}{σ:St}{H:Hp}{s:Shared}{A:Around}{E:Value->Shared->Prop}{Q:Value->Shared->Prop}{c:Value}{b:Bool}
inductive zcv (K:W.Frag) (H:Hp):V->Value->Prop where
 | non:zcv K H .non (.type "NoneType")
 | bl (x:Bool):zcv K H (.bl x) (.type "bool")
 | int (i:Int):zcv K H (.int i) (.type "int")
 | str (x:Str):zcv K H (.str x) (.type "str")
 | flt (x:UInt64):zcv K H (.flt x) (.type "float")
 | lst {a:Addr} {xs:List V} (e:H a=some (.lst xs)):zcv K H (.ref a) (.type "list")
 | frz {a:Addr} {o:Obj} {xs:List V} (e:H a=some (.frz o (.lst xs))):zcv K H (.ref a) (.type "list")
 | tup {a:Addr} {xs:List V} (e:H a=some (.tup xs)):zcv K H (.ref a) (.type "tuple")
 | dK {a:Addr} {kvs:List (Key × V)} (e:H a=some (.dK kvs)):zcv K H (.ref a) (.type "dict")
 | dT {a:Addr} {kvs:List (List Key × V)} (e:H a=some (.dT kvs)):zcv K H (.ref a) (.type "dict")
 | ins {a C dx:Addr} {fs:List (Str × V)} (e:H a=some (.ins C dx fs)) (cl:Cls K C) (ha:W.findIn K (.ref C) "__class__"=some (some (.builtin "object.__class__")))
  (hn:W.specialIn K (.builtin "object.__class__") "__get__"=some (some (.builtin "getset_descriptor.__get__"))) (htk:W.takesIn K (.builtin "object.__class__")=some true)
  (hm:W.mroIn K C (.type "object")=some true):zcv K H (.ref a) (.ref C)
theorem zdN {x:V}{u t:Value}(I:Inv X pins σ H s)(rx:yZ x u)(ty:zcv X.K H x t)(e:W.kitOne X.K t c=some b)(h:∀ tk,Q (.bool b) { s with toks:=tk }) :
 wpAny (model X.prog X.w) A (call (.builtin "isinstance") [u,c]) Q E s:=by
 cases ty with
 | non=>cases (show u=Value.none from rx);exact W.kia_one W.kitx_none I.kIn True.intro e (λz=>nomatch z) h
 | bl y=>cases (show u=Value.bool y from rx);exact W.kia_one W.kitx_bool I.kIn True.intro e (λz=>nomatch z) h
 | int i=>obtain⟨t,q⟩:=(show ∃ t,u=Value.int i t from rx);cases q;exact W.kia_one W.kitx_int I.kIn True.intro e (λz=>nomatch z) h
 | str y=>obtain⟨t,q⟩:=(show ∃ t,u=Value.str y t from rx);cases q;exact W.kia_one W.kitx_str I.kIn True.intro e (λz=>nomatch z) h
 | flt y=>obtain⟨t,q⟩:=(show ∃ t,u=Value.float y t from rx);cases q;exact W.kia_one W.kitx_float I.kIn True.intro e (λz=>nomatch z) h
 | @lst a xs ea =>
  cases (show u=Value.ref a from rx)
  obtain⟨_,_,n,_,h1⟩:=(show yR X.prog X.w H s.heap a (.lst xs)from I.hok a _ ea)
  exact W.kia_one W.kitx_list I.kIn ⟨_,h1,rfl⟩ e (λz=>nomatch z) h
 | @frz a ob xs ea =>
  cases (show u=Value.ref a from rx)
  obtain⟨_,_,_,n,_,h1⟩:=(show yR X.prog X.w H s.heap a (.frz ob (.lst xs))from I.hok a _ ea)
  exact W.kia_one W.kitx_list I.kIn ⟨_,h1,rfl⟩ e (λz=>nomatch z) h
 | @tup a xs ea =>
  cases (show u=Value.ref a from rx)
  obtain⟨_,_,_,p⟩:=(show yR X.prog X.w H s.heap a (.tup xs)from I.hok a _ ea)
  obtain⟨o,h1,h2,_⟩:=p
  exact W.kia_one W.kitx_tuple I.kIn ⟨o,h1,h2⟩ e (λz=>nomatch z) h
 | @dK a kvs ea =>
  cases (show u=Value.ref a from rx)
  obtain⟨_,_,vs,_,p⟩:=(show yR X.prog X.w H s.heap a (.dK kvs)from I.hok a _ ea)
  obtain⟨o,es,ep,h1,h2,_⟩:=p
  exact W.kia_one W.kitx_dict I.kIn ⟨o,h1,h2.1⟩ e (λz=>nomatch z) h
 | @dT a kvs ea =>
  cases (show u=Value.ref a from rx)
  obtain⟨_,_,xs,_,o,es,ep,h1,h2,_⟩:=(show yR X.prog X.w H s.heap a (.dT kvs)from I.hok a _ ea)
  exact W.kia_one W.kitx_dict I.kIn ⟨o,h1,h2.1⟩ e (λz=>nomatch z) h
 | @ins a C dx fs ea cl ha hn htk hm =>
  cases (show u=Value.ref a from rx)
  obtain⟨mA,O,_⟩:=zid I.hok ea
  obtain⟨od,J,_⟩:=O.look
  exact W.kia_one (W.kitx_own (cl.get _) cl.hd ha hn htk hm) I.kIn J e (λz=>nomatch z) h
end
structure YK (k:Nat) (A:Around):Prop where
 hd:A.handled=none
 dp:A.depth+3*k+5 < recursionLimit
 un:A.units+16*k+200 < cLine
theorem YK.mono {j k:Nat}{A:Around}(r:YK k A)(h:j<=k):YK j A:=⟨r.hd,by have:=r.dp;omega,by have:=r.un;omega⟩
theorem YK.deeper {k:Nat}{A:Around}(r:YK (k+1) A)(env:Env):YK k (A.deeper env) :=
 ⟨r.hd,by have:=r.dp;show A.depth+1+3*k+5 < _;omega,by have:=r.un;show A.units+3+16*k+200 < _;omega⟩
theorem YK.depth {k:Nat}{A:Around}(r:YK k A):A.depth < recursionLimit:=by have:=r.dp;omega
theorem YK.units {k:Nat}{A:Around}(r:YK k A):A.units+64 < cLine:=by have:=r.un;omega
theorem YK.units0 {k:Nat}{A:Around}(r:YK k A):A.units < cLine:=by have:=r.un;omega
noncomputable def tNil:TA:=λ_ H Q=>Q [] H
noncomputable def zms (ta:TE)(tr:TA):TA:=fun σ H Q=>ta σ H λx H1=>tr σ H1 λxs H2=>Q (x::xs) H2
section
variable {X:Cx}{e:Expr}{es:List Expr}{te:TE}{t:TA}{pos:Pos}
theorem zam:PA X [] tNil:=λ_ _ _ _ H Q I h=>Calls.spliced_nil ⟨[],H,I,.nil,h⟩
theorem Zt (ha:PE X e te)(hr:PA X es t)(hs:starEach (e::es) X.env=(false,eval e X.env)::starEach es X.env:=by rfl):PA X (e::es) (zms te t):=by
 intro pos pins s σ H Q I h
 rw[hs]
 show wpAny _ _ (spliced ((false,eval e X.env)::backTo pos (starEach es X.env))) _ _ s
 refine Calls.spliced_cons (thn (ha pins s σ H _ I h) λu s1 hh9=>?_)
 obtain⟨x,H1,I1,r1,q1⟩:=hh9
 exact thn (hr pos pins s1 σ H1 _ I1 q1) λus s2 ⟨xs,H2,I2,r2,q2⟩=>⟨x::xs,H2,I2,.cons r1 r2,q2⟩
noncomputable def tTup (t:TA):TE:=fun σ H Q=>t σ H λxs H1=>xs.length<=sizeLine/\∀ p,H1 p=none->Q (.ref p) (upd H1 p (.tup xs))
noncomputable def tLst (t:TA):TE:=fun σ H Q=>t σ H λxs H1=>xs.length<=sizeLine/\∀ p,H1 p=none->Q (.ref p) (upd H1 p (.lst xs))
theorem zju {x1}(h:PA X es t):PE X (.Tuple es x1 pos) (tTup t):=by
 intro pins s σ H Q I hq
 refine wpAny_Tuple_spliced (thn (h pos pins s σ H _ I hq) λus s1 ⟨xs,H1,I1,r,z,q⟩=>⟨by rw[<-r.length];exact z,?_⟩)
 have hf:H1 s1.heap.objs.size=none:=I1.hok.fresh (Nat.le_refl _)
 refine⟨.ref s1.heap.objs.size,upd H1 s1.heap.objs.size (.tup xs),I1.laid (t':=s1.toks) (λb u e=>Heap.get?_push_of_some _ e) (Nat.le_refl _) ?_,rfl,q _ hf⟩
 exact⟨z,us,r,⟨_,Heap.get?_push_size _ rfl,rfl,_,rfl⟩⟩
theorem zjE (h:PA X es t):PE X (.List es pos) (tLst t):=by
 intro pins s σ H Q I hq
 refine wpAny_List_spliced (thn (h pos pins s σ H _ I hq) λus s1 ⟨xs,H1,I1,r,z,q⟩=>⟨by rw[<-r.length];exact z,?_⟩)
 have hf:H1 s1.heap.objs.size=none:=I1.hok.fresh (Nat.le_refl _)
 refine⟨.ref s1.heap.objs.size,upd H1 s1.heap.objs.size (.lst xs),I1.laid (t':=s1.toks) (λb u e=>Heap.get?_push_of_some _ e) (Nat.le_refl _) ?_,rfl,q _ hf⟩
 exact⟨z,us,0,r,Heap.get?_push_size _ rfl⟩
end
noncomputable abbrev Sp:=List V->Hp->VK->XK->Prop
noncomputable abbrev CXT:=List Env->Hp->Shared->XK->Value->Shared->Prop
structure zlg (P:Program) (w:World) (K:W.Frag) (mg:Str->Option Value) (base:Heap) (A:Around) (outer:List Env) (s:Shared) (H:Hp):Prop where
 frames:A.frames=some outer
 mod:Mod K mg base
 bs:∀ b o,base.get? b=some o->s.heap.get? b=some o/\H b=none
 bsz:base.objs.size<=s.heap.objs.size
 funs:s.heap.FunFrames base outer
 frf:∀ b∈frs outer,H b=none
 hok:HOk P w H s.heap
 bare:AllBare s.gens
noncomputable def CE (outer:List Env)(P:Program)(w:World)(H:Hp)(s:Shared)(Q:VK)(u:Value)(s':Shared):Prop :=
 ∃ v H',s'.os=s.os/\AllBare s'.gens/\Un (frs outer) [] H H' s.heap s'.heap/\HOk P w H' s'.heap/\yZ v u/\Q v H'
noncomputable def CR (CX:CXT)(outer:List Env)(P:Program)(w:World)(H:Hp)(s:Shared)(Q:VK)(E:XK)(r:Result)(s':Shared):Prop :=
 match r with
 | .ok (.ret u)=>CE outer P w H s Q u s'
 | .ok _=>False
 | .error e=>CX outer H s E e s'
structure xK (P:Program) (w:World) (K:W.Frag) (mg:Str->Option Value) (base:Heap) (CX:CXT) (k:Nat) (f:Addr) (fd:FuncData) (ps:List Str) (sp:Sp):Prop where
 len:∀ vs H Q E,sp vs H Q E->vs.length=ps.length
 run:∀ (A:Around) (outer:List Env) (s:Shared) (H:Hp) (args:Args) (us:List Value) (vs:List V) (Q:VK) (E:XK),YK k A->zlg P w K mg base A outer s H->BindsTo s fd args (ps.zip us)->yw vs us->sp vs H Q E ->
  codeAny (model P w) A (.call (.ref f) args) (CR CX outer P w H s Q E) s
theorem xK.mono {P:Program}{w:World}{K:W.Frag}{mg:Str->Option Value}{base:Heap}{CX:CXT}{j k:Nat}{f:Addr}{fd:FuncData}{ps:List Str}{sp:Sp}(F:xK P w K mg base CX j f fd ps sp)(h:j<=k) :
 xK P w K mg base CX k f fd ps sp:=⟨F.len,λA outer s H args us vs Q E hr=>F.run A outer s H args us vs Q E (hr.mono h)⟩
theorem xK.imp {P:Program}{w:World}{K:W.Frag}{mg:Str->Option Value}{base:Heap}{CX:CXT}{k:Nat}{f:Addr}{fd:FuncData}{ps:List Str}{sp sp':Sp}(F:xK P w K mg base CX k f fd ps sp)
 (h:∀ vs H Q E,sp' vs H Q E->sp vs H Q E):xK P w K mg base CX k f fd ps sp' :=
 ⟨λvs H Q E q=>F.len vs H Q E (h _ _ _ _ q),λA outer s H args us vs Q E hr he hb hv hs=>F.run A outer s H args us vs Q E hr he hb hv (h _ _ _ _ hs)⟩
section
variable {X:Cx}{pins:List (Addr × Obj)}{σ:St}{H:Hp}{s s':Shared}
theorem Inv.env0 (I:Inv X pins σ H s):zlg X.prog X.w X.K X.mg X.base X.A X.stack s H :=
 ⟨I.ok.frames,I.ok.mod,I.bs,Nat.le_trans I.ok.bsz I.sz,I.stack,I.stkFree,I.hok,I.bare⟩
theorem Inv.after {Q:VK}{u:Value}(I:Inv X pins σ H s)(h:CE X.stack X.prog X.w H s Q u s'):EP X pins σ Q u s':=by
 obtain⟨v,H',os,bare,un,hok,r,q⟩:=h
 obtain⟨hh,g,d,t,os'⟩:=s'
 obtain rfl:os'=s.os:=os
 exact⟨v,H',I.call (h':=hh) (g':=g) (d':=d) (t':=t) (ch:=[]) un hok bare (λb z=>absurd z (by simp)),r,q⟩
end
noncomputable def zmc (sp:Sp)(dvs:List V)(E:XK)(t:TA):TE:=fun σ H Q=>t σ H λvs H1=>sp (vs++dvs) H1 Q E
noncomputable def zbs (K:W.Frag)(fd:FuncData)(ps:List Str)(ds:List Value):Prop :=
 ∀ (s:Shared) (us:List Value),K.In s.heap->(us++ds).length=ps.length->BindsTo s fd ⟨us,[]⟩ (ps.zip (us++ds))
theorem zbs.all {K:W.Frag}{fd:FuncData}{ps:List Str}(h:∀ us:List Value,us.length=ps.length->bindArgs fd ⟨us,[]⟩=pure (ps.zip us)):zbs K fd ps []:=λs us _ hl=>by
 rw[List.append_nil]at hl ⊢
 exact .of_eq (h us hl)
noncomputable def ze9 (CX:CXT)(X:Cx)(E:XK):Prop:=∀ (pins:List (Addr × Obj)) (σ:St) (H:Hp) (s:Shared) (e:Value) (s':Shared),Inv X pins σ H s->CX X.stack H s E e s'->X.xe e s'
section
variable {X:Cx}{CX:CXT}{k:Nat}{f C:Addr}{fd:FuncData}{ps:List Str}{sp:Sp}{dvs:List V}{ds:List Value}{E:XK}{x m:Str}{p pos apos:Pos}{e o:Expr}{es:List Expr}{ta:TE}{t:TA}
theorem zjA {pins:List (Addr × Obj)}{σ:St}{H:Hp}{s:Shared}{Q:VK}{us:List Value}{vs:List V}(F:xK X.prog X.w X.K X.mg X.base CX k f fd ps sp)(hr:YK k X.A)(hb:zbs X.K fd ps ds)(hd:yw dvs ds)(hx:ze9 CX X E)
 (I:Inv X pins σ H s) (r:yw vs us) (h:sp (vs++dvs) H Q E):wpAny (model X.prog X.w) X.A (call (.ref f) us) (EP X pins σ Q) X.xe s:=by
 have r2:yw (vs++dvs) (us++ds):=r.append hd
 have hl:(us++ds).length=ps.length:=by rw[<-r2.length];exact F.len _ _ _ _ h
 refine wpAny_call (codeAny_mono (F.run X.A X.stack s H ⟨us,[]⟩ (us++ds) (vs++dvs) Q E hr I.env0 (hb s us I.kIn hl) r2 h) λr s' hq=>?_)
 cases r with
 | error e=>exact hx pins σ H s e s' I hq
 | ok fl =>
  cases fl with
  | ret u=>exact I.after hq
  | next=>exact False.elim hq
  | brk=>exact False.elim hq
  | cont=>exact False.elim hq
theorem ziS (F:xK X.prog X.w X.K X.mg X.base CX k f fd ps sp)(hr:YK k X.A)(hg:Gl X x)(hm:X.mg x=some (.ref f))(hk:W.keepIn X.K (.ref f)=true)(hb:zbs X.K fd ps ds)(hd:yw dvs ds)(hx:ze9 CX X E)
 (ha:PA X (e::es) t) (hdb:(x == ("__debug__":Str))=false:=by decide) (he:starEach (e::es) X.env=(false,eval e X.env)::starEach es X.env:=by rfl) (hpl:(backTo pos (starEach es X.env)).any (·.1)=false:=by rfl) :
 PE X (.Call (.Name x p) (e::es) [] pos) (zmc sp dvs E t):=by
 intro pins s σ H Q I h
 refine wpAny_Call_Name_kw (zfN I hg hm ?_ hdb)
 refine W.callWith_K (h₀:=X.base) I.ok.mod.kin hk (thn (ha pos pins s σ H _ I h) λus s1 ⟨vs,H1,I1,r,q⟩=>⟨I1.kIn,?_⟩) he hpl
 exact zjA F hr hb hd hx I1 r q
end
structure zB (N P:List Str) (sc:Scope):Prop where
 kind:sc.kind=.function
 co:sc.isCoroutine=false
 gen:sc.isGenerator=false
 nd:N.Nodup
 pre:N.take P.length=P
 par:∀ x∈P,sc.names.lookup x=some .local\/sc.names.lookup x=some .cell
 nofree:∀ y∈sc.names,y.2≠.free
theorem zaY {kindOf:Str->Option NameKind}{x:Str}:∀ {binds:List (Str × Value)} {m:Str->Option Value},(∀ v,(x,v)∉binds)->bindL kindOf binds m x=m x
 | [],_,_=>rfl
 | (n,v)::r,m,h=>by
  unfold bindL
  rw[zaY λw hw=>h w (List.mem_cons_of_mem _ hw)]
  split
  .have:x≠n:=by rintro rfl;exact h v List.mem_cons_self
   simp[this]
  .rfl
theorem zab {kindOf:Str->Option NameKind}{x:Str}:∀ {binds:List (Str × Value)} {m:Str->Option Value},(∀ v,(x,v)∉binds)->bindC kindOf binds m x=m x
 | [],_,_=>rfl
 | (n,v)::r,m,h=>by
  unfold bindC
  rw[zab λw hw=>h w (List.mem_cons_of_mem _ hw)]
  split
  .rfl
  .have:x≠n:=by rintro rfl;exact h v List.mem_cons_self
   simp[this]
theorem zbg {kindOf:Str->Option NameKind}{x:Str}{v:Value}:∀ {P:List Str} {vs:List Value} {i:Nat} {m:Str->Option Value},P.Nodup->P[i]?=some x->vs[i]?=some v->kindOf x=some .local ->
 bindL kindOf (P.zip vs) m x=some v
 | [],_,_,_,_,h,_,_=>by simp at h
 | _::_,[],_,_,_,_,h,_=>by simp at h
 | p::P,w::vs,0,m,nd,h1,h2,hk=>by
  simp at h1 h2;subst h1;subst h2
  show bindL kindOf ((p,w)::P.zip vs) m p=_
  unfold bindL
  rw[zaY λv hv=>(List.nodup_cons.mp nd).1 (List.of_mem_zip hv).1,if_pos hk]
  simp
 | p::P,w::vs,i+1,m,nd,h1,h2,hk=>by
  show bindL kindOf ((p,w)::P.zip vs) m x=_
  unfold bindL
  exact zbg (i:=i) (List.nodup_cons.mp nd).2 (by simpa using h1) (by simpa using h2) hk
theorem zbc {kindOf:Str->Option NameKind}{x:Str}{v:Value}:∀ {P:List Str} {vs:List Value} {i:Nat} {m:Str->Option Value},P.Nodup->P[i]?=some x->vs[i]?=some v->kindOf x≠some .local ->
 bindC kindOf (P.zip vs) m x=some v
 | [],_,_,_,_,h,_,_=>by simp at h
 | _::_,[],_,_,_,_,h,_=>by simp at h
 | p::P,w::vs,0,m,nd,h1,h2,hk=>by
  simp at h1 h2;subst h1;subst h2
  show bindC kindOf ((p,w)::P.zip vs) m p=_
  unfold bindC
  rw[zab λv hv=>(List.nodup_cons.mp nd).1 (List.of_mem_zip hv).1,if_neg hk]
  simp
 | p::P,w::vs,i+1,m,nd,h1,h2,hk=>by
  show bindC kindOf ((p,w)::P.zip vs) m x=_
  unfold bindC
  exact zbc (i:=i) (List.nodup_cons.mp nd).2 (by simpa using h1) (by simpa using h2) hk
noncomputable def start (N:List Str)(vs:List V):St:=vs.map some++List.replicate (N.length - vs.length) none
noncomputable def zhS (CX:CXT)(P:Program)(w:World)(K:W.Frag)(mg:Str->Option Value)(base:Heap)(N:List Str)(qual:Str)(scope:Scope)(f:Addr)(cd:Value)(A:Around)(outer:List Env)(s:Shared)(H:Hp)(E:XK):Cx where
 prog:=P
 w:=w
 K:=K
 mg:=mg
 base:=base
 A:=A.deeper (envOfC qual scope s.heap.objs.size f cd)
 N:=N
 s₀:=s
 H₀:=H
 env:=envOfC qual scope s.heap.objs.size f cd
 outer:=outer
 stack:=envOfC qual scope s.heap.objs.size f cd::outer
 ex:=[]
 calm:=true
 fn:=λ_=>true
 pn:=[]
 xe:=λe s'=>wpAny (model P w) (A.deeper (envOfC qual scope s.heap.objs.size f cd)) (leaving (envOfC qual scope s.heap.objs.size f cd) e) (λ_ s''=>CX outer H s E e s'') (λe' s''=>CX outer H s E e' s'') s'
theorem zce {sc:Scope}{n:Nat}{x:Str}(h:sc.names.lookup x=some .cell):∃ c,(cellsFrom n sc.names []).lookup x=some c:=by
 have q:=W.cellsFrom_some sc.names n [] (.inl h)
 exact Option.isSome_iff_exists.mp q
theorem zeo {CX:CXT}{P:Program}{w:World}{K:W.Frag}{mg:Str->Option Value}{base:Heap}{N ps:List Str}{qual:Str}{scope:Scope}{f:Addr}{cd:Value}{A:Around}{outer:List Env}{s s1:Shared}{H:Hp}{E:XK}{us:List Value}{vs:List V}
 (S:zB N ps scope) (hd:A.handled=none) (e0:zlg P w K mg base A outer s H) (hl:vs.length=ps.length) (r:yw vs us)
 (x:InCallC s s.heap.objs.size (bindL (envOfC qual scope s.heap.objs.size f cd).kindOf (ps.zip us) λ_=>none) (cellsFrom (s.heap.objs.size+1) scope.names []) (bindC (envOfC qual scope s.heap.objs.size f cd).kindOf (ps.zip us) λ_=>none) s1) :
 Inv (zhS CX P w K mg base N qual scope f cd A outer s H E) [] (start N vs) H s1:=by
 have hpl:ps.length<=N.length:=by have:=congrArg List.length S.pre;rw[List.length_take]at this;omega
 obtain⟨h1,tk,rfl,hk⟩:=x.done
 have noA:∀ b:Addr,b∉(zhS CX P w K mg base N qual scope f cd A outer s H E).ex:=λb z=>absurd (show b∈([]:List Addr)from z) (by simp)
 refine⟨⟨e0.mod,S.kind,rfl,rfl,Nat.le_refl _,λy z c h1 h2=>?_,λy hy=>?_,λy c _ h=>?_,λ_=>hd,Around.frames_deeper e0.frames,.inr ⟨rfl,rfl⟩,λb z=>absurd z (noA b),e0.bs,e0.bsz,λb _ _=>noA b,λb z=>absurd z (noA b),e0.funs,e0.frf⟩,
  rfl,e0.bare,Un.kept hk,⟨_,x.toInCall.ns,λi y v h1 h2 h3=>?_⟩,λy c h=>⟨_,x.cell y c h⟩,e0.hok.fresh (Nat.le_refl _),λy c h=>?_,λp hp=>absurd (show p∈([]:List (Addr × Obj))from hp) (by simp),e0.hok.kept hk,?_⟩
 .exact name_of_addr x.apart (PySem.mem_of_lookup h1) (PySem.mem_of_lookup h2)
 .have hy:scope.names.lookup y=some .cell\/scope.names.lookup y=some .free:=hy
  rcases hy with hy | hy
  .exact zce hy
  .exact absurd rfl (S.nofree _ (PySem.mem_of_lookup hy))
 .exact Nat.le_of_lt (x.above y c (PySem.mem_of_lookup h))
 .have hi:i < vs.length:=by
   unfold start at h2
   by_cases hi:i < vs.length
   .exact hi
   .rw[List.getElem?_append_right (by simpa using hi)]at h2
    rw[List.getElem?_replicate]at h2
    split at h2 <;> cases h2
  have ha:vs[i]?=some v:=by
   unfold start at h2
   rw[List.getElem?_append_left (by simpa using hi),List.getElem?_map]at h2
   cases e:vs[i]? with
   | none=>rw[e]at h2;cases h2
   | some a=>rw[e]at h2;cases h2;rfl
  obtain⟨u,hu,rv⟩:=r.get ha
  have hp:ps[i]?=some y:=by
   rw[<-S.pre,List.getElem?_take_of_lt (by omega)];exact h1
  have ndP:ps.Nodup:=by rw[<-S.pre];exact S.nd.sublist (List.take_sublist _ _)
  refine⟨u,rv,?_⟩
  rcases S.par y (List.mem_of_getElem? hp)with k | k
  .exact .inl ⟨k,zbg ndP hp hu k⟩
  .obtain⟨c,e⟩:=zce (n:=s.heap.objs.size+1) k
   refine .inr ⟨.inl k,c,e,?_⟩
   have q:=x.cell y c e
   rw[zbc ndP hp hu (by show scope.names.lookup y≠_;rw[k];decide)]at q
   exact q
 .exact e0.hok.fresh (Nat.le_of_lt (x.above y c (PySem.mem_of_lookup h)))
 .unfold start
  show _=N.length
  rw[List.length_append,List.length_map,List.length_replicate]
  omega
theorem zmj {CX:CXT}{P:Program}{w:World}{K:W.Frag}{mg:Str->Option Value}{base:Heap}{k:Nat}{f:Addr}{name qual:Str}{params:Arguments}{body:List Stmt}{scope:Scope}{dV kV doc pm cdv ct oc:Value}{an od:Option Addr}
 {osl:Array (Option Value)} {N ps:List Str} {sp:Sp} (lk:K.lookup f=some ⟨oc,od,.func (W.fnOf name qual params body scope dV kV doc pm an cdv ct),osl⟩) (hcd:W.codeIn K cdv qual=true) (S:zB N ps scope)
 (len:∀ vs H Q E,sp vs H Q E->vs.length=ps.length)
 (hbody:∀ (A:Around) (outer:List Env) (s:Shared) (H:Hp) (vs:List V) (Q:VK) (E:XK),YK k (A.deeper (envOfC qual scope s.heap.objs.size f cdv))->sp vs H Q E ->
  ∃ t,PSs (zhS CX P w K mg base N qual scope f cdv A outer s H E) body t/\t { nx:=λ_ H'=>Q .non H',rt:=Q } (start N vs) H) :
 xK P w K mg base CX (k+1) f (W.fnOf name qual params body scope dV kV doc pm an cdv ct) ps sp:=by
 refine⟨len,λA outer s H args us vs Q E hr e0 hb r hsp=>?_⟩
 have hl:=len _ _ _ _ hsp
 have KX:K.In s.heap:=e0.mod.kin.keeps λb o e=>(e0.bs b o e).1
 have lim:s.heap.NoLimit:=e0.mod.nolimit.keeps λb o e=>(e0.bs b o e).1
 have hkind:∀ y∈ps.zip us,scope.names.lookup y.1=some .local\/(scope.names.lookup y.1=some .cell/\((cellsFrom (s.heap.objs.size+1) scope.names []).lookup y.1).isSome=true):=λ⟨n,v⟩ hy=>by
  rcases S.par n (List.of_mem_zip hy).1 with q | q
  .exact .inl q
  .exact .inr ⟨q,W.cellsFrom_some _ _ _ (.inl q)⟩
 refine codeAny_call_function hr.depth (KX _ _ lk) rfl S.co S.gen rfl (W.codeRec_of KX hcd) (hb _ _ _ _ ?_)
 refine wpAny_newFunctionEnv_cells S.kind hkind λenv he s1 x=>?_
 subst he
 refine⟨lim.keeps x.toInCall.keep,codeAny_func ?_⟩
 obtain⟨t,ht,hq⟩:=hbody A outer s H vs Q E (hr.deeper _) hsp
 have I:Inv (zhS CX P w K mg base N qual scope f cdv A outer s H E) [] (start N vs) H s1:=zeo S hr.hd e0 hl r x
 refine wpAny_mono (ht [] s1 (start N vs) H _ I hq) (λfl s' hs=>?_) λe s' hs=>hs
 have fin:∀ {σ':St} {H':Hp} {v:V} {u:Value},Inv (zhS CX P w K mg base N qual scope f cdv A outer s H E) [] σ' H' s'->yZ v u->Q v H'->CE outer P w H s Q u s' :=
  λ{σ' H' v u} J rv q=>⟨v,H',J.os,J.bare,J.base,J.hok,rv,q⟩
 cases fl with
 | ret u =>
  obtain⟨v,σ',H',J,rv,q⟩:=hs
  exact fin J rv q
 | next =>
  obtain⟨σ',H',J,q⟩:=hs
  exact fin (v:=V.non) (u:=Value.none) J rfl q
 | brk =>
  obtain⟨_,_,_,q⟩:=hs
  exact False.elim q
 | cont =>
  obtain⟨_,_,_,q⟩:=hs
  exact False.elim q
section
variable {X:Cx}{x:Str}{p pos:Pos}{e:Expr}{es:List Expr}{t:TA}{id T:String}{r:List V->Hp->VK->Prop}
noncomputable def tCB (r:List V->Hp->VK->Prop)(t:TA):TE:=fun σ H Q=>t σ H λvs H1=>r vs H1 Q
theorem XN (hc:Yr X (.builtin id) r) (hg:Gl X x) (hm:X.mg x=none) (hv:bootBuiltins x=some (.builtin id)) (ha:PA X (e::es) t) (hn:x≠"__name__":=by decide) (hdb:(x == ("__debug__":Str))=false:=by decide)
 (he:starEach (e::es) X.env=(false,eval e X.env)::starEach es X.env:=by rfl) (hpl:(backTo pos (starEach es X.env)).any (·.1)=false:=by rfl):PE X (.Call (.Name x p) (e::es) [] pos) (tCB r t):=by
 intro pins s σ H Q I h
 refine wpAny_Call_Name_kw (ZJ I hg hm hv ?_ hn hdb)
 exact PyProof.Rows.callWith_builtin1 (thn (ha pos pins s σ H _ I h) λus s1 ⟨vs,H1,I1,r1,q1⟩=>hc pins s1 σ H1 vs us Q I1 r1 q1) he hpl
theorem zaB (hc:Yr X (.type T) r) (hg:Gl X x) (hm:X.mg x=none) (hv:bootBuiltins x=some (.type T)) (ha:PA X (e::es) t) (hn:x≠"__name__":=by decide) (hdb:(x == ("__debug__":Str))=false:=by decide)
 (he:starEach (e::es) X.env=(false,eval e X.env)::starEach es X.env:=by rfl) (hpl:(backTo pos (starEach es X.env)).any (·.1)=false:=by rfl):PE X (.Call (.Name x p) (e::es) [] pos) (tCB r t):=by
 intro pins s σ H Q I h
 refine wpAny_Call_Name_kw (ZJ I hg hm hv ?_ hn hdb)
 exact PyProof.Rows.callWith_type1 (thn (ha pos pins s σ H _ I h) λus s1 ⟨vs,H1,I1,r1,q1⟩=>hc pins s1 σ H1 vs us Q I1 r1 q1) he hpl
end
end L2
namespace HT
open PySem PyProof.Rows
noncomputable def lexLt:List Int->List Int->Bool
 | [],[]=>false
 | [],_::_=>true
 | _::_,[]=>false
 | x::xs,y::ys=>if x=y then lexLt xs ys else decide (x < y)
theorem lexLt_cons (x y:Int)(xs ys:List Int):lexLt (x::xs) (y::ys)=if x=y then lexLt xs ys else decide (x < y):=rfl
theorem zgM (A:Around)(s:Shared)(a:Int)(t:Tok)(c:Int)(u:Tok):∃ e,SeqAt.EqAt A s (.int a t) (.int c u) e/\(e=true↔a=c) :=
 ⟨(a == c),SeqAt.EqAt.int_int a t c u,by simp⟩
section
variable {prog:Program}{w:World}{A:Around}{E:Value->Shared->Prop}{s:Shared}
theorem cat_tup {t b:Addr}{vs ws:List Value}{Q:Value->Shared->Prop}(ht:IsTup s.heap t vs.toArray)(hb:IsTup s.heap b ws.toArray)(hv:vs≠[])
 (h1:ws=[]->Q (.ref t) s) (h2:ws≠[]->Q (.ref s.heap.objs.size) { s with heap:=s.heap.push { cls:=.type "tuple",data:=.seq (vs++ws).toArray } })
 (hsz:vs.length+ws.length<=sizeLine):wpAny (model prog w) A (binaryOp .Add (.ref t) (.ref b)) Q E s:=by
 obtain⟨⟨cls,dd,data,sl⟩,ho,hc,n,hd⟩:=id ht
 obtain⟨⟨cls2,dd2,data2,sl2⟩,ho2,hc2,n2,hd2⟩:=id hb
 simp only at hc hd hc2 hd2
 subst hc hd hc2 hd2
 have e:vs.toArray++ws.toArray=(vs++ws).toArray:=by simp
 by_cases hw:ws=[]
 .exact concat_meets ⟨_,ho,rfl⟩ ⟨_,ho2,rfl⟩ noFill_tuple_add seq_tuple_add PySem.F.slot_tuple_add PySem.F.entry_tuple_add (PySem.F.args_tuple_add_2 _ _)
   (tuple_addW1 t b vs.toArray ws.toArray n n2 dd dd2 sl sl2 (by simpa using hv) (by simp[hw])) ⟨ho,ho2,h1 hw⟩
 .refine concat_meets ⟨_,ho,rfl⟩ ⟨_,ho2,rfl⟩ noFill_tuple_add seq_tuple_add PySem.F.slot_tuple_add PySem.F.entry_tuple_add (PySem.F.args_tuple_add_2 _ _)
   (tuple_addW2 t b vs.toArray ws.toArray n n2 dd dd2 sl sl2 (by simpa using hv) (by simpa using hw) (by rw[List.size_toArray,List.size_toArray];exact hsz)) ⟨ho,ho2,?_⟩
  rw[e]
  exact h2 hw
noncomputable def sIx (n d:Nat):Option Int->Nat
 | none=>d
 | some v=>if v < 0 then (v+(n:Int)).toNat else min v.toNat n
theorem zjK (n d:Nat)(hd:d<=n)(o:Option Int):sIx n d o<=n:=by
 cases o with
 | none=>exact hd
 | some v =>
  show(if v < 0 then (v+(n:Int)).toNat else min v.toNat n)<=n
  by_cases hv:v < 0
  .rw[if_pos hv];omega
  .rw[if_neg hv];exact Nat.min_le_right _ _
theorem zff (v:Int)(n d:Nat):(if v < 0 then max (v+(n:Int)) 0 else min v (n:Int))=((sIx n d (some v):Nat):Int):=by
 show(if v < 0 then max (v+(n:Int)) 0 else min v (n:Int))=(((if v < 0 then (v+(n:Int)).toNat else min v.toNat n):Nat):Int)
 by_cases hv:v < 0
 .simp only[if_pos hv];omega
 .simp only[if_neg hv];omega
theorem zcT (lo hi:Option Int)(n:Nat):Builtin.Slice.sliceAdjust lo hi 1 (n:Int)=(((sIx n 0 lo:Nat):Int),((sIx n n hi:Nat):Int)):=by
 have h1:¬ ((1:Int) < 0):=by omega
 unfold Builtin.Slice.sliceAdjust
 simp only[h1,if_false]
 refine Prod.ext ?_ ?_
 .cases lo with
  | none=>rfl
  | some v=>exact zff v n 0
 .cases hi with
  | none=>rfl
  | some v=>exact zff v n n
theorem zcW (i j:Nat):Builtin.Slice.slicePlaces (i:Int) (j:Int) 1=j - i:=by
 unfold Builtin.Slice.slicePlaces
 have h1:(1:Int) > 0:=by omega
 simp only[h1,if_true,Int.ediv_one]
 split <;> omega
theorem Vg {v:Value}{o:Option Int}{Q:Option Int->Shared->Prop}(p:IsPart v o)(h:Q o s):wpAny (model prog w) A (Builtin.Slice.slicePartIndex v) Q E s:=by
 cases p with
 | none=>exact slicePart_none h
 | int i t=>exact slicePart_int h
theorem Yn {sl:Addr}{vl vu:Value}{lo hi:Option Int}{n:Nat}{Q:Int × Int × Nat->Shared->Prop}(hs:s.heap.IsSliceOf sl vl vu .none)(pl:IsPart vl lo)(pu:IsPart vu hi)
 (h:Q (((sIx n 0 lo:Nat):Int),1,sIx n n hi - sIx n 0 lo) s):wpAny (model prog w) A (Builtin.Slice.sliceApplied (.ref sl) (pure (n:Int))) Q E s:=by
 obtain⟨os,hos,hcs,hds⟩:=id hs
 unfold Builtin.Slice.sliceApplied Builtin.Slice.sliceFields
 refine wpAny_bind (wpAny_bind (wpAny_field hos hds (x:=vl) rfl (wpAny_bind (wpAny_field hos hds (x:=vu) rfl (wpAny_bind (wpAny_field hos hds (x:=.none) rfl (wpAny_pure ?_)))))))
 refine wpAny_bind (slicePart_none ?_)
 show wpAny _ _ (if ((1:Int) == 0)=true then _ else _) _ _ s
 rw[if_neg (by decide)]
 refine wpAny_bind (Vg pl (wpAny_bind (Vg pu (wpAny_bind (wpAny_pure ?_)))))
 show wpAny _ _ (match Builtin.Slice.sliceAdjust lo hi 1 (n:Int)with | (lo,hi)=>pure (lo,(1:Int),Builtin.Slice.slicePlaces lo hi 1)) _ _ s
 rw[zcT lo hi n]
 show wpAny _ _ (pure (((sIx n 0 lo:Nat):Int),(1:Int),Builtin.Slice.slicePlaces ((sIx n 0 lo:Nat):Int) ((sIx n n hi:Nat):Int) 1)) _ _ s
 rw[zcW]
 exact wpAny_pure h
theorem zgC (xs:Array Value)(i k:Nat):((List.range k).filterMap λ(m:Nat)=>xs[((i:Int)+(m:Int)*1).toNat]?).toArray=((xs.toList.drop i).take k).toArray:=by
 have e:(λ(m:Nat)=>xs[((i:Int)+(m:Int)*1).toNat]?)=λm=>xs[i+m]?:=by
  funext m
  have:((i:Int)+(m:Int)*1).toNat=i+m:=by omega
  rw[this]
 rw[e]
 have:=pick_run xs i k
 rw[List.filterMap_map]at this
 have e2:((λx=>xs[x]?) ∘ λx=>i+x)=λm=>xs[i+m]?:=rfl
 rw[e2]at this
 rw[this]
theorem getItem_tuple_cut {t sl:Addr}{items:Array Value}{vl vu:Value}{lo hi:Option Int}{Q:Value->Shared->Prop}(ht:IsTup s.heap t items)(hs:s.heap.IsSliceOf sl vl vu .none)(pl:IsPart vl lo)(pu:IsPart vu hi)
 (hw:¬ (sIx items.size 0 lo=0/\sIx items.size items.size hi=items.size))
 (h:Q (.ref s.heap.objs.size) { s with heap:=s.heap.push { cls:=.type "tuple",data:=.seq ((items.toList.drop (sIx items.size 0 lo)).take (sIx items.size items.size hi - sIx items.size 0 lo)).toArray } })
 (hsz:items.size<=sizeLine):wpAny (model prog w) A (getItem (.ref t) (.ref sl)) Q E s:=by
 have htake:sizeOk (.seq ((items.toList.drop (sIx items.size 0 lo)).take (sIx items.size items.size hi - sIx items.size 0 lo)).toArray):=by
  show((items.toList.drop (sIx items.size 0 lo)).take (sIx items.size items.size hi - sIx items.size 0 lo)).toArray.size<=sizeLine
  rw[List.size_toArray,List.length_take,List.length_drop,Array.length_toList]
  omega
 have hj:sIx items.size items.size hi<=items.size:=zjK _ _ (Nat.le_refl _) hi
 obtain⟨os,hos,hcs,hds⟩:=id hs
 have hTs:s.TypeIs (.ref sl) "slice":=⟨os,hos,hcs⟩
 unfold getItem
 try with_reducible refine wpAny_holding ?_
 first | refine wpAny_bind (wpAny_pure ?_) | skip
 refine wpAny_bind (wpAny_sequenceKey ht.typeIs (by decide) ?_)
 refine wpAny_bind (wpAny_callSpecial?_slot (name:=Str.ofString "__getitem__") ht.typeIs PyProof.Rows.slot_tuple_getitem
  (wpAny_call_entry PyProof.Rows.slot_tuple_getitem ht.typeIs entry_tuple_getitem ?_ (args_tuple_getitem _ _)))
 show wpAny _ _ (Builtin.Tuple.tupleItemsOf (.ref t)>>=_) _ _ s
 refine wpAny_bind (tupleItemsOf_ ht ?_)
 refine wpAny_bind (wpAny_typeOf hTs ?_)
 rw[if_pos (by decide)]
 refine wpAny_bind (Yn hs pl pu ?_)
 have hno:¬ ((((sIx items.size 0 lo:Nat):Int) == 0&&(1:Int) == 1&&(sIx items.size items.size hi - sIx items.size 0 lo) == items.size)=true):=by
  intro q
  rw[Bool.and_eq_true,Bool.and_eq_true]at q
  have q1:((sIx items.size 0 lo:Nat):Int)=0:=eq_of_beq q.1.1
  have q2:sIx items.size items.size hi - sIx items.size 0 lo=items.size:=eq_of_beq q.2
  exact hw ⟨by omega,by omega⟩
 show wpAny _ _ (if (((sIx items.size 0 lo:Nat):Int) == 0&&(1:Int) == 1&&(sIx items.size items.size hi - sIx items.size 0 lo) == items.size)=true then _ else _) _ _ s
 rw[if_neg hno,zgC]
 first
  | exact wpAny_bind (m:=Builtin.Tuple.tupleExact _) (wpAny_newObj_type (wpAny_pure ⟨_,rfl,wpAny_pure h⟩) htake)
  | exact wpAny_bind (m:=Builtin.Tuple.tupleExact _) (wpAny_newObj_type (wpAny_bind (wpAny_pure (wpAny_pure ⟨_,rfl,wpAny_pure h⟩))) htake)
  | exact wpAny_bind (wpAny_bind (m:=Builtin.Tuple.tupleExact _) (wpAny_newObj_type (wpAny_pure (wpAny_pure ⟨_,rfl,wpAny_pure h⟩)) htake))
  | exact wpAny_bind (wpAny_bind (m:=Builtin.Tuple.tupleExact _) (wpAny_newObj_type (wpAny_pure ⟨_,rfl,wpAny_pure h⟩) htake))
end
end HT
namespace L2
open PySem PySem.Spec PyProof.Rows
noncomputable abbrev TO:=St->Hp->(Option Int->Hp->Prop)->Prop
noncomputable def PO (X:Cx)(e:Option Expr)(t:TO):Prop :=
 ∀ (pins:List (Addr × Obj)) (s:Shared) (σ:St) (H:Hp) (Q:Option Int->Hp->Prop),Inv X pins σ H s->t σ H Q ->
  wpAny (model X.prog X.w) X.A (evalPart e X.env) (λu s'=>∃ o H',Inv X pins σ H' s'/\IsPart u o/\Q o H') X.xe s
noncomputable def zio:TO:=λ_ H Q=>Q none H
noncomputable def zlU (t:TE):TO:=fun σ H Q=>t σ H λx H1=>∃ i,x=.int i/\Q (some i) H1
theorem vz {ns:List Int}:∀ {us:List Value},yw (ns.map V.int) us->IntsAre us ns:=by
 induction ns with
 | nil=>intro us r;rw[List.map_nil]at r;cases r;exact .nil
 | cons n ns ih =>
  intro us r
  rw[List.map_cons]at r
  cases r with
  | cons r1 r2 =>
   obtain⟨t,e⟩:=r1
   subst e
   exact .cons n t (ih r2)
section
variable {X:Cx}{e:Expr}{te:TE}{lo hi:Option Expr}{tl th:TO}{pos p2:Pos}
theorem zik:PO X none zio:=by
 intro pins s σ H Q I h
 rw[evalPart_none]
 exact wpAny_pure ⟨none,H,I,.none,h⟩
theorem zjb (h:PE X e te):PO X (some e) (zlU te):=by
 intro pins s σ H Q I hw
 rw[evalPart_some]
 refine thn (h pins s σ H _ I hw) λu s1 hh9=>?_
 obtain⟨x,H1,I1,r1,q1⟩:=hh9
 obtain⟨i,rfl,q⟩:=q1
 obtain⟨t,rfl⟩:=r1
 exact⟨some i,H1,I1,.int i t,q⟩
noncomputable def SlR (X:Cx)(r:V->Option Int->Option Int->Hp->VK->Prop):Prop :=
 ∀ (pins:List (Addr × Obj)) (s:Shared) (σ:St) (H:Hp) (x:V) (v vl vu:Value) (lo hi:Option Int) (sl:Addr) (Q:VK),Inv X pins σ H s->yZ x v->s.heap.IsSliceOf sl vl vu .none->IsPart vl lo->IsPart vu hi->r x lo hi H Q ->
  ∃ T id,typeLookup (.type T) "__getitem__"=pure (some (.builtin id))/\s.TypeIs v T/\wpAny (model X.prog X.w) X.A (getItem v (.ref sl)) (EP X pins σ Q) X.xe s
theorem SlR.or {r r':V->Option Int->Option Int->Hp->VK->Prop}(h:SlR X r)(h':SlR X r'):SlR X (λx lo hi H Q=>r x lo hi H Q\/r' x lo hi H Q):=by
 intro pins s σ H x v vl vu lo hi sl Q I rx hs pl pu q
 rcases q with q | q
 .exact h pins s σ H x v vl vu lo hi sl Q I rx hs pl pu q
 .exact h' pins s σ H x v vl vu lo hi sl Q I rx hs pl pu q
noncomputable def tSl (r:V->Option Int->Option Int->Hp->VK->Prop)(te:TE)(tl th:TO):TE:=fun σ H Q=>te σ H λx H1=>tl σ H1 λl H2=>th σ H2 λu H3=>r x l u H3 Q
theorem zf2 {r:V->Option Int->Option Int->Hp->VK->Prop}(hr:SlR X r)(he:PE X e te)(hl:PO X lo tl)(hu:PO X hi th):PE X (.Subscript e (.Slice lo hi none p2) pos) (tSl r te tl th):=by
 intro pins s σ H Q I h
 refine Subscript_ (thn (he pins s σ H _ I h) λv s1 hh9=>?_)
 obtain⟨x,H1,I1,r1,q1⟩:=hh9
 refine wpAny_Slice (thn (hl pins s1 σ H1 _ I1 q1) λvl s2 ⟨l,H2,I2,pl,q2⟩=>thn (hu pins s2 σ H2 _ I2 q2) λvu s3 hh9=>?_)
 obtain⟨u,H3,I3,pu,q3⟩:=hh9
 rw[evalPart_none]
 refine wpAny_pure ?_
 have I4:Inv X pins σ H3 { s3 with heap:=s3.heap.push { cls:=.type "slice",data:=.fields #[vl,vu,.none] } }:=I3.kept (t':=s3.toks) λb ob q=>Heap.get?_push_of_some _ q
 obtain⟨T,id,hT,ht,hg⟩:=hr pins { s3 with heap:=s3.heap.push { cls:=.type "slice",data:=.fields #[vl,vu,.none] } } σ H3 x v vl vu l u s3.heap.objs.size Q I4 r1 (Heap.IsSliceOf.new ..) pl pu q3
 show wpAny (model X.prog X.w) X.A (subscriptTail e (.Slice lo hi none p2) v (.ref s3.heap.objs.size)) (EP X pins σ Q) X.xe { s3 with heap:=s3.heap.push { cls:=.type "slice",data:=.fields #[vl,vu,.none] } }
 exact tail_any (ops:=[.ref s3.heap.objs.size,v]) ht hT hg (by with_unfolding_all rfl)
noncomputable def zbS (xs:List V)(lo hi:Option Int):List V:=(xs.drop (HT.sIx xs.length 0 lo)).take (HT.sIx xs.length xs.length hi - HT.sIx xs.length 0 lo)
theorem Ww (xs:List V)(lo hi:Option Int):(zbS xs lo hi).length<=xs.length:=by
 unfold zbS
 rw[List.length_take,List.length_drop]
 omega
noncomputable def rSlT (K:W.Frag):V->Option Int->Option Int->Hp->VK->Prop:=λx lo hi H Q=>∃ a xs,x=.ref a/\SqT K H a xs /\
 ¬ (HT.sIx xs.length 0 lo=0/\HT.sIx xs.length xs.length hi=xs.length)/\∀ p,H p=none->Q (.ref p) (upd H p (.tup (zbS xs lo hi)))
theorem zkC:SlR X (rSlT X.K):=by
 intro pins s σ H x v vl vu lo hi sl Q I rx hs pl pu h
 obtain⟨a,xs,rfl,hx,hw,q⟩:=h
 cases rx
 obtain⟨its,r,ht,hz⟩:=I.tuple hx
 have hlen:its.toArray.size=xs.length:=by rw[List.size_toArray];exact r.length.symm
 refine⟨"tuple",_,PyProof.Rows.slot_tuple_getitem.lookup,ht.typeIs,?_⟩
 refine HT.getItem_tuple_cut ht hs pl pu (by rw[hlen];exact hw) ?_ (by rw[hlen];exact hz)
 rw[hlen]
 refine⟨.ref s.heap.objs.size,_,I.laid (t':=s.toks) (o:=.tup (zbS xs lo hi)) (λb ob q=>Heap.get?_push_of_some _ q) (Nat.le_refl _) ?_,rfl,q _ (I.hok.fresh (Nat.le_refl _))⟩
 exact⟨Nat.le_trans (Ww xs lo hi) hz,_,(r.drop (HT.sIx xs.length 0 lo)).take (HT.sIx xs.length xs.length hi - HT.sIx xs.length 0 lo),IsTup.new _ _⟩
noncomputable def zlE (K:W.Frag):R2:=λx y H Q=>∃ a b xs ys,x=.ref a/\y=.ref b/\SqT K H a xs/\SqT K H b ys/\xs≠[]/\xs.length+ys.length<=sizeLine /\
 (ys=[]->Q (.ref a) H)/\(ys≠[]->∀ p,H p=none->Q (.ref p) (upd H p (.tup (xs++ys))))
theorem yw.nil_iff {xs:List V}{us:List Value}(r:yw xs us):us=[]↔xs=[]:=by
 cases r with
 | nil=>simp
 | cons _ _=>simp
theorem zis:OpR X (binaryOp .Add) (zlE X.K):=by
 intro pins s σ H x y v u Q I rx ry h
 obtain⟨a,b,xs,ys,rfl,rfl,ha,hb,hx,hz,q1,q2⟩:=h
 cases rx
 cases ry
 obtain⟨its,r1,p1,_⟩:=I.tuple ha
 obtain⟨its2,r2,p2,_⟩:=I.tuple hb
 refine HT.cat_tup p1 p2 (λz=>hx (r1.nil_iff.mp z)) (λz=>⟨.ref a,H,I,rfl,q1 (r2.nil_iff.mp z)⟩) (λz=>?_) (by rw[<-r1.length,<- r2.length];exact hz)
 refine⟨.ref s.heap.objs.size,_,I.laid (t':=s.toks) (o:=.tup (xs++ys)) (λb ob q=>Heap.get?_push_of_some _ q) (Nat.le_refl _) ?_,rfl,q2 (λw=>z (r2.nil_iff.mpr w)) _ (I.hok.fresh (Nat.le_refl _))⟩
 exact⟨by rw[List.length_append];exact hz,_,r1.append r2,IsTup.new _ _⟩
end
noncomputable def ixN (n:Nat)(i:Int):Option Nat:=if 0<=i then (if i < n then some i.toNat else none)else if -(n:Int)<=i then some (i+n).toNat else none
noncomputable def atI {α:Type}(xs:List α)(i:Int):Option α:=(ixN xs.length i).bind λj=>xs[j]?
theorem ze2 {n:Nat}{i:Int}{j:Nat}(h:ixN n i=some j):seqIndex? i n=some j/\j < n/\-(n:Int)<=i/\i < n:=by
 unfold ixN at h
 by_cases h0:0<=i
 .rw[if_pos h0]at h
  by_cases h1:i < n
  .rw[if_pos h1]at h
   have e:i.toNat=j:=Option.some.inj h
   exact⟨by rw[seqIndex_of h0 h1,e],by omega,by omega,h1⟩
  .rw[if_neg h1]at h;cases h
 .rw[if_neg h0]at h
  by_cases h1:-(n:Int)<=i
  .rw[if_pos h1]at h
   have e:(i+n).toNat=j:=Option.some.inj h
   exact⟨by rw[seqIndex_neg (by omega) h1,e],by omega,h1,by omega⟩
  .rw[if_neg h1]at h;cases h
theorem zbl {α:Type}{xs:List α}{i:Int}{v:α}(h:atI xs i=some v):∃ j,seqIndex? i xs.length=some j/\xs[j]?=some v/\j < xs.length/\-(xs.length:Int)<=i/\i < xs.length:=by
 unfold atI at h
 cases e:ixN xs.length i with
 | none=>rw[e]at h;cases h
 | some j =>
  rw[e]at h
  obtain⟨h1,h2,h3,h4⟩:=ze2 e
  exact⟨j,h1,h,h2,h3,h4⟩
theorem zdF {α:Type}{xs:List α}{j:Nat}{v:α}(h:xs[j]?=some v):atI xs (j:Int)=some v:=by
 have hj:j < xs.length:=(List.getElem?_eq_some_iff.mp h).1
 have e:ixN xs.length (j:Int)=some j:=by
  unfold ixN
  rw[if_pos (by omega),if_pos (by omega)];simp
 unfold atI;rw[e];exact h
noncomputable def zdM (b:Expr):Prop:=∀ o i,subscripted b false o i=operate [o,i] (getItem o i)
noncomputable def IxR (X:Cx)(r:R2):Prop :=
 ∀ (value slice:Expr) (pins:List (Addr × Obj)) (s:Shared) (σ:St) (H:Hp) (x y:V) (v u:Value) (Q:VK),Inv X pins σ H s->yZ x v->yZ y u->r x y H Q ->
  subscripted slice false v u=operate [v,u] (getItem v u)->wpAny (model X.prog X.w) X.A (subscriptTail value slice v u) (EP X pins σ Q) X.xe s
noncomputable def MtR (X:Cx)(id:String)(r:V->List V->Hp->VK->Prop):Prop :=
 ∀ (pins:List (Addr × Obj)) (s:Shared) (σ:St) (H:Hp) (x:V) (xs:List V) (v:Value) (us:List Value) (Q:VK),Inv X pins σ H s->yZ x v->yw xs us->r x xs H Q ->
  wpAny (model X.prog X.w) X.A (call (.builtin id) (v::us)) (EP X pins σ Q) X.xe s
section
variable {X:Cx}{a b:Expr}{ta tb:TE}{pos:Pos}
theorem IxR.or {r r':R2}(h:IxR X r)(h':IxR X r'):IxR X (λx y H Q=>r x y H Q\/r' x y H Q):=by
 intro value slice pins s σ H x y v u Q I rx ry q hs
 rcases q with q | q
 .exact h value slice pins s σ H x y v u Q I rx ry q hs
 .exact h' value slice pins s σ H x y v u Q I rx ry q hs
theorem zlX {r:R2}(hr:IxR X r)(ha:PE X a ta)(hb:PE X b tb)(hs:zdM b):PE X (.Subscript a b pos) (tOp r ta tb):=by
 intro pins s σ H Q I h
 exact Subscript_ (zml ha hb I h λv u s2 x y H2 I2 rx ry q=>hr a b pins s2 σ H2 x y v u Q I2 rx ry q (hs _ _))
noncomputable def rIxL (K:W.Frag):R2:=λx y H Q=>∃ p xs i v,x=.ref p/\y=.int i/\SqL K H p xs/\atI xs i=some v/\Q v H
noncomputable def rIxT (K:W.Frag):R2:=λx y H Q=>∃ p xs i v,x=.ref p/\y=.int i/\SqT K H p xs/\atI xs i=some v/\Q v H
noncomputable def rIxS:R2:=λx y H Q=>∃ z i c,x=.str z/\y=.int i/\z.length<=sizeLine/\atI z.cps.toList i=some c/\Q (.str ⟨#[c]⟩) H
theorem ziA:IxR X (rIxL X.K):=by
 intro value slice pins s σ H x y v u Q I rx ry h hs
 obtain⟨p,xs,i,z,rfl,rfl,hq,he,q⟩:=h
 cases rx
 obtain⟨t,rfl⟩:=ry
 obtain⟨its,r,pl,hz⟩:=I.list hq
 obtain⟨j,h1,h2,h3,h4,h5⟩:=zbl he
 obtain⟨w,ew,rw'⟩:=r.get h2
 have hl:=r.length
 have hn:=zaa
 have fin:EP X pins σ Q w s:=⟨z,H,I,rw',q⟩
 by_cases h0:0<=i
 .have hj:i.toNat=j:=by
   rw[seqIndex_of h0 h5]at h1
   exact Option.some.inj h1
  exact item_listR pl.isList h0 (by omega) (by rw[hj];simpa using ew) fin hs
 .have hj:(i+(its.toArray.size:Int)).toNat=j:=by
   rw[seqIndex_neg (by omega) h4]at h1
   rw[List.size_toArray,<- hl]
   exact Option.some.inj h1
  exact subscriptTail_builtinR (x:=w) pl.isList.typeIs slot_list_getitem.lookup
   (wpAny_getItem_list_neg (Q:=λr s'=>r=w/\EP X pins σ Q r s') pl.isList (by omega) (by rw[List.size_toArray] <;> omega) (by omega) (by rw[hj];simpa using ew) ⟨rfl,fin⟩) hs
theorem zkh:IxR X (rIxT X.K):=by
 intro value slice pins s σ H x y v u Q I rx ry h hs
 obtain⟨p,xs,i,z,rfl,rfl,hq,he,q⟩:=h
 cases rx
 obtain⟨t,rfl⟩:=ry
 obtain⟨its,r,pl,hz⟩:=I.tuple hq
 obtain⟨j,h1,h2,h3,h4,h5⟩:=zbl he
 obtain⟨w,ew,rw'⟩:=r.get h2
 have hl:=r.length
 have hn:=zaa
 have fin:EP X pins σ Q w s:=⟨z,H,I,rw',q⟩
 exact subscriptTail_builtinR (x:=w) pl.typeIs slot_tuple_getitem.lookup
  (getItem_tuple (j:=j) (Q:=λr s'=>r=w/\EP X pins σ Q r s') pl (by omega) (by omega) (by rw[List.size_toArray,<- hl];exact h1) (by simpa using ew) ⟨rfl,fin⟩) hs
theorem zkj:IxR X rIxS:=by
 intro value slice pins s σ H x y v u Q I rx ry h hs
 obtain⟨z,i,c,rfl,rfl,hz,he,q⟩:=h
 obtain⟨t,rfl⟩:=rx
 obtain⟨t',rfl⟩:=ry
 obtain⟨j,h1,h2,h3,h4,h5⟩:=zbl he
 have hl:z.cps.toList.length=z.length:=by simp[Str.length]
 rw[hl]at h1 h4 h5
 have hn:=zaa
 exact tail_any (typeIs_str s z t) slot_str_getitem.lookup (getItem_str (c:=c) (by
  have e1:decide (i < -(2 ^ 63:Int))=false:=decide_eq_false (by omega)
  have e2:decide (i >= 2 ^ 63)=false:=decide_eq_false (by omega)
  rw[e1,e2,Bool.or_false]) (by rw[h1];simpa using h2) ⟨.str ⟨#[c]⟩,H,I.tok _,⟨_,rfl⟩,q⟩) hs
noncomputable def rIx (K:W.Frag):R2:=λx y H Q=>rIxL K x y H Q\/rIxT K x y H Q\/rIxS x y H Q
theorem zkq:IxR X (rIx X.K):=ziA.or (zkh.or zkj)
theorem zcR (its:List Value) (n j:Nat) (u:Value):Obj.mapSeq (·.setIfInBounds j u) { cls:=.type "list",data:=.seq its.toArray n }={ cls:=.type "list",data:=.seq (its.set j u).toArray n }:=by
 simp[Obj.mapSeq]
theorem Inv.lst {pins:List (Addr × Obj)}{σ:St}{H:Hp}{s:Shared}{p:Addr}{xs:List V}(I:Inv X pins σ H s)(h:H p=some (.lst xs)) :
 ∃ (its:List Value) (n:Nat),yw xs its/\s.heap.get? p=some { cls:=.type "list",data:=.seq its.toArray n }/\xs.length<=sizeLine:=by
 obtain⟨z,its,n,r,e⟩:=I.hok p _ h
 exact⟨its,n,r,e,z⟩
theorem Inv.lstUpd {pins:List (Addr × Obj)}{σ:St}{H:Hp}{s:Shared}{p:Addr}{xs ys:List V}{its its':List Value}{n n':Nat}{f:Obj->Obj}(I:Inv X pins σ H s)(h:H p=some (.lst xs))
 (ho:s.heap.get? p=some { cls:=.type "list",data:=.seq its.toArray n }) (hf:f { cls:=.type "list",data:=.seq its.toArray n }={ cls:=.type "list",data:=.seq its'.toArray n' }) (r:yw ys its') (hz:ys.length<=sizeLine) (t:Nat) :
 Inv X pins σ (upd H p (.lst ys)) { s with heap:=s.heap.update p f,toks:=t }:=by
 have e:(s.heap.update p f).get? p=some { cls:=.type "list",data:=.seq its'.toArray n' }:=by
  rw[Heap.get?_update_self f ho (by rw[hf] <;> rfl),hf]
 refine I.write (x:=p) (e:=p) (by rw[h];trivial) (.inl rfl) (λb u hb q=>(Heap.get?_update_other _ _ (Ne.symm hb)).trans q) ⟨_,e⟩ ?_
 exact⟨hz,its',n',r,e⟩
noncomputable def zlA:V->V->V->Hp->(Hp->Prop)->Prop:=λo i v H Q=>∃ p xs k j,o=.ref p/\i=.int k/\H p=some (.lst xs)/\ixN xs.length k=some j/\Q (upd H p (.lst (xs.set j v)))
theorem zf7:PSet X zlA:=by
 intro pins s σ H o i v ov iv u Q I ro ri rv h
 obtain⟨p,xs,k,j,rfl,rfl,hp,hj,q⟩:=h
 cases ro
 obtain⟨t,rfl⟩:=ri
 obtain⟨its,n,r,ho,hz⟩:=I.lst hp
 obtain⟨h1,h2,h3,h4⟩:=ze2 hj
 have hl:=r.length
 have hn:=zaa
 have I':Inv X pins σ (upd H p (.lst (xs.set j v))) { s with heap:=s.heap.update p (Obj.mapSeq (·.setIfInBounds j u)) } :=
  I.lstUpd hp ho (zcR its n j u) (r.set rv j) (by rw[List.length_set];exact hz) s.toks
 by_cases h0:0<=k
 .have hk:k.toNat=j:=by
   rw[seqIndex_of h0 h4]at h1
   exact Option.some.inj h1
  exact W.ki_setAt ho h0 (by omega) (by rw[List.size_toArray,<- hl];exact h4) (by rw[hk];exact⟨_,I',q⟩)
 .have hk:(k+(its.toArray.size:Int)).toNat=j:=by
   rw[seqIndex_neg (by omega) h3]at h1
   rw[List.size_toArray,<- hl]
   exact Option.some.inj h1
  exact W.ki_setBack ho (by omega) (by rw[List.size_toArray,<- hl];exact h3) (by omega) (by rw[hk];exact⟨_,I',q⟩)
theorem za1 (lo hi:Option Int)(n:Nat):(sliceBounds lo hi none n).1=((HT.sIx n 0 lo:Nat):Int)/\(sliceBounds lo hi none n).2.1=((HT.sIx n n hi:Nat):Int)/\(sliceBounds lo hi none n).2.2=1:=by
 refine⟨?_,?_,rfl⟩
 .cases lo with
  | none=>simp[sliceBounds,HT.sIx]
  | some i =>
   simp only[sliceBounds,HT.sIx,Option.getD_none,show(1:Int) > 0 by decide,if_true]
   by_cases h:i < 0
   .simp only[h,if_true] <;> omega
   .simp only[h,if_false] <;> omega
 .cases hi with
  | none=>simp[sliceBounds,HT.sIx]
  | some i =>
   simp only[sliceBounds,HT.sIx,Option.getD_none,show(1:Int) > 0 by decide,if_true]
   by_cases h:i < 0
   .simp only[h,if_true] <;> omega
   .simp only[h,if_false] <;> omega
theorem V0 (its:List Value)(lo hi:Option Int):slicePick its.toArray lo hi none=((its.drop (HT.sIx its.length 0 lo)).take (HT.sIx its.length its.length hi - HT.sIx its.length 0 lo)).toArray:=by
 obtain⟨h1,h2,h3⟩:=za1 lo hi its.toArray.size
 unfold slicePick
 rw[h1,h2,h3]
 simp only[sliceRange_one,pick_run,List.size_toArray] <;> rfl
noncomputable def rSlL (K:W.Frag):V->Option Int->Option Int->Hp->VK->Prop:=λx lo hi H Q=>∃ a xs,x=.ref a/\SqL K H a xs/\∀ p,H p=none->Q (.ref p) (upd H p (.lst (zbS xs lo hi)))
theorem zin:SlR X (rSlL X.K):=by
 intro pins s σ H x v vl vu lo hi sl Q I rx hs pl pu h
 obtain⟨a,xs,rfl,hx,q⟩:=h
 cases rx
 obtain⟨its,r,ht,hz⟩:=I.list hx
 have hlen:=r.length
 refine⟨"list",_,slot_list_getitem.lookup,ht.isList.typeIs,?_⟩
 refine wpAny_getItem_list_slice ht.isList hs pl pu .none (by simp) ?_ (by rw[List.size_toArray] <;> omega)
 rw[V0,<- hlen]
 refine⟨.ref s.heap.objs.size,_,I.laid (t':=s.toks) (o:=.lst (zbS xs lo hi)) (λb ob q=>Heap.get?_push_of_some _ q) (Nat.le_refl _) ?_,rfl,q _ (I.hok.fresh (Nat.le_refl _))⟩
 exact⟨Nat.le_trans (Ww xs lo hi) hz,_,0,(r.drop (HT.sIx xs.length 0 lo)).take (HT.sIx xs.length xs.length hi - HT.sIx xs.length 0 lo),Heap.get?_push_size _ rfl⟩
noncomputable def zhW:V->Bool
 | .non=>true
 | .bl _=>true
 | .int _=>true
 | .str _=>true
 | _=>false
noncomputable def eqV:V->V->Bool
 | .non,.non=>true
 | .bl a,.bl b=>a == b
 | .bl a,.int b=>(if a then 1 else 0) == b
 | .int a,.bl b=>a == (if b then 1 else 0)
 | .int a,.int b=>a == b
 | .str a,.str b=>a == b
 | _,_=>false
theorem zhu {A:Around}{s:Shared}{y x:V}{u v:Value}(ry:yZ y u)(rx:yZ x v)(fy:zhW y=true)(fx:zhW x=true):SeqAt.EqAt A s u v (eqV y x):=by
 cases y with
 | non =>
  cases ry
  cases x with
  | non=>cases rx;exact SeqAt.EqAt.same _
  | bl b=>cases rx;exact SeqAt.EqAt.none_bool b
  | int b=>obtain⟨t,rfl⟩:=rx;exact SeqAt.EqAt.none_int b t
  | str b=>obtain⟨t,rfl⟩:=rx;exact SeqAt.EqAt.none_str b t
  | _=>exact absurd (show false=true from fx) Bool.false_ne_true
 | bl a =>
  cases ry
  cases x with
  | non=>cases rx;exact SeqAt.EqAt.bool_none a
  | bl b=>cases rx;exact SeqAt.EqAt.bool_bool a b
  | int b=>obtain⟨t,rfl⟩:=rx;exact SeqAt.EqAt.bool_int a b t
  | str b=>obtain⟨t,rfl⟩:=rx;exact SeqAt.EqAt.bool_str a b t
  | _=>exact absurd (show false=true from fx) Bool.false_ne_true
 | int a =>
  obtain⟨t',rfl⟩:=ry
  cases x with
  | non=>cases rx;exact SeqAt.EqAt.int_none a t'
  | bl b=>cases rx;exact SeqAt.EqAt.int_bool a t' b
  | int b=>obtain⟨t,rfl⟩:=rx;exact SeqAt.EqAt.int_int a t' b t
  | str b=>obtain⟨t,rfl⟩:=rx;exact SeqAt.EqAt.int_str a t' b t
  | _=>exact absurd (show false=true from fx) Bool.false_ne_true
 | str a =>
  obtain⟨t',rfl⟩:=ry
  cases x with
  | non=>cases rx;exact SeqAt.EqAt.str_none a t'
  | bl b=>cases rx;exact SeqAt.EqAt.str_bool a t' b
  | int b=>obtain⟨t,rfl⟩:=rx;exact SeqAt.EqAt.str_int a t' b t
  | str b=>obtain⟨t,rfl⟩:=rx;exact SeqAt.EqAt.str_str a t' b t
  | _=>exact absurd (show false=true from fx) Bool.false_ne_true
 | _=>exact absurd (show false=true from fy) Bool.false_ne_true
theorem yB:Yr X (.builtin "len") (λxs H Q=>∃ p ys,xs=[.ref p]/\(SqL X.K H p ys\/SqT X.K H p ys)/\Q (.int ys.length) H):=by
 intro pins s σ H xs us Q I r h
 obtain⟨p,ys,rfl,hq,q⟩:=h
 obtain⟨u,rfl,rx⟩:=Ws r
 cases rx
 have hn:=zaa
 rcases hq with hq | hq
 .obtain⟨its,r',pl,hz⟩:=I.list hq
  have hlen:=r'.length
  exact Calls.call_len_list pl.isList (by simp only[List.size_toArray] <;> omega) ⟨.int ys.length,H,I.tok _,⟨s.toks+1,by rw[List.size_toArray,hlen]⟩,q⟩
 .obtain⟨its,r',pl,hz⟩:=I.tuple hq
  have hlen:=r'.length
  exact len_tuple pl (by simp only[List.size_toArray] <;> omega) ⟨.int ys.length,H,I.tok _,⟨s.toks+1,by rw[List.size_toArray,hlen]⟩,q⟩
theorem zaO:Yr X (.type "list") (λxs H Q=>∃ p ys,xs=[.ref p]/\(SqL X.K H p ys\/SqT X.K H p ys)/\∀ l,H l=none->Q (.ref l) (upd H l (.lst ys))):=by
 intro pins s σ H xs us Q I r h
 obtain⟨p,ys,rfl,hq,q⟩:=h
 obtain⟨u,rfl,rx⟩:=Ws r
 cases rx
 have fin:∀ (its:List Value),yw ys its->ys.length<=sizeLine->∀ (h':Heap) (c':Nat),(∀ b o',s.heap.get? b=some o'->h'.get? b=some o') ->
  h'.get? s.heap.objs.size=some { cls:=.type "list",dict:=none,data:=.seq its.toArray c',slots:=#[] }->EP X pins σ Q (.ref s.heap.objs.size) { s with heap:=h' }:=λits r' hz h' c' kp e =>
  ⟨.ref s.heap.objs.size,_,I.laid (t':=s.toks) kp (Nat.le_refl _) (show yR X.prog X.w _ h' _ (.lst ys) from⟨hz,its,c',r',e⟩),rfl,q _ (I.hok.fresh (Nat.le_refl _))⟩
 rcases hq with hq | hq
 .obtain⟨its,r',pl,hz⟩:=I.list hq
  have hlen:=r'.length
  obtain⟨o,ho,hc,n,hd⟩:=pl.isList
  exact call_list_seq p (.inl rfl) ho hc hd (λh' c' kp e=>fin its r' hz h' c' kp e) (by simp only[List.size_toArray] <;> omega)
 .obtain⟨its,r',pl,hz⟩:=I.tuple hq
  have hlen:=r'.length
  obtain⟨o,ho,hc,n,hd⟩:=pl
  exact call_list_seq p (.inr rfl) ho hc hd (λh' c' kp e=>fin its r' hz h' c' kp e) (by simp only[List.size_toArray] <;> omega)
theorem xD:Yr X (.type "tuple") (λxs H Q=>∃ p ys,xs=[.ref p]/\((SqL X.K H p ys/\∀ l,H l=none->Q (.ref l) (upd H l (.tup ys)))\/(SqT X.K H p ys/\Q (.ref p) H))):=by
 intro pins s σ H xs us Q I r h
 obtain⟨p,ys,rfl,h⟩:=h
 obtain⟨u,rfl,rx⟩:=Ws r
 cases rx
 rcases h with ⟨hq,q⟩ | ⟨hq,q⟩
 .obtain⟨its,r',pl,hz⟩:=I.list hq
  have hlen:=r'.length
  refine call_tuple_list pl.isList (λh' kp=>?_) (by simp only[List.size_toArray] <;> omega)
  have I1:Inv X pins σ H { s with heap:=h' }:=I.kept (t':=s.toks) kp
  have I2:Inv X pins σ (upd H h'.objs.size (.tup ys)) { s with heap:=h'.push { cls:=.type "tuple",data:=.seq its.toArray } } :=
   I1.laid (t':=s.toks) (λb o e=>Heap.get?_push_of_some _ e) (Nat.le_refl _) (show yR X.prog X.w _ _ _ (.tup ys) from⟨hz,its,r',IsTup.new _ _⟩)
  exact⟨.ref h'.objs.size,_,I2,rfl,q _ (I1.hok.fresh (Nat.le_refl _))⟩
 .obtain⟨its,r',pl,hz⟩:=I.tuple hq
  exact call_tuple_same pl ⟨.ref p,H,I,rfl,q⟩
noncomputable def tyV (K:W.Frag)(T:String)(x:V)(H:Hp):Prop:=match x with
 | .str _=>T="str"
 | .int _=>T="int"
 | .ref p=>(T="list"/\∃ xs,SqL K H p xs)\/(T="tuple"/\∃ o,K.lookup p=some o/\o.cls=.type "tuple"/\o.dict=none) \/
  (T="dict"/\((∃ kvs,H p=some (.dK kvs))\/∃ kvs,H p=some (.dT kvs)))\/(T="set"/\∃ S n,H p=some (.set S n))
 | _=>False
theorem zjL {pins:List (Addr × Obj)}{σ:St}{H:Hp}{s:Shared}{T:String}{x:V}{v:Value}(I:Inv X pins σ H s)(r:yZ x v)(ty:tyV X.K T x H) :
 s.TypeIs v T/\∀ a,v=.ref a->∃ ob,s.heap.get? a=some ob/\ob.dict=none:=by
 cases x with
 | str z =>
  obtain⟨t,rfl⟩:=r
  cases (show T="str" from ty)
  exact⟨typeIs_str s z t,λ_ e=>nomatch e⟩
 | int i =>
  obtain⟨t,rfl⟩:=r
  cases (show T="int" from ty)
  exact⟨typeIs_int s i t,λ_ e=>nomatch e⟩
 | ref p =>
  cases r
  rcases ty with ⟨rfl,xs,hq⟩ | ⟨rfl,o,hk,hc,hd⟩ | ⟨rfl,hk⟩ | ⟨rfl,S,n,hk⟩
  .obtain⟨its,_,pl,_⟩:=I.list hq
   refine⟨pl.isList.typeIs,λa e=>?_⟩
   cases e
   obtain⟨o,n,e,c,hd,_⟩:=pl
   exact⟨o,e,hd⟩
  .refine⟨⟨o,I.kIn p o hk,hc⟩,λa e=>?_⟩
   cases e
   exact⟨o,I.kIn _ o hk,hd⟩
  .have z:∃ o,s.heap.get? p=some o/\o.ExactDict:=by
    rcases hk with ⟨kvs,hk⟩ | ⟨kvs,hk⟩
    .obtain⟨_,_,_,_,o,_,_,e,ex,_⟩:=I.hok p _ hk
     exact⟨o,e,ex⟩
    .obtain⟨_,_,_,_,o,_,_,e,ex,_⟩:=I.hok p _ hk
     exact⟨o,e,ex⟩
   obtain⟨o,e,ex⟩:=z
   refine⟨⟨o,e,ex.1⟩,λa e2=>?_⟩
   cases e2
   exact⟨o,e,ex.2.1⟩
  .obtain⟨o,_,_,_,e,ex,_⟩:=I.hok p _ hk
   refine⟨⟨o,e,ex.1⟩,λa e2=>?_⟩
   cases e2
   exact⟨o,e,ex.2.1⟩
 | _=>exact False.elim ty
noncomputable def tBM (K:W.Frag)(T:String)(r:V->List V->Hp->VK->Prop)(to:TE)(t:TA):TE:=fun σ H Q=>to σ H λx H1=>tyV K T x H1/\t σ H1 λxs H2=>r x xs H2 Q
variable {o e:Expr}{es:List Expr}{to:TE}{t:TA}{name:Str}{apos cpos:Pos}{T id:String}{r:V->List V->Hp->VK->Prop}
theorem zao (pa:PlainAttrs T) (slot:Slot T name id) (hty:typeOf (.builtin id)=pure (.type "method_descriptor")) (hm:MtR X id r) (ho:PE X o to) (ha:PA X (e::es) t)
 (hbase:attributeBase o name X.env (eval o X.env)=eval o X.env:=by rfl)
 (hfew:((backTo cpos (starEach (e::es) X.env)).all (λx=>!x.1)&&(backToKw cpos (keywordEach [] X.env)).all (λx=>x.1.isSome)
  && decide ((e::es).length+([]:List Keyword).length+(if ([]:List Keyword).isEmpty then 0 else 1) < 30))=true:=by rfl)
 (hline:(apos.endLine == cpos.line)=true:=by rfl) (hs:starEach (e::es) X.env=(false,eval e X.env)::starEach es X.env:=by rfl) (hplain:(backTo cpos (starEach es X.env)).any (·.1)=false:=by rfl) :
 PE X (.Call (.Attribute o name apos) (e::es) [] cpos) (tBM X.K T r to t):=by
 intro pins s σ H Q I h
 refine wpAny_Call_method_late hbase hfew hline rfl (thn (ho pins s σ H _ I h) λv s1 hh9=>?_)
 obtain⟨x,H1,I1,r1,ty,q1⟩:=hh9
 obtain⟨h1,h2⟩:=zjL I1 r1 ty
 refine⟨T,id,pa,slot,hty,h1,h2,?_⟩
 have hA:=ha cpos pins s1 σ H1 _ I1 q1
 rw[hs]at hA ⊢
 refine Calls.callWith_builtin (by show(false||(backTo cpos (starEach es X.env)).any (·.1))=false;rw[hplain] <;> rfl) (Calls.evalArgs_plain ?_)
 exact thn hA λus s2 ⟨vs,H2,I2,r2,q2⟩=>hm pins s2 σ H2 x vs v us Q I2 r1 r2 q2
/- xs.append(e),list.index on a module's tuple .. are MtR facts of 06m -/
end
noncomputable def MtM (X:Cx)(id:String)(r:V->List V->Hp->VK->Prop):Prop :=
 ∀ (pins:List (Addr × Obj)) (s:Shared) (σ:St) (H:Hp) (x:V) (xs:List V) (v:Value) (us:List Value) (Q:VK),Inv X pins σ H s->yZ x v->yw xs us->r x xs H Q ->
  wpAny (model X.prog X.w) X.A (call (.builtin id) (v::us)) (EP X pins σ Q) X.xe s
theorem yw.one:∀ {x:V} {us:List Value},yw [x] us->∃ u,us=[u]/\yZ x u:=by
 intro x us h
 cases h with | cons r t=>cases t;exact⟨_,rfl,r⟩
theorem yw.two:∀ {x y:V} {us:List Value},yw [x,y] us->∃ u v,us=[u,v]/\yZ x u/\yZ y v:=by
 intro x y us h
 cases h with | cons r t=>cases t with | cons q t=>cases t;exact⟨_,_,rfl,r,q⟩
theorem yw.reverse {xs:List V}{us:List Value}(h:yw xs us):yw xs.reverse us.reverse:=by
 induction h with
 | nil=>exact .nil
 | cons r t ih=>rw[List.reverse_cons,List.reverse_cons];exact yw.append ih (.cons r .nil)
theorem yw.rep {xs:List V}{us:List Value}(h:yw xs us):∀ k:Nat,yw (List.replicate k xs).flatten (List.replicate k us).flatten
 | 0=>.nil
 | k+1=>by
  rw[List.replicate_succ,List.replicate_succ,List.flatten_cons,List.flatten_cons]
  exact yw.append h (yw.rep h k)
theorem zbb (its:List Value):∀ (k:Nat) (acc:List Value),
 List.foldl (λx1 x2=>x1++x2) acc.toArray (List.replicate k its.toArray)=(acc++(List.replicate k its).flatten).toArray
 | 0,acc=>by simp
 | k+1,acc=>by
  have e:acc.toArray++its.toArray=(acc++its).toArray:=by simp
  have e2:(acc++its)++(List.replicate k its).flatten=acc++(List.replicate (k+1) its).flatten:=by
   rw[List.replicate_succ,List.flatten_cons,List.append_assoc]
  rw[<-e2,<- zbb its k (acc++its),<- e,List.replicate_succ,List.foldl_cons]
section
variable {X:Cx}{pins:List (Addr × Obj)}{σ:St}{H:Hp}{s:Shared}{l b:Addr}{xs ys zs:List V}
theorem Inv.lset {its its':List Value}{n:Nat}{f:Array Value->Array Value}{t':Nat}(I:Inv X pins σ H s)(hH:H l=some (.lst xs))
 (e:s.heap.get? l=some { cls:=.type "list",data:=.seq its.toArray n }) (hf:f its.toArray=its'.toArray) (hv:yw ys its') (hz:ys.length<=sizeLine) :
 Inv X pins σ (upd H l (.lst ys)) { s with heap:=s.heap.update l (Obj.mapSeq f),toks:=t' }:=by
 have q:=PySem.IsL.update e f
 rw[hf]at q
 refine I.write (x:=l) (e:=l) (by rw[hH];exact trivial) (.inl rfl) (λb' u hb hu=>(Heap.get?_update_other s.heap (Obj.mapSeq f) (Ne.symm hb)).trans hu) ⟨_,q⟩ ?_
 exact⟨hz,its',_,hv,q⟩
theorem Inv.lnew {its:List Value}{t':Nat}(I:Inv X pins σ H s)(hv:yw ys its)(hz:ys.length<=sizeLine) :
 Inv X pins σ (upd H s.heap.objs.size (.lst ys)) { s with heap:=s.heap.push { cls:=.type "list",data:=.seq its.toArray },toks:=t' } :=
 I.laid (λ_ _ q=>Heap.get?_push_of_some _ q) (Nat.le_refl _) ⟨hz,its,0,hv,Heap.get?_push_size _ rfl⟩
theorem Inv.fresh (I:Inv X pins σ H s):H s.heap.objs.size=none:=I.hok.fresh (Nat.le_refl _)
theorem Inv.lstM (I:Inv X pins σ H s) (hH:H l=some (.lst xs)):xs.length<=sizeLine/\∃ (its:List Value) (n:Nat),yw xs its/\xs.length=its.length/\s.heap.get? l=some { cls:=.type "list",data:=.seq its.toArray n }:=by
 obtain⟨z,its,n,r,e⟩:=I.hok l _ hH
 exact⟨z,its,n,r,r.length,e⟩
theorem zcr {n:Nat}(h:n<=sizeLine):Builtin.List.listTooLong n=false:=by
 unfold Builtin.List.listTooLong
 exact decide_eq_false (by omega)
end
section
variable {X:Cx}
noncomputable def zfC:V->List V->Hp->VK->Prop:=λx vs H Q=>∃ l xs y,x=.ref l/\vs=[y]/\H l=some (.lst xs)/\xs.length < sizeLine/\Q .non (upd H l (.lst (xs++[y])))
theorem vE:MtM X "list.append" zfC:=by
 intro pins s σ H x vs v us Q I rx rv h
 obtain⟨l,xs,y,rfl,rfl,hH,hz,q⟩:=h
 cases rx
 obtain⟨u,rfl,ru⟩:=rv.one
 obtain⟨z,its,n,r,hl,e⟩:=I.lstM hH
 refine call_meets F.slot_list_append ⟨_,e,rfl⟩ F.entry_list_append (F.args_list_append_2 _ _) (PySem.list_append l its.toArray n u (by rw[List.size_toArray];omega)) ⟨e,?_⟩
 refine⟨.non,_,I.lset (its':=its++[u]) hH e (by simp) (r.append (.cons ru .nil)) ?_,rfl,q⟩
 rw[List.length_append,List.length_singleton]
 omega
noncomputable def zeB:V->List V->Hp->VK->Prop:=λx vs H Q=>∃ l b xs zs,x=.ref l/\vs=[.ref b]/\H l=some (.lst xs)/\H b=some (.lst zs)/\xs.length+zs.length<=sizeLine/\Q .non (upd H l (.lst (xs++zs)))
theorem zeY:MtM X "list.extend" zeB:=by
 intro pins s σ H x vs v us Q I rx rv h
 obtain⟨l,b,xs,zs,rfl,rfl,hH,hB,hz,q⟩:=h
 cases rx
 obtain⟨u,rfl,ru⟩:=rv.one
 cases ru
 obtain⟨z,its,n,r,hl,e⟩:=I.lstM hH
 obtain⟨z2,its2,n2,r2,hl2,e2⟩:=I.lstM hB
 have hsz:its.toArray.size+its2.toArray.size<=sizeLine:=by rw[List.size_toArray,List.size_toArray];omega
 have hlong:¬ (!its.toArray.isEmpty&&Builtin.List.listTooLong (its.toArray.size+its2.toArray.size))=true:=by
  rw[zcr hsz,Bool.and_false]
  exact Bool.false_ne_true
 refine call_meets F.slot_list_extend ⟨_,e,rfl⟩ F.entry_list_extend (F.args_list_extend_2 _ _)
  (AutoSeq1.list_extend_list_list_0 l its.toArray n b its2.toArray n2 hlong (by rw[List.size_toArray];omega) (by omega)) ⟨e,e2,?_⟩
 refine⟨.non,_,I.lset (its':=its++its2) hH e (by simp) (r.append r2) ?_,rfl,q⟩
 rw[List.length_append]
 omega
noncomputable def rCat:R2:=λx y H Q=>∃ l b xs zs,x=.ref l/\y=.ref b/\H l=some (.lst xs)/\H b=some (.lst zs)/\xs.length+zs.length<=sizeLine/\∀ p,H p=none->Q (.ref p) (upd H p (.lst (xs++zs)))
theorem zkW:OpR X (binaryOp .Add) rCat:=by
 intro pins s σ H x y v u Q I rx ry h
 obtain⟨l,b,xs,zs,rfl,rfl,hH,hB,hz,q⟩:=h
 cases rx
 cases ry
 obtain⟨z,its,n,r,hl,e⟩:=I.lstM hH
 obtain⟨z2,its2,n2,r2,hl2,e2⟩:=I.lstM hB
 refine PySem.P.add_list e e2 ?_ (by rw[List.size_toArray,List.size_toArray];omega)
 have ea:its.toArray++its2.toArray=(its++its2).toArray:=by simp
 rw[ea]
 exact⟨.ref _,_,I.lnew (t':=s.toks) (r.append r2) (by rw[List.length_append];omega),rfl,q _ I.fresh⟩
noncomputable def rRep:R2:=λx y H Q=>∃ l k xs,x=.ref l/\y=.int k/\H l=some (.lst xs)/\-(2 ^ 63)<=k/\k < 2 ^ 63/\xs.length*k.toNat<=sizeLine /\
 ∀ p,H p=none->Q (.ref p) (upd H p (.lst (List.replicate k.toNat xs).flatten))
theorem zie {α:Type}(xs:List α)(k:Nat):(List.replicate k xs).flatten.length=k*xs.length:=by
 induction k with
 | zero=>simp
 | succ k ih=>rw[List.replicate_succ,List.flatten_cons,List.length_append,ih,Nat.succ_mul,Nat.add_comm]
theorem zjz:OpR X (binaryOp .Mult) rRep:=by
 intro pins s σ H x y v u Q I rx ry h
 obtain⟨l,k,xs,rfl,rfl,hH,h1,h2,hz,q⟩:=h
 cases rx
 obtain⟨t,rfl⟩:=ry
 obtain⟨z,its,n,r,hl,e⟩:=I.lstM hH
 have hlen:its.toArray.size*k.toNat<=sizeLine:=by rw[List.size_toArray,<- hl];exact hz
 have hcap:¬ its.toArray.size*k.toNat > (2 ^ 63 - 1) / 8:=by
  have:(sizeLine:Nat)<=(2 ^ 63 - 1) / 8:=by decide
  omega
 have hfit:¬ (!Builtin.List.listFitsIndex k)=true:=by
  rw[fitsIndex_both h1 h2]
  exact Bool.false_ne_true
 have hlong:¬ Builtin.List.listTooLong (its.toArray.size*k.toNat)=true:=by
  rw[zcr hlen]
  exact Bool.false_ne_true
 have hnew:List.foldl (λx1 x2=>x1++x2) #[] (List.replicate (if its.toArray.isEmpty=true then 0 else k.toNat) its.toArray)=(List.replicate k.toNat its).flatten.toArray:=by
  have f0:∀ m:Nat,List.foldl (λx1 x2=>x1++x2) #[] (List.replicate m its.toArray)=(List.replicate m its).flatten.toArray:=λm=>by
   have:=zbb its m []
   rw[List.nil_append]at this
   exact this
  rw[f0]
  cases its with
  | nil=>simp
  | cons a r'=>rw[if_neg (by simp)]
 refine wpAny_binaryOp_repeat_ref (T:="list") (U:="int") (by decide) ⟨_,e,rfl⟩ (λs'=>typeIs_int s' k t) noFill_list_mul F.fills_int_mul F.slot_int_rmul repeat_list F.slot_int_index.lookup
  (call_meets F.slot_int_rmul (typeIs_int s k t) F.entry_int_rmul (F.args_int_rmul_2 _ _) (int___rmul___int_list k t l its.toArray n)
   ⟨e,rfl,⟨_,e,rfl⟩,call_meets F.slot_list_mul ⟨_,e,rfl⟩ F.entry_list_mul (F.args_list_mul_2 _ _) (AutoListH.list___mul___list_int_3 l its.toArray n k t hfit hcap hlong) ⟨e,?_⟩⟩)
 rw[hnew]
 exact⟨.ref _,_,I.lnew (t':=s.toks) (r.rep k.toNat) (by rw[zie,Nat.mul_comm];exact hz),rfl,q _ I.fresh⟩
end
end L2
namespace Att
open PySem PySem.W PySem.Calls PyProof.Rows
theorem X5 {P:Params}{h:Heap}:∀ (ns:List Int) (vs:List Value),WellAll P h vs (ns.map WData.int)->IntsAre vs ns:=by
 intro ns
 induction ns with
 | nil =>
  intro vs w
  rw[List.map_nil]at w
  cases w
  exact .nil
 | cons n ns ih =>
  intro vs w
  rw[List.map_cons]at w
  cases w with
  | cons a b =>
   cases a
   exact .cons _ _ (ih _ b)
theorem zfu {l:OpenLaw}{n:Nat}(hn:l.most=some n){P:Params}{h:Heap}{args:List WData}{vals:List Value}
 (hpre:l.row.toRowW.claim.pre args=true) (hwl:WellAll P h vals args) :
 ∃ a vs ns,vals=[Value.ref a]/\args=[WData.list (ns.map WData.int)]/\h.get? a=some { cls:=.type "list",data:=.seq vs.toArray }/\IntsAre vs ns/\ns.length<=n:=by
 have hsh:WShape.hasAll [] args [.list .int]=true:=(pre_splitW hpre).1
 have hc:l.pre.holds [] { args:=args }=true:=(pre_splitW hpre).2
 obtain⟨d,r,rfl,h1,h2⟩:=hasAllW_cons hsh
 obtain rfl:=hasAllW_nil h2
 obtain⟨xs,rfl,h3⟩:=hasW_list h1
 obtain⟨ns,rfl⟩:=items_int h3
 have hlen:ns.length<=n:=by
  unfold OpenLaw.pre at hc
  have h4:(WTm.not (.lt (.lit (.int (n:Int))) (.len (.arg 0)))).holds [] { args:=[.list (ns.map .int)] }=true:=by
   have h4:=(holds_andW hc).1
   rw[hn]at h4
   exact h4
  have h5:=condW_of h4 (w_not (w_lt w_lit (w_len_list (w_arg rfl))))
  rw[List.length_map]at h5
  refine Nat.le_of_not_lt λq=>?_
  have q':(n:Int) < ((ns.length:Nat):Int):=by omega
  first
   | (rw[decide_eq_true q']at h5;exact absurd h5 (by decide))
   | (simp at h5;omega)
 cases hwl with
 | cons w1 w2 =>
  cases w2
  cases w1 with
  | list ho hall=>exact⟨_,_,ns,rfl,rfl,ho,X5 ns _ hall,hlen⟩
theorem zfJ (l:OpenLaw)(args:List WData):l.row.toRowW.claim.post args (.bool true) args=true :=
 postW_of (r:=l.row.toRowW) (X:=(true == true))
  (show WShape.has [] (.bool true) .bool=true by first | rfl | decide | simp[WShape.has,WShape.arms,WShape.armsAll])
  (show(WTm.eq .res (.lit (.bool true))).value [] { args:=args,res:=some (.bool true),after:=args }=some (.bool (true == true))from w_eq_bool (w_res rfl) w_lit) rfl
theorem attach_call {l:OpenLaw}{n:Nat}{q:Program}{loose:List Str}{XP:(Str->Option Value)->Heap->Prop}{YP:World->Heap->Prop}{d:DefRec}
 (hn:l.most=some n) (hdf:d.params.defaults=[])
 (call:∀ (w:World) (s₀ s₁:Shared) (mg mb:Str->Option Value) (fa:Addr) (o:Obj) (pm cd doc:Value) (a:Addr) (vs:List Value) (ns:List Int),
  Ground q loose [] XP w s₀ mg mb s₁.heap->YP w s₁.heap ->
  s₁.heap.get? fa=some o->o.data=.func (docDef d.name d.params d.body d.scope pm cd doc)->s₁.heap.CodeRec cd d.name->mg d.name=some (.ref fa) ->
  s₁.heap.get? a=some { cls:=.type "list",data:=.seq vs.toArray }->IntsAre vs ns->ns.length<=n->s₁.gens=#[] ->
  codeAny (model l.prog w) callerA (.call (.ref fa) ⟨[.ref a],[]⟩) (λr s'=>r=.ok (.ret (.bool true))/\OldK s₁.heap s'.heap/\s'.os=s₁.os/\AllBare s'.gens) s₁) :
 WalkO q loose XP YP l.row.toRowW d [] (λf vs=>PySem.call f vs):=by
 intro w s₀ s₁ mg mb G Y fa o pm cd doc dV kV ho hd hcd hD hmg hg args vals as hpre hlay hrd hwl hlo
 obtain rfl:dV=.none:=Dflts.none hD hdf
 obtain rfl:kV=.none:=Dflts.noKw hD
 obtain⟨a,vs,ns,rfl,rfl,hobj,hints,hlen⟩:=zfu hn hpre hwl
 refine enter_call (codeAny_mono (call w s₀ s₁ mg mb fa o pm cd doc a vs ns G Y ho (fd_plain hd) hcd hmg hobj hints hlen hg) λr s' hq=>?_)
 obtain⟨rfl,h2,h3,h4⟩:=hq
 exact⟨.inl ⟨.bool true,.bool true,[],rfl,λ_=>rfl,.bool true,zfJ l _,λ_=>⟨List.Pairwise.nil,λ_ hm=>(nomatch hm)⟩⟩,h2,h3,h4⟩
section
variable {prog:Program}{w:World}{A:Around}{E:Value->Shared->Prop}{s:Shared}{K:Frag}
noncomputable def ledger (h:Heap)(L d:Addr):List (Addr × Obj):=(List.range h.objs.size).filterMap λa=>if a=L\/a=d then none else (h.get? a).map λo=>(a,o)
end
end Att
namespace L2
open PySem PySem.Spec PyProof.Rows
theorem zaz:∀ {vs:List Value} {ns:List Int},IntsAre vs ns->yw (ns.map V.int) vs:=by
 intro vs ns h
 induction h with
 | nil=>exact .nil
 | cons n t h ih=>exact .cons ⟨t,rfl⟩ ih
noncomputable def zmf (H:Hp):Prop:=∀ b,H b=none\/∃ o xs,H b=some (.frz o (.lst xs))
theorem zgg {P:Program}{w:World}{K:W.Frag}{mg mb:Str->Option Value}{CX:CXT}{k:Nat}{fa a:Addr}{fd:FuncData}{x:Str}{sp:Sp}{s₁:Shared}{vs:List Value}{ns:List Int}
 (KX:K.In s₁.heap) (hns:s₁.heap.Ns mainGlobals mg) (hb:s₁.heap.Ns builtinsNs mb) (hbb:∀ x:Str,x≠"__name__"->mb x=bootBuiltins x) (hlim:s₁.heap.NoLimit) (hg:s₁.gens=#[])
 (ha:s₁.heap.get? a=some { cls:=.type "list",data:=.seq vs.toArray }) (hi:IntsAre vs ns) (hl:ns.length<=sizeLine) (hr:YK k callerA)
 (F:∀ base:Heap,K.In base->base.Ns mainGlobals mg->xK P w K mg base CX k fa fd [x] sp) (hbind:∀ (s:Shared) (u:Value),BindsTo s fd ⟨[u],[]⟩ [(x,u)])
 (hsp:∀ H:Hp,zmf H->SqL K H a (ns.map V.int)->sp [.ref a] H (λv _=>v=.bl true) λ_ _ _=>False)
 (hCX:∀ H e s',CX [] H s₁ (λ_ _ _=>False) e s'->False) :
 codeAny (model P w) callerA (.call (.ref fa) ⟨[.ref a],[]⟩) (λr s'=>r=.ok (.ret (.bool true))/\OldK s₁.heap s'.heap/\s'.os=s₁.os/\AllBare s'.gens) s₁:=by
 have rv:=zaz hi
 have lenV:=hi.length
 -- from an abstract heap in which nothing but the script may be tracked
 have core:∀ H:Hp,zmf H->SqL K H a (ns.map V.int)->HOk P w H s₁.heap->(∀ b,H b≠none->b=a)->(H a≠none->K.lookup a=none) ->
  codeAny (model P w) callerA (.call (.ref fa) ⟨[.ref a],[]⟩) (λr s'=>r=.ok (.ret (.bool true))/\OldK s₁.heap s'.heap/\s'.os=s₁.os/\AllBare s'.gens) s₁:=by
  intro H hO hS hok hA hK
  have base_of:∀ {b:Addr} {o:Obj},s₁.heap.get? b=some o->H b=none->(zg8 s₁.heap H).get? b=some o:=λe n=>zgU e n
  have noA:∀ {b:Addr} {o:Obj} {es:Array DictEntry} {ep:Nat},s₁.heap.get? b=some o->o.data=.dict es ep->H b=none:=λ{b o es ep} e d=>by
   cases q:H b with
   | none=>rfl
   | some u =>
    have e':b=a:=hA b (by rw[q];simp)
    subst e'
    rw[ha]at e;cases e
    have d':Data.seq vs.toArray _=Data.dict es ep:=d
    cases d'
  have nsK:∀ {b:Addr} {m:Str->Option Value},s₁.heap.Ns b m->(zg8 s₁.heap H).Ns b m:=λ{b m} ⟨o,es,ep,e,d,r⟩=>⟨o,es,ep,base_of e (noA e d),d,r⟩
  have hKb:K.In (zg8 s₁.heap H):=λb o e=>base_of (KX b o e) (by
   cases q:H b with
   | none=>rfl
   | some u =>
    have e':b=a:=hA b (by rw[q];simp)
    subst e'
    rw[hK (by rw[q];simp)]at e;cases e)
  have hM:Mod K mg (zg8 s₁.heap H):=⟨hKb,nsK hns,⟨mb,nsK hb,hbb⟩,let ⟨mc,h1,h2⟩:=hlim;⟨mc,nsK h1,h2⟩⟩
  have e0:zlg P w K mg (zg8 s₁.heap H) callerA [] s₁ H:=⟨rfl,hM,λb o e=>zic e,Nat.le_of_eq (zfF _ _),trivial,λb hb=>absurd (show b∈([]:List Addr)from hb) (by simp),hok,.of_eq hg⟩
  refine codeAny_mono ((F _ hKb (nsK hns)).run callerA [] s₁ H ⟨[.ref a],[]⟩ [.ref a] [.ref a] _ _ hr e0 (hbind s₁ (.ref a)) (.cons rfl .nil) (hsp H hO hS)) λr s' h=>?_
  cases r with
  | error e=>exact(hCX H e s' h).elim
  | ok fl =>
   cases fl with
   | next=>exact False.elim h
   | brk=>exact False.elim h
   | cont=>exact False.elim h
   | ret u =>
    obtain⟨v,H',os,bare,un,hok',r',q⟩:=h
    have q':v=.bl true:=q
    subst q'
    obtain rfl:u=Value.bool true:=r'
    refine⟨rfl,OldK.of_keep λb o e=>?_,os,bare⟩
    cases q:H b with
    | none=>exact un.keep b o e q (by intro z;exact absurd (show b∈([]:List Addr)from z) (by simp)) (by simp)
    | some u =>
     rcases hO b with z | ⟨ob,xs,z⟩
     .rw[q]at z;cases z
     .have z2:=un.frzs b ob _ z
      obtain⟨e1,_⟩:=hok b _ z
      obtain⟨e2,_⟩:=hok' b _ z2
      rw[e]at e1;cases e1
      exact e2
 cases hk:K.lookup a with
 | some o =>
  -- the script is one of the module's own objects
  have e:=KX a o hk
  rw[ha]at e
  cases e
  refine core (λ_=>none) (λ_=>.inl rfl) (.inr ⟨_,vs.toArray,_,hk,rfl,rfl,rfl,by rw[List.size_toArray,lenV];exact hl,by simpa using rv⟩) (λb u z=>by have z':(none:Option HO)=some u:=z;cases z') (λb z=>absurd rfl z) λz=>absurd rfl z
 | none =>
  refine core (λb=>if b=a then some (.frz { cls:=.type "list",data:=.seq vs.toArray } (.lst (ns.map V.int)))else none) (λb=>?_) (.inl (.inr ⟨{ cls:=.type "list",data:=.seq vs.toArray },if_pos rfl⟩)) (λb u z=>?_) (λb z=>?_) λ_=>hk
  .by_cases hb:b=a
   .exact .inr ⟨_,_,if_pos hb⟩
   .exact .inl (if_neg hb)
  .by_cases hb:b=a
   .have z':=(if_pos hb).symm.trans z
    cases z'
    subst hb
    exact⟨ha,by rw[List.length_map];exact hl,vs,_,rv,ha⟩
   .have z':=(if_neg hb).symm.trans z
    cases z'
  .by_cases hb:b=a
   .exact hb
   .exact absurd (if_neg hb) z
theorem walk_of {l:W.OpenLaw}{n k:Nat}{q:Program}{loose:List Str}{XP:(Str->Option Value)->Heap->Prop}{YP:World->Heap->Prop}{d:DefRec}{K:Params->W.Frag}{CX:World->CXT}{sp:World->Sp}{x:Str}
 (hn:l.most=some n) (hn2:n<=sizeLine) (hdf:d.params.defaults=[]) (hr:YK k callerA)
 (hY:∀ (w:World) (h:Heap),YP w h->(K w.params).In h)
 (F:∀ (w:World) (mg:Str->Option Value) (fa:Addr) (h:Heap),(K w.params).In h->h.Ns mainGlobals mg->mg d.name=some (.ref fa) ->
  ∃ fd:FuncData,(∀ (s:Shared) (u:Value),BindsTo s fd ⟨[u],[]⟩ [(x,u)]) /\
   ∀ base:Heap,(K w.params).In base->base.Ns mainGlobals mg->xK l.prog w (K w.params) mg base (CX w) k fa fd [x] (sp w))
 (hsp:∀ (w:World) (H:Hp) (a:Addr) (ns:List Int),ns.length<=n->zmf H->SqL (K w.params) H a (ns.map V.int)->sp w [.ref a] H (λv _=>v=.bl true) λ_ _ _=>False)
 (hCX:∀ (w:World) (H:Hp) (s:Shared) (e:Value) (s':Shared),CX w [] H s (λ_ _ _=>False) e s'->False) :
 PySem.W.WalkO q loose XP YP l.row.toRowW d [] (λf vs=>PySem.call f vs):=by
 refine Att.attach_call hn hdf λw s₀ s₁ mg mb fa o pm cd doc a vs ns G Y ho hd hcd hmg hobj hints hlen hg=>?_
 have KX:=hY w _ Y
 obtain⟨fd,hb,hF⟩:=F w mg fa _ KX G.T.g hmg
 exact zgg KX G.T.g G.T.b G.T.builtins G.T.nolimit hg hobj hints (Nat.le_trans hlen hn2) hr hF hb (λH hO hS=>hsp w H a ns hlen hO hS) λH e s'=>hCX w H s₁ e s'
noncomputable def Zy (s:Stmt):Arguments:=match s with
 | .FunctionDef _ a _ _ _ _ _ _ _ _=>a
 | _=>{ posonlyargs:=[],args:=[],vararg:=none,kwonlyargs:=[],kw_defaults:=[],kwarg:=none,defaults:=[] }
noncomputable def vo (s:Stmt):List Stmt:=match s with
 | .FunctionDef _ _ b _ _ _ _ _ _ _=>b
 | _=>[]
noncomputable def zm (s:Stmt):Scope:=match s with
 | .FunctionDef _ _ _ _ _ _ sc _ _ _=>sc
 | _=>{ kind:=.function,names:=[],isGenerator:=false,isCoroutine:=false }
noncomputable abbrev CX0:CXT:=λ_ _ _ _ _ _=>False
noncomputable abbrev E0:XK:=λ_ _ _=>False
theorem zl1 {X:Cx}:ze9 CX0 X E0:=λ_ _ _ _ _ _ _ h=>h.elim
structure Fun (K:W.Frag) (x qual:Str) (st:Stmt) (f:Addr) (fd:FuncData):Prop where
 ex:∃ (oc:Value) (od:Option Addr) (kV doc pm:Value) (an:Option Addr) (cdv ct:Value) (osl:Array (Option Value)),
  fd=W.fnOf x qual (Zy st) (vo st) (zm st) .none kV doc pm an cdv ct/\K.lookup f=some ⟨oc,od,.func fd,osl⟩/\W.codeIn K cdv qual=true
 kp:W.keepIn K (.ref f)=true
section
variable {P:Program}{w:World}{K:W.Frag}{mg:Str->Option Value}{base:Heap}
theorem Fun.ok {x qual:Str}{st:Stmt}{f:Addr}{fd:FuncData}{N ps:List Str}{k:Nat}{sp:Sp}(F:Fun K x qual st f fd)(S:zB N ps (zm st))(len:∀ vs H Q E,sp vs H Q E->vs.length=ps.length)
 (hbody:∀ (cdv:Value) (A:Around) (outer:List Env) (s:Shared) (H:Hp) (vs:List V) (Q:VK) (E:XK),YK k (A.deeper (envOfC qual (zm st) s.heap.objs.size f cdv))->sp vs H Q E ->
  ∃ t,PSs (zhS CX0 P w K mg base N qual (zm st) f cdv A outer s H E).nox (vo st) t/\t { nx:=λ_ H'=>Q .non H',rt:=Q } (start N vs) H):xK P w K mg base CX0 (k+1) f fd ps sp:=by
 obtain⟨oc,od,kV,doc,pm,an,cdv,ct,osl,rfl,lk,hcd⟩:=F.ex
 refine zmj lk hcd S len λA outer s H vs Q E hr hsp=>?_
 obtain⟨t,h,q⟩:=hbody cdv A outer s H vs Q E hr hsp
 exact⟨t,h.nox,q⟩
theorem Fun.binds {x qual:Str}{st:Stmt}{f:Addr}{fd:FuncData}{ps:List Str}(F:Fun K x qual st f fd)
 (h:∀ (kV doc pm:Value) (an:Option Addr) (cdv ct:Value) (us:List Value),us.length=ps.length->bindArgs (W.fnOf x qual (Zy st) (vo st) (zm st) .none kV doc pm an cdv ct) ⟨us,[]⟩=pure (ps.zip us)):zbs K fd ps []:=by
 obtain⟨oc,od,kV,doc,pm,an,cdv,ct,osl,rfl,lk,hcd⟩:=F.ex
 exact .all (h kV doc pm an cdv ct)
theorem zhp {x qual:Str}{st:Stmt}{f:Addr}{oc:Value}{od an:Option Addr}{osl:Array (Option Value)}{kV doc pm cdv ct:Value}(l:K.lookup f=some ⟨oc,od,.func (W.fnOf x qual (Zy st) (vo st) (zm st) .none kV doc pm an cdv ct),osl⟩)
 (c:W.codeIn K cdv qual=true) (k:W.keepIn K (.ref f)=true):Fun K x qual st f (W.fnOf x qual (Zy st) (vo st) (zm st) .none kV doc pm an cdv ct):=⟨⟨oc,od,kV,doc,pm,an,cdv,ct,osl,rfl,l,c⟩,k⟩
end
theorem zfZ {A:Around}{k:Nat}(hr:YK k A):A.units+1 < cLine:=Nat.lt_of_le_of_lt (Nat.add_le_add_left (by decide:1<=64) _) hr.units
theorem We {n:Nat}(h:n<=1000):n < sizeLine:=Nat.lt_of_le_of_lt h (by decide)
section
variable {X:Cx}
theorem pv (i:Nat) {x:Str} {pos:Pos} (hN:X.N[i]?=some x:=by rfl) (hv:Vis X.env.scope x:=by first | exact Or.inl rfl | exact Or.inr (Or.inl rfl) | exact Or.inr (Or.inr rfl)) (hd:(x == ("__debug__":Str))=false:=by decide)
 (hcd:(x == ("__classdict__":Str))=false:=by decide):PE X (.Name x pos) (zhO i):=zkA hN hv hd hcd
end
noncomputable def yU (H H':Hp):Prop:=∀ b o,H b=some o->H' b=some o
theorem yU.refl (H:Hp):yU H H:=λ_ _ h=>h
theorem yU.trans {H H1 H2:Hp}(a:yU H H1)(b:yU H1 H2):yU H H2:=λc o h=>b c o (a c o h)
theorem yU.free {H H':Hp}(e:yU H H'){l:Addr}(h:H' l=Option.none):H l=Option.none:=by
 cases q:H l with
 | none=>rfl
 | some o =>
  rw[e l o q]at h
  cases h
theorem yU.seq {K:W.Frag}{H H':Hp}{a:Addr}{xs:List V}(e:yU H H')(h:SqL K H a xs):SqL K H' a xs:=by
 rcases h with (h | ⟨o,h⟩) | h
 .exact .inl (.inl (e _ _ h))
 .exact .inl (.inr ⟨o,e _ _ h⟩)
 .exact .inr h
section
variable {κ:Type}[DecidableEq κ]
noncomputable def zcL (kvs:List (κ × V))(k:κ):Option V:=(kvs.find? λkv=>decide (kv.1=k)).map (·.2)
noncomputable def XM (kvs:List (κ × V))(k:κ)(v:V):List (κ × V) :=
 if (kvs.any λkv=>decide (kv.1=k))=true then kvs.map (λkv=>if kv.1=k then (kv.1,v)else kv)else kvs++[(k,v)]
theorem XV {p:κ × V}{r:List (κ × V)}{k:κ}(e:p.1=k):zcL (p::r) k=some p.2:=by simp[zcL,List.find?_cons,e]
theorem XZ {p:κ × V}{r:List (κ × V)}{k:κ}(e:¬ p.1=k):zcL (p::r) k=zcL r k:=by simp[zcL,List.find?_cons,e]
theorem VX (k:κ):∀ kvs:List (κ × V),(kvs.any λkv=>decide (kv.1=k))=(zcL kvs k).isSome
 | []=>rfl
 | p::r=>by
  rw[List.any_cons]
  by_cases e:p.1=k
  .simp only[XV e,decide_eq_true e,Bool.true_or,Option.isSome_some]
  .rw[XZ e,decide_eq_false e,Bool.false_or];exact VX k r
theorem X8 (kvs:List (κ × V))(k:κ)(v:V):(XM kvs k v).length<=kvs.length+1:=by
 unfold XM
 split
 .rw[List.length_map];omega
 .rw[List.length_append,List.length_cons,List.length_nil];omega
theorem zh7.isSome_eq {o:Option V}{u:Option Value}(r:zh7 o u):o.isSome=u.isSome:=by
 cases o with
 | none=>cases u with
  | none=>rfl
  | some _=>exact(show False from r).elim
 | some _=>cases u with
  | none=>exact(show False from r).elim
  | some _=>rfl
theorem KV.val {kvs:List (κ × V)}{vs:List (κ × Value)}(r:KV kvs vs)(k:κ):zh7 (zcL kvs k) (valueAt vs k):=by
 unfold KV at r
 induction r with
 | nil=>exact True.intro
 | @cons p q ps qs h t ih =>
  obtain⟨h1,h2⟩:=h
  by_cases e:p.1=k
  .have e':q.1=k:=h1.symm.trans e
   have b:valueAt (q::qs) k=some q.2:=by simp[valueAt,List.find?_cons,e']
   rw[XV e,b];exact h2
  .have e':¬ q.1=k:=λz=>e (h1.trans z)
   have b:valueAt (q::qs) k=valueAt qs k:=by simp[valueAt,List.find?_cons,e']
   rw[XZ e,b];exact ih
theorem KV.any {kvs:List (κ × V)}{vs:List (κ × Value)}(r:KV kvs vs)(k:κ):(kvs.any λkv=>decide (kv.1=k))=vs.any λkv=>decide (kv.1=k):=by
 unfold KV at r
 induction r with
 | nil=>rfl
 | cons h t ih=>rw[List.any_cons,List.any_cons,ih,h.1]
theorem KV.repl {kvs:List (κ × V)}{vs:List (κ × Value)}(r:KV kvs vs)(k:κ){y:V}{u:Value}(ry:yZ y u) :
 KV (kvs.map λkv=>if kv.1=k then (kv.1,y)else kv) (vs.map λkv=>if kv.1=k then (kv.1,u)else kv):=by
 unfold KV at r ⊢
 induction r with
 | nil=>exact .nil
 | @cons p q ps qs h t ih =>
  rw[List.map_cons,List.map_cons]
  refine .cons ?_ ih
  obtain⟨h1,h2⟩:=h
  by_cases e:p.1=k
  .rw[if_pos e,if_pos (h1.symm.trans e)];exact⟨h1,ry⟩
  .rw[if_neg e,if_neg (λz=>e (h1.trans z))];exact⟨h1,h2⟩
theorem KV.put {kvs:List (κ × V)}{vs:List (κ × Value)}(r:KV kvs vs)(k:κ){y:V}{u:Value}(ry:yZ y u):KV (XM kvs k y) (stored vs k u):=by
 unfold XM stored
 rw[r.any k]
 by_cases e:(vs.any λkv=>decide (kv.1=k))=true
 .rw[if_pos e,if_pos e];exact r.repl k ry
 .rw[if_neg e,if_neg e];exact Paired.snoc r ⟨rfl,ry⟩
theorem KV.keys {kvs:List (κ × V)}{vs:List (κ × Value)}(r:KV kvs vs):kvs.map (·.1)=vs.map (·.1):=by
 unfold KV at r
 induction r with
 | nil=>rfl
 | cons h t ih=>rw[List.map_cons,List.map_cons,ih,h.1]
theorem KV.length {kvs:List (κ × V)}{vs:List (κ × Value)}(r:KV kvs vs):kvs.length=vs.length:=Paired.length r
end
theorem zf8 {P:Program}{w:World}{k:Key}{u:Value}(r:yZ (kV k) u):(yI P w).is k u=true:=by
 cases k with
 | inl i=>obtain⟨t,e⟩:=(show ∃ t,u=Value.int i t from r);subst e;exact zbK P w i t
 | inr x=>obtain⟨t,e⟩:=(show ∃ t,u=Value.str x t from r);subst e;exact zbR P w x t
theorem zaw {P:Program}{w:World}:∀ {ks:List Key} {us:List Value},yw (ks.map kV) us->ItemsAre (yI P w) ks us
 | [],_,r=>by rw[List.map_nil]at r;cases r;exact .nil
 | k::ks,_,r=>by
  rw[List.map_cons]at r
  cases r with
  | cons h t=>exact .cons (zf8 h) (zaw t)
noncomputable abbrev KT (H:Hp):List (List Key × V)->List (List Key × Addr × Value)->Prop:=Paired λp q=>p.1=q.1/\H q.2.1=some (.tup (p.1.map kV))/\yZ p.2 q.2.2
theorem KT.val {H:Hp}{kvs:List (List Key × V)}{xs:List (List Key × Addr × Value)}(r:KT H kvs xs)(k:List Key):zh7 (zcL kvs k) ((atKey xs k).map (·.2)):=by
 induction r with
 | nil=>exact True.intro
 | @cons p q ps qs h t ih =>
  obtain⟨h1,_,h2⟩:=h
  by_cases e:p.1=k
  .have e':q.1=k:=h1.symm.trans e
   have b:atKey (q::qs) k=some q.2:=by simp[atKey,List.find?_cons,e']
   rw[XV e,b];exact h2
  .have e':¬ q.1=k:=λz=>e (h1.trans z)
   have b:atKey (q::qs) k=atKey qs k:=by simp[atKey,List.find?_cons,e']
   rw[XZ e,b];exact ih
theorem KT.repl {H:Hp}{kvs:List (List Key × V)}{xs:List (List Key × Addr × Value)}(r:KT H kvs xs)(k:List Key){y:V}{u:Value}(ry:yZ y u) :
 KT H (kvs.map λkv=>if kv.1=k then (kv.1,y)else kv) (xs.map (putAt k u)):=by
 induction r with
 | nil=>exact .nil
 | @cons p q ps qs h t ih =>
  rw[List.map_cons,List.map_cons]
  refine .cons ?_ ih
  obtain⟨h1,h2,h3⟩:=h
  unfold putAt
  by_cases e:p.1=k
  .rw[if_pos e,if_pos (h1.symm.trans e)];exact⟨h1,h2,ry⟩
  .rw[if_neg e,if_neg (λz=>e (h1.trans z))];exact⟨h1,h2,h3⟩
theorem KT.put {H:Hp}{kvs:List (List Key × V)}{xs:List (List Key × Addr × Value)}(r:KT H kvs xs)(k:List Key){b:Addr}{y:V}{u:Value}(hb:H b=some (.tup (k.map kV)))(ry:yZ y u) :
 KT H (XM kvs k y) (storedH xs k b u):=by
 have e:(kvs.any λkv=>decide (kv.1=k))=(atKey xs k).isSome:=by
  rw[VX,(r.val k).isSome_eq,Option.isSome_map]
 unfold XM storedH
 rw[e]
 by_cases q:(atKey xs k).isSome=true
 .rw[if_pos q,if_pos q];exact r.repl k ry
 .rw[if_neg q,if_neg q];exact Paired.snoc r ⟨rfl,hb,ry⟩
theorem KT.keeps {H H':Hp}{kvs:List (List Key × V)}{xs:List (List Key × Addr × Value)}(r:KT H kvs xs)(ht:∀ b ys,H b=some (.tup ys)->H' b=some (.tup ys)):KT H' kvs xs :=
 Paired.mapP r λ_ _ z=>⟨z.1,ht _ _ z.2.1,z.2.2⟩
section
variable {P:Program}{w:World}{H:Hp}{h:Heap}{a:Addr}
theorem zla {u:HO}(ok:HOk P w H h)(e:Rd H a u):yR P w H h a u:=e.ok ok
theorem zh5 {kvs:List (Key × V)}(ok:HOk P w H h)(e:Rd H a (.dK kvs)):kvs.length<=sizeLine/\(a == sysModules)=false/\∃ vs,KV kvs vs/\h.DictOf (yI P w) a vs :=
 show yR P w H h a (.dK kvs)from zla ok e
theorem zmn {kvs:List (Key × V)}(ok:HOk P w H h)(e:H a=some (.dK kvs)):kvs.length<=sizeLine/\(a == sysModules)=false/\∃ vs,KV kvs vs/\h.DictOf (yI P w) a vs:=zh5 ok (.inl e)
theorem W7 {ks:List Key}(ok:HOk P w H h)(e:H a=some (.tup (ks.map kV))):(tupleKind (yI P w)).is h ks a:=by
 obtain⟨_,its,r,o,h1,h2,n,h3⟩:=(show yR P w H h a (.tup (ks.map kV))from ok a _ e)
 exact⟨o,its.toArray,n,h1,h2,h3,by simpa using zaw r⟩
theorem zi2 {kvs:List (List Key × V)}(ok:HOk P w H h)(e:Rd H a (.dT kvs)):kvs.length<=sizeLine/\(a == sysModules)=false /\
 ∃ xs,KT H kvs xs/\h.DictOfH (tupleKind (yI P w)) a xs:=by
 obtain⟨z,y,xs,r,o,es,ep,h1,h2,h3,h4,h5⟩:=(show yR P w H h a (.dT kvs)from zla ok e)
 refine⟨z,y,xs,r,o,es,ep,h1,h2,h3,h4,λx hx=>?_,h5⟩
 have all:∀ {l:List (List Key × V)} {m:List (List Key × Addr × Value)},KT H l m->∀ x∈m,(tupleKind (yI P w)).is h x.1 x.2.1:=by
  intro l m q
  induction q with
  | nil=>intro x hx;exact nomatch hx
  | @cons p q ps qs hq t ih =>
   intro x hx
   rcases List.mem_cons.mp hx with e | hx
   .subst e
    exact W7 ok (by rw[<-hq.1];exact hq.2.1)
   .exact ih x hx
 exact all r x hx
theorem ziv {kvs:List (List Key × V)}(ok:HOk P w H h)(e:H a=some (.dT kvs)):kvs.length<=sizeLine/\(a == sysModules)=false /\
 ∃ xs,KT H kvs xs/\h.DictOfH (tupleKind (yI P w)) a xs:=zi2 ok (.inl e)
end
noncomputable def zlo (H:Hp)(a:Addr)(y:V)(r:Option V):Prop :=
 (∃ kvs k,Rd H a (.dK kvs)/\y=kV k/\r=zcL kvs k)\/∃ kvs k b,Rd H a (.dT kvs)/\y=.ref b/\H b=some (.tup (k.map kV))/\r=zcL kvs k
noncomputable def zgF (H:Hp)(a:Addr)(y v:V)(H':Hp):Prop :=
 (∃ kvs k,H a=some (.dK kvs)/\y=kV k/\kvs.length < sizeLine/\H'=upd H a (.dK (XM kvs k v))) \/
 ∃ kvs k b,H a=some (.dT kvs)/\y=.ref b/\H b=some (.tup (k.map kV))/\kvs.length < sizeLine/\H'=upd H a (.dT (XM kvs k v))
theorem zgF.k {H:Hp}{a:Addr}{kvs:List (Key × V)}{k:Key}{v:V}(e:H a=some (.dK kvs))(hl:kvs.length < sizeLine):zgF H a (kV k) v (upd H a (.dK (XM kvs k v))):=.inl ⟨kvs,k,e,rfl,hl,rfl⟩
theorem zgF.t {H:Hp}{a b:Addr}{kvs:List (List Key × V)}{k:List Key}{v:V}(e:H a=some (.dT kvs))(eb:H b=some (.tup (k.map kV)))(hl:kvs.length < sizeLine) :
 zgF H a (.ref b) v (upd H a (.dT (XM kvs k v))):=.inr ⟨kvs,k,b,e,rfl,eb,hl,rfl⟩
section
variable {X:Cx}{pins:List (Addr × Obj)}{σ:St}{H:Hp}{s:Shared}{a:Addr}{y v:V}{u r:Value}{o:Option V}{A:Around}{E:Value->Shared->Prop}
theorem Inv.big (I:Inv X pins σ H s):sysModules < s.heap.objs.size:=by
 have h:mainGlobals < s.heap.objs.size:=(I.mod.glob.keeps I.bk).lt
 exact Nat.lt_trans (by decide) h
theorem d_in {Q:Value->Shared->Prop}(hu:A.units+1 < cLine)(I:Inv X pins σ H s)(g:zlo H a y o)(ry:yZ y u)(h:∀ s',Inv X pins σ H s'->Q (.bool o.isSome) s') :
 wpAny (model X.prog X.w) A (compareOp .In u (.ref a)) Q E s:=by
 rcases g with ⟨kvs,k,e,ey,l⟩ | ⟨kvs,k,b,e,ey,eb,l⟩
 .subst ey
  obtain⟨z,hd,vs,rel,dd⟩:=zh5 I.hok e
  refine wpAny_in_of (zf8 ry) hd dd.mapOf ?_
  rw[<-(rel.val k).isSome_eq,<- l]
  exact h _ (I.tok _)
 .subst ey
  cases (show u=Value.ref b from ry)
  obtain⟨z,hd,xs,rel,dd⟩:=zi2 I.hok e
  refine wpAny_in_heap (tupleKind_room_in1 hu) (W7 I.hok eb) hd dd ?_
  have q:=(rel.val k).isSome_eq
  rw[Option.isSome_map]at q
  rw[<-q,<- l]
  exact h _ (I.tok _)
theorem ziL {Q:Value->Shared->Prop}(hu:A.units+1 < cLine)(I:Inv X pins σ H s)(g:zlo H a y o)(ry:yZ y u)(h:∀ s',Inv X pins σ H s'->Q (.bool (!o.isSome)) s') :
 wpAny (model X.prog X.w) A (compareOp .NotIn u (.ref a)) Q E s:=by
 rcases g with ⟨kvs,k,e,ey,l⟩ | ⟨kvs,k,b,e,ey,eb,l⟩
 .subst ey
  obtain⟨z,hd,vs,rel,dd⟩:=zh5 I.hok e
  refine wpAny_notIn_of (zf8 ry) hd dd.mapOf ?_
  rw[<-(rel.val k).isSome_eq,<- l]
  exact h _ (I.tok _)
 .subst ey
  cases (show u=Value.ref b from ry)
  obtain⟨z,hd,xs,rel,dd⟩:=zi2 I.hok e
  refine wpAny_notIn_heap (tupleKind_room_in1 hu) (W7 I.hok eb) hd dd ?_
  have q:=(rel.val k).isSome_eq
  rw[Option.isSome_map]at q
  rw[<-q,<- l]
  exact h _ (I.tok _)
theorem Vo {h':Heap}{t':Nat}{ob:HO}(I:Inv X pins σ H s)(mu:Mut (H a))(hs:Heap.SameBut a s.heap h')(he:∃ q,h'.get? a=some q)(new:yR X.prog X.w (upd H a ob) h' a ob) :
 Inv X pins σ (upd H a ob) { s with heap:=h',toks:=t' } :=
 I.write (x:=a) (e:=a) mu (.inl rfl) (λb q hb z=>(hs.2 b hb).trans z) he new
theorem zj2 {P:Program}{w:World}{H':Hp}{h':Heap}{kvs:List (Key × V)}{vs:List (Key × Value)}(z:kvs.length<=sizeLine)(hd:(a == sysModules)=false)(rel:KV kvs vs)(dd:h'.DictOf (yI P w) a vs) :
 yR P w H' h' a (.dK kvs):=⟨z,hd,vs,rel,dd⟩
theorem zd6 {H':Hp}{Q:Unit->Shared->Prop}(hu:A.units+1 < cLine)(I:Inv X pins σ H s)(g:zgF H a y v H')(ry:yZ y u)(rv:yZ v r)(h:∀ s',Inv X pins σ H' s'->Q () s') :
 wpAny (model X.prog X.w) A (setItem (.ref a) u r) Q E s:=by
 rcases g with ⟨kvs,k,e,ey,l,eH⟩ | ⟨kvs,k,b,e,ey,eb,l,eH⟩
 .subst ey eH
  obtain⟨z,hd,vs,rel,dd⟩:=zmn I.hok e
  have hz:vs.length<=sizeLine:=by rw[<-rel.length];exact z
  have hl:(XM kvs k v).length<=sizeLine:=by have:=X8 kvs k v;omega
  refine wpAny_setItem_pairs (hsz:=hz) (zf8 ry) dd λh' dd' hs=>h _ ?_
  have he:∃ q,h'.get? a=some q:=let ⟨q,_,_,hq,_⟩:=dd';⟨q,hq⟩
  exact Vo I (by rw[e];exact True.intro) hs he (zj2 hl hd (rel.put k rv) dd')
 .subst ey eH
  cases (show u=Value.ref b from ry)
  obtain⟨z,hd,xs,rel,dd⟩:=ziv I.hok e
  have hz:xs.length<=sizeLine:=by rw[<-Paired.length rel];exact z
  have hl:(XM kvs k v).length<=sizeLine:=by have:=X8 kvs k v;omega
  refine wpAny_setItem_heap (hsz:=hz) (tupleKind_room_in1 hu) (W7 I.hok eb) dd λh' dd' hs=>h _ ?_
  obtain⟨q,es,ep,hq,h2,h3,h4,_,h5⟩:=dd'
  refine Vo I (by rw[e];exact True.intro) hs ⟨q,hq⟩ ⟨hl,hd,_,(rel.put k eb rv).keeps λc ys ec=>?_,q,es,ep,hq,h2,h3,h4,h5⟩
  rw[zq (zfU ec e (λz=>nomatch z))]
  exact ec
end
noncomputable def zlM (td ty tv:TE):TS:=λD σ H=>tv σ H λv H1=>td σ H1 λx H2=>ty σ H2 λy H3=>∃ a H4,x=.ref a/\zgF H3 a y v H4/\D.nx σ H4
section
variable {X:Cx}{o i e value:Expr}{pos pos' tpos:Pos}{td ty tv:TE}
theorem zh6 (hu:X.A.units+1 < cLine)(ho:PE X o td)(hi:PE X i ty)(hv:PE X value tv)(hs:swapsWith value (some (.Subscript o i pos')) pos.line X.env=pure false) :
 PS X (.Assign [.Subscript o i pos'] value pos) (zlM td ty tv):=by
 intro pins s σ H D I h
 refine wpAny_Assign_Subscript (thn (hv pins s σ H _ I h) λr s1 ⟨v,H1,I1,rv,q1⟩=>thn (ho pins s1 σ H1 _ I1 q1) λu s2 ⟨x,H2,I2,rx,q2⟩=>thn (hi pins s2 σ H2 _ I2 q2) λiv s3 hh9=>?_) hs
 obtain⟨y,H3,I3,ry,a,H4,ex,g,q3⟩:=hh9
 subst ex
 obtain rfl:u=Value.ref a:=rx
 exact zd6 hu I3 g ry rv λs4 I4=>⟨σ,H4,I4,q3⟩
end
theorem zgK {P:Program} {w:World} {H:Hp} (h:Heap) (hb:sysModules < h.objs.size):yR P w H (h.push { cls:=.type "dict",data:=.dict #[] }) h.objs.size (.dK []) :=
 ⟨Nat.zero_le _,beq_eq_false_iff_ne.mpr (Ne.symm (Nat.ne_of_lt hb)),[],.nil,Heap.DictOf.new h⟩
theorem Vm {P:Program} {w:World} {H:Hp} (h:Heap) (hb:sysModules < h.objs.size):yR P w H (h.push { cls:=.type "dict",data:=.dict #[] }) h.objs.size (.dT []) :=
 ⟨Nat.zero_le _,beq_eq_false_iff_ne.mpr (Ne.symm (Nat.ne_of_lt hb)),[],.nil,_,#[],0,Heap.get?_push_size _ rfl,⟨rfl,rfl,rfl⟩,rfl,rfl,List.nodup_nil⟩
noncomputable def zkn:TE:=λ_ H Q=>∀ p,H p=none->Q (.ref p) (upd H p (.dK []))
noncomputable def zki:TE:=λ_ H Q=>∀ p,H p=none->Q (.ref p) (upd H p (.dT []))
section
variable {X:Cx}{pos:Pos}
theorem zgO:PE X (.Dict [] [] pos) zkn:=λpins s σ H Q I h =>
 wpAny_Dict_empty ⟨.ref s.heap.objs.size,_,I.laid (a:=s.heap.objs.size) (o:=.dK []) (t':=s.toks) (λ_ _ q=>Heap.get?_push_of_some _ q) (Nat.le_refl _) (zgK s.heap I.big),rfl,h _ (I.hok.fresh (Nat.le_refl _))⟩
theorem zg9:PE X (.Dict [] [] pos) zki:=λpins s σ H Q I h =>
 wpAny_Dict_empty ⟨.ref s.heap.objs.size,_,I.laid (a:=s.heap.objs.size) (o:=.dT []) (t':=s.toks) (λ_ _ q=>Heap.get?_push_of_some _ q) (Nat.le_refl _) (Vm s.heap I.big),rfl,h _ (I.hok.fresh (Nat.le_refl _))⟩
end
theorem zbF {X:Cx}:Yr X (.builtin "isinstance") (λxs H Q=>∃ x n t b,xs=[x,.ty n]/\zcv X.K H x t/\W.kitOne X.K t (.type n)=some b/\Q (.bl b) H):=by
 intro pins s σ H xs us Q I r h
 obtain⟨x,n,t,b,rfl,ty,e,q⟩:=h
 obtain⟨u,w',rfl,rx,rt⟩:=zdf r
 cases (show w'=Value.type n from rt)
 exact zdN I rx ty e λtk=>⟨.bl b,H,I.tok _,rfl,q⟩
theorem zf5 {X:Cx}:OpR X (compareOp .Is) (λx y H Q=>∃ i j,x=.bl i/\y=.bl j/\Q (.bl (i == j)) H):=by
 intro pins s σ H x y v u Q I rx ry h
 obtain⟨i,j,rfl,rfl,q⟩:=h
 cases rx
 cases ry
 refine wpAny_is_plain (by rfl) ⟨.bl (i == j),H,I,?_,q⟩
 cases i <;> cases j <;> rfl
noncomputable def zhD (K:W.Frag):R2:=λx y H Q=>∃ a b xs ys,x=.ref a/\y=.ref b/\SqT K H a xs/\SqT K H b ys/\xs.length+ys.length<=sizeLine /\
 (xs=[]->Q (.ref b) H)/\(xs≠[]->ys=[]->Q (.ref a) H)/\(xs≠[]->ys≠[]->∀ p,H p=none->Q (.ref p) (upd H p (.tup (xs++ys))))
theorem zgB {X:Cx}:OpR X (binaryOp .Add) (zhD X.K):=by
 intro pins s σ H x y v u Q I rx ry h
 obtain⟨a,b,xs,ys,rfl,rfl,ha,hb,hz,q0,q1,q2⟩:=h
 by_cases hx:xs=[]
 .subst hx
  cases rx
  cases ry
  obtain⟨its,r,p,_⟩:=I.tuple ha
  obtain⟨its',r',p',_⟩:=I.tuple hb
  cases r
  obtain⟨⟨cls,dd,data,sl⟩,ho,hc,n,hd⟩:=id p
  obtain⟨⟨cls2,dd2,data2,sl2⟩,ho2,hc2,n2,hd2⟩:=id p'
  simp only at hc hd hc2 hd2
  subst hc hd hc2 hd2
  exact concat_meets ⟨_,ho,rfl⟩ ⟨_,ho2,rfl⟩ noFill_tuple_add seq_tuple_add PySem.F.slot_tuple_add PySem.F.entry_tuple_add (PySem.F.args_tuple_add_2 _ _)
   (tuple_addW0 a b #[] its'.toArray n n2 dd dd2 sl sl2 rfl) ⟨ho,ho2,⟨.ref b,H,I,rfl,q0 rfl⟩⟩
 .refine zis pins s σ H (.ref a) (.ref b) v u Q I rx ry ⟨a,b,xs,ys,rfl,rfl,ha,hb,hx,hz,?_⟩
  exact⟨λe=>q1 hx e,λe=>q2 hx e⟩
inductive XO:St->St->Prop where
 | nil:XO [] []
 | non {a:Option V} {s t:St}:XO s t->XO (none::s) (a::t)
 | same {a:Option V} {s t:St}:XO s t->XO (a::s) (a::t)
theorem XO.refl:∀ s:St,XO s s
 | []=>.nil
 | _::r=>.same (XO.refl r)
theorem XO.length {s t:St}(h:XO s t):s.length=t.length:=by
 induction h with
 | nil=>rfl
 | non _ ih=>simp[ih]
 | same _ ih=>simp[ih]
theorem XO.get {s t:St}(h:XO s t):∀ (i:Nat) (v:V),s[i]?=some (some v)->t[i]?=some (some v):=by
 induction h with
 | nil=>intro i v e;exact e
 | non _ ih =>
  intro i v e
  cases i with
  | zero=>simp at e
  | succ i=>simpa using ih i v (by simpa using e)
 | same _ ih =>
  intro i v e
  cases i with
  | zero=>simpa using e
  | succ i=>simpa using ih i v (by simpa using e)
theorem XO.set {n:Nat}{v:V}:∀ {s t:St},XO s t->s[n]?=some none->XO s (t.set n (some v))
 | _,_,.nil,_=>.nil
 | _,_,.non (a:=a) h,e=>by
  cases n with
  | zero=>exact .non h
  | succ n=>exact .non (XO.set h (by simpa using e))
 | _,_,.same (a:=a) h,e=>by
  cases n with
  | zero =>
   have e':a=none:=by simpa using e
   subst e'
   exact .non h
  | succ n=>exact .same (XO.set h (by simpa using e))
theorem Inv.sub {X:Cx}{pins:List (Addr × Obj)}{σ σ':St}{H:Hp}{s:Shared}(I:Inv X pins σ H s)(h:XO σ' σ):Inv X pins σ' H s:=I.weak h.length h.get
noncomputable def PIf (X:Cx)(ifs:List Expr)(t:TT):Prop :=
 ∀ (pins:List (Addr × Obj)) (s:Shared) (σ:St) (H:Hp) (Q:Bool->Hp->Prop),Inv X pins σ H s->t σ H Q ->
  wpAny (model X.prog X.w) X.A (forIn ifs true λc r=>if r=true then do let ok<-isTrue c X.env (eval c X.env);pure (ForInStep.yield ok)else pure (ForInStep.yield r)) (TP X pins σ Q) X.xe s
noncomputable def tYes:TT:=λ_ H Q=>Q true H
theorem ziT {X:Cx}:PIf X [] tYes:=by
 intro pins s σ H Q I h
 rw[List.forIn_nil]
 exact wpAny_pure ⟨H,I,h⟩
theorem zib {X:Cx}{c:Expr}{t:TT}(hc:PT X c t):PIf X [c] t:=by
 intro pins s σ H Q I h
 rw[List.forIn_cons]
 refine wpAny_bind ?_
 rw[if_pos rfl]
 refine wpAny_bind (thn (hc pins s σ H Q I h) λb s1 q=>wpAny_pure ?_)
 show wpAny _ _ (forIn [] b _) _ _ _
 rw[List.forIn_nil]
 exact wpAny_pure q
section
variable {prog:Program}{w:World}{A:Around}{R:Result->Shared->Prop}{s:Shared}
theorem Za {elt target iter:Expr}{ifs:List Expr}{scope:Scope}{pos:Pos}{it acc:Value}{env:Env}(I:Nat->Shared->Prop)
 (turn:∀ n s,I n s->wpAny (model prog w) A (pyNext it) (λr s₁=>match r with
  | none=>R (.ok .next) s₁
  | some v=>wpAny (model prog w) A (letOwnedTupleGo target it v) (λ_ s₁'=>wpAny (model prog w) A (assign target env v) (λ_ s₂ =>
   wpAny (model prog w) A (forIn ifs true λc r=>if r=true then do let ok<-isTrue c env (eval c env);pure (ForInStep.yield ok)else pure (ForInStep.yield r)) (λok s₃ =>
    if ok=true then wpAny (model prog w) A (eval elt env) (λx s₄ =>
     wpAny (model prog w) A (call (.builtin "list.append") [acc,x]) (λ_ s₅=>∃ m,m < n/\I m s₅) (λ_ _=>False) s₄) (λ_ _=>False) s₃
    else ∃ m,m < n/\I m s₃) (λ_ _=>False) s₂) (λ_ _=>False) s₁') (λ_ _=>False) s₁) (λ_ _=>False) s)
 (n:Nat) (h:I n s) :
 codeAny (model prog w) A (.compLoop (.ListComp elt [⟨target,iter,ifs,0⟩] scope pos) 0 it acc env) R s:=by
 refine codeAny_loop rfl I (λn s hI=>?_) n h
 show wpAny _ A ((compTurn (.ListComp elt [⟨target,iter,ifs,0⟩] scope pos) 0 it acc env).onRaise (λx=>do noteFrame x env;theTreesLotGoes x)) _ _ s
 refine wpAny_noted ?_
 rw[compTurn_list]
 refine wpAny_bind (wpAny_standAt (wpAny_bind (wpAny_mono (turn n s hI) (λr s₁ h₁=>?_) λ_ _ h'=>h'.elim)))
 cases r with
 | none=>exact wpAny_pure h₁
 | some v =>
  refine wpAny_bind (wpAny_mono h₁ (λ_ s₁' h₁'=>?_) λ_ _ h'=>h'.elim)
  refine wpAny_bind (wpAny_mono h₁' (λ_ s₂ h₂=>wpAny_bind (wpAny_mono h₂ (λok s₃ h₃=>?_) λ_ _ h'=>h'.elim)) λ_ _ h'=>h'.elim)
  cases ok with
  | false=>exact wpAny_pure ⟨rfl,h₃⟩
  | true =>
   exact wpAny_bind (wpAny_bind (wpAny_mono h₃ (λx s₄ h₄=>wpAny_bind (wpAny_mono h₄ (λ_ s₅ h₅=>wpAny_pure (wpAny_pure ⟨rfl,h₅⟩)) λ_ _ h'=>h'.elim)) λ_ _ h'=>h'.elim))
end
noncomputable def tLC (wi:TI)(n:Nat)(g:TG)(tt:TT)(te:TE):TE:=fun σ H Q=>wi σ H λJ H1=>∀ D,H1 D=none->∃ W:Nat->Nat->List V->Hp->Prop,(∃ m,W 0 m [] (upd H1 D (.lst []))) /\
 ∀ i m ys H2,W i m ys H2->(J.stop i H2/\Q (.ref D) H2)\/(J.go i H2/\ys.length < sizeLine/\∀ x H3,J.yld i H2 x H3->g x (List.replicate n none++σ) H3 fun σ2 H4=>tt σ2 H4 λb H5 =>
  if b=true then te σ2 H5 λy H6=>H6 D=some (.lst ys)/\∃ m',m' < m/\W (i+1) m' (ys++[y]) (upd H6 D (.lst (ys++[y])))else ∃ m',m' < m/\W (i+1) m' ys H5)
theorem Zk {α:Type}:∀ {l:List (Str × α)} {y:Str},y∈l.map Prod.fst->∃ c,l.lookup y=some c
 | [],_,h=>by simp at h
 | (k,v)::r,y,h=>by
  by_cases e:y=k
  .exact⟨v,by simp[List.lookup,e]⟩
  .obtain⟨c,hc⟩:=Zk (l:=r) (y:=y) (by simpa [e]using h)
   have hb:(y == k)=false:=beq_eq_false_iff_ne.mpr e
   exact⟨c,by simp only[List.lookup,hb];exact hc⟩
theorem vY {α:Type}{P:α->Prop}:∀ p∈([]:List α),P p:=λ_ h=>nomatch h
theorem all_cons {α:Type}{P:α->Prop}{a:α}{l:List α}(h:P a)(t:∀ p∈l,P p):∀ p∈a::l,P p:=λp hp=>by
 rcases List.mem_cons.mp hp with e | hp
 .rw[e];exact h
 .exact t p hp
theorem gs1 (σ:St)(v:V)(H:Hp)(Q:St->Hp->Prop)(h:zcS 0 v (List.replicate 1 none++σ) H Q):zcS 0 v (List.replicate 1 none++σ) H (fun σ2 H2=>XO (List.replicate 1 none++σ) σ2/\Q σ2 H2):=⟨.set (.refl _) rfl,h⟩
noncomputable def zdz (X:Cx)(L M:List Str)(scope:Scope)(cl:List (Str × Addr))(s₀:Shared)(H₀:Hp)(ex:List Addr)(pn:List (Addr × Obj)):Cx :=
 { X with N:=L++M,s₀:=s₀,H₀:=H₀,env:=compEnvC scope cl s₀.heap.objs.size X.env,outer:=X.stack,stack:=X.stack,ex:=ex,fn:=λ_=>false,pn:=pn,xe:=λ_ _=>False }
structure vF (X:Cx) (L M:List Str) (scope:Scope) (cl:List (Str × Addr)):Prop where
 clos:closureFor scope X.env=pure cl
 cell:∀ y∈scope.names,y.2≠.cell
 kind:scope.kind=.function
 names:∀ y∈scope.names,y.2=.local->scope.names.lookup y.1=some .local
 sub:∀ y c,cl.lookup y=some c->X.env.cells.lookup y=some c
 has:∀ y,((relabel scope X.env).names.lookup y=some .cell\/(relabel scope X.env).names.lookup y=some .free)->∃ c,cl.lookup y=some c
 mlen:M.length=X.N.length
 msk:∀ (i:Nat) y,M[i]?=some y->Vis (relabel scope X.env) y->X.N[i]?=some y
 vis:∀ (i:Nat) y,M[i]?=some y->Vis (relabel scope X.env) y->((relabel scope X.env).names.lookup y=some .cell\/(relabel scope X.env).names.lookup y=some .free)
 out:∀ (i:Nat) y,M[i]?=some y->Vis (relabel scope X.env) y->Vis X.env.scope y/\X.env.kindOf y≠some .local
theorem Inv.letGo {X:Cx}{pins:List (Addr × Obj)}{σ:St}{H:Hp}{s:Shared}{C:Addr}{h':Heap}(I:Inv X pins σ H s)(f:zag X pins H C)(sb:Heap.SameBut C s.heap h'):Inv X pins σ H { s with heap:=h' }:=by
 obtain⟨f0,f1,f2,f3,f4,f5⟩:=f
 have ne:∀ b,b∉[C]->b≠C:=λb hb z=>hb (by rw[z];exact List.mem_singleton.mpr rfl)
 refine I.call' (s':={ s with heap:=h' }) (ch:=[C]) rfl ⟨λb o e _ _ hx=>(sb.2 b (ne b hx)).trans e,λb o e _ _ hx=>⟨o.slots,(sb.2 b (ne b hx)).trans e⟩,λ_ _ _ n _=>n,λb o e hx=>⟨o,(sb.2 b (ne b hx)).trans e⟩,λ_ _ q=>q,λ_ _ _ q=>q,λ_ ps q=>⟨#[],by rw[q];simp⟩⟩ ?_ I.bare λb hb=>?_
 .intro b ob e
  refine(I.hok b ob e).stay (λc v hc q=>(sb.2 c ?_).trans q) (λ_ q=>q) λ_ _ q=>q
  rintro rfl
  rcases hc with z | z
  .rw[<-z,f0]at e;cases e
  .rw[f0]at z;cases z
 .rw[List.mem_singleton.mp hb]
  exact⟨f3,f1,f4,f5⟩
theorem ziI {use:Option (Value->Sem Unit)}{Qf:Value->Shared->Prop}{X:Cx}{elt tg iter:Expr}{ifs:List Expr}{L M:List Str}{scope:Scope}{cl:List (Str × Addr)}{pos:Pos}{wi:TI}{g:TG}{tt:TT}{te:TE}
 (hc:X.calm=true) (S:vF X L M scope cl) (hi:PI X tg iter wi)
 (hgS:∀ (σ:St) (v:V) (H:Hp) (Q:St->Hp->Prop),g v (List.replicate L.length none++σ) H Q->g v (List.replicate L.length none++σ) H (fun σ2 H2=>XO (List.replicate L.length none++σ) σ2/\Q σ2 H2))
 (hg:∀ s₀ H₀ ex pn,PG (zdz X L M scope cl s₀ H₀ ex pn) tg g) (ht:∀ s₀ H₀ ex pn,PIf (zdz X L M scope cl s₀ H₀ ex pn) ifs tt) (he:∀ s₀ H₀ ex pn,PE (zdz X L M scope cl s₀ H₀ ex pn) elt te)
 (hs:∀ x,foldedSetIterable iter X.env x=pure x:=by intro _;rfl) :
 ∀ (pos':Pos) (pins:List (Addr × Obj)) (s:Shared) (σ:St) (H:Hp) (Q:VK),Inv X pins σ H s->tLC wi L.length g tt te σ H Q ->
  (∀ (D C:Addr) (H':Hp) (s':Shared),Inv X pins σ H' s'->(∃ m,s'.heap.Ns C m)->zag X pins H' C->Q (.ref D) H'->compPost (model X.prog X.w) X.A X.xe use Qf (.ref D) C (.ok .next) s') ->
  wpAny (model X.prog X.w) X.A (comprehension (.ListComp elt [⟨tg,iter,ifs,0⟩] scope pos) scope X.env pos' (newList []) false (eval iter X.env) use) Qf X.xe s:=by
 intro pos' pins s σ H Q I h fin
 refine wpAny_comprehension_free (use:=use) rfl hs S.clos S.kind S.names (thn (hi pins s σ H _ I h) λv s1 h1=>thn h1 λitv s2 h2=>?_)
 obtain⟨it,fp,tn,J,H2,e,I2,T,st2,f2,q⟩:=h2
 subst e
 have hD:H2 s2.heap.objs.size=none:=I2.hok.fresh (Nat.le_refl _)
 obtain⟨W,⟨m0,w0⟩,turn⟩:=q _ hD
 refine wpAny_newObj_type (wpAny_newFunctionEnv S.cell (by intro y hy;simp at hy) (λh₁ hns₁ hsb₁=>?_) S.kind)
 have I3:Inv X pins σ (upd H2 s2.heap.objs.size (.lst [])) { s2 with heap:=s2.heap.push { cls:=.type "list",data:=.seq ([]:List Value).toArray } }:=by
  refine I2.laid (t':=s2.toks) (λb u e=>Heap.get?_push_of_some _ e) (Nat.le_refl _) ?_
  exact⟨Nat.zero_le _,[],0,.nil,Heap.get?_push_size _ rfl⟩
 generalize hs3:({ s2 with heap:=s2.heap.push { cls:=.type "list",data:=.seq ([]:List Value).toArray } }:Shared)=s3 at I3 hns₁ hsb₁ ⊢
 have hobj:∀ b∈fp,b < s2.heap.objs.size:=λb hb=>by
  obtain⟨o,ho,_⟩:=T.obj _ _ st2 b hb
  exact Heap.lt_size ho
 have hz3:s3.heap.objs.size=s2.heap.objs.size+1:=by rw[<-hs3];exact Heap.size_push ..
 have k23:∀ b o,s2.heap.get? b=some o->s3.heap.get? b=some o:=λb o e=>by rw[<-hs3];exact Heap.get?_push_of_some _ e
 have k34:∀ b o,s3.heap.get? b=some o->h₁.get? b=some o:=λb o e=>(hsb₁.2 b (Nat.ne_of_lt (Heap.lt_size e))).trans (Heap.get?_push_of_some _ e)
 generalize hH3:upd H2 s2.heap.objs.size (.lst [])=H3 at I3 w0
 have hfp3:∀ b∈fp,H3 b=none:=λb hb=>by
  rw[<-hH3,zq (Nat.ne_of_lt (hobj b hb))]
  exact(f2 b hb).1
 have nfs:∀ b∈fp,b∉frs X.stack:=λb hb z=>by
  obtain⟨_,n1,n2,_⟩:=f2 b hb
  rcases List.mem_cons.mp (I3.stkSub b z)with e | e
  .exact n1 e
  .exact n2 e
 let Y:Cx:=zdz X L M scope cl s3 H3 fp (X.pn++pins)
 have OkY:Y.Ok:=by
  refine⟨I.ok.mod,S.kind,I.ok.glob,I.ok.blt,Nat.le_refl _,λx y c h1 h2=>I.ok.inj x y c (S.sub x c h1) (S.sub y c h2),λx hx=>S.has x hx,(λx c h _=>absurd h Bool.false_ne_true),I.ok.hd,I.ok.frames,.inl rfl,λb hb=>⟨?_,λx c e z=>?_⟩,
   λb o e=>I3.bs b o e,Nat.le_trans I.ok.bsz I3.sz,λb o e hb=>?_,nfs,I3.stack,I3.stkFree⟩
  .show b≠s3.heap.objs.size
   exact Nat.ne_of_lt (Nat.lt_of_lt_of_le (hobj b hb) (by rw[hz3];exact Nat.le_succ _))
  .exact(f2 b hb).2.2.2.2.1 x c (S.sub x c e) z
  .rcases(f2 b hb).2.2.2.1 with z | z
   .exact I.ok.noex b o e z
   .have h1:=Heap.lt_size e
    have h2:=I.ok.bsz
    exact absurd (Nat.lt_of_lt_of_le h1 (Nat.le_trans h2 z)) (Nat.lt_irrefl _)
 have I4:Inv Y [] (List.replicate L.length none++σ) H3 { s3 with heap:=h₁,toks:=s3.toks+([]:List (Str × Value)).length }:=by
  refine⟨OkY,rfl,I3.bare,Un.kept k34,⟨_,hns₁,λi y v e1 e2 e3=>?_⟩,λx c e=>?_,I3.hok.fresh (Nat.le_refl _),λx c e=>I3.freeC x c (S.sub x c e),λp hp=>?_,I3.hok.kept k34,?_⟩
  .have hi:¬ i < L.length:=λhlt=>by
    rw[List.getElem?_append_left (by simpa using hlt),List.getElem?_replicate]at e2
    split at e2 <;> cases e2
   have e0':M[i - L.length]?=some y:=by
    have e1:(L++M)[i]?=some y:=e1
    rw[List.getElem?_append_right (by omega)]at e1
    exact e1
   have e2':σ[i - L.length]?=some (some v):=by rw[List.getElem?_append_right (by simpa using Nat.le_of_not_lt hi)]at e2;simpa using e2
   have e1':=S.msk _ y e0' e3
   obtain⟨ov,ok⟩:=S.out _ y e0' e3
   obtain⟨m,hn,hl⟩:=I3.loc
   obtain⟨u,ru,lk⟩:=hl _ y v e1' e2' ov
   refine⟨u,ru,?_⟩
   rcases lk with ⟨hk,_⟩ | ⟨_,c,hc',hcell⟩
   .exact absurd hk ok
   .have kn:=S.vis _ y e0' e3
    obtain⟨c',hc2⟩:=S.has y kn
    have:=S.sub y c' hc2
    rw[hc']at this
    cases this
    refine .inr ⟨kn,c,hc2,?_⟩
    obtain⟨o,ho,hd⟩:=hcell
    exact⟨o,k34 _ _ ho,hd⟩
  .obtain⟨v,o,ho,hd⟩:=I3.cell x c (S.sub x c e)
   exact⟨v,o,k34 _ _ ho,hd⟩
  .have hp':p∈X.pn++pins:=List.append_nil (X.pn++pins) ▸ hp
   obtain⟨a1,a2,a3,a4,a5⟩:=I3.pin p hp'
   refine⟨k34 _ _ a1,a2,Nat.ne_of_lt (Heap.lt_size a1),λz=>?_,a5⟩
   rcases List.mem_cons.mp (I3.stkSub p.1 z)with e | e
   .exact a3 e
   .exact a4 e
  .show(List.replicate L.length none++σ).length=(L++M).length
   rw[List.length_append,List.length_append,List.length_replicate,I.len,S.mlen]
 have fpY:∀ {H':Hp},(∀ b∈fp,H' b=none)->∀ b∈fp,zag Y [] H' b:=λ{H'} hn b hb=>by
  refine⟨hn b hb,(OkY.exf b hb).1,nfs b hb,.inl hb,(OkY.exf b hb).2,λp hp=>?_⟩
  have hp':p∈X.pn++pins:=List.append_nil (X.pn++pins) ▸ hp
  exact(f2 b hb).2.2.2.2.2 p hp'
 have st4:tn 0 h₁:=T.keep _ _ _ st2 λb hb o e=>k34 b o (k23 b o e)
 -- behind the loop
 have back:∀ (H':Hp) (s':Shared),Inv Y [] (List.replicate L.length none++σ) H' s'->Q (.ref s2.heap.objs.size) H'->compPost (model X.prog X.w) X.A X.xe use Qf (.ref s2.heap.objs.size) s3.heap.objs.size (.ok .next) s':=λH' s' J' q'=>by
  obtain⟨m,hn,_⟩:=J'.loc
  refine fin _ _ H' s' (I3.call' (ch:=fp) J'.os J'.base J'.hok J'.bare λb hb=>?_) ⟨m,hn⟩ (I3.fpOk (Nat.le_refl _) J'.free) q'
  obtain⟨_,n1,_,n3,n4,n5⟩:=f2 b hb
  exact⟨n3,n1,n4,n5⟩
 have loop:codeAny (model X.prog X.w) X.A (.compLoop (.ListComp elt [⟨tg,iter,ifs,0⟩] scope pos) 0 (.ref it) (.ref s2.heap.objs.size) (compEnvC scope cl s3.heap.objs.size X.env))
  (compPost (model X.prog X.w) X.A X.xe use Qf (.ref s2.heap.objs.size) s3.heap.objs.size) { s3 with heap:=h₁,toks:=s3.toks+([]:List (Str × Value)).length }:=by
  refine Za (λn s'=>∃ i ys H',Inv Y [] (List.replicate L.length none++σ) H' s'/\tn i s'.heap/\(∀ b∈fp,H' b=none)/\W i n ys H') ?_ m0 ⟨0,[],H3,I4,st4,hfp3,w0⟩
  rintro n s5 ⟨i,ys,H5,I5,st5,fr5,w5⟩
  rcases turn i n ys H5 w5 with ⟨stop,qn⟩ | ⟨go,hlen,step⟩
  .refine thn (T.done Y rfl rfl rfl hc i [] s5 _ H5 _ I5 (fpY fr5) st5 stop) λr s6 hh9=>?_
   obtain⟨hr,I6⟩:=hh9
   subst hr
   exact back H5 s6 I6 qn
  .refine thn (T.item Y rfl rfl rfl hc i [] s5 _ H5 _ I5 (fpY fr5) st5 go) λr s6 hh9=>?_
   obtain⟨u,hr,h6⟩:=hh9
   subst hr
   refine thn h6 λ_ s7 hh9=>?_
   obtain⟨x,H7,I7,r7,y7,st7,fr7⟩:=hh9
   have I7':=I7.pinned (fpY fr7) (T.obj _ _ st7)
   have g7:=hgS σ x H7 _ (step x H7 y7)
   refine thn (hg _ _ _ _ _ s7 _ H7 x u _ I7' r7 g7) λ_ s8 hh9=>?_
   obtain⟨σ8,H8,I8,sub8,q8⟩:=hh9
   have again:∀ {σ9:St} {H9:Hp} {s9:Shared} {zs:List V},Inv Y ([]++W5 fp s7.heap) σ9 H9 s9->XO (List.replicate L.length none++σ) σ9->(∃ m',m' < n/\W (i+1) m' zs H9) ->
    ∃ m,m < n/\∃ i ys H',Inv Y [] (List.replicate L.length none++σ) H' s9/\tn i s9.heap/\(∀ b∈fp,H' b=none)/\W i m ys H':=λ{σ9 H9 s9 zs} I9 sub9 w9=>by
    obtain⟨m',hm,w9⟩:=w9
    refine⟨m',hm,i+1,zs,H9,(I9.sub sub9).unpinned,T.keep _ _ _ st7 λb hb o e=>(I9.pin (b,o) (List.mem_append_right _ (List.mem_append_right _ (Y8 hb e)))).1,λb hb=>?_,w9⟩
    obtain⟨o,e,d⟩:=T.obj _ _ st7 b hb
    exact(I9.pin (b,o) (List.mem_append_right _ (List.mem_append_right _ (Y8 hb e)))).2.1
   refine thn (ht _ _ _ _ _ s8 σ8 H8 _ I8 q8) λb s9 hh9=>?_
   obtain⟨H9,I9,q9⟩:=hh9
   cases b with
   | false =>
    rw[if_neg Bool.false_ne_true]at q9
    rw[if_neg Bool.false_ne_true]
    exact again I9 sub8 q9
   | true =>
    rw[if_pos rfl]at q9
    rw[if_pos rfl]
    refine thn (he _ _ _ _ _ s9 σ8 H9 _ I9 q9) λy s10 hh9=>?_
    obtain⟨yv,H10,I10,r10,hD10,w10⟩:=hh9
    obtain⟨z10,its,k,rv,e10⟩:ys.length<=sizeLine/\∃ (its:List Value) (n:Nat),yw ys its/\s10.heap.get? s2.heap.objs.size=some { cls:=.type "list",data:=.seq its.toArray n }:=I10.hok _ _ hD10
    have hl10:s10.heap.PlainList s2.heap.objs.size its.toArray:=⟨k,e10⟩
    refine wpAny_list_append_plain (hsz:=by rw[List.size_toArray,<- rv.length];exact z10) hl10 λh11 hl11 sb11=>?_
    obtain⟨k',e11⟩:=hl11
    have I11:Inv Y ([]++W5 fp s7.heap) σ8 (upd H10 s2.heap.objs.size (.lst (ys++[yv]))) { s10 with heap:=h11 }:=by
     refine I10.write (x:=s2.heap.objs.size) (e:=s2.heap.objs.size) (t':=s10.toks) (by rw[hD10];exact True.intro) (.inl rfl) (λb u hb e=>(sb11.2 b hb).trans e) ⟨_,e11⟩ ?_
     refine⟨by rw[List.length_append];show ys.length+1<=sizeLine;exact hlen,its++[y],k',rv.append (.cons r10 .nil),?_⟩
     rw[e11]
     simp
    exact again I11 sub8 w10
 exact codeAny_compStart_list loop (T.self _ 0 _ _ _ st4 loop)
theorem zhs {X:Cx}{elt tg iter:Expr}{ifs:List Expr}{L M:List Str}{scope:Scope}{cl:List (Str × Addr)}{pos:Pos}{wi:TI}{g:TG}{tt:TT}{te:TE}
 (hc:X.calm=true) (S:vF X L M scope cl) (hi:PI X tg iter wi)
 (hgS:∀ (σ:St) (v:V) (H:Hp) (Q:St->Hp->Prop),g v (List.replicate L.length none++σ) H Q->g v (List.replicate L.length none++σ) H (fun σ2 H2=>XO (List.replicate L.length none++σ) σ2/\Q σ2 H2))
 (hg:∀ s₀ H₀ ex pn,PG (zdz X L M scope cl s₀ H₀ ex pn) tg g) (ht:∀ s₀ H₀ ex pn,PIf (zdz X L M scope cl s₀ H₀ ex pn) ifs tt) (he:∀ s₀ H₀ ex pn,PE (zdz X L M scope cl s₀ H₀ ex pn) elt te)
 (hs:∀ x,foldedSetIterable iter X.env x=pure x:=by intro _;rfl) :
 PE X (.ListComp elt [⟨tg,iter,ifs,0⟩] scope pos) (tLC wi L.length g tt te):=by
 intro pins s σ H Q I h
 rw[eval_ListComp]
 refine ziI hc S hi hgS hg ht he hs _ pins s σ H Q I h λD C H' s' I' ⟨m,hn⟩ f q=>⟨m,hn,λh' sb=>⟨.ref D,_,I'.letGo f sb,rfl,q⟩⟩
noncomputable def Vb (names rn dn:List (Str × NameKind))(N M cn:List Str):Bool :=
 names.all (λy=>decide (y.2≠.cell))&&names.all (λy=>decide (y.2=.local->names.lookup y.1=some .local)) &&
 rn.all (λy=>decide ((y.2=.cell\/y.2=.free)->y.1∈cn)) &&
 (M.length == N.length)&&(M.zip N).all (λp=>decide ((rn.lookup p.1=some .local\/rn.lookup p.1=some .cell\/rn.lookup p.1=some .free)->p.1=p.2)) &&
 M.all (λy=>decide ((rn.lookup y=some .local\/rn.lookup y=some .cell\/rn.lookup y=some .free) ->
  (rn.lookup y=some .cell\/rn.lookup y=some .free)/\(dn.lookup y=some .local\/dn.lookup y=some .cell\/dn.lookup y=some .free)/\dn.lookup y≠some .local))
theorem ZE {X:Cx}{L N M cn:List Str}{scope:Scope}{cl:List (Str × Addr)}{rn dn:List (Str × NameKind)}(hr:(relabel scope X.env).names=rn)(hd:X.env.scope.names=dn)(hN:X.N=N)
 (clos:closureFor scope X.env=pure cl) (kind:scope.kind=.function) (hc:cl.map Prod.fst=cn) (good:Vb scope.names rn dn N M cn=true) (sub:∀ p∈cl,X.env.cells.lookup p.1=some p.2):vF X L M scope cl:=by
 unfold Vb at good
 simp only[Bool.and_eq_true,List.all_eq_true,decide_eq_true_eq]at good
 obtain⟨⟨⟨⟨⟨g1,g2⟩,g3⟩,g5⟩,g6⟩,g4⟩:=good
 have g5:M.length=N.length:=by simpa using g5
 refine⟨clos,g1,kind,g2,λy c h=>sub (y,c) (PySem.mem_of_lookup h),λy h=>?_,by rw[hN];exact g5,λi y e v=>?_,λi y e v=>?_,λi y e v=>?_⟩
 .rw[hr]at h
  have hy:y∈cn:=by
   rcases h with h | h
   .exact g3 _ (PySem.mem_of_lookup h) (.inl rfl)
   .exact g3 _ (PySem.mem_of_lookup h) (.inr rfl)
  exact Zk (by rw[hc];exact hy)
 .unfold Vis at v
  rw[hr]at v
  have hi:=(List.getElem?_eq_some_iff.mp e).1
  have hj:i < N.length:=by rw[<-g5];exact hi
  have hz:(M.zip N)[i]?=some (y,N[i]):=by
   rw[List.getElem?_zip_eq_some]
   exact⟨e,List.getElem?_eq_getElem hj⟩
  have:=g6 _ (List.mem_of_getElem? hz) v
  rw[hN,List.getElem?_eq_getElem hj]
  exact congrArg some this.symm
 .unfold Vis at v
  rw[hr]at v ⊢
  exact(g4 y (List.mem_of_getElem? e) v).1
 .unfold Vis at v
  rw[hr]at v
  obtain⟨_,k1,k2⟩:=g4 y (List.mem_of_getElem? e) v
  refine⟨?_,?_⟩
  .unfold Vis;rw[hd];exact k1
  .show X.env.scope.names.lookup y≠_;rw[hd];exact k2
end L2
namespace PySem
open Sem (wp)
open AutoSeq1 (wpAny_loadPart')
section
variable {prog:Program}{w:World}{A:Around}{E:Value->Shared->Prop}{s:Shared}
theorem YS {it l:Addr}{i:Nat}{items}{x:Value}{Q:Value->Shared->Prop}(hit:s.heap.IsTupleIter it l i)
 (hl:s.heap.IsTuple l items) (hx:items[i]?=some x)
 (hQ:∀ h',h'.IsTupleIter it l (i+1)->Heap.SameBut it s.heap h'->Q x { s with heap:=h' }) :
 wpAny (model prog w) A (Builtin.SmallTypes.nextOf (.ref it)) Q E s:=by
 obtain⟨o,ho,hc,hd⟩:=id hit
 obtain⟨ol,hol,_,nl,hdl⟩:=hl
 unfold Builtin.SmallTypes.nextOf
 refine wpAny_bind (wpAny_callSpecial?_slot (name:=Str.ofString "__next__") hit.typeIs F.slot_tuple_iterator_next
  (wpAny_call_entry F.slot_tuple_iterator_next hit.typeIs F.entry_tuple_iterator_next ?_ (F.args_tuple_iterator_next_1 _)))
 show wpAny _ _ (field (.ref it) 0>>=_) _ _ s
 refine wpAny_bind (wpAny_field ho hd (x:=.ref l) rfl ?_)
 show wpAny _ _ (if (Value.ref l == Value.none)=true then _ else _) _ _ s
 rw[if_neg (show ¬ ((Value.ref l == Value.none)=true)from Bool.false_ne_true)]
 show wpAny _ _ (field (.ref it) 1>>=_) _ _ s
 refine wpAny_bind (wpAny_field ho hd (x:=.int i 0) rfl ?_)
 show wpAny _ _ (seqItems? (.ref l)>>=_) _ _ s
 refine wpAny_bind (wpAny_seqItems hol hdl ?_)
 simp only[Int.toNat_natCast,hx]
 refine wpAny_bind (wpAny_setField ho hd (by simp) (wpAny_pure ⟨x,rfl,wpAny_pure (hQ _ ?_ (Heap.SameBut.update ..))⟩))
 exact⟨_,Heap.get?_update_self _ ho (Obj.isFreed_of_fields (Obj.data_mapFields hd _)),(Obj.cls_mapFields ..).trans hc,by
  rw[Obj.data_mapFields hd];simp[rawInt]⟩
theorem wt {it l:Addr}{i:Nat}{items}{Q:Value->Shared->Prop}(hh:A.handled=none)
 (hit:s.heap.IsTupleIter it l i) (hl:s.heap.IsTuple l items) (hx:items[i]?=none)
 (hE:∀ h' e,Heap.ExtBut it s.heap h'->(∃ o,h'.get? e=some o/\o.cls=.type "StopIteration")->E (.ref e) { s with heap:=h' }) :
 wpAny (model prog w) A (Builtin.SmallTypes.nextOf (.ref it)) Q E s:=by
 obtain⟨o,ho,hc,hd⟩:=id hit
 obtain⟨ol,hol,_,nl,hdl⟩:=hl
 unfold Builtin.SmallTypes.nextOf
 refine wpAny_bind (wpAny_callSpecial?_slot (name:=Str.ofString "__next__") hit.typeIs F.slot_tuple_iterator_next
  (wpAny_call_entry F.slot_tuple_iterator_next hit.typeIs F.entry_tuple_iterator_next ?_ (F.args_tuple_iterator_next_1 _)))
 show wpAny _ _ (field (.ref it) 0>>=_) _ _ s
 refine wpAny_bind (wpAny_field ho hd (x:=.ref l) rfl ?_)
 show wpAny _ _ (if (Value.ref l == Value.none)=true then _ else _) _ _ s
 rw[if_neg (show ¬ ((Value.ref l == Value.none)=true)from Bool.false_ne_true)]
 show wpAny _ _ (field (.ref it) 1>>=_) _ _ s
 refine wpAny_bind (wpAny_field ho hd (x:=.int i 0) rfl ?_)
 show wpAny _ _ (seqItems? (.ref l)>>=_) _ _ s
 refine wpAny_bind (wpAny_seqItems hol hdl ?_)
 simp only[Int.toNat_natCast,hx]
 refine wpAny_bind (wpAny_rule (wpAny_bind (wpAny_setField ho hd (by simp) ?_)))
 show wpAny _ _ (newExc (.type "StopIteration") []>>=_) _ _ _
 refine wpAny_bind ?_
 simp only[newExc,newTuple]
 refine wpAny_bind (wpAny_newObj_type ?_ (by size_fits))
 refine wpAny_bind (m:=firstArgMember _ _) (wpAny_of_eq (a:=Value.none) (by first | rfl | (simp only[firstArgMember];rfl)) ?_)
 refine wpAny_newObj_type ?_ (by size_fits)
 simp only[raiseNew]
 refine wpAny_bind (wpAny_handled ?_)
 first | rw[show A.in1.handled=none from hh] | rw[hh]
 refine wpAny_bind (wpAny_pure (wpAny_throw ?_))
 exact hE _ _ (((Heap.SameBut.update ..).extBut.push _).push _) ⟨_,Heap.get?_push_size _ rfl,rfl⟩
end
theorem Zb {prog:Program}{w:World}{A:Around}{E:Value->Shared->Prop}{s:Shared}{e it l:Addr}{i:Nat}{items:Array Value}{old:Value}{Q:Option Value->Shared->Prop}(hh:A.handled=none)
 (he:IsEnum s.heap e it i old) (hit:s.heap.IsTupleIter it l i) (hl:s.heap.IsTuple l items) (hx:items[i]?=none)
 (hQ:∀ h',Heap.ExtBut it s.heap h'->Q none { s with heap:=h' }):wpAny (model prog w) A (pyNext (.ref e)) Q E s:=by
 have hT:s.TypeIs (.ref e) "enumerate":=⟨_,he,rfl⟩
 unfold pyNext
 refine wpAny_bind (wpAny_attempt (wpAny_callSpecial?_slot (name:=Str.ofString "__next__") hT F.slot_enumerate_next
  (wpAny_call_entry F.slot_enumerate_next hT F.entry_enumerate_next ?_ (F.args_enumerate_next_1 _))))
 show wpAny _ _ (field (.ref e) 2>>=_) _ _ _
 refine wpAny_bind (wpAny_field he rfl (x:=.ref it) rfl ?_)
 refine wpAny_bind (wt hh hit hl hx λh' x he' hx'=>?_)
 obtain⟨o,ho,hc⟩:=hx'
 refine wpAny_bind (wpAny_isInstance (T:="StopIteration") (b:=true) ⟨o,ho,hc⟩ isSubtype_stop ?_)
 exact wpAny_pure (hQ _ he')
theorem YA {prog:Program}{w:World}{A:Around}(hh:A.handled=none)(it l:Addr)(hne:l≠it)(items:Array Value) :
 Draws prog w A it [it,l] items.size (λi v=>items[i]?=some v) (λi h=>h.IsTupleIter it l i/\h.IsTuple l items) where
 live:=λ_ _ st=>let ⟨o,ho,_⟩:=st.1;⟨o,ho⟩
 frame:=λ_ _ _ st hk=>by
  obtain⟨⟨o,ho,r⟩,⟨o2,ho2,r2⟩⟩:=st
  exact⟨⟨o,hk it (by simp) o ho,r⟩,⟨o2,hk l (by simp) o2 ho2,r2⟩⟩
 item:=λi s Q E hi st hQ=>by
  refine YS st.1 st.2 (x:=items[i]) (by simp[hi]) λh' hit' hs'=>?_
  exact hQ _ h' s.toks (by simp[hi]) ⟨hit',st.2.extBut hs'.extBut hne⟩ hs'
 done:=λs Q E st hE=>wt hh st.1 st.2 (by simp) hE
theorem ZR (l:Addr)(items:Array Value)(n:Nat)(dd:Option Addr)(sl:Array (Option Value)) :
 Meets (Builtin.«enumerate.__new__» ⟨[.type "enumerate",.ref l],[]⟩) (λ_ R s=>s.heap.get? l=some { cls:=.type "tuple",dict:=dd,data:=.seq items n,slots:=sl } /\
  R (.ok (.ret (.ref (s.heap.push { cls:=.type "tuple_iterator",data:=.fields #[.ref l,.int 0 0] }).objs.size)))
   { s with heap:=(s.heap.push { cls:=.type "tuple_iterator",data:=.fields #[.ref l,.int 0 0] }).push { cls:=.type "enumerate",data:=.fields #[.none,.bool false,.ref s.heap.objs.size,rawInt 0,.none,.none] } }) :=
 .of_wp λprog w A R s h=>by
  obtain⟨hp,g,d,tk,os⟩:=s;obtain⟨hl,h⟩:=h
  have hsub:=sub_enumerate
  have hL:Heap.IsTuple (Shared.heap ⟨hp,g,d,tk,os⟩) l items:=⟨_,hl,rfl,n,rfl⟩
  wp_walk using wpAny_loadPart' hl
  refine wpAny_stack_any λst=>wpAny_pure ?_
  split
  .rename_i c _ _ _ _ _
   cases (c == Value.type "enumerate")
   .wp_walk using wpAny_loadPart' hl,wpAny_pyIter_tuple hL
    exact⟨_,rfl,h⟩
   .wp_walk using wpAny_loadPart' hl,wpAny_pyIter_tuple hL
    exact⟨_,rfl,h⟩
  .wp_walk using wpAny_loadPart' hl,wpAny_pyIter_tuple hL
   exact⟨_,rfl,h⟩
section
variable {prog:Program}{w:World}{A:Around}{E:Value->Shared->Prop}{s:Shared}
theorem Y9 {l:Addr}{items:Array Value}{Q:Value->Shared->Prop}
 (hl:s.heap.IsTuple l items)
 (h:∀ h',IsEnum h' (s.heap.objs.size+1) s.heap.objs.size 0 .none->h'.IsTupleIter s.heap.objs.size l 0->h'.objs.size=s.heap.objs.size+2 ->
  (∀ b o,s.heap.get? b=some o->h'.get? b=some o)->Q (.ref (s.heap.objs.size+1)) { s with heap:=h' }) :
 wpAny (model prog w) A (call (.type "enumerate") [.ref l]) Q E s:=by
 obtain⟨⟨cls,dd,data,sl⟩,ho,hc,n,hd⟩:=hl
 simp only at hc hd
 subst hc hd
 refine callType_new F.called_enumerate (by decide) (F.typeCall_enumerate_1 _) (F.newCall_enumerate_1 _) (λobj=>F.args_object_init_2 obj _) F.entry_enumerate_new
  (ZR l items n dd sl) ⟨ho,?_⟩
 have hz:(s.heap.push { cls:=.type "tuple_iterator",data:=.fields #[.ref l,.int 0 0] }).objs.size=s.heap.objs.size+1:=Heap.size_push ..
 show _/\_
 rw[hz]
 have he:IsEnum ((s.heap.push { cls:=.type "tuple_iterator",data:=.fields #[.ref l,.int 0 0] }).push
  { cls:=.type "enumerate",data:=.fields #[.none,.bool false,.ref s.heap.objs.size,rawInt 0,.none,.none] }) (s.heap.objs.size+1) s.heap.objs.size 0 .none:=by
  have:=Heap.get?_push_size (s.heap.push { cls:=.type "tuple_iterator",data:=.fields #[.ref l,.int 0 0] })
   (o:={ cls:=.type "enumerate",data:=.fields #[.none,.bool false,.ref s.heap.objs.size,rawInt 0,.none,.none] }) rfl
  rw[hz]at this;exact this
 refine⟨⟨_,he,rfl⟩,h _ he ⟨_,Heap.get?_push_of_some _ (Heap.get?_push_size _ rfl),rfl,rfl⟩ (by rw[Heap.size_push,hz]) λb o x=>Heap.get?_push_of_some _ (Heap.get?_push_of_some _ x)⟩
end
end PySem
namespace L2
open PySem PySem.Spec PyProof.Rows
section
variable {X:Cx}{pins:List (Addr × Obj)}{σ:St}{H:Hp}{s:Shared}{h':Heap}
theorem Inv.grown {ch:List Addr}{T:Addr}{o:HO}{t':Nat}(I:Inv X pins σ H s)(hch:∀ b∈ch,zag X pins H b)(hT:s.heap.objs.size<=T)(k:∀ b u,b∉ch->s.heap.get? b=some u->h'.get? b=some u)
 (new:yR X.prog X.w (upd H T o) h' T o):Inv X pins σ (upd H T o) { s with heap:=h',toks:=t' }:=by
 have hn:H T=none:=I.hok.fresh hT
 have neT:∀ b u,s.heap.get? b=some u->b≠T:=λb u e=>Nat.ne_of_lt (Nat.lt_of_lt_of_le (Heap.lt_size e) hT)
 have nch:∀ b u,H b=some u->b∉ch:=λb u e z=>by rw[(hch b z).1]at e;cases e
 refine I.step (g':=s.gens) (d':=s.drawn) (ch:=ch) (λb hb=>?_) (λb u _ _ hc e _=>k b u hc e) (λb u _ _ hc e _=>⟨u.slots,k b u hc e⟩) (λb u _ e n=>by rw[zq (neT b u e)];exact n)
  (λb u hc e=>⟨u,k b u hc e⟩) (λb xs e=>by rw[zq (zn e hn)];exact e) (λb u xs e=>by rw[zq (zn e hn)];exact e) (λb ps e=>⟨#[],by rw[zq (zn e hn),e];simp⟩) (λm hm=>?_) (λb u e=>?_) I.bare
 .obtain⟨_,n1,_,n3,n4,n5⟩:=hch b hb
  exact⟨n3,n1,n4,n5⟩
 .obtain⟨ob,es,ep,ho,r⟩:=hm
  exact⟨ob,es,ep,k _ ob (λz=>(hch _ z).2.1 rfl) ho,r⟩
 .by_cases hb:b=T
  .subst hb;rw[zo]at e;cases e;exact new
  .rw[zq hb]at e
   refine(I.hok b u e).stay (λc v hc q=>k c v ?_ q) (λc q=>by rw[zq (zn q hn)];exact q) λc xs q=>by rw[zq (zn q hn)];exact q
   rcases hc with z | z
   .rw[z];exact nch b u e
   .exact nch c _ z
theorem Inv.turnedN {ch:List Addr}{t':Nat}(I:Inv X pins σ H s)(hch:∀ b∈ch,zag X pins H b)(k:∀ b u,b∉ch->s.heap.get? b=some u->h'.get? b=some u):Inv X pins σ H { s with heap:=h',toks:=t' }:=by
 have nch:∀ b u,H b=some u->b∉ch:=λb u e z=>by rw[(hch b z).1]at e;cases e
 refine I.step (g':=s.gens) (d':=s.drawn) (ch:=ch) (λb hb=>?_) (λb u _ _ hc e _=>k b u hc e) (λb u _ _ hc e _=>⟨u.slots,k b u hc e⟩) (λb u _ e n=>n)
  (λb u hc e=>⟨u,k b u hc e⟩) (λb xs e=>e) (λb u xs e=>e) (λb ps e=>⟨#[],by rw[e];simp⟩) (λm hm=>?_) (λb u e=>?_) I.bare
 .obtain⟨_,n1,_,n3,n4,n5⟩:=hch b hb
  exact⟨n3,n1,n4,n5⟩
 .obtain⟨ob,es,ep,ho,r⟩:=hm
  exact⟨ob,es,ep,k _ ob (λz=>(hch _ z).2.1 rfl) ho,r⟩
 .refine(I.hok b u e).stay (λc v hc q=>k c v ?_ q) (λc q=>q) λc xs q=>q
  rcases hc with z | z
  .rw[z];exact nch b u e
  .exact nch c _ z
end
noncomputable def Iel (K:W.Frag)(a:Addr):It :=
 ⟨λi H=>∃ xs x,SqL K H a xs/\xs[i]?=some x,λi H v H'=>∃ T x,v=.ref T/\H T=none/\H'=upd H T (.tup [.int i,x])/\∀ xs,SqL K H a xs->xs[i]?=some x,λi H=>∃ xs,SqL K H a xs/\xs.length<=i⟩
noncomputable def Iet (K:W.Frag)(a:Addr):It :=
 ⟨λi H=>∃ xs x,SqT K H a xs/\xs[i]?=some x,λi H v H'=>∃ T x,v=.ref T/\H T=none/\H'=upd H T (.tup [.int i,x])/\∀ xs,SqT K H a xs->xs[i]?=some x,λi H=>∃ xs,SqT K H a xs/\xs.length<=i⟩
theorem zc2 {P:Program}{w:World}{K:W.Frag}{es:List Expr}{k:Nat}{tp:Pos}(a e it:Addr)(hne:e≠it) :
 zhR P w K (.Tuple es k tp) (Iel K a) [e,it] e (λi h=>(∃ old,IsEnum h e it i old)/\h.IsListIter it a i) where
 mem:=by simp
 obj:=λi h st b hb=>by
  obtain⟨⟨old,he⟩,o,ho,_,hd⟩:=st
  rcases List.mem_cons.mp hb with rfl | hb
  .exact⟨_,he,λv z=>by cases z⟩
  .rw[List.mem_singleton.mp hb]
   exact⟨o,ho,λv z=>by rw[hd]at z;cases z⟩
 keep:=λi h h' st kk=>by
  obtain⟨⟨old,he⟩,hit⟩:=st
  exact⟨⟨old,kk e (by simp) _ he⟩,hit.at λo q=>kk it (by simp) o q⟩
 item:=by
  intro X hP hw hK hc i pins s σ H E I hf st hg
  subst hP hw hK
  obtain⟨⟨old,he⟩,hit⟩:=st
  obtain⟨xs,x,hq,hx⟩:=hg
  obtain⟨its,rv,p,hz⟩:=I.list hq
  obtain⟨u,hu,ru⟩:=rv.get hx
  refine wpAny_pyNext_enum_item he hit p.isList (x:=u) (by simpa using hu) hne λh1 ho1 hit1 hT1 hz1 hk1=>?_
  refine⟨_,rfl,wpAny_letOwnedTupleGo_enum ho1 λh2 he2 hs2=>?_⟩
  have hfr:H s.heap.objs.size=none:=I.hok.fresh (Nat.le_refl _)
  have neE:s.heap.objs.size≠e:=Nat.ne_of_gt (Heap.lt_size he)
  have hT2:h2.get? s.heap.objs.size=some { cls:=.type "tuple",data:=.seq #[.int i s.toks,u] }:=(hs2.2 _ neE).trans hT1
  refine⟨.ref s.heap.objs.size,upd H s.heap.objs.size (.tup [.int i,x]),?_,rfl,⟨_,x,rfl,hfr,rfl,λys hy=>by rw[I.list_inj hy hq];exact hx⟩,⟨⟨_,by simpa using he2⟩,hit1.at λo q=>(hs2.2 it (Ne.symm hne)).trans q⟩,λb hb=>?_⟩
  .refine I.grown (ch:=[e,it]) hf (Nat.le_refl _) (λb v hb q=>?_) ?_
   .have n1:b≠e:=λz=>hb (by simp[z])
    have n2:b≠it:=λz=>hb (by simp[z])
    exact(hs2.2 b n1).trans (hk1 b v n1 n2 q)
   .exact⟨by show 2<=sizeLine;decide,[.int i s.toks,u],.cons ⟨_,rfl⟩ (.cons ru .nil),⟨_,hT2,rfl,0,rfl⟩⟩
  .obtain⟨o,hb2,_⟩:∃ o,s.heap.get? b=some o/\True:=by
    rcases List.mem_cons.mp hb with rfl | hb
    .exact⟨_,he,trivial⟩
    .rw[List.mem_singleton.mp hb]
     obtain⟨o,ho,_⟩:=hit
     exact⟨o,ho,trivial⟩
   rw[zq (Nat.ne_of_lt (Heap.lt_size hb2))]
   exact(hf b hb).1
 done:=by
  intro X hP hw hK hc i pins s σ H E I hf st hg
  subst hP hw hK
  obtain⟨⟨old,he⟩,hit⟩:=st
  obtain⟨xs,hq,hx⟩:=hg
  obtain⟨its,rv,p,hz⟩:=I.list hq
  have hl:=rv.length
  exact wpAny_pyNext_enum_end (I.ok.hd hc) he hit p.isList (by simp;omega) λh1 hx1=>⟨rfl,I.turnedN (ch:=[e,it]) (t':=s.toks) hf λb v hb q=>hx1 b v (λz=>hb (by simp[z])) q⟩
 self:=λ_ _ _ _ _ st h=>wpAny_pyIter_enum st.1.choose_spec h
theorem zc9 {P:Program}{w:World}{K:W.Frag}{es:List Expr}{k:Nat}{tp:Pos}(a e it:Addr)(hne:e≠it)(hai:a≠it)(hae:a≠e) :
 zhR P w K (.Tuple es k tp) (Iet K a) [e,it] e (λi h=>(∃ old,IsEnum h e it i old)/\h.IsTupleIter it a i) where
 mem:=by simp
 obj:=λi h st b hb=>by
  obtain⟨⟨old,he⟩,o,ho,_,hd⟩:=st
  rcases List.mem_cons.mp hb with rfl | hb
  .exact⟨_,he,λv z=>by cases z⟩
  .rw[List.mem_singleton.mp hb]
   exact⟨o,ho,λv z=>by rw[hd]at z;cases z⟩
 keep:=λi h h' st kk=>by
  obtain⟨⟨old,he⟩,o,ho,r⟩:=st
  exact⟨⟨old,kk e (by simp) _ he⟩,o,kk it (by simp) o ho,r⟩
 item:=by
  intro X hP hw hK hc i pins s σ H E I hf st hg
  subst hP hw hK
  obtain⟨⟨old,he⟩,hit⟩:=st
  obtain⟨xs,x,hq,hx⟩:=hg
  obtain⟨its,rv,p,hz⟩:=I.tuple hq
  obtain⟨u,hu,ru⟩:=rv.get hx
  have p':s.heap.IsTuple a its.toArray:=p
  have D:=YA (prog:=X.prog) (w:=X.w) (A:=X.A.in1) (I.ok.hd hc) it a hai its.toArray
  have hlt:i < its.toArray.size:=by
   obtain⟨h1,_⟩:=List.getElem?_eq_some_iff.mp hu
   simpa using h1
  refine wpAny_pyNext_enum_itemD D he ⟨hit,p'⟩ hlt hne (by simp[hne,Ne.symm hae]) λu' h1 tk hP1 ho1 hit1 hT1 hz1 hk1=>?_
  have eu:u'=u:=by
   have:its[i]?=some u':=by simpa using hP1
   rw[hu]at this
   exact(Option.some.inj this).symm
  subst eu
  refine⟨_,rfl,wpAny_letOwnedTupleGo_enum ho1 λh2 he2 hs2=>?_⟩
  have hfr:H s.heap.objs.size=none:=I.hok.fresh (Nat.le_refl _)
  have neE:s.heap.objs.size≠e:=Nat.ne_of_gt (Heap.lt_size he)
  have hT2:h2.get? s.heap.objs.size=some { cls:=.type "tuple",data:=.seq #[.int i tk,u'] }:=(hs2.2 _ neE).trans hT1
  refine⟨.ref s.heap.objs.size,upd H s.heap.objs.size (.tup [.int i,x]),?_,rfl,⟨_,x,rfl,hfr,rfl,λys hy=>by rw[I.tuple_inj hy hq];exact hx⟩,⟨⟨_,by simpa using he2⟩,?_⟩,λb hb=>?_⟩
  .refine I.grown (ch:=[e,it]) hf (Nat.le_refl _) (λb v hb q=>?_) ?_
   .have n1:b≠e:=λz=>hb (by simp[z])
    have n2:b≠it:=λz=>hb (by simp[z])
    exact(hs2.2 b n1).trans (hk1 b v n1 n2 q)
   .exact⟨by show 2<=sizeLine;decide,[.int i tk,u'],.cons ⟨_,rfl⟩ (.cons ru .nil),⟨_,hT2,rfl,0,rfl⟩⟩
  .obtain⟨o,ho,r⟩:=hit1.1
   exact⟨o,(hs2.2 it (Ne.symm hne)).trans ho,r⟩
  .obtain⟨o,hb2,_⟩:∃ o,s.heap.get? b=some o/\True:=by
    rcases List.mem_cons.mp hb with rfl | hb
    .exact⟨_,he,trivial⟩
    .rw[List.mem_singleton.mp hb]
     obtain⟨o,ho,_⟩:=hit
     exact⟨o,ho,trivial⟩
   rw[zq (Nat.ne_of_lt (Heap.lt_size hb2))]
   exact(hf b hb).1
 done:=by
  intro X hP hw hK hc i pins s σ H E I hf st hg
  subst hP hw hK
  obtain⟨⟨old,he⟩,hit⟩:=st
  obtain⟨xs,hq,hx⟩:=hg
  obtain⟨its,rv,p,hz⟩:=I.tuple hq
  have hl:=rv.length
  have p':s.heap.IsTuple a its.toArray:=p
  exact Zb (I.ok.hd hc) he hit p' (by simp;omega) λh1 hx1=>⟨rfl,I.turnedN (ch:=[e,it]) (t':=s.toks) hf λb v hb q=>hx1 b v (λz=>hb (by simp[z])) q⟩
 self:=λ_ _ _ _ _ st h=>wpAny_pyIter_enum st.1.choose_spec h
noncomputable def zlK (K:W.Frag)(ta:TA):TI:=fun σ H R=>ta σ H λvs H1=>∃ a,vs=[.ref a]/\((∃ xs,H1 a=some (.lst xs)/\R (Iel K a) H1)\/(∃ xs,SqT K H1 a xs/\R (Iet K a) H1))
theorem zi0 {X:Cx} {es:List Expr} {k:Nat} {tp:Pos} {a:Expr} {ta:TA} {p pos:Pos} (hg:Gl X "enumerate") (hm:X.mg "enumerate"=none) (hb:bootBuiltins "enumerate"=some (.type "enumerate")) (ha:PA X [a] ta)
 (hs:starEach [a] X.env=[(false,eval a X.env)]:=by rfl):PI X (.Tuple es k tp) (.Call (.Name "enumerate" p) [a] [] pos) (zlK X.K ta):=by
 intro pins s σ H R I h
 refine Call_ (ZJ I hg hm hb (PyProof.Rows.callWith_type1 (thn (ha pos pins s σ H _ I h) λus s1 hh9=>?_) hs rfl))
 obtain⟨vs,H1,I1,r1,q1⟩:=hh9
 obtain⟨l,e,q⟩:=q1
 subst e
 obtain⟨u,rfl,ru⟩:=Ws r1
 cases ru
 have hn:∀ b,s1.heap.objs.size<=b->zag X pins H1 b:=λb hb=>I1.fpOk hb (I1.hok.fresh hb)
 have hne:s1.heap.objs.size+1≠s1.heap.objs.size:=by omega
 have hfp:∀ b∈[s1.heap.objs.size+1,s1.heap.objs.size],zag X pins H1 b:=λb hb=>by
  rcases List.mem_cons.mp hb with rfl | hb
  .exact hn _ (Nat.le_succ _)
  .rw[List.mem_singleton.mp hb];exact hn _ (Nat.le_refl _)
 rcases q with ⟨xs,hx,q⟩ | ⟨xs,hx,q⟩
 .obtain⟨_,its,n,_,e⟩:xs.length<=sizeLine/\∃ (its:List Value) (n:Nat),yw xs its/\s1.heap.get? l=some { cls:=.type "list",data:=.seq its.toArray n }:=I1.hok _ _ hx
  refine call_enumerate_1 e λh2 he hit hz hk=>wpAny_pyIter_enum he ?_
  exact⟨_,_,_,_,H1,rfl,I1.kept (t':=s1.toks) hk,zc2 l _ _ hne,⟨⟨_,he⟩,hit⟩,hfp,q⟩
 .obtain⟨its,_,p1,_⟩:=I1.tuple hx
  have lt:l < s1.heap.objs.size:=by
   obtain⟨o,ho,_⟩:=p1
   exact Heap.lt_size ho
  refine Y9 (show s1.heap.IsTuple l its.toArray from p1) λh2 he hit hz hk=>wpAny_pyIter_enum he ?_
  exact⟨_,_,_,_,H1,rfl,I1.kept (t':=s1.toks) hk,zc9 l _ _ hne (Nat.ne_of_lt lt) (Nat.ne_of_lt (Nat.lt_succ_of_lt lt)),⟨⟨_,he⟩,hit⟩,hfp,q⟩
end L2
namespace HT
open PySem PyProof.Rows
noncomputable def lexLe:List Int->List Int->Bool
 | [],_=>true
 | _::_,[]=>false
 | x::xs,y::ys=>if x=y then lexLe xs ys else decide (x<=y)
theorem zcQ (x y:Int)(xs ys:List Int):lexLe (x::xs) (y::ys)=if x=y then lexLe xs ys else decide (x<=y):=rfl
theorem zgu (A:Around)(s:Shared)(a:Int)(t:Tok)(c:Int)(u:Tok)(prog:Program)(w:World)(E:Value->Shared->Prop)(Q:Value->Shared->Prop)(h:Q (.bool (decide (a<=c))) s) :
 wpAny (model prog w) A (richCompare .LtE (.int a t) (.int c u)) Q E s :=
 (PyProof.Rows.le_int h:wpAny (model prog w) A (compareOp .LtE (.int a t) (.int c u)) Q E s)
section
open PySem.SeqAt
open PySem.AutoSeq1 (wpAny_loadPart')
open PySem.MeetsSeq PySem.MeetsSeq2 PySem.MeetsSeq3
theorem VM (l b:Addr)(items items2:Array Value)(n n2:Nat)(dd dd2:Option Addr)(sl sl2:Array (Option Value))(ns ms:List Int)(hi:IntsAre items.toList ns)(hj:IntsAre items2.toList ms) :
 Meets (Builtin.«tuple.__le__» ⟨[.ref l,.ref b],[]⟩)
  (λ_ R s=>s.heap.get? l=some { cls:=.type "tuple",dict:=dd,data:=.seq items n,slots:=sl }/\s.heap.get? b=some { cls:=.type "tuple",dict:=dd2,data:=.seq items2 n2,slots:=sl2 } /\
   R (.ok (.ret (.bool (lexLe ns ms)))) s) :=
 .of_wp λprog w A R s h=>by
  obtain⟨hp,g,d,tk,os⟩:=s;obtain⟨hl,hb,h⟩:=h
  have f2:=AutoSeq1.sub_tuple_tuple
  have z1:items.size=ns.length:=by rw[<-hi.length];simp
  have z2:items2.size=ms.length:=by rw[<-hj.length];simp
  wp_walk using wpAny_loadPart' hl,wpAny_loadPart' hb,wpAny_forIn_list _ (λrest b s'=>b.1=none/\s'=⟨hp,g,d,tk,os⟩/\∃ (vs ws:List Value) (ns' ms':List Int),rest=vs.zip ws /\
   IntsAre vs ns'/\IntsAre ws ms'/\ns'.length+items2.size=ms'.length+items.size/\R (.ok (.ret (.bool (lexLe ns' ms')))) ⟨hp,g,d,tk,os⟩) _
  case turn =>
   rintro⟨y,x⟩ rest b s' ⟨hb',rfl,vs,ws,ns',ms',hz,hvi,hwi,hlen,hR⟩
   cases hvi with
   | nil=>rw[List.zip_nil_left]at hz;cases hz
   | cons a t hvi' =>
    cases hwi with
    | nil=>rw[List.zip_nil_right]at hz;cases hz
    | cons c u hwi' =>
     rw[List.zip_cons_cons]at hz
     injection hz with hyx hrest
     injection hyx with hy hx
     subst hy hx
     rw[zcQ]at hR
     simp only[List.length_cons]at hlen
     obtain⟨e,he,hiff⟩:=zgM A.in1 ⟨hp,g,d,tk,os⟩ a t c u
     refine wpAny_bind (he prog w _ _ ?_)
     cases e with
     | true =>
      rw[if_pos (hiff.mp rfl)]at hR
      wp_walk
      exact⟨rfl,rfl,_,_,_,_,hrest,hvi',hwi',by omega,hR⟩
     | false =>
      rw[if_neg (λq=>absurd (hiff.mpr q) Bool.false_ne_true)]at hR
      have hri:=zgu A.in1 ⟨hp,g,d,tk,os⟩ a t c u prog w
      wp_walk using hri
      exact⟨_,rfl,by simpa using hR⟩
  case fin =>
   rintro⟨b1,b2⟩ s' ⟨hb',rfl,vs,ws,ns',ms',hz,hvi,hwi,hlen,hR⟩
   simp only at hb'
   subst hb'
   have hv:lexLe ns' ms'=decide (items.size<=items2.size):=by
    cases hvi with
    | nil =>
     simp only[List.length_nil]at hlen
     show true=_
     exact(decide_eq_true (by omega)).symm
    | cons a t hv =>
     cases hwi with
     | nil =>
      simp only[List.length_nil,List.length_cons]at hlen
      show false=_
      exact(decide_eq_false (by omega)).symm
     | cons c u hw =>
      rw[List.zip_cons_cons]at hz
      cases hz
   rw[hv]at hR
   wp_walk
   exact⟨_,rfl,by simpa [Builtin.Tuple.tupleCompareSizes]using hR⟩
  case h =>
   exact⟨rfl,rfl,items.toList,items2.toList,ns,ms,rfl,hi,hj,by omega,h⟩
end
section
variable {prog:Program}{w:World}{A:Around}{E:Value->Shared->Prop}{s:Shared}
theorem le_tupInts {l b:Addr}{items items2:Array Value}{ns ms:List Int}{Q:Value->Shared->Prop}(hl:IsTup s.heap l items)(hb:IsTup s.heap b items2)(hi:IntsAre items.toList ns)(hj:IntsAre items2.toList ms)
 (hu:A.units < cLine) (h:Q (.bool (lexLe ns ms)) s):wpAny (model prog w) A (compareOp .LtE (.ref l) (.ref b)) Q E s:=by
 obtain⟨⟨cls,dd,data,sl⟩,ho,hc,n,hd⟩:=id hl
 obtain⟨⟨cls2,dd2,data2,sl2⟩,ho2,hc2,n2,hd2⟩:=id hb
 simp only at hc hd hc2 hd2
 subst hc hd hc2 hd2
 exact richCompare_meets_room (op:=.LtE) ⟨_,ho,rfl⟩ ⟨_,ho2,rfl⟩ PySem.F.slot_tuple_le PySem.F.entry_tuple_le (PySem.F.args_tuple_le_2 _ _) (VM l b items items2 n n2 dd dd2 sl sl2 ns ms hi hj)
  ⟨ho,ho2,show Value.bool (lexLe ns ms)≠Value.notImplemented/\Q (.bool (lexLe ns ms)) s from⟨(λx=>nomatch x),h⟩⟩ hu
end
end HT
namespace L2
open PySem PySem.Spec PyProof.Rows
noncomputable def rLeT (K:W.Frag):R2:=λx y H Q=>∃ a b ns ms,x=.ref a/\y=.ref b/\SqT K H a (ns.map V.int)/\SqT K H b (ms.map V.int)/\Q (.bl (HT.lexLe ns ms)) H
theorem zkQ {X:Cx}(hu:X.A.units < cLine):OpR X (compareOp .LtE) (rLeT X.K):=by
 intro pins s σ H x y v u Q I rx ry h
 obtain⟨a,b,ns,ms,rfl,rfl,ha,hb,q⟩:=h
 cases rx
 cases ry
 obtain⟨its,r1,p1,_⟩:=I.tuple ha
 obtain⟨its2,r2,p2,_⟩:=I.tuple hb
 have i1:IntsAre its.toArray.toList ns:=vz r1
 have i2:IntsAre its2.toArray.toList ms:=vz r2
 exact HT.le_tupInts p1 p2 i1 i2 hu ⟨.bl (HT.lexLe ns ms),H,I,rfl,q⟩
end L2
namespace HT
open PySem PyProof.Rows
section
variable {prog:Program}{w:World}{A:Around}{E:Value->Shared->Prop}{s:Shared}
theorem own_getItem_whole {t sl:Addr}{items:Array Value}{vl vu:Value}{lo hi:Option Int}{Q:Value->Shared->Prop}(ht:IsTup s.heap t items)(hs:s.heap.IsSliceOf sl vl vu .none)(pl:IsPart vl lo)(pu:IsPart vu hi)
 (hw:sIx items.size 0 lo=0/\sIx items.size items.size hi=items.size) (h:Q (.ref t) s):wpAny (model prog w) A (getItem (.ref t) (.ref sl)) Q E s:=by
 obtain⟨os,hos,hcs,hds⟩:=id hs
 have hTs:s.TypeIs (.ref sl) "slice":=⟨os,hos,hcs⟩
 unfold getItem
 try with_reducible refine wpAny_holding ?_
 first | refine wpAny_bind (wpAny_pure ?_) | skip
 refine wpAny_bind (wpAny_sequenceKey ht.typeIs (by decide) ?_)
 refine wpAny_bind (wpAny_callSpecial?_slot (name:=Str.ofString "__getitem__") ht.typeIs PyProof.Rows.slot_tuple_getitem
  (wpAny_call_entry PyProof.Rows.slot_tuple_getitem ht.typeIs entry_tuple_getitem ?_ (args_tuple_getitem _ _)))
 show wpAny _ _ (Builtin.Tuple.tupleItemsOf (.ref t)>>=_) _ _ s
 refine wpAny_bind (tupleItemsOf_ ht ?_)
 refine wpAny_bind (wpAny_typeOf hTs ?_)
 rw[if_pos (by decide)]
 refine wpAny_bind (Yn hs pl pu ?_)
 have hyes:(((sIx items.size 0 lo:Nat):Int) == 0&&(1:Int) == 1&&(sIx items.size items.size hi - sIx items.size 0 lo) == items.size)=true:=by
  rw[hw.1,hw.2]
  simp
 show wpAny _ _ (if (((sIx items.size 0 lo:Nat):Int) == 0&&(1:Int) == 1&&(sIx items.size items.size hi - sIx items.size 0 lo) == items.size)=true then _ else _) _ _ s
 rw[if_pos hyes]
 refine wpAny_bind (m:=Builtin.Tuple.tupleIsExact (.ref t)) ?_
 unfold Builtin.Tuple.tupleIsExact
 refine wpAny_bind (wpAny_typeOf ht.typeIs (wpAny_pure ?_))
 rw[if_pos (by decide)]
 refine wpAny_bind (wpAny_rule ?_)
 first
  | exact wpAny_pure ⟨_,rfl,wpAny_pure h⟩
  | exact wpAny_bind (wpAny_pure (wpAny_pure ⟨_,rfl,wpAny_pure h⟩))
end
end HT
namespace PySem
open Sem (wp)
theorem xr {prog:Program}{w:World}{A:Around}{it a:Addr}{fp:List Addr}{n k:Nat}{P:Nat->Value->Prop}{St:Nat->Heap->Prop}(D:Draws prog w A it fp n P St){h h':Heap}(st:St k h)(sb:Heap.SameBut a h h')(na:a∉fp):St k h' :=
 D.frame _ _ _ st λb hb o e=>(sb.2 b λz=>na (z ▸ hb)).trans e
structure zgh (z TI TO i1 i2:Addr) (fp1 fp2:List Addr):Prop where
 nd:[z,TI,TO,i1,i2].Nodup
 z1:z∉fp1
 z2:z∉fp2
 o1:TO∉fp1
 o2:TO∉fp2
 i12:i1∉fp2
 i21:i2∉fp1
section
variable {prog:Program}{w:World}{A:Around}{E:Value->Shared->Prop}{s:Shared}{z TI TO i1 i2:Addr}{fp1 fp2:List Addr}{n1 n2 k1 k2:Nat}{P1 P2:Nat->Value->Prop}{St1 St2:Nat->Heap->Prop}{a b:Value}
theorem zaL {Q:Value->Shared->Prop}(D1:Draws prog w A i1 fp1 n1 P1 St1)(D2:Draws prog w A i2 fp2 n2 P2 St2)(ap:zgh z TI TO i1 i2 fp1 fp2)
 (hz:IsZip s.heap z TI TO .none) (hTI:IsPair s.heap TI (.ref i1) (.ref i2)) (hTO:IsPair s.heap TO a b) (h1:St1 k1 s.heap) (h2:St2 k2 s.heap) (l1:k1 < n1) (l2:k2 < n2)
 (hQ:∀ x y h' tk,P1 k1 x->P2 k2 y->IsZip h' z TI TO (rawInt s.heap.objs.size)->IsPair h' TO x y->St1 (k1+1) h'->St2 (k2+1) h'->IsPair h' s.heap.objs.size x y ->
  (∀ c o,c∉[z,TO,i1,i2]->s.heap.get? c=some o->h'.get? c=some o)->Q (.ref s.heap.objs.size) { s with heap:=h',toks:=tk }) :
 wpAny (model prog w) A (Builtin.«zip.__next__» ⟨[.ref z],[]⟩) (λfin s'=>∃ v,fin=.done (.ret v)/\Q v s') E s:=by
 obtain⟨nd,az1,az2,ao1,ao2,a12,a21⟩:=ap
 simp only[List.nodup_cons,List.mem_cons,List.not_mem_nil,or_false,not_or,not_false_eq_true,List.nodup_nil,and_true]at nd
 obtain⟨⟨n1',n2',n3',n4'⟩,⟨n5,n6,n7⟩,⟨n8,n9⟩,n10⟩:=nd
 show wpAny _ _ (field (.ref z) 2>>=_) _ _ _
 refine wpAny_bind (wpAny_field hz rfl (x:=.bool false) rfl ?_)
 show wpAny _ _ (field (.ref z) 3>>=_) _ _ _
 refine wpAny_bind (wpAny_field hz rfl (x:=.ref TI) rfl (wpAny_bind (wpAny_seqItems hTI rfl ?_)))
 show wpAny _ _ (Builtin.SmallTypes.ownedTupleIsFree (.ref z)>>=_) _ _ _
 refine wpAny_bind ?_
 unfold Builtin.SmallTypes.ownedTupleIsFree
 refine wpAny_bind (wpAny_field hz rfl (x:=.none) rfl (wpAny_pure ?_))
 simp only[if_true]
 refine wpAny_bind (wpAny_rule (wpAny_bind (wpAny_field hz rfl (x:=.ref TO) rfl (wpAny_bind (wpAny_setField_rec hz (by simp) λg1 z1 b1=>?_)))))
 refine wpAny_bind ?_
 simp only[List.zipIdx_cons,List.zipIdx_nil,List.forIn_cons,List.forIn_nil]
 refine wpAny_bind (wpAny_bind (wpAny_onRaise ?_))
 show wpAny _ _ (Builtin.SmallTypes.nextOf (.ref i1)>>=_) _ _ _
 refine wpAny_bind (D1.item k1 _ _ _ l1 (xr D1 h1 b1 az1) λx g2 tk2 px st2 b2=>wpAny_pure ?_)
 have o2:IsPair g2 TO a b:=(b2.2 TO n8).trans ((b1.2 TO (Ne.symm n2')).trans hTO)
 refine wpAny_bind (wpAny_seqItems o2 rfl (wpAny_bind (wpAny_updateSeq_pair o2 λg3 o3 b3=>?_)))
 refine wpAny_bind (wpAny_letGo (wpAny_pure ?_))
 refine wpAny_bind (wpAny_bind (wpAny_onRaise ?_))
 show wpAny _ _ (Builtin.SmallTypes.nextOf (.ref i2)>>=_) _ _ _
 have s23:St2 k2 g3:=xr D2 (xr D2 (xr D2 h2 b1 az2) b2 a12) b3 ao2
 refine wpAny_bind (D2.item k2 _ _ _ l2 s23 λy g4 tk4 py st4 b4=>wpAny_pure ?_)
 have o4:IsPair g4 TO x b:=(b4.2 TO n9).trans o3
 refine wpAny_bind (wpAny_seqItems o4 rfl (wpAny_bind (wpAny_updateSeq_pair o4 λg5 o5 b5=>?_)))
 replace o5:IsPair g5 TO x y:=o5
 refine wpAny_bind (wpAny_letGo (wpAny_pure (wpAny_pure ?_)))
 refine wpAny_bind (wpAny_seqItems o5 rfl ?_)
 show wpAny _ _ (newTuple [x,y]>>=_) _ _ _
 refine wpAny_bind (wpAny_newTuple ?_)
 have hsz:g5.objs.size=s.heap.objs.size:=by rw[b5.1,b4.1,b3.1,b2.1,b1.1]
 have z5:IsZip g5 z TI TO .ellipsis:=(b5.2 z n2').trans ((b4.2 z n4').trans ((b3.2 z n2').trans ((b2.2 z n3').trans z1)))
 have zlt:z < g5.objs.size:=Heap.lt_size z5
 show wpAny _ _ (Builtin.SmallTypes.ownedTupleHandOut (.ref z) (.ref g5.objs.size)>>=_) _ _ _
 refine wpAny_bind ?_
 unfold Builtin.SmallTypes.ownedTupleHandOut
 have z6:IsZip (g5.push { cls:=.type "tuple",data:=.seq #[x,y] }) z TI TO .ellipsis:=Heap.get?_push_of_some _ z5
 refine wpAny_bind (wpAny_setField_rec z6 (by simp) λg7 z7 b7=>?_)
 refine wpAny_setField_rec z7 (by simp) λg8 z8 b8=>?_
 have up:∀ c o,c≠z->g5.get? c=some o->g8.get? c=some o:=λc o n e=>(b8.2 c n).trans ((b7.2 c n).trans (Heap.get?_push_of_some _ e))
 have t8:IsPair g8 g5.objs.size x y:=(b8.2 _ (Nat.ne_of_gt zlt)).trans ((b7.2 _ (Nat.ne_of_gt zlt)).trans (Heap.get?_push_size _ rfl))
 have e8:IsZip g8 z TI TO (rawInt g5.objs.size):=z8
 rw[hsz]at e8 t8
 refine wpAny_pure ⟨_,rfl,?_⟩
 show Q (.ref g5.objs.size) _
 rw[hsz]
 have f1:St1 (k1+1) g5:=xr D1 (xr D1 (xr D1 st2 b3 ao1) b4 a21) b5 ao1
 have f2:St2 (k2+1) g5:=xr D2 st4 b5 ao2
 refine hQ x y g8 _ px py e8 (up _ _ (Ne.symm n2') o5) (D1.frame _ _ _ f1 λc hc o e=>up c o (λq=>az1 (q ▸ hc)) e) (D2.frame _ _ _ f2 λc hc o e=>up c o (λq=>az2 (q ▸ hc)) e) t8 λc o hc e=>?_
 simp only[List.mem_cons,List.not_mem_nil,or_false,not_or]at hc
 obtain⟨c1,c2,c3,c4⟩:=hc
 exact up c o c1 ((b5.2 c c2).trans ((b4.2 c c4).trans ((b3.2 c c2).trans ((b2.2 c c3).trans ((b1.2 c c1).trans e)))))
theorem zbI {Q:Fin->Shared->Prop}(D1:Draws prog w A i1 fp1 n1 P1 St1)(az1:z∉fp1)(nz:i1≠z)
 (hz:IsZip s.heap z TI TO .none) (hTI:IsPair s.heap TI (.ref i1) (.ref i2)) (h1:St1 n1 s.heap)
 (hE:∀ h' e,(∀ c o,c≠z->c≠i1->s.heap.get? c=some o->h'.get? c=some o)->(∃ o,h'.get? e=some o/\o.cls=.type "StopIteration")->E (.ref e) { s with heap:=h' }) :
 wpAny (model prog w) A (Builtin.«zip.__next__» ⟨[.ref z],[]⟩) Q E s:=by
 show wpAny _ _ (field (.ref z) 2>>=_) _ _ _
 refine wpAny_bind (wpAny_field hz rfl (x:=.bool false) rfl ?_)
 show wpAny _ _ (field (.ref z) 3>>=_) _ _ _
 refine wpAny_bind (wpAny_field hz rfl (x:=.ref TI) rfl (wpAny_bind (wpAny_seqItems hTI rfl ?_)))
 show wpAny _ _ (Builtin.SmallTypes.ownedTupleIsFree (.ref z)>>=_) _ _ _
 refine wpAny_bind ?_
 unfold Builtin.SmallTypes.ownedTupleIsFree
 refine wpAny_bind (wpAny_field hz rfl (x:=.none) rfl (wpAny_pure ?_))
 simp only[if_true]
 refine wpAny_bind (wpAny_rule (wpAny_bind (wpAny_field hz rfl (x:=.ref TO) rfl (wpAny_bind (wpAny_setField_rec hz (by simp) λg1 z1 b1=>?_)))))
 refine wpAny_bind ?_
 simp only[List.zipIdx_cons,List.zipIdx_nil,List.forIn_cons,List.forIn_nil]
 refine wpAny_bind (wpAny_bind (wpAny_onRaise ?_))
 show wpAny _ _ (Builtin.SmallTypes.nextOf (.ref i1)>>=_) _ _ _
 refine wpAny_bind (D1.done _ _ _ (xr D1 h1 b1 az1) λg2 e b2 he=>?_)
 obtain⟨oe,hoe,hce⟩:=he
 have z2:IsZip g2 z TI TO .ellipsis:=b2 _ _ (Ne.symm nz) z1
 have nez:e≠z:=λq=>by subst q;rw[z2]at hoe;cases hoe;simp at hce
 exact wpAny_setField_rec z2 (by simp) λg3 _ b3=>hE g3 e (λc o c1 c2 q=>(b3.2 c c1).trans (b2 c o c2 ((b1.2 c c1).trans q))) ⟨oe,(b3.2 e nez).trans hoe,hce⟩
end
noncomputable def VL (b:Bool)(h:Heap)(it l:Addr)(k:Nat):Prop:=if b=true then h.IsListIter it l k else h.IsTupleIter it l k
noncomputable def zdq (b:Bool)(h:Heap)(l:Addr)(items:Array Value):Prop:=if b=true then h.IsList l items else h.IsTuple l items
theorem Wm {prog:Program}{w:World}{A:Around}(hh:A.handled=none)(b:Bool)(it l:Addr)(hne:l≠it)(items:Array Value) :
 Draws prog w A it [it,l] items.size (λi v=>items[i]?=some v) (λi h=>VL b h it l i/\zdq b h l items):=by
 cases b with
 | true=>exact Draws.list hh it l hne items
 | false=>exact YA hh it l hne items
noncomputable def zeO (b:Bool) (l:Addr):Obj:={ cls:=.type (if b=true then "list_iterator" else "tuple_iterator"),data:=.fields #[.ref l,.int 0 0] }
noncomputable abbrev zpA (h:Heap)(b1:Bool)(l1:Addr):Heap:=h.push (zeO b1 l1)
noncomputable abbrev zpB (h:Heap)(b1 b2:Bool)(l1 l2:Addr):Heap:=(zpA h b1 l1).push (zeO b2 l2)
noncomputable abbrev zpC (h:Heap) (b1 b2:Bool) (l1 l2:Addr):Heap:=(zpB h b1 b2 l1 l2).push (Obj.mk (.type "tuple") none (.seq #[.ref h.objs.size,.ref (zpA h b1 l1).objs.size]) #[])
noncomputable abbrev zpD (h:Heap) (b1 b2:Bool) (l1 l2:Addr):Heap:=(zpC h b1 b2 l1 l2).push (Obj.mk (.type "tuple") none (.seq #[.none,.none]) #[])
noncomputable abbrev zpE (h:Heap) (b1 b2:Bool) (l1 l2:Addr):Heap:=(zpD h b1 b2 l1 l2).push (Obj.mk (.type "zip") none (.fields #[.none,.bool false,.bool false,.ref (zpB h b1 b2 l1 l2).objs.size,.ref (zpC h b1 b2 l1 l2).objs.size]) #[])
theorem zbw (b1 b2:Bool)(l1 l2:Addr)(xs ys:Array Value) :
 Meets (Builtin.«zip.__new__» ⟨[.type "zip",.ref l1,.ref l2],[]⟩) (λ_ R s=>zdq b1 s.heap l1 xs/\zdq b2 s.heap l2 ys /\
  R (.ok (.ret (.ref (zpD s.heap b1 b2 l1 l2).objs.size))) { s with heap:=zpE s.heap b1 b2 l1 l2 }) :=
 .of_wp λprog w A R s h=>by
  obtain⟨hp,g,d,tk,os⟩:=s;obtain⟨hl1,hl2,h⟩:=h
  have hsub:=sub_zip
  cases b1 with
  | true =>
   have hL1:Heap.IsList (Shared.heap ⟨hp,g,d,tk,os⟩) l1 xs:=hl1
   cases b2 with
   | true =>
    have hL2:Heap.IsList (Shared.heap ⟨hp.push { cls:=.type "list_iterator",data:=.fields #[.ref l1,.int 0 0] },g,d,tk,os⟩) l2 ys:=Heap.IsList.push hl2 _
    wp_walk using wpAny_pyIter_list hL1,wpAny_pyIter_list hL2
    exact⟨_,rfl,h⟩
   | false =>
    have hL2:Heap.IsTuple (Shared.heap ⟨hp.push { cls:=.type "list_iterator",data:=.fields #[.ref l1,.int 0 0] },g,d,tk,os⟩) l2 ys:=Heap.IsTuple.push hl2 _
    wp_walk using wpAny_pyIter_list hL1,wpAny_pyIter_tuple hL2
    exact⟨_,rfl,h⟩
  | false =>
   have hL1:Heap.IsTuple (Shared.heap ⟨hp,g,d,tk,os⟩) l1 xs:=hl1
   cases b2 with
   | true =>
    have hL2:Heap.IsList (Shared.heap ⟨hp.push { cls:=.type "tuple_iterator",data:=.fields #[.ref l1,.int 0 0] },g,d,tk,os⟩) l2 ys:=Heap.IsList.push hl2 _
    wp_walk using wpAny_pyIter_tuple hL1,wpAny_pyIter_list hL2
    exact⟨_,rfl,h⟩
   | false =>
    have hL2:Heap.IsTuple (Shared.heap ⟨hp.push { cls:=.type "tuple_iterator",data:=.fields #[.ref l1,.int 0 0] },g,d,tk,os⟩) l2 ys:=Heap.IsTuple.push hl2 _
    wp_walk using wpAny_pyIter_tuple hL1,wpAny_pyIter_tuple hL2
    exact⟨_,rfl,h⟩
end PySem
namespace PySem
section
variable {prog:Program}{w:World}{A:Around}{E:Value->Shared->Prop}{s:Shared}
theorem za4 {b1 b2:Bool}{l1 l2:Addr}{xs ys:Array Value}{Q:Value->Shared->Prop}(hl1:zdq b1 s.heap l1 xs)(hl2:zdq b2 s.heap l2 ys)
 (h:∀ h',IsZip h' (s.heap.objs.size+4) (s.heap.objs.size+2) (s.heap.objs.size+3) .none->IsPair h' (s.heap.objs.size+2) (.ref s.heap.objs.size) (.ref (s.heap.objs.size+1)) ->
  IsPair h' (s.heap.objs.size+3) .none .none->VL b1 h' s.heap.objs.size l1 0->VL b2 h' (s.heap.objs.size+1) l2 0 ->
  (∀ c o,s.heap.get? c=some o->h'.get? c=some o)->Q (.ref (s.heap.objs.size+4)) { s with heap:=h' }) :
 wpAny (model prog w) A (call (.type "zip") [.ref l1,.ref l2]) Q E s:=by
 refine callType_new F.called_zip (by decide) (F.typeCall_zip_2 _ _) (F.newCall_zip_2 _ _) (λobj=>F.args_object_init_3 obj _ _) F.entry_zip_new
  (zbw b1 b2 l1 l2 xs ys) ⟨hl1,hl2,?_⟩
 have z1:(zpA s.heap b1 l1).objs.size=s.heap.objs.size+1:=Heap.size_push ..
 have z2:(zpB s.heap b1 b2 l1 l2).objs.size=s.heap.objs.size+2:=by rw[Heap.size_push,z1]
 have z3:(zpC s.heap b1 b2 l1 l2).objs.size=s.heap.objs.size+3:=by rw[Heap.size_push,z2]
 have z4:(zpD s.heap b1 b2 l1 l2).objs.size=s.heap.objs.size+4:=by rw[Heap.size_push,z3]
 have g5:(zpE s.heap b1 b2 l1 l2).get? (zpD s.heap b1 b2 l1 l2).objs.size=some _:=Heap.get?_push_size _ rfl
 have g4:(zpE s.heap b1 b2 l1 l2).get? (zpC s.heap b1 b2 l1 l2).objs.size=some _:=Heap.get?_push_of_some _ (Heap.get?_push_size _ rfl)
 have g3:(zpE s.heap b1 b2 l1 l2).get? (zpB s.heap b1 b2 l1 l2).objs.size=some _:=Heap.get?_push_of_some _ (Heap.get?_push_of_some _ (Heap.get?_push_size _ rfl))
 have g2:(zpE s.heap b1 b2 l1 l2).get? (zpA s.heap b1 l1).objs.size=some (zeO b2 l2):=Heap.get?_push_of_some _ (Heap.get?_push_of_some _ (Heap.get?_push_of_some _ (Heap.get?_push_size _ rfl)))
 have g1:(zpE s.heap b1 b2 l1 l2).get? s.heap.objs.size=some (zeO b1 l1):=Heap.get?_push_of_some _ (Heap.get?_push_of_some _ (Heap.get?_push_of_some _ (Heap.get?_push_of_some _ (Heap.get?_push_size _ rfl))))
 show _/\_
 rw[z2,z3,z4]at g5
 rw[z1,z2]at g3
 rw[z3]at g4
 rw[z1]at g2
 rw[z4]
 have it0:∀ {b:Bool} {l c:Addr},(zpE s.heap b1 b2 l1 l2).get? c=some (zeO b l)->VL b (zpE s.heap b1 b2 l1 l2) c l 0:=λ{b l c} e=>by
  cases b
  .exact⟨_,e,rfl,rfl⟩
  .exact⟨_,e,rfl,rfl⟩
 exact⟨⟨_,g5,rfl⟩,h _ g5 g3 g4 (it0 g1) (it0 g2) λc o x =>
  Heap.get?_push_of_some _ (Heap.get?_push_of_some _ (Heap.get?_push_of_some _ (Heap.get?_push_of_some _ (Heap.get?_push_of_some _ x))))⟩
variable {z TI TO i1 i2:Addr}{fp1 fp2:List Addr}{n1 n2 k1 k2:Nat}{P1 P2:Nat->Value->Prop}{St1 St2:Nat->Heap->Prop}{a b:Value}
theorem Zn {Q:Option Value->Shared->Prop}(D1:Draws prog w A.in1 i1 fp1 n1 P1 St1)(D2:Draws prog w A.in1 i2 fp2 n2 P2 St2)(ap:zgh z TI TO i1 i2 fp1 fp2)
 (hz:IsZip s.heap z TI TO .none) (hTI:IsPair s.heap TI (.ref i1) (.ref i2)) (hTO:IsPair s.heap TO a b) (h1:St1 k1 s.heap) (h2:St2 k2 s.heap) (l1:k1 < n1) (l2:k2 < n2)
 (hQ:∀ x y h' tk,P1 k1 x->P2 k2 y->IsZip h' z TI TO (rawInt s.heap.objs.size)->IsPair h' TO x y->St1 (k1+1) h'->St2 (k2+1) h'->IsPair h' s.heap.objs.size x y ->
  (∀ c o,c∉[z,TO,i1,i2]->s.heap.get? c=some o->h'.get? c=some o)->Q (some (.ref s.heap.objs.size)) { s with heap:=h',toks:=tk }) :
 wpAny (model prog w) A (pyNext (.ref z)) Q E s:=by
 have hT:s.TypeIs (.ref z) "zip":=⟨_,hz,rfl⟩
 unfold pyNext
 exact wpAny_bind (wpAny_attempt (wpAny_callSpecial?_slot (name:=Str.ofString "__next__") hT F.slot_zip_next
  (wpAny_call_entry F.slot_zip_next hT F.entry_zip_next
   (zaL D1 D2 ap hz hTI hTO h1 h2 l1 l2 λx y h' tk a1 a2 a3 a4 a5 a6 a7 a8=>wpAny_pure (hQ x y h' tk a1 a2 a3 a4 a5 a6 a7 a8)) (F.args_zip_next_1 _))))
theorem ZQ {Q:Option Value->Shared->Prop}(D1:Draws prog w A.in1 i1 fp1 n1 P1 St1)(az1:z∉fp1)(nz:i1≠z)
 (hz:IsZip s.heap z TI TO .none) (hTI:IsPair s.heap TI (.ref i1) (.ref i2)) (h1:St1 n1 s.heap)
 (hQ:∀ h',(∀ c o,c≠z->c≠i1->s.heap.get? c=some o->h'.get? c=some o)->Q none { s with heap:=h' }):wpAny (model prog w) A (pyNext (.ref z)) Q E s:=by
 have hT:s.TypeIs (.ref z) "zip":=⟨_,hz,rfl⟩
 unfold pyNext
 refine wpAny_bind (wpAny_attempt (wpAny_callSpecial?_slot (name:=Str.ofString "__next__") hT F.slot_zip_next
  (wpAny_call_entry F.slot_zip_next hT F.entry_zip_next (zbI D1 az1 nz hz hTI h1 λh' e hk he=>?_) (F.args_zip_next_1 _))))
 obtain⟨o,ho,hc⟩:=he
 refine wpAny_bind (wpAny_isInstance (T:="StopIteration") (b:=true) ⟨o,ho,hc⟩ isSubtype_stop ?_)
 exact wpAny_pure (hQ _ hk)
end
end PySem
namespace L2
open PySem PySem.Spec PyProof.Rows
noncomputable def Sq (b:Bool)(K:W.Frag)(H:Hp)(a:Addr)(xs:List V):Prop:=if b=true then SqL K H a xs else SqT K H a xs
theorem Inv.sq {X:Cx}{pins:List (Addr × Obj)}{σ:St}{H:Hp}{s:Shared}{a:Addr}{xs:List V}{b:Bool}(I:Inv X pins σ H s)(h:Sq b X.K H a xs):∃ its:List Value,yw xs its/\zdq b s.heap a its.toArray/\a < s.heap.objs.size:=by
 cases b with
 | true =>
  obtain⟨its,r,p,_⟩:=I.list (show SqL X.K H a xs from h)
  exact⟨its,r,p.isList,by obtain⟨o,n,ho,_⟩:=p;exact Heap.lt_size ho⟩
 | false =>
  obtain⟨its,r,p,_⟩:=I.tuple (show SqT X.K H a xs from h)
  exact⟨its,r,p,by obtain⟨o,ho,_⟩:=p;exact Heap.lt_size ho⟩
theorem Inv.sq_inj {X:Cx}{pins:List (Addr × Obj)}{σ:St}{H:Hp}{s:Shared}{a:Addr}{xs ys:List V}{b:Bool}(I:Inv X pins σ H s)(h:Sq b X.K H a xs)(h':Sq b X.K H a ys):xs=ys:=by
 cases b with
 | true=>exact I.list_inj h h'
 | false=>exact I.tuple_inj h h'
noncomputable def Izp (K:W.Frag)(b1 b2:Bool)(l1 l2:Addr):It :=
 ⟨λi H=>∃ xs ys x y,Sq b1 K H l1 xs/\Sq b2 K H l2 ys/\xs[i]?=some x/\ys[i]?=some y,
  λi H v H'=>∃ T x y,v=.ref T/\H T=none/\H'=upd H T (.tup [x,y])/\(∀ xs,Sq b1 K H l1 xs->xs[i]?=some x)/\(∀ ys,Sq b2 K H l2 ys->ys[i]?=some y),
  λi H=>∃ xs,Sq b1 K H l1 xs/\i=xs.length⟩
theorem ZT {b:Bool}{h:Heap}{it l:Addr}{k:Nat}(x:VL b h it l k):∃ o,h.get? it=some o/\∀ v,o.data≠.cell v:=by
 cases b
 .obtain⟨o,ho,_,hd⟩:=x
  exact⟨o,ho,λv z=>by rw[hd]at z;cases z⟩
 .obtain⟨o,ho,_,hd⟩:=x
  exact⟨o,ho,λv z=>by rw[hd]at z;cases z⟩
theorem XR {b:Bool}{h h':Heap}{it l:Addr}{k:Nat}(x:VL b h it l k)(e:∀ o,h.get? it=some o->h'.get? it=some o):VL b h' it l k:=by
 cases b
 .obtain⟨o,ho,r⟩:=x
  exact⟨o,e o ho,r⟩
 .obtain⟨o,ho,r⟩:=x
  exact⟨o,e o ho,r⟩
theorem zgi {P:Program}{w:World}{K:W.Frag}{es:List Expr}{k:Nat}{tp:Pos}(b1 b2:Bool)(l1 l2 z TI TO i1 i2:Addr)(ap:zgh z TI TO i1 i2 [i1,l1] [i2,l2])(n1:l1≠i1)(n2:l2≠i2) :
 zhR P w K (.Tuple es k tp) (Izp K b1 b2 l1 l2) [z,TI,TO,i1,i2] z (λi h=>IsZip h z TI TO .none/\IsPair h TI (.ref i1) (.ref i2)/\(∃ a b,IsPair h TO a b)/\VL b1 h i1 l1 i/\VL b2 h i2 l2 i) where
 mem:=by simp
 obj:=λi h st b hb=>by
  obtain⟨hz,hTI,⟨a,c,hTO⟩,h1,h2⟩:=st
  simp only[List.mem_cons,List.not_mem_nil,or_false]at hb
  rcases hb with rfl | rfl | rfl | rfl | rfl
  .exact⟨_,hz,λv z=>by cases z⟩
  .exact⟨_,hTI,λv z=>by cases z⟩
  .exact⟨_,hTO,λv z=>by cases z⟩
  .exact ZT h1
  .exact ZT h2
 keep:=λi h h' st kk=>by
  obtain⟨hz,hTI,⟨a,c,hTO⟩,h1,h2⟩:=st
  exact⟨kk z (by simp) _ hz,kk TI (by simp) _ hTI,⟨a,c,kk TO (by simp) _ hTO⟩,XR h1 λo q=>kk i1 (by simp) o q,XR h2 λo q=>kk i2 (by simp) o q⟩
 item:=by
  intro X hP hw hK hc i pins s σ H E I hf st hg
  subst hP hw hK
  obtain⟨hz,hTI,⟨a,c,hTO⟩,h1,h2⟩:=st
  obtain⟨xs,ys,x,y,hq1,hq2,hx,hy⟩:=hg
  obtain⟨its,rv,p,_⟩:=I.sq hq1
  obtain⟨its2,rv2,p2,_⟩:=I.sq hq2
  obtain⟨u,hu,ru⟩:=rv.get hx
  obtain⟨u2,hu2,ru2⟩:=rv2.get hy
  have hl1:i < its.toArray.size:=by simpa using (List.getElem?_eq_some_iff.mp hu).1
  have hl2:i < its2.toArray.size:=by simpa using (List.getElem?_eq_some_iff.mp hu2).1
  have hh:X.A.in1.handled=none:=I.ok.hd hc
  refine Zn (Wm hh b1 i1 l1 n1 its.toArray) (Wm hh b2 i2 l2 n2 its2.toArray) ap hz hTI hTO ⟨h1,p⟩ ⟨h2,p2⟩ hl1 hl2 λv1 v2 h' tk e1 e2 hz' hTO' s1 s2 hT' hk=>?_
  have eu:v1=u:=by
   have:its[i]?=some v1:=by simpa using e1
   rw[hu]at this
   exact(Option.some.inj this).symm
  have eu2:v2=u2:=by
   have:its2[i]?=some v2:=by simpa using e2
   rw[hu2]at this
   exact(Option.some.inj this).symm
  subst eu eu2
  obtain⟨nd,az1,az2,ao1,ao2,a12,a21⟩:=ap
  simp only[List.nodup_cons,List.mem_cons,List.not_mem_nil,or_false,not_or,not_false_eq_true,List.nodup_nil,and_true]at nd
  obtain⟨⟨m1,m2,m3,m4⟩,⟨m5,m6,m7⟩,⟨m8,m9⟩,m10⟩:=nd
  refine⟨_,rfl,wpAny_letOwnedTupleGo_zip hz' λh2' hz2 hs2=>?_⟩
  have hfr:H s.heap.objs.size=none:=I.hok.fresh (Nat.le_refl _)
  have neZ:s.heap.objs.size≠z:=Nat.ne_of_gt (Heap.lt_size hz)
  have hT2:IsPair h2' s.heap.objs.size v1 v2:=(hs2.2 _ neZ).trans hT'
  have hTI':IsPair h' TI (.ref i1) (.ref i2):=hk TI _ (by simp[Ne.symm m1,m5,m6,m7]) hTI
  have lt:∀ b∈[z,TI,TO,i1,i2],b < s.heap.objs.size:=λb hb=>by
   simp only[List.mem_cons,List.not_mem_nil,or_false]at hb
   rcases hb with rfl | rfl | rfl | rfl | rfl
   .exact Heap.lt_size hz
   .exact Heap.lt_size hTI
   .exact Heap.lt_size hTO
   .obtain⟨o,ho,_⟩:=ZT h1;exact Heap.lt_size ho
   .obtain⟨o,ho,_⟩:=ZT h2;exact Heap.lt_size ho
  refine⟨.ref s.heap.objs.size,upd H s.heap.objs.size (.tup [x,y]),?_,rfl,⟨_,x,y,rfl,hfr,rfl,λzs hz=>by rw[I.sq_inj hz hq1];exact hx,λzs hz=>by rw[I.sq_inj hz hq2];exact hy⟩,
   ⟨hz2,(hs2.2 TI (Ne.symm m1)).trans hTI',⟨_,_,(hs2.2 TO (Ne.symm m2)).trans hTO'⟩,XR s1.1 λo q=>(hs2.2 i1 (Ne.symm m3)).trans q,XR s2.1 λo q=>(hs2.2 i2 (Ne.symm m4)).trans q⟩,λb hb=>?_⟩
  .refine I.grown (ch:=[z,TI,TO,i1,i2]) hf (Nat.le_refl _) (λb v hb q=>?_) ?_
   .have nb:b≠z:=λw=>hb (by simp[w])
    refine(hs2.2 b nb).trans (hk b v (λw=>hb ?_) q)
    simp only[List.mem_cons,List.not_mem_nil,or_false]at w ⊢
    rcases w with w | w | w | w
    .exact .inl w
    .exact .inr (.inr (.inl w))
    .exact .inr (.inr (.inr (.inl w)))
    .exact .inr (.inr (.inr (.inr w)))
   .exact⟨by show 2<=sizeLine;decide,[v1,v2],.cons ru (.cons ru2 .nil),⟨_,hT2,rfl,0,rfl⟩⟩
  .rw[zq (Nat.ne_of_lt (lt b hb))]
   exact(hf b hb).1
 done:=by
  intro X hP hw hK hc i pins s σ H E I hf st hg
  subst hP hw hK
  obtain⟨hz,hTI,⟨a,c,hTO⟩,h1,h2⟩:=st
  obtain⟨xs,hq,rfl⟩:=hg
  obtain⟨its,rv,p,_⟩:=I.sq hq
  have hl:=rv.length
  have hh:X.A.in1.handled=none:=I.ok.hd hc
  have D:=Wm (prog:=X.prog) (w:=X.w) hh b1 i1 l1 n1 its.toArray
  refine ZQ D ap.z1 ?_ hz hTI ⟨by rw[List.size_toArray,<- hl];exact h1,p⟩ λh' hk=>⟨rfl,I.turnedN (ch:=[z,TI,TO,i1,i2]) (t':=s.toks) hf λb v hb q=>hk b v (λw=>hb (by simp[w])) (λw=>hb (by simp[w])) q⟩
  have nd:=ap.nd
  simp only[List.nodup_cons,List.mem_cons,List.not_mem_nil,or_false,not_or,not_false_eq_true,List.nodup_nil,and_true]at nd
  exact Ne.symm nd.1.2.2.1
 self:=λ_ _ _ _ _ st h=>wpAny_pyIter_zip st.1 h
noncomputable def iZip (K:W.Frag)(ta:TA):TI:=fun σ H R=>ta σ H λvs H1=>∃ b1 b2 l1 l2 xs ys,vs=[.ref l1,.ref l2]/\Sq b1 K H1 l1 xs/\Sq b2 K H1 l2 ys/\R (Izp K b1 b2 l1 l2) H1
theorem zkM {X:Cx} {es:List Expr} {k:Nat} {tp:Pos} {a b:Expr} {ta:TA} {p pos:Pos} (hg:Gl X "zip") (hm:X.mg "zip"=none) (hb:bootBuiltins "zip"=some (.type "zip")) (ha:PA X [a,b] ta)
 (hs:starEach [a,b] X.env=[(false,eval a X.env),(false,eval b X.env)]:=by rfl) (hs2:starEach [b] X.env=[(false,eval b X.env)]:=by rfl):PI X (.Tuple es k tp) (.Call (.Name "zip" p) [a,b] [] pos) (iZip X.K ta):=by
 intro pins s σ H R I h
 refine Call_ (ZJ I hg hm hb (PyProof.Rows.callWith_type1 (thn (ha pos pins s σ H _ I h) λus s1 hh9=>?_) (by rw[hs,hs2]) (by rw[hs2];rfl)))
 obtain⟨vs,H1,I1,r1,q1⟩:=hh9
 obtain⟨b1,b2,l1,l2,xs,ys,e,hq1,hq2,q⟩:=q1
 subst e
 obtain⟨u,u2,rfl,ru,ru2⟩:=zdf r1
 cases ru
 cases ru2
 obtain⟨its,rv,p1,lt1⟩:=I1.sq hq1
 obtain⟨its2,rv2,p2,lt2⟩:=I1.sq hq2
 refine za4 p1 p2 λh2 hz hTI hTO hi1 hi2 hk=>wpAny_pyIter_zip hz ?_
 have hn:∀ b,s1.heap.objs.size<=b->zag X pins H1 b:=λb hb=>I1.fpOk hb (I1.hok.fresh hb)
 have ap:zgh (s1.heap.objs.size+4) (s1.heap.objs.size+2) (s1.heap.objs.size+3) s1.heap.objs.size (s1.heap.objs.size+1) [s1.heap.objs.size,l1] [s1.heap.objs.size+1,l2]:=by
  have q1:l1≠s1.heap.objs.size:=Nat.ne_of_lt lt1
  have q2:∀ j:Nat,s1.heap.objs.size+j≠l1:=λj e=>Nat.lt_irrefl _ (Nat.lt_of_lt_of_le (by rw[<-e]at lt1;exact lt1) (Nat.le_add_right _ _))
  have q3:∀ j:Nat,s1.heap.objs.size+j≠l2:=λj e=>Nat.lt_irrefl _ (Nat.lt_of_lt_of_le (by rw[<-e]at lt2;exact lt2) (Nat.le_add_right _ _))
  have ne:∀ i j:Nat,i≠j->s1.heap.objs.size+i≠s1.heap.objs.size+j:=λi j h e=>h (Nat.add_left_cancel e)
  have n0:∀ i:Nat,i≠0->s1.heap.objs.size+i≠s1.heap.objs.size:=λi h e=>h (Nat.add_left_cancel (n:=s1.heap.objs.size) (m:=i) (k:=0) e)
  refine⟨?_,?_,?_,?_,?_,?_,?_⟩
  .simp only[List.nodup_cons,List.mem_cons,List.not_mem_nil,or_false,not_or,not_false_eq_true,List.nodup_nil,and_true]
   exact⟨⟨ne 4 2 (by decide),ne 4 3 (by decide),n0 4 (by decide),ne 4 1 (by decide)⟩,⟨ne 2 3 (by decide),n0 2 (by decide),ne 2 1 (by decide)⟩,⟨n0 3 (by decide),ne 3 1 (by decide)⟩,Ne.symm (n0 1 (by decide))⟩
  .simp only[List.mem_cons,List.not_mem_nil,or_false,not_or];exact⟨n0 4 (by decide),q2 4⟩
  .simp only[List.mem_cons,List.not_mem_nil,or_false,not_or];exact⟨ne 4 1 (by decide),q3 4⟩
  .simp only[List.mem_cons,List.not_mem_nil,or_false,not_or];exact⟨n0 3 (by decide),q2 3⟩
  .simp only[List.mem_cons,List.not_mem_nil,or_false,not_or];exact⟨ne 3 1 (by decide),q3 3⟩
  .simp only[List.mem_cons,List.not_mem_nil,or_false,not_or];exact⟨Ne.symm (n0 1 (by decide)),q3 0⟩
  .simp only[List.mem_cons,List.not_mem_nil,or_false,not_or];exact⟨n0 1 (by decide),q2 1⟩
 refine⟨_,_,_,_,H1,rfl,I1.kept (t':=s1.toks) hk,zgi b1 b2 l1 l2 _ _ _ _ _ ap (Nat.ne_of_lt lt1) (Nat.ne_of_lt (Nat.lt_succ_of_lt lt2)),⟨hz,hTI,⟨_,_,hTO⟩,hi1,hi2⟩,λb hb=>?_,q⟩
 simp only[List.mem_cons,List.not_mem_nil,or_false]at hb
 rcases hb with rfl | rfl | rfl | rfl | rfl
 .exact hn _ (Nat.le_add_right _ _)
 .exact hn _ (Nat.le_add_right _ _)
 .exact hn _ (Nat.le_add_right _ _)
 .exact hn _ (Nat.le_refl _)
 .exact hn _ (Nat.le_add_right _ _)
end L2
namespace OwnSort
open PySem PyProof.Rows
section pure
variable {κ:KeyKind}{xs:Array Keyed}
theorem turned {n:Nat}(hn:n<=xs.size)(h:NonIncK κ xs n):SortedToK κ (mirror xs 0 n ((n - 0) / 2)) n:=λi j hij hj=>by
 rw[KK_mirror hn,KK_mirror hn,if_pos ⟨by omega,by omega⟩,if_pos ⟨by omega,by omega⟩]
 exact h _ _ (by omega) (by omega)
end pure
noncomputable abbrev Pr:=Int × Int
noncomputable def bltP (s t:Pr):Bool:=decide (s.1 < t.1\/(s.1=t.1/\s.2 < t.2))
noncomputable def TP (h:Heap) (v:Value) (t:Pr):Prop:=∃ a o n tx ty,v=.ref a/\h.get? a=some o/\o.cls=.type "tuple"/\o.data=.seq #[.int t.1 tx,.int t.2 ty] n
theorem TP.uniq {h:Heap}{v:Value}{s t:Pr}(x:TP h v s)(y:TP h v t):s=t:=by
 obtain⟨a,o,n,tx,ty,rfl,e1,_,d1⟩:=x
 obtain⟨b,o2,n2,ux,uy,e,e2,_,d2⟩:=y
 cases e
 rw[e1]at e2
 cases e2
 rw[d1]at d2
 injection d2 with d2 _
 have:=congrArg Array.toList d2
 simp at this
 exact Prod.ext this.1.1 this.2.1
open Classical in
noncomputable def keyP (h:Heap)(v:Value):Option Pr:=if x:∃ t,TP h v t then some x.choose else none
theorem keyP_of {h:Heap}{v:Value}{t:Pr}(x:TP h v t):keyP h v=some t:=by
 unfold keyP
 have y:∃ t,TP h v t:=⟨t,x⟩
 rw[dif_pos y,y.choose_spec.uniq x]
@[reducible] noncomputable def kindP (h:Heap):KeyKind where
 α:=Pr
 blt:=bltP
 irrefl a:=by unfold bltP;exact decide_eq_false (by omega)
 trans a b c h1 h2:=by unfold bltP at *;rw[decide_eq_true_eq]at *;omega
 negTrans a b c h:=by unfold bltP at *;rw[decide_eq_true_eq]at *;rw[decide_eq_true_eq];omega
 total a b h1 h2:=by
  unfold bltP at *
  rw[decide_eq_false_iff_not]at *
  exact Prod.ext (by omega) (by omega)
 keyOf:=keyP h
 dflt:=(0,0)
theorem zfy (b:Bool)(x y:Value):keyLt' (tuples' b) x y=(do
 let xs<-Builtin.List.listItems x
 let ys<-Builtin.List.listItems y
 for ((p,q),i)in (xs.toList.zip ys.toList).zipIdx do
  if !(<- eqBool p q)then return<-oneLt' (b&&i == 0) p q
 return xs.size < ys.size):=rfl
theorem zeG (v:Value):firstOfTuple' v=(do
 if (<- typeOf v) != .type "tuple" then return none
 return (<- Builtin.List.listItems v)[0]?):=rfl
section
variable {prog:Program}{w:World}{A:Around}{E:Value->Shared->Prop}{s:Shared}
theorem lt0 {a b:Int}{t u:Tok}{Q:Bool->Shared->Prop}(h:Q (decide (a < b)) s):wpAny (model prog w) A (oneLt' false (.int a t) (.int b u)) Q E s:=by
 rw[oneLt'_eq]
 rw[if_neg Bool.false_ne_true]
 exact wpAny_bind (PyProof.Rows.lt_int (wpAny_truthy_bool h))
theorem zb3:∀ {fs:List Value},(∀ f∈fs,∃ i t,f=.int i t)->fs.mapM typeOf=pure (fs.map λ_=>Value.type "int")
 | [],_=>by simp
 | f::fs,h=>by
  obtain⟨i,t,rfl⟩:=h f List.mem_cons_self
  rw[List.mapM_cons,zb3 λg hg=>h g (List.mem_cons_of_mem _ hg),show typeOf (.int i t)=pure (.type "int")from rfl]
  simp
end
end OwnSort
namespace OwnTim
open PySem PyProof.Rows
noncomputable abbrev SM:=StateT SortSt Sem
noncomputable def gal:Bool->Keyed->Array Keyed->Nat->Nat->Nat->SM (Option Nat):=sortPriv% PySem.Builtin.gallop
noncomputable def bey (l:Bool)(q:Keyed)(v:Array Keyed)(b i:Nat):SM (Option Bool):=do
 let x<-elem' v (b+i)
 if l then lt' x q else
  return (<- lt' q x).map (!·)
noncomputable def zcg (l:Bool)(q:Keyed)(v:Array Keyed)(b n x0 y0:Nat):SM (Option Nat):=do
 let mut x:=x0
 let mut y:=y0
 for _ in [0:n] do
  if x >= y then break
  let c:=x+(y - x) / 2
  let some z<-bey l q v b c | return none
  if z then x:=c+1 else y:=c
 return some y
theorem zjx (l:Bool)(q:Keyed)(v:Array Keyed)(b n t:Nat):gal l q v b n t=(do
 let some r<-bey l q v b t | return none
 let mut u:=0
 let mut o:=1
 if r then
  let w:=n - t
  for _ in [0:n] do
   if o >= w then break
   let some z<-bey l q v b (t+o) | return none
   if !z then break
   u:=o
   o:=2*o+1
  zcg l q v b n (t+u+1) (t+min o w)
 else
  let w:=t+1
  for _ in [0:n] do
   if o >= w then break
   let some z<-bey l q v b (t - o) | return none
   if z then break
   u:=o
   o:=2*o+1
  zcg l q v b n (t+1 - min o w) (t - u)):=rfl
section
variable {prog:Program}{w:World}{A:Around}{E:Value->Shared->Prop}{s:Shared}{st:SortSt}
theorem zeD {l:Bool}{q:Keyed}{v:Array Keyed}{b n t:Nat}{f:Nat->Bool}{P:Option Nat->SortSt->Prop}(BY:∀ i,i < n->∀ Q:Option Bool->SortSt->Prop,Q (some (f i)) st->wpS (model prog w) A E s (bey l q v b i) Q st)
 (hm:∀ i j,i<=j->j < n->f j=true->f i=true) (ht:t < n) (h:∀ k,k<=n->(∀ i,i < k->f i=true)->(∀ i,k<=i->i < n->f i=false)->P (some k) st):wpS (model prog w) A E s (gal l q v b n t) P st:=by
 have hm':∀ i j,i<=j->j < n->f i=false->f j=false:=λi j hij hj hf=>by
  cases e:f j with
  | false=>rfl
  | true=>rw[hm i j hij hj e]at hf;cases hf
 rw[zjx]
 dsimp only
 have last:∀ x y:Nat,x<=y->y<=n->(∀ i,i < x->f i=true)->(∀ i,y<=i->i < n->f i=false)->wpS (model prog w) A E s (zcg l q v b n x y) P st:=λx y hxy hy h1 h2=>by
  unfold zcg
  dsimp only
  refine wpS_bind (wpS_mono (wpS_forRange (I:=λi c t'=>t'=st/\∃ x y,c=(none,x,y)/\x<=y/\y<=n/\y - x<=n - i/\(∀ i,i < x->f i=true)/\∀ i,y<=i->i < n->f i=false) (Q:=λc t'=>t'=st/\∃ y,c=(none,y,y)/\y<=n/\(∀ i,i < y->f i=true)/\∀ i,y<=i->i < n->f i=false)
   (λi c t' _ hi hI=>?_) (λc t' hI=>?_) ⟨rfl,x,y,rfl,hxy,hy,by omega,h1,h2⟩) λc t' hI=>?_)
  .obtain⟨rfl,x,y,rfl,a1,a2,a3,a4,a5⟩:=hI
   dsimp only
   by_cases c1:x >= y
   .rw[if_pos c1]
    obtain rfl:x=y:=by omega
    exact wpS_pure ⟨rfl,x,rfl,a2,a4,a5⟩
   .rw[if_neg c1]
    obtain⟨c,hc⟩:∃ c,x+(y - x) / 2=c:=⟨_,rfl⟩
    rw[hc]
    have c2:x<=c/\c < y:=by omega
    refine wpS_bind (BY c (by omega) _ ?_)
    dsimp only
    cases e:f c with
    | true =>
     rw[if_pos rfl]
     exact wpS_pure ⟨rfl,c+1,y,rfl,by omega,a2,by omega,λj hj=>hm j c (by omega) (by omega) e,a5⟩
    | false =>
     rw[if_neg Bool.false_ne_true]
     exact wpS_pure ⟨rfl,x,c,rfl,by omega,by omega,by omega,a4,λj hj hn=>hm' c j hj hn e⟩
  .obtain⟨rfl,x,y,rfl,a1,a2,a3,a4,a5⟩:=hI
   obtain rfl:x=y:=by omega
   exact⟨rfl,x,rfl,a2,a4,a5⟩
  .obtain⟨rfl,y,rfl,a2,a4,a5⟩:=hI
   exact wpS_pure (h y a2 a4 a5)
 refine wpS_bind (BY t ht _ ?_)
 dsimp only
 cases e:f t with
 | true =>
  rw[if_pos rfl]
  refine wpS_bind (wpS_mono (wpS_forRange (I:=λi c t'=>t'=st/\∃ u o,c=(none,u,o)/\t+u < n/\u+1<=o/\i+1<=o/\f (t+u)=true) (Q:=λc t'=>t'=st/\∃ u o,c=(none,u,o)/\t+u < n/\u+1<=o/\f (t+u)=true/\(n - t<=o\/(t+o < n/\f (t+o)=false)))
   (λi c t' _ hi hI=>?_) (λc t' hI=>?_) ⟨rfl,0,1,rfl,ht,by omega,by omega,e⟩) λc t' hI=>?_)
  .obtain⟨rfl,u,o,rfl,a1,a2,a3,a4⟩:=hI
   dsimp only
   by_cases c1:o >= n - t
   .rw[if_pos c1]
    exact wpS_pure ⟨rfl,u,o,rfl,a1,a2,a4,.inl c1⟩
   .rw[if_neg c1]
    refine wpS_bind (BY (t+o) (by omega) _ ?_)
    dsimp only
    cases e2:f (t+o) with
    | false=>exact wpS_pure ⟨rfl,u,o,rfl,a1,a2,a4,.inr ⟨by omega,e2⟩⟩
    | true=>exact wpS_pure ⟨rfl,o,2*o+1,rfl,by omega,by omega,by omega,e2⟩
  .obtain⟨rfl,u,o,rfl,a1,a2,a3,a4⟩:=hI
   exact⟨rfl,u,o,rfl,a1,a2,a4,.inl (by omega)⟩
  .obtain⟨rfl,u,o,rfl,a1,a2,a4,a5⟩:=hI
   have e3:min o (n - t)<=n - t:=Nat.min_le_right _ _
   have e5:u+1<=min o (n - t):=Nat.le_min.mpr ⟨a2,by omega⟩
   have e6:(min o (n - t)=n - t/\n - t<=o)\/(min o (n - t)=o/\t+o < n/\f (t+o)=false):=by
    rcases a5 with a5 | a5
    .exact .inl ⟨Nat.min_eq_right a5,a5⟩
    .exact .inr ⟨Nat.min_eq_left (by omega),a5⟩
   dsimp only
   refine last (t+u+1) (t+min o (n - t)) (by omega) (by omega) (λi hi=>hm i (t+u) (by omega) a1 a4) λi hi hn=>?_
   rcases e6 with ⟨a5,_⟩ | ⟨a5,a6,a7⟩
   .rw[a5]at hi
    omega
   .rw[a5]at hi
    exact hm' (t+o) i hi hn a7
 | false =>
  rw[if_neg Bool.false_ne_true]
  refine wpS_bind (wpS_mono (wpS_forRange (I:=λi c t'=>t'=st/\∃ u o,c=(none,u,o)/\u<=t/\u+1<=o/\i+1<=o/\f (t - u)=false) (Q:=λc t'=>t'=st/\∃ u o,c=(none,u,o)/\u<=t/\u+1<=o/\f (t - u)=false/\(t+1<=o\/(o<=t/\f (t - o)=true)))
   (λi c t' _ hi hI=>?_) (λc t' hI=>?_) ⟨rfl,0,1,rfl,by omega,by omega,by omega,e⟩) λc t' hI=>?_)
  .obtain⟨rfl,u,o,rfl,a1,a2,a3,a4⟩:=hI
   dsimp only
   by_cases c1:o >= t+1
   .rw[if_pos c1]
    exact wpS_pure ⟨rfl,u,o,rfl,a1,a2,a4,.inl c1⟩
   .rw[if_neg c1]
    refine wpS_bind (BY (t - o) (by omega) _ ?_)
    dsimp only
    cases e2:f (t - o) with
    | true=>exact wpS_pure ⟨rfl,u,o,rfl,a1,a2,a4,.inr ⟨by omega,e2⟩⟩
    | false=>exact wpS_pure ⟨rfl,o,2*o+1,rfl,by omega,by omega,by omega,e2⟩
  .obtain⟨rfl,u,o,rfl,a1,a2,a3,a4⟩:=hI
   exact⟨rfl,u,o,rfl,a1,a2,a4,.inl (by omega)⟩
  .obtain⟨rfl,u,o,rfl,a1,a2,a4,a5⟩:=hI
   have e3:min o (t+1)<=t+1:=Nat.min_le_right _ _
   have e5:u+1<=min o (t+1):=Nat.le_min.mpr ⟨a2,by omega⟩
   have e6:min o (t+1)=t+1\/(min o (t+1)=o/\o<=t/\f (t - o)=true):=by
    rcases a5 with a5 | a5
    .exact .inl (Nat.min_eq_right a5)
    .exact .inr ⟨Nat.min_eq_left (by omega),a5⟩
   dsimp only
   refine last (t+1 - min o (t+1)) (t - u) (by omega) (by omega) (λi hi=>?_) λi hi hn=>hm' (t - u) i hi hn a4
   rcases e6 with a5 | ⟨a5,a6,a7⟩
   .rw[a5]at hi
    omega
   .rw[a5]at hi
    exact hm i (t - o) (by omega) (by omega) a7
end
structure WI {α:Type} (R:α->α->Prop) (xs ys o:List α) (i j:Nat):Prop where
 pi:i<=xs.length
 pj:j<=ys.length
 pm:o.Perm (xs.take i++ys.take j)
 so:o.Pairwise R
 bx:∀ z∈o,∀ x∈xs.drop i,R z x
 by_:∀ z∈o,∀ y∈ys.drop j,R z y
section
variable {α:Type}{R:α->α->Prop}{xs ys o:List α}{i j k:Nat}
theorem WI.swap (w:WI R xs ys o i j):WI R ys xs o j i:=⟨w.pj,w.pi,w.pm.trans List.perm_append_comm,w.so,w.by_,w.bx⟩
theorem WI.runA (w:WI R xs ys o i j)(sx:xs.Pairwise R)(hk:i+k<=xs.length)(h:∀ x∈(xs.drop i).take k,∀ y∈ys.drop j,R x y):WI R xs ys (o++(xs.drop i).take k) (i+k) j:=by
 have hs:(xs.drop i).Pairwise R:=sx.sublist (List.drop_sublist _ _)
 have hd:xs.drop (i+k)=(xs.drop i).drop k:=by rw[List.drop_drop]
 refine⟨hk,w.pj,?_,?_,λz hz x hx=>?_,λz hz y hy=>?_⟩
 .rw[List.take_add]
  refine(w.pm.append_right _).trans ?_
  rw[List.append_assoc,List.append_assoc]
  exact List.Perm.append_left _ List.perm_append_comm
 .rw[List.pairwise_append]
  exact⟨w.so,hs.sublist (List.take_sublist _ _),λa ha b hb=>w.bx a ha b (List.mem_of_mem_take hb)⟩
 .rw[hd]at hx
  rcases List.mem_append.mp hz with hz | hz
  .exact w.bx z hz x (List.mem_of_mem_drop hx)
  .have e:=List.take_append_drop k (xs.drop i)
   rw[<-e,List.pairwise_append]at hs
   exact hs.2.2 z hz x hx
 .rcases List.mem_append.mp hz with hz | hz
  .exact w.by_ z hz y hy
  .exact h z hz y hy
theorem WI.runB (w:WI R xs ys o i j)(sy:ys.Pairwise R)(hk:j+k<=ys.length)(h:∀ y∈(ys.drop j).take k,∀ x∈xs.drop i,R y x):WI R xs ys (o++(ys.drop j).take k) i (j+k):=(w.swap.runA sy hk h).swap
theorem zlc {l:List α}{x:α}{i:Nat}(h:l[i]?=some x):(l.drop i).take 1=[x]:=by
 obtain⟨hi,rfl⟩:=List.getElem?_eq_some_iff.mp h
 rw[List.drop_eq_getElem_cons hi]
 rfl
theorem WI.pushA {x:α}(w:WI R xs ys o i j)(sx:xs.Pairwise R)(hx:xs[i]?=some x)(h:∀ y∈ys.drop j,R x y):WI R xs ys (o++[x]) (i+1) j:=by
 have hi:=(List.getElem?_eq_some_iff.mp hx).1
 have:=w.runA (k:=1) sx (by omega) (by rw[zlc hx];intro z hz y hy;rw[List.mem_singleton.mp hz];exact h y hy)
 rw[zlc hx]at this
 exact this
theorem WI.pushB {y:α}(w:WI R xs ys o i j)(sy:ys.Pairwise R)(hy:ys[j]?=some y)(h:∀ x∈xs.drop i,R y x):WI R xs ys (o++[y]) i (j+1):=(w.swap.pushA sy hy h).swap
theorem WI.done (w:WI R xs ys o i j)(sx:xs.Pairwise R)(sy:ys.Pairwise R)(h:∀ x∈xs.drop i,∀ y∈ys.drop j,R x y):(o++xs.drop i++ys.drop j).Perm (xs++ys)/\(o++xs.drop i++ys.drop j).Pairwise R:=by
 constructor
 .have e1:=List.take_append_drop i xs
  have e2:=List.take_append_drop j ys
  have p:(o++xs.drop i++ys.drop j).Perm (xs.take i++ys.take j++xs.drop i++ys.drop j):=(w.pm.append_right _).append_right _
  refine p.trans ?_
  have q:(xs.take i++ys.take j++xs.drop i++ys.drop j).Perm (xs.take i++xs.drop i++(ys.take j++ys.drop j)):=by
   rw[List.append_assoc (xs.take i),List.append_assoc (xs.take i),List.append_assoc (xs.take i)]
   refine List.Perm.append_left _ ?_
   rw[<-List.append_assoc]
   exact List.perm_append_comm.append_right _
  rw[e1,e2]at q
  exact q
 .rw[List.pairwise_append,List.pairwise_append]
  refine⟨⟨w.so,sx.sublist (List.drop_sublist _ _),w.bx⟩,sy.sublist (List.drop_sublist _ _),λa ha b hb=>?_⟩
  rcases List.mem_append.mp ha with ha | ha
  .exact w.by_ a ha b hb
  .exact h a ha b hb
theorem X4 (hr:∀ a:α,R a a)(sx:xs.Pairwise R){x:α}(hx:xs[i]?=some x):∀ z∈xs.drop i,R x z:=by
 obtain⟨hi,rfl⟩:=List.getElem?_eq_some_iff.mp hx
 intro z hz
 have hs:(xs.drop i).Pairwise R:=sx.sublist (List.drop_sublist _ _)
 rw[List.drop_eq_getElem_cons hi]at hs hz
 rcases List.mem_cons.mp hz with rfl | hz
 .exact hr _
 .exact(List.pairwise_cons.mp hs).1 z hz
end
noncomputable def mlo:Array Keyed->Array Keyed->SM (Array Keyed):=sortPriv% PySem.Builtin.mergeLo
noncomputable def zap:Nat->SM Unit:=sortPriv% PySem.Builtin.setMinGallop
theorem zgd (g:Nat):zap g=modify λs=>SortSt.mk' (kindOf s) (arrOf s) (pendingOf s) g (failedOf s):=rfl
noncomputable abbrev KA:=Array Keyed
noncomputable abbrev Z1:=Option KA × KA × Nat × Nat × Nat × Nat
noncomputable abbrev Z2:=Option KA × KA × Nat × Nat × Nat × Nat × Nat
noncomputable abbrev Z3:=Option KA × KA × Nat × Nat × Nat
noncomputable abbrev dn (v u o:KA)(i j:Nat):KA:=o++v.extract i v.size++u.extract j u.size
noncomputable abbrev ls (v u o:KA)(i j:Nat):KA:=o++u.extract j u.size++v.extract i v.size
noncomputable def zle (v u:KA)(g:Nat)(z:Z1):SM (ForInStep Z1):=do
 let e<-elem' u z.2.2.2.1
 let f<-elem' v z.2.2.1
 let some b<-lt' e f | pure (.done (some (dn v u z.2.1 z.2.2.1 z.2.2.2.1),z.2.1,z.2.2.1,z.2.2.2.1,z.2.2.2.2.1,z.2.2.2.2.2))
 if b=true then do
  let e<-elem' u z.2.2.2.1
  if (z.2.2.2.1+1 == u.size)=true then pure (.done (some (dn v u (z.2.1.push e) z.2.2.1 (z.2.2.2.1+1)),z.2.1.push e,z.2.2.1,z.2.2.2.1+1,0,z.2.2.2.2.2+1))
  else if z.2.2.2.2.2+1 >= g then pure (.done (none,z.2.1.push e,z.2.2.1,z.2.2.2.1+1,0,z.2.2.2.2.2+1))
  else pure (.yield (none,z.2.1.push e,z.2.2.1,z.2.2.2.1+1,0,z.2.2.2.2.2+1))
 else do
  let f<-elem' v z.2.2.1
  if (z.2.2.1+1+1 == v.size)=true then pure (.done (some (ls v u (z.2.1.push f) (z.2.2.1+1) z.2.2.2.1),z.2.1.push f,z.2.2.1+1,z.2.2.2.1,z.2.2.2.2.1+1,0))
  else if z.2.2.2.2.1+1 >= g then pure (.done (none,z.2.1.push f,z.2.2.1+1,z.2.2.2.1,z.2.2.2.2.1+1,0))
  else pure (.yield (none,z.2.1.push f,z.2.2.1+1,z.2.2.2.1,z.2.2.2.2.1+1,0))
noncomputable def loC (v u o:KA)(i j g c d:Nat):SM (ForInStep Z2):=do
 let f<-elem' v i
 if (i+1+1 == v.size)=true then pure (.done (some (ls v u (o.push f) (i+1) j),o.push f,i+1,j,g,c,d))
 else if (decide (c < 7)&&decide (d < 7))=true then pure (.done (none,o.push f,i+1,j,g,c,d))
 else pure (.yield (none,o.push f,i+1,j,g,c,d))
noncomputable def loB (v u o:KA)(i j g c d:Nat):SM (ForInStep Z2):=do
 let e<-elem' u j
 if (j+1 == u.size)=true then pure (.done (some (dn v u (o.push e) i (j+1)),o.push e,i,j+1,g,c,d))
 else do
  let f<-elem' v i
  let some k<-gal true f u (j+1) (u.size - (j+1)) 0 | pure (.done (some (dn v u (o.push e) i (j+1)),o.push e,i,j+1,g,c,d))
  if k > 0 then
   if (j+1+k == u.size)=true then pure (.done (some (dn v u (o.push e++u.extract (j+1) (j+1+k)) i (j+1+k)),o.push e++u.extract (j+1) (j+1+k),i,j+1+k,g,c,k))
   else loC v u (o.push e++u.extract (j+1) (j+1+k)) i (j+1+k) g c k
  else loC v u (o.push e) i (j+1) g c k
noncomputable def loA (v u o:KA)(i j g c d:Nat):SM (ForInStep Z2):=do
 zap g
 let e<-elem' u j
 let some k<-gal false e v i (v.size - i) 0 | pure (.done (some (dn v u o i j),o,i,j,g,c,d))
 if k > 0 then
  if (i+k+1 == v.size)=true then pure (.done (some (ls v u (o++v.extract i (i+k)) (i+k) j),o++v.extract i (i+k),i+k,j,g,k,d))
  else if (i+k == v.size)=true then pure (.done (some (dn v u (o++v.extract i (i+k)) (i+k) j),o++v.extract i (i+k),i+k,j,g,k,d))
  else loB v u (o++v.extract i (i+k)) (i+k) j g k d
 else loB v u o i j g k d
noncomputable def zlm (v u:KA)(z:Z2):SM (ForInStep Z2) :=
 if z.2.2.2.2.1 > 1 then loA v u z.2.1 z.2.2.1 z.2.2.2.1 (z.2.2.2.2.1 - 1) z.2.2.2.2.2.1 z.2.2.2.2.2.2
 else loA v u z.2.1 z.2.2.1 z.2.2.2.1 z.2.2.2.2.1 z.2.2.2.2.2.1 z.2.2.2.2.2.2
noncomputable def zlp (v u:KA)(z:Z3):SM (ForInStep Z3):=do
 let y<-forIn [0:v.size+u.size] ((none,z.2.1,z.2.2.1,z.2.2.2.1,0,0):Z1) λ_ q=>zle v u z.2.2.2.2 q
 match y.1 with
 | some r=>pure (.done (some r,y.2.1,y.2.2.1,y.2.2.2.1,z.2.2.2.2))
 | none=>do
  rule "list.sort.gallop"
  let x<-forIn [0:v.size+u.size] ((none,y.2.1,y.2.2.1,y.2.2.2.1,z.2.2.2.2+1,y.2.2.2.2.1,y.2.2.2.2.2):Z2) λ_ q=>zlm v u q
  match x.1 with
  | some r=>pure (.done (some r,x.2.1,x.2.2.1,x.2.2.2.1,x.2.2.2.2.1))
  | none=>do
   zap (x.2.2.2.2.1+1)
   pure (.yield (none,x.2.1,x.2.2.1,x.2.2.2.1,x.2.2.2.2.1+1))
theorem zjG (v u:KA):mlo v u=(do
 rule "list.sort.merge-lo"
 let e<-elem' u 0
 if (1 == u.size)=true then pure (dn v u #[e] 0 1)
 else if (0+1 == v.size)=true then pure (ls v u #[e] 0 1)
 else do
  let g<-get
  let z<-forIn [0:v.size+u.size] ((none,#[e],0,1,gallopOf g):Z3) λ_ q=>zlp v u q
  match z.1 with
  | some r=>pure r
  | none=>(unsupported ("internal:list.sort.merge-bound"))):=by
 show @bind SM _ _ _ _ _=_
 dsimp only[zlp,zlm,loA,loB,loC,zle,elem',lt',gal,zap,gallopOf]
 congr 1;funext _;congr 1;funext e
 congr 1;congr 1;congr 1;funext g;congr 1
 .congr 1;funext _ z;congr 1
  funext x
  obtain⟨r,x⟩:=x
  cases r with
  | some r=>rfl
  | none =>
   dsimp only
   congr 1;funext _;congr 1
   funext y;obtain⟨r,y⟩:=y;cases r <;> rfl
 .funext y;obtain⟨r,y⟩:=y;cases r <;> rfl
noncomputable def ky (κ:KeyKind)(x:Keyed):κ.α:=(κ.keyOf x.1).getD κ.dflt
noncomputable def LE (κ:KeyKind)(x y:Keyed):Prop:=κ.kle (ky κ x) (ky κ y)
theorem LE.refl {κ:KeyKind}(x:Keyed):LE κ x x:=KeyOrd.kle_refl _
theorem LE.trans {κ:KeyKind}{x y z:Keyed}(h:LE κ x y)(h2:LE κ y z):LE κ x z:=KeyOrd.kle_trans h h2
noncomputable def LtE (prog:Program)(w:World)(A:Around)(E:Value->Shared->Prop)(s:Shared)(κ:KeyKind)(k:SortKind)(D:Keyed->Prop):Prop :=
 ∀ (st:SortSt) (x y:Keyed) (Q:Option Bool->SortSt->Prop),kindOf st=k->D x->D y->Q (some (κ.blt (ky κ x) (ky κ y))) st->wpS (model prog w) A E s (lt' x y) Q st
structure Sm (st t:SortSt):Prop where
 kd:kindOf t=kindOf st
 ar:arrOf t=arrOf st
 pd:pendingOf t=pendingOf st
 fl:failedOf t=failedOf st
theorem Sm.refl (st:SortSt):Sm st st:=⟨rfl,rfl,rfl,rfl⟩
theorem Sm.trans {a b c:SortSt}(h:Sm a b)(h2:Sm b c):Sm a c:=⟨h2.kd.trans h.kd,h2.ar.trans h.ar,h2.pd.trans h.pd,h2.fl.trans h.fl⟩
section
variable {prog:Program}{w:World}{A:Around}{E:Value->Shared->Prop}{s:Shared}{st:SortSt}{κ:KeyKind}{k:SortKind}{D:Keyed->Prop}
theorem zU {v:KA}{i:Nat}{x:Keyed}{Q:Keyed->SortSt->Prop}(h:v.toList[i]?=some x)(q:Q x st):wpS (model prog w) A E s (elem' v i) Q st:=by
 rw[elem'_eq,show v[i]?=some x by rw[<-h];simp]
 exact wpS_pure q
theorem ZZ {g:Nat}{Q:Unit->SortSt->Prop}(h:∀ t,Sm st t->Q () t):wpS (model prog w) A E s (zap g) Q st:=by
 rw[zgd]
 exact wpS_modify (h _ ⟨rfl,rfl,rfl,rfl⟩)
theorem Z8 {xs:List Keyed}{b n i:Nat}(hi:i < n)(hn:b+n<=xs.length):∃ x,xs[b+i]?=some x/\((xs.drop b).take n)[i]?=some x:=by
 have:b+i < xs.length:=by omega
 refine⟨xs[b+i],List.getElem?_eq_getElem this,?_⟩
 rw[List.getElem?_take_of_lt hi,List.getElem?_drop,List.getElem?_eq_getElem this]
theorem Yc {α:Type}{l:List α}{k:Nat}{x:α}(h:x∈l.take k):∃ i,i < k/\l[i]?=some x:=by
 obtain⟨i,hi⟩:=List.mem_iff_getElem?.mp h
 by_cases c:i < k
 .exact⟨i,c,by rw[<-hi,List.getElem?_take_of_lt c]⟩
 .rw[List.getElem?_eq_none (by rw[List.length_take];omega)]at hi
  cases hi
theorem Zm {α:Type}{l:List α}{k:Nat}{x:α}(h:x∈l.drop k):∃ i,k<=i/\l[i]?=some x:=by
 obtain⟨i,hi⟩:=List.mem_iff_getElem?.mp h
 rw[List.getElem?_drop]at hi
 exact⟨k+i,by omega,hi⟩
theorem VP {l:List Keyed}(sx:l.Pairwise (LE κ)){i j:Nat}{x y:Keyed}(hij:i<=j)(hx:l[i]?=some x)(hy:l[j]?=some y):LE κ x y:=by
 by_cases e:i=j
 .subst e
  rw[hx]at hy
  cases hy
  exact LE.refl _
 .obtain⟨h1,rfl⟩:=List.getElem?_eq_some_iff.mp hx
  obtain⟨h2,rfl⟩:=List.getElem?_eq_some_iff.mp hy
  exact List.pairwise_iff_getElem.mp sx i j h1 h2 (by omega)
theorem VD {q:Keyed}{v:KA}{b n t:Nat}{P:Option Nat->SortSt->Prop}(L:LtE prog w A E s κ k D)(hk:kindOf st=k)(hq:D q)(hd:∀ x∈(v.toList.drop b).take n,D x)(hn:b+n<=v.toList.length)(ht:t < n)(sx:((v.toList.drop b).take n).Pairwise (LE κ))
 (h:∀ m,m<=n->(∀ x∈((v.toList.drop b).take n).take m,LE κ x q)->(∀ x∈((v.toList.drop b).take n).drop m,κ.klt (ky κ q) (ky κ x))->P (some m) st):wpS (model prog w) A E s (gal false q v b n t) P st:=by
 let f:Nat->Bool:=λi=>match ((v.toList.drop b).take n)[i]? with
  | some x=>!(κ.blt (ky κ q) (ky κ x))
  | none=>false
 have fx:∀ {i x},((v.toList.drop b).take n)[i]?=some x->f i=!(κ.blt (ky κ q) (ky κ x)):=λ{i x} e=>by show(match ((v.toList.drop b).take n)[i]? with | some x=>!(κ.blt (ky κ q) (ky κ x)) | none=>false)=_;rw[e]
 refine zeD (f:=f) (λi hi Q hQ=>?_) (λi j hij hj hf=>?_) ht λm hm h1 h2=>h m hm (λx hx=>?_) λx hx=>?_
 .obtain⟨x,e1,e2⟩:=Z8 hi hn
  rw[fx e2]at hQ
  unfold bey
  refine wpS_bind (zU e1 ?_)
  rw[if_neg Bool.false_ne_true]
  exact wpS_bind (L _ _ _ _ hk hq (hd x (List.mem_of_getElem? e2)) (wpS_pure hQ))
 .obtain⟨x,_,e1⟩:=Z8 (i:=i) (by omega) hn
  obtain⟨y,_,e2⟩:=Z8 hj hn
  rw[fx e2,Bool.not_eq_true']at hf
  rw[fx e1,Bool.not_eq_true']
  exact LE.trans (κ:=κ) (y:=y) (VP sx hij e1 e2) hf
 .obtain⟨i,hi,e⟩:=Yc hx
  have:=h1 i hi
  rw[fx e,Bool.not_eq_true']at this
  exact this
 .obtain⟨i,hi,e⟩:=Zm hx
  have hil:i < n:=by
   have:=(List.getElem?_eq_some_iff.mp e).1
   rw[List.length_take]at this
   omega
  have:=h2 i hi hil
  rw[fx e,Bool.not_eq_false']at this
  exact this
theorem Vv {q:Keyed}{v:KA}{b n t:Nat}{P:Option Nat->SortSt->Prop}(L:LtE prog w A E s κ k D)(hk:kindOf st=k)(hq:D q)(hd:∀ x∈(v.toList.drop b).take n,D x)(hn:b+n<=v.toList.length)(ht:t < n)(sx:((v.toList.drop b).take n).Pairwise (LE κ))
 (h:∀ m,m<=n->(∀ x∈((v.toList.drop b).take n).take m,κ.klt (ky κ x) (ky κ q))->(∀ x∈((v.toList.drop b).take n).drop m,LE κ q x)->P (some m) st):wpS (model prog w) A E s (gal true q v b n t) P st:=by
 let f:Nat->Bool:=λi=>match ((v.toList.drop b).take n)[i]? with
  | some x=>κ.blt (ky κ x) (ky κ q)
  | none=>false
 have fx:∀ {i x},((v.toList.drop b).take n)[i]?=some x->f i=κ.blt (ky κ x) (ky κ q):=λ{i x} e=>by show(match ((v.toList.drop b).take n)[i]? with | some x=>κ.blt (ky κ x) (ky κ q) | none=>false)=_;rw[e]
 refine zeD (f:=f) (λi hi Q hQ=>?_) (λi j hij hj hf=>?_) ht λm hm h1 h2=>h m hm (λx hx=>?_) λx hx=>?_
 .obtain⟨x,e1,e2⟩:=Z8 hi hn
  rw[fx e2]at hQ
  unfold bey
  refine wpS_bind (zU e1 ?_)
  rw[if_pos rfl]
  exact L _ _ _ _ hk (hd x (List.mem_of_getElem? e2)) hq hQ
 .obtain⟨x,_,e1⟩:=Z8 (i:=i) (by omega) hn
  obtain⟨y,_,e2⟩:=Z8 hj hn
  rw[fx e2]at hf
  rw[fx e1]
  exact KeyOrd.klt_of_kle_of_klt (VP sx hij e1 e2) hf
 .obtain⟨i,hi,e⟩:=Yc hx
  have:=h1 i hi
  rw[fx e]at this
  exact this
 .obtain⟨i,hi,e⟩:=Zm hx
  have hil:i < n:=by
   have:=(List.getElem?_eq_some_iff.mp e).1
   rw[List.length_take]at this
   omega
  have:=h2 i hi hil
  rw[fx e]at this
  exact this
end
structure Two (κ:KeyKind) (D:Keyed->Prop) (v u:KA):Prop where
 dv:∀ x∈v.toList,D x
 du:∀ y∈u.toList,D y
 sv:v.toList.Pairwise (LE κ)
 su:u.toList.Pairwise (LE κ)
noncomputable def Fn (κ:KeyKind)(v u r:KA):Prop:=r.toList.Perm (v.toList++u.toList)/\r.toList.Pairwise (LE κ)
structure MI (κ:KeyKind) (v u o:KA) (i j:Nat):Prop where
 li:i+1 < v.size
 lj:j < u.size
 wi:WI (LE κ) v.toList u.toList o.toList i j
section
variable {prog:Program}{w:World}{A:Around}{E:Value->Shared->Prop}{s:Shared}{st:SortSt}{κ:KeyKind}{k:SortKind}{D:Keyed->Prop}{v u o:KA}{i j:Nat}
theorem wC (v:KA)(i j:Nat):(v.extract i j).toList=(v.toList.drop i).take (j - i):=by simp
theorem VW (v:KA)(i:Nat):(v.extract i v.size).toList=v.toList.drop i:=by
 rw[wC,List.take_of_length_le (by rw[List.length_drop,Array.length_toList];omega)]
theorem zaf (T:Two κ D v u)(w:WI (LE κ) v.toList u.toList o.toList i j)(h:j=u.size\/i=v.size):Fn κ v u (dn v u o i j):=by
 have:=w.done T.sv T.su λx hx y hy=>by
  rcases h with rfl | rfl
  .rw[<-Array.length_toList,List.drop_length]at hy;cases hy
  .rw[<-Array.length_toList,List.drop_length]at hx;cases hx
 unfold Fn dn
 rw[Array.toList_append,Array.toList_append,VW,VW]
 exact this
theorem zcM (T:Two κ D v u)(w:WI (LE κ) v.toList u.toList o.toList i j)(hi:i+1=v.size)(top:∀ y∈u.toList,∀ x,v.toList[v.size - 1]?=some x->LE κ y x):Fn κ v u (ls v u o i j):=by
 have:=w.swap.done T.su T.sv λy hy x hx=>by
  refine top y (List.mem_of_mem_drop hy) x ?_
  obtain⟨a,ha,e⟩:=Zm hx
  have hl:=(List.getElem?_eq_some_iff.mp e).1
  rw[Array.length_toList]at hl
  rw[show v.size - 1=a by omega]
  exact e
 unfold Fn ls
 rw[Array.toList_append,Array.toList_append,VW,VW]
 exact⟨this.1.trans List.perm_append_comm,this.2⟩
theorem WL {v:KA}{i:Nat}(h:i < v.size):∃ x,v.toList[i]?=some x:=⟨_,List.getElem?_eq_getElem (by rw[Array.length_toList];exact h)⟩
noncomputable def Ok2 (κ:KeyKind)(v u:KA)(n:Nat)(c:Z2):Prop:=(∃ r,c.1=some r/\Fn κ v u r)\/(c.1=none/\MI κ v u c.2.1 c.2.2.1 c.2.2.2.1/\n<=c.2.2.1+c.2.2.2.1)
noncomputable def Go2 (κ:KeyKind)(v u:KA)(n:Nat):ForInStep Z2->Prop
 | .done c=>Ok2 κ v u n c
 | .yield c=>c.1=none/\MI κ v u c.2.1 c.2.2.1 c.2.2.2.1/\n<=c.2.2.1+c.2.2.2.1
variable {top:∀ y∈u.toList,∀ x,v.toList[v.size - 1]?=some x->LE κ y x}{g c d n:Nat}
theorem ze1 (T:Two κ D v u)(top:∀ y∈u.toList,∀ x,v.toList[v.size - 1]?=some x->LE κ y x)(m:MI κ v u o i j){x:Keyed}(hx:v.toList[i]?=some x)(h:∀ y∈u.toList.drop j,LE κ x y)(hn:n<=i+j):wpS (model prog w) A E s (loC v u o i j g c d) (λr t=>t=st/\Go2 κ v u n r) st:=by
 unfold loC
 refine wpS_bind (zU hx ?_)
 have w':=m.wi.pushA T.sv hx h
 rw[<-Array.toList_push]at w'
 have li:=m.li
 by_cases e:i+1+1=v.size
 .rw[if_pos (beq_iff_eq.mpr e)]
  exact wpS_pure ⟨rfl,.inl ⟨_,rfl,zcM T w' e top⟩⟩
 .rw[if_neg (λz=>e (beq_iff_eq.mp z))]
  have m':MI κ v u (o.push x) (i+1) j:=⟨by omega,m.lj,w'⟩
  split
  .exact wpS_pure ⟨rfl,.inr ⟨rfl,m',by show n<=i+1+j;omega⟩⟩
  .exact wpS_pure ⟨rfl,rfl,m',by show n<=i+1+j;omega⟩
theorem zed (L:LtE prog w A E s κ k D)(hk:kindOf st=k)(T:Two κ D v u)(top:∀ y∈u.toList,∀ x,v.toList[v.size - 1]?=some x->LE κ y x)(m:MI κ v u o i j){y:Keyed}(hy:u.toList[j]?=some y)(h:∀ x∈v.toList.drop i,LE κ y x)(hn:n<=i+j):wpS (model prog w) A E s (loB v u o i j g c d) (λr t=>t=st/\Go2 κ v u n r) st:=by
 unfold loB
 refine wpS_bind (zU hy ?_)
 have w':=m.wi.pushB T.su hy h
 rw[<-Array.toList_push]at w'
 have li:=m.li
 have lj:=m.lj
 by_cases e:j+1=u.size
 .rw[if_pos (beq_iff_eq.mpr e)]
  exact wpS_pure ⟨rfl,.inl ⟨_,rfl,zaf T w' (.inl e)⟩⟩
 .rw[if_neg (λz=>e (beq_iff_eq.mp z))]
  obtain⟨x,hx⟩:=WL (v:=v) (i:=i) (by omega)
  refine wpS_bind (zU hx ?_)
  have hul:u.toList.length=u.size:=Array.length_toList
  have eseg:(u.toList.drop (j+1)).take (u.size - (j+1))=u.toList.drop (j+1):=List.take_of_length_le (by rw[List.length_drop];omega)
  refine wpS_bind (Vv L hk (T.dv x (List.mem_of_getElem? hx)) (λz hz=>T.du z (List.mem_of_mem_drop (List.mem_of_mem_take hz))) (by omega) (by omega) (by rw[eseg];exact T.su.sublist (List.drop_sublist _ _)) λq hq h1 h2=>?_)
  rw[eseg]at h1 h2
  dsimp only
  have hx2:=X4 (LE.refl (κ:=κ)) T.sv hx
  have w2:=w'.runB (k:=q) T.su (by omega) λz hz a ha=>LE.trans (KeyOrd.kle_of_klt (h1 z hz)) (hx2 a ha)
  have h3:∀ z∈u.toList.drop (j+1+q),LE κ x z:=λz hz=>h2 z (by rw[List.drop_drop];exact hz)
  by_cases e0:q > 0
  .rw[if_pos e0]
   have ee:(o.push y++u.extract (j+1) (j+1+q)).toList=(o.push y).toList++(u.toList.drop (j+1)).take q:=by rw[Array.toList_append,wC,Nat.add_sub_cancel_left]
   rw[<-ee]at w2
   by_cases e1:j+1+q=u.size
   .rw[if_pos (beq_iff_eq.mpr e1)]
    exact wpS_pure ⟨rfl,.inl ⟨_,rfl,zaf T w2 (.inl e1)⟩⟩
   .rw[if_neg (λz=>e1 (beq_iff_eq.mp z))]
    exact ze1 T top ⟨li,by omega,w2⟩ hx h3 (by omega)
  .rw[if_neg e0]
   obtain rfl:q=0:=by omega
   exact ze1 T top ⟨li,by omega,w'⟩ hx h3 (by omega)
theorem zeR (L:LtE prog w A E s κ k D)(hk:kindOf st=k)(T:Two κ D v u)(top:∀ y∈u.toList,∀ x,v.toList[v.size - 1]?=some x->LE κ y x)(m:MI κ v u o i j)(hn:n<=i+j):wpS (model prog w) A E s (loA v u o i j g c d) (λr t=>Sm st t/\Go2 κ v u n r) st:=by
 unfold loA
 refine wpS_bind (ZZ λt ht=>?_)
 obtain⟨y,hy⟩:=WL m.lj
 refine wpS_bind (zU hy ?_)
 have li:=m.li
 have lj:=m.lj
 have hvl:v.toList.length=v.size:=Array.length_toList
 have eseg:(v.toList.drop i).take (v.size - i)=v.toList.drop i:=List.take_of_length_le (by rw[List.length_drop];omega)
 refine wpS_bind (VD L (ht.kd.trans hk) (T.du y (List.mem_of_getElem? hy)) (λz hz=>T.dv z (List.mem_of_mem_drop (List.mem_of_mem_take hz))) (by omega) (by omega) (by rw[eseg];exact T.sv.sublist (List.drop_sublist _ _)) λq hq h1 h2=>?_)
 rw[eseg]at h1 h2
 dsimp only
 have hy2:=X4 (LE.refl (κ:=κ)) T.su hy
 have w2:=m.wi.runA (k:=q) T.sv (by omega) λz hz a ha=>LE.trans (h1 z hz) (hy2 a ha)
 have h3:∀ z∈v.toList.drop (i+q),LE κ y z:=λz hz=>KeyOrd.kle_of_klt (h2 z (by rw[List.drop_drop];exact hz))
 by_cases e0:q > 0
 .rw[if_pos e0]
  have ee:(o++v.extract i (i+q)).toList=o.toList++(v.toList.drop i).take q:=by rw[Array.toList_append,wC,Nat.add_sub_cancel_left]
  rw[<-ee]at w2
  by_cases e1:i+q+1=v.size
  .rw[if_pos (beq_iff_eq.mpr e1)]
   exact wpS_pure ⟨ht,.inl ⟨_,rfl,zcM T w2 e1 top⟩⟩
  .rw[if_neg (λz=>e1 (beq_iff_eq.mp z))]
   by_cases e2:i+q=v.size
   .rw[if_pos (beq_iff_eq.mpr e2)]
    exact wpS_pure ⟨ht,.inl ⟨_,rfl,zaf T w2 (.inr e2)⟩⟩
   .rw[if_neg (λz=>e2 (beq_iff_eq.mp z))]
    exact wpS_mono (zed L (ht.kd.trans hk) T top ⟨by omega,lj,w2⟩ hy h3 (by omega)) λr t' h=>⟨h.1 ▸ ht,h.2⟩
 .rw[if_neg e0]
  obtain rfl:q=0:=by omega
  exact wpS_mono (zed L (ht.kd.trans hk) T top m hy h3 hn) λr t' h=>⟨h.1 ▸ ht,h.2⟩
noncomputable def Ok1 (κ:KeyKind)(v u:KA)(n:Nat)(c:Z1):Prop:=(∃ r,c.1=some r/\Fn κ v u r)\/(c.1=none/\MI κ v u c.2.1 c.2.2.1 c.2.2.2.1/\n<=c.2.2.1+c.2.2.2.1)
noncomputable def Go1 (κ:KeyKind)(v u:KA)(n:Nat):ForInStep Z1->Prop
 | .done c=>Ok1 κ v u n c
 | .yield c=>c.1=none/\MI κ v u c.2.1 c.2.2.1 c.2.2.2.1/\n<=c.2.2.1+c.2.2.2.1
theorem zgS (L:LtE prog w A E s κ k D)(hk:kindOf st=k)(T:Two κ D v u)(top:∀ y∈u.toList,∀ x,v.toList[v.size - 1]?=some x->LE κ y x){z:Z1}(m:MI κ v u z.2.1 z.2.2.1 z.2.2.2.1):wpS (model prog w) A E s (zle v u g z) (λr t=>t=st/\Go1 κ v u (z.2.2.1+z.2.2.2.1+1) r) st:=by
 obtain⟨r,o,i,j,c,d⟩:=z
 dsimp only at m ⊢
 have li:=m.li
 have lj:=m.lj
 unfold zle
 obtain⟨y,hy⟩:=WL lj
 obtain⟨x,hx⟩:=WL (v:=v) (i:=i) (by omega)
 refine wpS_bind (zU hy (wpS_bind (zU hx (wpS_bind (L _ _ _ _ hk (T.du y (List.mem_of_getElem? hy)) (T.dv x (List.mem_of_getElem? hx)) ?_)))))
 dsimp only
 have hx2:=X4 (LE.refl (κ:=κ)) T.sv hx
 have hy2:=X4 (LE.refl (κ:=κ)) T.su hy
 cases e:κ.blt (ky κ y) (ky κ x) with
 | true =>
  rw[if_pos rfl]
  refine wpS_bind (zU hy ?_)
  have w':=m.wi.pushB T.su hy λa ha=>LE.trans (KeyOrd.kle_of_klt e) (hx2 a ha)
  rw[<-Array.toList_push]at w'
  by_cases e1:j+1=u.size
  .rw[if_pos (beq_iff_eq.mpr e1)]
   exact wpS_pure ⟨rfl,.inl ⟨_,rfl,zaf T w' (.inl e1)⟩⟩
  .rw[if_neg (λz=>e1 (beq_iff_eq.mp z))]
   have m':MI κ v u (o.push y) i (j+1):=⟨li,by omega,w'⟩
   split
   .exact wpS_pure ⟨rfl,.inr ⟨rfl,m',by show i+j+1<=i+(j+1);omega⟩⟩
   .exact wpS_pure ⟨rfl,rfl,m',by show i+j+1<=i+(j+1);omega⟩
 | false =>
  rw[if_neg Bool.false_ne_true]
  refine wpS_bind (zU hx ?_)
  have w':=m.wi.pushA T.sv hx λa ha=>LE.trans (κ:=κ) (y:=y) e (hy2 a ha)
  rw[<-Array.toList_push]at w'
  by_cases e1:i+1+1=v.size
  .rw[if_pos (beq_iff_eq.mpr e1)]
   exact wpS_pure ⟨rfl,.inl ⟨_,rfl,zcM T w' e1 top⟩⟩
  .rw[if_neg (λz=>e1 (beq_iff_eq.mp z))]
   have m':MI κ v u (o.push x) (i+1) j:=⟨by omega,lj,w'⟩
   split
   .exact wpS_pure ⟨rfl,.inr ⟨rfl,m',by show i+j+1<=i+1+j;omega⟩⟩
   .exact wpS_pure ⟨rfl,rfl,m',by show i+j+1<=i+1+j;omega⟩
end
section
variable {prog:Program}{w:World}{A:Around}{E:Value->Shared->Prop}{s:Shared}{st:SortSt}{κ:KeyKind}{k:SortKind}{D:Keyed->Prop}{v u o:KA}{i j:Nat}
noncomputable def Go3 (κ:KeyKind)(v u:KA)(n:Nat):ForInStep Z3->Prop
 | .done c=>∃ r,c.1=some r/\Fn κ v u r
 | .yield c=>c.1=none/\MI κ v u c.2.1 c.2.2.1 c.2.2.2.1/\n<=c.2.2.1+c.2.2.2.1
theorem zhh {z:Z2}{n:Nat}(L:LtE prog w A E s κ k D)(hk:kindOf st=k)(T:Two κ D v u)(top:∀ y∈u.toList,∀ x,v.toList[v.size - 1]?=some x->LE κ y x)(m:MI κ v u z.2.1 z.2.2.1 z.2.2.2.1)(hn:n<=z.2.2.1+z.2.2.2.1):wpS (model prog w) A E s (zlm v u z) (λr t=>Sm st t/\Go2 κ v u n r) st:=by
 unfold zlm
 split
 .exact zeR L hk T top m hn
 .exact zeR L hk T top m hn
theorem zfW {z:Z3}(L:LtE prog w A E s κ k D)(hk:kindOf st=k)(T:Two κ D v u)(top:∀ y∈u.toList,∀ x,v.toList[v.size - 1]?=some x->LE κ y x)(m:MI κ v u z.2.1 z.2.2.1 z.2.2.2.1):wpS (model prog w) A E s (zlp v u z) (λr t=>Sm st t/\Go3 κ v u (z.2.2.1+z.2.2.2.1+1) r) st:=by
 unfold zlp
 have li:=m.li
 refine wpS_bind (wpS_mono (wpS_forRange (I:=λx c t=>t=st/\c.1=none/\MI κ v u c.2.1 c.2.2.1 c.2.2.2.1/\(x=0\/z.2.2.1+z.2.2.2.1+1<=c.2.2.1+c.2.2.2.1)/\z.2.2.1+z.2.2.2.1<=c.2.2.1+c.2.2.2.1) (Q:=λc t=>t=st/\Ok1 κ v u (z.2.2.1+z.2.2.2.1+1) c)
  (λx c t _ _ hI=>?_) (λc t hI=>?_) ⟨rfl,rfl,m,.inl rfl,Nat.le_refl _⟩) λy t hI=>?_)
 .obtain⟨rfl,h1,h2,h3,h4⟩:=hI
  refine wpS_mono (zgS L hk T top h2) λr t' h=>?_
  obtain⟨rfl,hr⟩:=h
  cases r with
  | done c' =>
   rcases hr with hr | ⟨a1,a2,a3⟩
   .exact⟨rfl,.inl hr⟩
   .exact⟨rfl,.inr ⟨a1,a2,by omega⟩⟩
  | yield c' =>
   obtain⟨a1,a2,a3⟩:=hr
   exact⟨rfl,a1,a2,.inr (by omega),by omega⟩
 .obtain⟨rfl,h1,h2,h3,h4⟩:=hI
  refine⟨rfl,.inr ⟨h1,h2,?_⟩⟩
  rcases h3 with h3 | h3
  .exfalso
   have:max 0 (v.size+u.size)=v.size+u.size:=by omega
   omega
  .exact h3
 .obtain⟨rfl,hy⟩:=hI
  rcases hy with ⟨r,e,hr⟩ | ⟨e,m1,h1⟩
  .rw[e]
   exact wpS_pure ⟨Sm.refl _,r,rfl,hr⟩
  .rw[e]
   dsimp only
   refine wpS_bind (wpS_lift (wpAny_rule ⟨rfl,?_⟩))
   refine wpS_bind (wpS_mono (wpS_forRange (I:=λx c t'=>Sm t t'/\c.1=none/\MI κ v u c.2.1 c.2.2.1 c.2.2.2.1/\z.2.2.1+z.2.2.2.1+1<=c.2.2.1+c.2.2.2.1) (Q:=λc t'=>Sm t t'/\Ok2 κ v u (z.2.2.1+z.2.2.2.1+1) c)
    (λx c t' _ _ hI=>?_) (λc t' hI=>?_) ⟨Sm.refl _,rfl,m1,h1⟩) λx t' hI=>?_)
   .obtain⟨hs,b1,b2,b3⟩:=hI
    refine wpS_mono (zhh L (hs.kd.trans hk) T top b2 b3) λr t2 h=>?_
    obtain⟨hs2,hr⟩:=h
    cases r with
    | done c'=>exact⟨hs.trans hs2,hr⟩
    | yield c'=>exact⟨hs.trans hs2,hr⟩
   .obtain⟨hs,b1,b2,b3⟩:=hI
    exact⟨hs,.inr ⟨b1,b2,b3⟩⟩
   .obtain⟨hs,hx⟩:=hI
    rcases hx with ⟨r,e,hr⟩ | ⟨e,m2,h2⟩
    .rw[e]
     exact wpS_pure ⟨hs,r,rfl,hr⟩
    .rw[e]
     exact wpS_bind (ZZ λt2 hs2=>wpS_pure ⟨hs.trans hs2,rfl,m2,h2⟩)
theorem ziZ {P:KA->SortSt->Prop}(L:LtE prog w A E s κ k D)(hk:kindOf st=k)(T:Two κ D v u)(hv:0 < v.size)(hu:0 < u.size)(top:∀ y∈u.toList,∀ x,v.toList[v.size - 1]?=some x->LE κ y x)(bot:∀ x∈v.toList,∀ y,u.toList[0]?=some y->LE κ y x)
 (h:∀ r t,Sm st t->Fn κ v u r->P r t):wpS (model prog w) A E s (mlo v u) P st:=by
 rw[zjG]
 refine wpS_bind (wpS_lift (wpAny_rule ⟨rfl,?_⟩))
 obtain⟨y,hy⟩:=WL hu
 refine wpS_bind (zU hy ?_)
 have w0:WI (LE κ) v.toList u.toList [] 0 0:=⟨Nat.zero_le _,Nat.zero_le _,List.Perm.refl _,List.Pairwise.nil,(λz hz=>by cases hz),(λz hz=>by cases hz)⟩
 have w1:WI (LE κ) v.toList u.toList (#[y]:KA).toList 0 1:=w0.pushB T.su hy λx hx=>bot x (List.mem_of_mem_drop hx) y hy
 by_cases e1:1=u.size
 .rw[if_pos (beq_iff_eq.mpr e1)]
  exact wpS_pure (h _ _ (Sm.refl _) (zaf T w1 (.inl e1)))
 rw[if_neg (λz=>e1 (beq_iff_eq.mp z))]
 by_cases e2:0+1=v.size
 .rw[if_pos (beq_iff_eq.mpr e2)]
  exact wpS_pure (h _ _ (Sm.refl _) (zcM T w1 e2 top))
 rw[if_neg (λz=>e2 (beq_iff_eq.mp z))]
 refine wpS_bind (wpS_get ?_)
 refine wpS_bind (wpS_mono (wpS_forRange (I:=λx c t=>Sm st t/\c.1=none/\MI κ v u c.2.1 c.2.2.1 c.2.2.2.1/\x+1<=c.2.2.1+c.2.2.2.1) (Q:=λc t=>Sm st t/\∃ r,c.1=some r/\Fn κ v u r)
  (λx c t _ _ hI=>?_) (λc t hI=>?_) ⟨Sm.refl _,rfl,⟨by show 0+1 < v.size;omega,by show 1 < u.size;omega,w1⟩,by show 0+1<=0+1;omega⟩) λy t hI=>?_)
 .obtain⟨hs,b1,b2,b3⟩:=hI
  refine wpS_mono (zfW L (hs.kd.trans hk) T top b2) λr t2 h=>?_
  obtain⟨hs2,hr⟩:=h
  cases r with
  | done c'=>exact⟨hs.trans hs2,hr⟩
  | yield c'=>exact⟨hs.trans hs2,hr.1,hr.2.1,by have:=hr.2.2;omega⟩
 .obtain⟨hs,b1,b2,b3⟩:=hI
  exfalso
  have:=b2.li
  have:=b2.lj
  have:max 0 (v.size+u.size)=v.size+u.size:=by omega
  omega
 .obtain⟨hs,r,e,hr⟩:=hI
  rw[e]
  exact wpS_pure (h r t hs hr)
end
noncomputable def mhi:Array Keyed->Array Keyed->SM (Array Keyed):=sortPriv% PySem.Builtin.mergeHi
noncomputable abbrev Y1:=Option KA × Nat × Nat × KA × Nat × Nat
noncomputable abbrev Y2:=Option KA × Nat × Nat × KA × Nat × Nat × Nat
noncomputable abbrev Y3:=Option KA × Nat × Nat × KA × Nat
noncomputable abbrev dh (v u o:KA)(i j:Nat):KA:=v.extract 0 i++u.extract 0 j++o.reverse
noncomputable abbrev fh (v u o:KA)(i j:Nat):KA:=u.extract 0 j++v.extract 0 i++o.reverse
noncomputable def zls (v u:KA)(g:Nat)(z:Y1):SM (ForInStep Y1):=do
 let e<-elem' u (z.2.2.1 - 1)
 let f<-elem' v (z.2.1 - 1)
 let some b<-lt' e f | pure (.done (some (dh v u z.2.2.2.1 z.2.1 z.2.2.1),z.2.1,z.2.2.1,z.2.2.2.1,z.2.2.2.2.1,z.2.2.2.2.2))
 if b=true then do
  let f<-elem' v (z.2.1 - 1)
  if (z.2.1 - 1 == 0)=true then pure (.done (some (dh v u (z.2.2.2.1.push f) (z.2.1 - 1) z.2.2.1),z.2.1 - 1,z.2.2.1,z.2.2.2.1.push f,z.2.2.2.2.1+1,0))
  else if z.2.2.2.2.1+1 >= g then pure (.done (none,z.2.1 - 1,z.2.2.1,z.2.2.2.1.push f,z.2.2.2.2.1+1,0))
  else pure (.yield (none,z.2.1 - 1,z.2.2.1,z.2.2.2.1.push f,z.2.2.2.2.1+1,0))
 else do
  let e<-elem' u (z.2.2.1 - 1)
  if (z.2.2.1 - 1 == 1)=true then pure (.done (some (fh v u (z.2.2.2.1.push e) z.2.1 (z.2.2.1 - 1)),z.2.1,z.2.2.1 - 1,z.2.2.2.1.push e,0,z.2.2.2.2.2+1))
  else if z.2.2.2.2.2+1 >= g then pure (.done (none,z.2.1,z.2.2.1 - 1,z.2.2.2.1.push e,0,z.2.2.2.2.2+1))
  else pure (.yield (none,z.2.1,z.2.2.1 - 1,z.2.2.2.1.push e,0,z.2.2.2.2.2+1))
noncomputable def hiC (v u o:KA)(i j g c d:Nat):SM (ForInStep Y2):=do
 let f<-elem' v (i - 1)
 if (i - 1 == 0)=true then pure (.done (some (dh v u (o.push f) (i - 1) j),i - 1,j,o.push f,g,c,d))
 else if (decide (c < 7)&&decide (d < 7))=true then pure (.done (none,i - 1,j,o.push f,g,c,d))
 else pure (.yield (none,i - 1,j,o.push f,g,c,d))
noncomputable def hiB (v u o:KA)(i j g c d:Nat):SM (ForInStep Y2):=do
 let e<-elem' u (j - 1)
 if (j - 1 == 1)=true then pure (.done (some (fh v u (o.push e) i (j - 1)),i,j - 1,o.push e,g,c,d))
 else do
  let f<-elem' v (i - 1)
  let some p<-gal true f u 0 (j - 1) (j - 1 - 1) | pure (.done (some (dh v u (o.push e) i (j - 1)),i,j - 1,o.push e,g,c,d))
  if j - 1 - p > 0 then
   if (p == 1)=true then pure (.done (some (fh v u (o.push e++(u.extract p (j - 1)).reverse) i p),i,p,o.push e++(u.extract p (j - 1)).reverse,g,c,j - 1 - p))
   else if (p == 0)=true then pure (.done (some (dh v u (o.push e++(u.extract p (j - 1)).reverse) i p),i,p,o.push e++(u.extract p (j - 1)).reverse,g,c,j - 1 - p))
   else hiC v u (o.push e++(u.extract p (j - 1)).reverse) i p g c (j - 1 - p)
  else hiC v u (o.push e) i (j - 1) g c (j - 1 - p)
noncomputable def hiA (v u o:KA)(i j g c d:Nat):SM (ForInStep Y2):=do
 zap g
 let e<-elem' u (j - 1)
 let some p<-gal false e v 0 i (i - 1) | pure (.done (some (dh v u o i j),i,j,o,g,c,d))
 if i - p > 0 then
  if (p == 0)=true then pure (.done (some (dh v u (o++(v.extract p i).reverse) p j),p,j,o++(v.extract p i).reverse,g,i - p,d))
  else hiB v u (o++(v.extract p i).reverse) p j g (i - p) d
 else hiB v u o i j g (i - p) d
noncomputable def zlx (v u:KA)(z:Y2):SM (ForInStep Y2) :=
 if z.2.2.2.2.1 > 1 then hiA v u z.2.2.2.1 z.2.1 z.2.2.1 (z.2.2.2.2.1 - 1) z.2.2.2.2.2.1 z.2.2.2.2.2.2
 else hiA v u z.2.2.2.1 z.2.1 z.2.2.1 z.2.2.2.2.1 z.2.2.2.2.2.1 z.2.2.2.2.2.2
noncomputable def zln (v u:KA)(z:Y3):SM (ForInStep Y3):=do
 let y<-forIn [0:v.size+u.size] ((none,z.2.1,z.2.2.1,z.2.2.2.1,0,0):Y1) λ_ q=>zls v u z.2.2.2.2 q
 match y.1 with
 | some r=>pure (.done (some r,y.2.1,y.2.2.1,y.2.2.2.1,z.2.2.2.2))
 | none=>do
  rule "list.sort.gallop"
  let x<-forIn [0:v.size+u.size] ((none,y.2.1,y.2.2.1,y.2.2.2.1,z.2.2.2.2+1,y.2.2.2.2.1,y.2.2.2.2.2):Y2) λ_ q=>zlx v u q
  match x.1 with
  | some r=>pure (.done (some r,x.2.1,x.2.2.1,x.2.2.2.1,x.2.2.2.2.1))
  | none=>do
   zap (x.2.2.2.2.1+1)
   pure (.yield (none,x.2.1,x.2.2.1,x.2.2.2.1,x.2.2.2.2.1+1))
theorem zkV (v u:KA):mhi v u=(do
 rule "list.sort.merge-hi"
 let e<-elem' v (v.size - 1)
 if (v.size - 1 == 0)=true then pure (dh v u #[e] (v.size - 1) u.size)
 else if (u.size == 1)=true then pure (fh v u #[e] (v.size - 1) u.size)
 else do
  let g<-get
  let z<-forIn [0:v.size+u.size] ((none,v.size - 1,u.size,#[e],gallopOf g):Y3) λ_ q=>zln v u q
  match z.1 with
  | some r=>pure r
  | none=>(unsupported ("internal:list.sort.merge-bound"))):=by
 show @bind SM _ _ _ _ _=_
 dsimp only[zln,zlx,hiA,hiB,hiC,zls,elem',lt',gal,zap,gallopOf]
 congr 1;funext _;congr 1;funext e
 congr 1;congr 1;congr 1;funext g;congr 1
 .congr 1;funext _ z;congr 1
  funext x
  obtain⟨r,x⟩:=x
  cases r with
  | some r=>rfl
  | none =>
   dsimp only
   congr 1;funext _;congr 1
   funext y;obtain⟨r,y⟩:=y;cases r <;> rfl
 .funext y;obtain⟨r,y⟩:=y;cases r <;> rfl
structure MH (κ:KeyKind) (v u o:KA) (i j:Nat):Prop where
 li:i<=v.size
 lj:j<=u.size
 wi:WI (λa b=>LE κ b a) v.toList.reverse u.toList.reverse o.toList (v.size - i) (u.size - j)
section
variable {κ:KeyKind}{D:Keyed->Prop}{v u o:KA}{i j:Nat}
theorem y3 {v:KA}{i:Nat}(h:i<=v.size):v.toList.reverse.drop (v.size - i)=(v.toList.take i).reverse:=by
 rw[List.drop_reverse,Array.length_toList,Nat.sub_sub_self h]
theorem xq {l:List Keyed}(h:l.Pairwise (LE κ)):l.reverse.Pairwise λa b=>LE κ b a:=List.pairwise_reverse.mpr h
theorem zel {v:KA}{i:Nat}(h0:0 < i)(h:i<=v.size):v.toList.reverse[v.size - i]?=v.toList[i - 1]?:=by
 rw[List.getElem?_reverse (by rw[Array.length_toList];omega),Array.length_toList,show v.size - 1 - (v.size - i)=i - 1 by omega]
theorem MH.pushA (T:Two κ D v u)(m:MH κ v u o i j)(h0:0 < i){x:Keyed}(hx:v.toList[i - 1]?=some x)(h:∀ y∈u.toList.take j,LE κ y x):MH κ v u (o.push x) (i - 1) j:=by
 have li:=m.li
 refine⟨by omega,m.lj,?_⟩
 have:=m.wi.pushA (x:=x) (xq T.sv) (by rw[zel h0 li];exact hx) λy hy=>h y (by rw[y3 m.lj]at hy;exact List.mem_reverse.mp hy)
 rw[<-Array.toList_push,show v.size - i+1=v.size - (i - 1) by omega]at this
 exact this
theorem MH.pushB (T:Two κ D v u)(m:MH κ v u o i j)(h0:0 < j){y:Keyed}(hy:u.toList[j - 1]?=some y)(h:∀ x∈v.toList.take i,LE κ x y):MH κ v u (o.push y) i (j - 1):=by
 have lj:=m.lj
 refine⟨m.li,by omega,?_⟩
 have:=m.wi.pushB (y:=y) (xq T.su) (by rw[zel h0 lj];exact hy) λx hx=>h x (by rw[y3 m.li]at hx;exact List.mem_reverse.mp hx)
 rw[<-Array.toList_push,show u.size - j+1=u.size - (j - 1) by omega]at this
 exact this
theorem VZ {v:KA}{p i:Nat}(hp:p<=i)(h:i<=v.size):(v.toList.reverse.drop (v.size - i)).take (i - p)=(v.extract p i).reverse.toList:=by
 rw[y3 h,List.take_reverse,Array.toList_reverse,wC,List.length_take,Array.length_toList,Nat.min_eq_left h,Nat.sub_sub_self hp,List.drop_take]
theorem MH.runA (T:Two κ D v u)(m:MH κ v u o i j){p:Nat}(hp:p<=i)(h:∀ x∈(v.toList.take i).drop p,∀ y∈u.toList.take j,LE κ y x):MH κ v u (o++(v.extract p i).reverse) p j:=by
 have li:=m.li
 refine⟨by omega,m.lj,?_⟩
 have:=m.wi.runA (k:=i - p) (xq T.sv) (by rw[List.length_reverse,Array.length_toList];omega) λx hx y hy=>by
  rw[VZ hp li,Array.toList_reverse,wC]at hx
  rw[y3 m.lj]at hy
  exact h x (by rw[List.drop_take];exact List.mem_reverse.mp hx) y (List.mem_reverse.mp hy)
 rw[VZ hp li,<- Array.toList_append,show v.size - i+(i - p)=v.size - p by omega]at this
 exact this
theorem MH.runB (T:Two κ D v u)(m:MH κ v u o i j){p:Nat}(hp:p<=j)(h:∀ y∈(u.toList.take j).drop p,∀ x∈v.toList.take i,LE κ x y):MH κ v u (o++(u.extract p j).reverse) i p:=by
 have lj:=m.lj
 refine⟨m.li,by omega,?_⟩
 have:=m.wi.runB (k:=j - p) (xq T.su) (by rw[List.length_reverse,Array.length_toList];omega) λx hx y hy=>by
  rw[VZ hp lj,Array.toList_reverse,wC]at hx
  rw[y3 m.li]at hy
  exact h x (by rw[List.drop_take];exact List.mem_reverse.mp hx) y (List.mem_reverse.mp hy)
 rw[VZ hp lj,<- Array.toList_append,show u.size - j+(j - p)=u.size - p by omega]at this
 exact this
theorem X0 (v:KA)(i:Nat):(v.extract 0 i).toList=v.toList.take i:=by rw[wC,List.drop_zero,Nat.sub_zero]
theorem zau (T:Two κ D v u)(m:MH κ v u o i j)(h:i=0\/j=0):Fn κ v u (dh v u o i j):=by
 have e:=m.wi.swap.done (xq T.su) (xq T.sv) λy hy x hx=>by
  rw[y3 m.lj]at hy
  rw[y3 m.li]at hx
  rcases h with rfl | rfl
  .rw[List.take_zero]at hx;cases hx
  .rw[List.take_zero]at hy;cases hy
 rw[y3 m.lj,y3 m.li]at e
 have er:(dh v u o i j).toList=(o.toList++(u.toList.take j).reverse++(v.toList.take i).reverse).reverse:=by
  unfold dh
  rw[Array.toList_append,Array.toList_append,X0,X0,Array.toList_reverse,List.reverse_append,List.reverse_append,List.reverse_reverse,List.reverse_reverse,List.append_assoc]
 constructor
 .rw[er]
  refine(List.reverse_perm _).trans (e.1.trans ?_)
  exact(List.perm_append_comm).trans ((List.reverse_perm _).append (List.reverse_perm _))
 .rw[er,List.pairwise_reverse]
  exact e.2
theorem zbV (T:Two κ D v u)(m:MH κ v u o i j)(hj:j=1)(bot:∀ x∈v.toList,∀ y,u.toList[0]?=some y->LE κ y x):Fn κ v u (fh v u o i j):=by
 have e:=m.wi.done (xq T.sv) (xq T.su) λx hx y hy=>by
  rw[y3 m.lj]at hy
  rw[y3 m.li]at hx
  refine bot x (List.mem_of_mem_take (List.mem_reverse.mp hx)) y ?_
  obtain⟨a,ha,ea⟩:=Yc (List.mem_reverse.mp hy)
  obtain rfl:a=0:=by omega
  exact ea
 rw[y3 m.lj,y3 m.li]at e
 have er:(fh v u o i j).toList=(o.toList++(v.toList.take i).reverse++(u.toList.take j).reverse).reverse:=by
  unfold fh
  rw[Array.toList_append,Array.toList_append,X0,X0,Array.toList_reverse,List.reverse_append,List.reverse_append,List.reverse_reverse,List.reverse_reverse,List.append_assoc]
 constructor
 .rw[er]
  exact(List.reverse_perm _).trans (e.1.trans ((List.reverse_perm _).append (List.reverse_perm _)))
 .rw[er,List.pairwise_reverse]
  exact e.2
theorem za7 {l:List Keyed}(s:l.Pairwise (LE κ)){i:Nat}{x:Keyed}(h0:0 < i)(hx:l[i - 1]?=some x):∀ z∈l.take i,LE κ z x:=λz hz=>by
 obtain⟨a,ha,e⟩:=Yc hz
 exact VP s (by omega) e hx
noncomputable def Oj2 (κ:KeyKind)(v u:KA)(n:Nat)(c:Y2):Prop:=(∃ r,c.1=some r/\Fn κ v u r)\/(c.1=none/\(0 < c.2.1/\1 < c.2.2.1)/\MH κ v u c.2.2.2.1 c.2.1 c.2.2.1/\c.2.1+c.2.2.1<=n)
noncomputable def Gj2 (κ:KeyKind)(v u:KA)(n:Nat):ForInStep Y2->Prop
 | .done c=>Oj2 κ v u n c
 | .yield c=>c.1=none/\(0 < c.2.1/\1 < c.2.2.1)/\MH κ v u c.2.2.2.1 c.2.1 c.2.2.1/\c.2.1+c.2.2.1<=n
end
section
variable {prog:Program}{w:World}{A:Around}{E:Value->Shared->Prop}{s:Shared}{st:SortSt}{κ:KeyKind}{k:SortKind}{D:Keyed->Prop}{v u o:KA}{i j g c d n:Nat}
theorem zdT (T:Two κ D v u)(m:MH κ v u o i j)(h0:0 < i)(h1:1 < j){x:Keyed}(hx:v.toList[i - 1]?=some x)(h:∀ y∈u.toList.take j,LE κ y x)(hn:i+j<=n):wpS (model prog w) A E s (hiC v u o i j g c d) (λr t=>t=st/\Gj2 κ v u n r) st:=by
 unfold hiC
 refine wpS_bind (zU hx ?_)
 have m':=m.pushA T h0 hx h
 by_cases e:i - 1=0
 .rw[if_pos (beq_iff_eq.mpr e)]
  exact wpS_pure ⟨rfl,.inl ⟨_,rfl,zau T m' (.inl e)⟩⟩
 .rw[if_neg (λz=>e (beq_iff_eq.mp z))]
  split
  .exact wpS_pure ⟨rfl,.inr ⟨rfl,⟨by show 0 < i - 1;omega,h1⟩,m',by show i - 1+j<=n;omega⟩⟩
  .exact wpS_pure ⟨rfl,rfl,⟨by show 0 < i - 1;omega,h1⟩,m',by show i - 1+j<=n;omega⟩
theorem zd0 (L:LtE prog w A E s κ k D)(hk:kindOf st=k)(T:Two κ D v u)(bot:∀ x∈v.toList,∀ y,u.toList[0]?=some y->LE κ y x)(m:MH κ v u o i j)(h0:0 < i)(h1:1 < j){y:Keyed}(hy:u.toList[j - 1]?=some y)(h:∀ x∈v.toList.take i,LE κ x y)(hn:i+j<=n):wpS (model prog w) A E s (hiB v u o i j g c d) (λr t=>t=st/\Gj2 κ v u n r) st:=by
 unfold hiB
 refine wpS_bind (zU hy ?_)
 have m':=m.pushB T (by omega) hy h
 have li:=m.li
 have lj:=m.lj
 by_cases e:j - 1=1
 .rw[if_pos (beq_iff_eq.mpr e)]
  exact wpS_pure ⟨rfl,.inl ⟨_,rfl,zbV T m' e bot⟩⟩
 .rw[if_neg (λz=>e (beq_iff_eq.mp z))]
  obtain⟨x,hx⟩:=WL (v:=v) (i:=i - 1) (by omega)
  refine wpS_bind (zU hx ?_)
  have hul:u.toList.length=u.size:=Array.length_toList
  have eseg:(u.toList.drop 0).take (j - 1)=u.toList.take (j - 1):=by rw[List.drop_zero]
  refine wpS_bind (Vv L hk (T.dv x (List.mem_of_getElem? hx)) (λz hz=>T.du z (List.mem_of_mem_drop (List.mem_of_mem_take hz))) (by omega) (by omega) (by rw[eseg];exact T.su.sublist (List.take_sublist _ _)) λp hp g1 g2=>?_)
  rw[eseg]at g1 g2
  dsimp only
  have hx2:=za7 T.sv h0 hx
  have m2:=m'.runB T hp λz hz a ha=>LE.trans (hx2 a ha) (g2 z hz)
  have h3:∀ z∈u.toList.take p,LE κ z x:=λz hz=>KeyOrd.kle_of_klt (g1 z (by rw[List.take_take,Nat.min_eq_left hp];exact hz))
  by_cases e0:j - 1 - p > 0
  .rw[if_pos e0]
   by_cases e1:p=1
   .rw[if_pos (beq_iff_eq.mpr e1)]
    exact wpS_pure ⟨rfl,.inl ⟨_,rfl,zbV T m2 e1 bot⟩⟩
   .rw[if_neg (λz=>e1 (beq_iff_eq.mp z))]
    by_cases e2:p=0
    .rw[if_pos (beq_iff_eq.mpr e2)]
     exact wpS_pure ⟨rfl,.inl ⟨_,rfl,zau T m2 (.inr e2)⟩⟩
    .rw[if_neg (λz=>e2 (beq_iff_eq.mp z))]
     exact zdT T m2 h0 (by omega) hx h3 (by omega)
  .rw[if_neg e0]
   obtain rfl:p=j - 1:=by omega
   exact zdT T m' h0 (by omega) hx h3 (by omega)
theorem zdQ (L:LtE prog w A E s κ k D)(hk:kindOf st=k)(T:Two κ D v u)(bot:∀ x∈v.toList,∀ y,u.toList[0]?=some y->LE κ y x)(m:MH κ v u o i j)(h0:0 < i)(h1:1 < j)(hn:i+j<=n):wpS (model prog w) A E s (hiA v u o i j g c d) (λr t=>Sm st t/\Gj2 κ v u n r) st:=by
 unfold hiA
 refine wpS_bind (ZZ λt ht=>?_)
 have li:=m.li
 have lj:=m.lj
 obtain⟨y,hy⟩:=WL (v:=u) (i:=j - 1) (by omega)
 refine wpS_bind (zU hy ?_)
 have hvl:v.toList.length=v.size:=Array.length_toList
 have eseg:(v.toList.drop 0).take i=v.toList.take i:=by rw[List.drop_zero]
 refine wpS_bind (VD L (ht.kd.trans hk) (T.du y (List.mem_of_getElem? hy)) (λz hz=>T.dv z (List.mem_of_mem_drop (List.mem_of_mem_take hz))) (by omega) (by omega) (by rw[eseg];exact T.sv.sublist (List.take_sublist _ _)) λp hp g1 g2=>?_)
 rw[eseg]at g1 g2
 dsimp only
 have hy2:=za7 T.su (i:=j) (by omega) hy
 have m2:=m.runA T hp λz hz a ha=>LE.trans (hy2 a ha) (KeyOrd.kle_of_klt (g2 z hz))
 have h3:∀ z∈v.toList.take p,LE κ z y:=λz hz=>g1 z (by rw[List.take_take,Nat.min_eq_left hp];exact hz)
 by_cases e0:i - p > 0
 .rw[if_pos e0]
  by_cases e1:p=0
  .rw[if_pos (beq_iff_eq.mpr e1)]
   exact wpS_pure ⟨ht,.inl ⟨_,rfl,zau T m2 (.inl e1)⟩⟩
  .rw[if_neg (λz=>e1 (beq_iff_eq.mp z))]
   exact wpS_mono (zd0 L (ht.kd.trans hk) T bot m2 (by omega) h1 hy h3 (by omega)) λr t' h=>⟨h.1 ▸ ht,h.2⟩
 .rw[if_neg e0]
  obtain rfl:p=i:=by omega
  exact wpS_mono (zd0 L (ht.kd.trans hk) T bot m h0 h1 hy h3 hn) λr t' h=>⟨h.1 ▸ ht,h.2⟩
noncomputable def Oj1 (κ:KeyKind)(v u:KA)(n:Nat)(c:Y1):Prop:=(∃ r,c.1=some r/\Fn κ v u r)\/(c.1=none/\(0 < c.2.1/\1 < c.2.2.1)/\MH κ v u c.2.2.2.1 c.2.1 c.2.2.1/\c.2.1+c.2.2.1<=n)
noncomputable def Gj1 (κ:KeyKind)(v u:KA)(n:Nat):ForInStep Y1->Prop
 | .done c=>Oj1 κ v u n c
 | .yield c=>c.1=none/\(0 < c.2.1/\1 < c.2.2.1)/\MH κ v u c.2.2.2.1 c.2.1 c.2.2.1/\c.2.1+c.2.2.1<=n
theorem zhl (L:LtE prog w A E s κ k D)(hk:kindOf st=k)(T:Two κ D v u)(bot:∀ x∈v.toList,∀ y,u.toList[0]?=some y->LE κ y x){z:Y1}(m:MH κ v u z.2.2.2.1 z.2.1 z.2.2.1)(h0:0 < z.2.1/\1 < z.2.2.1):wpS (model prog w) A E s (zls v u g z) (λr t=>t=st/\Gj1 κ v u (z.2.1+z.2.2.1 - 1) r) st:=by
 obtain⟨r,i,j,o,c,d⟩:=z
 dsimp only at m h0 ⊢
 obtain⟨h0,h1⟩:=h0
 have li:=m.li
 have lj:=m.lj
 unfold zls
 obtain⟨y,hy⟩:=WL (v:=u) (i:=j - 1) (by omega)
 obtain⟨x,hx⟩:=WL (v:=v) (i:=i - 1) (by omega)
 refine wpS_bind (zU hy (wpS_bind (zU hx (wpS_bind (L _ _ _ _ hk (T.du y (List.mem_of_getElem? hy)) (T.dv x (List.mem_of_getElem? hx)) ?_)))))
 dsimp only
 have hx2:=za7 T.sv h0 hx
 have hy2:=za7 T.su (i:=j) (by omega) hy
 cases e:κ.blt (ky κ y) (ky κ x) with
 | true =>
  rw[if_pos rfl]
  refine wpS_bind (zU hx ?_)
  have m':=m.pushA T h0 hx λa ha=>LE.trans (hy2 a ha) (KeyOrd.kle_of_klt e)
  by_cases e1:i - 1=0
  .rw[if_pos (beq_iff_eq.mpr e1)]
   exact wpS_pure ⟨rfl,.inl ⟨_,rfl,zau T m' (.inl e1)⟩⟩
  .rw[if_neg (λz=>e1 (beq_iff_eq.mp z))]
   split
   .exact wpS_pure ⟨rfl,.inr ⟨rfl,⟨by show 0 < i - 1;omega,h1⟩,m',by show i - 1+j<=i+j - 1;omega⟩⟩
   .exact wpS_pure ⟨rfl,rfl,⟨by show 0 < i - 1;omega,h1⟩,m',by show i - 1+j<=i+j - 1;omega⟩
 | false =>
  rw[if_neg Bool.false_ne_true]
  refine wpS_bind (zU hy ?_)
  have m':=m.pushB T (by omega) hy λa ha=>LE.trans (κ:=κ) (y:=x) (hx2 a ha) e
  by_cases e1:j - 1=1
  .rw[if_pos (beq_iff_eq.mpr e1)]
   exact wpS_pure ⟨rfl,.inl ⟨_,rfl,zbV T m' e1 bot⟩⟩
  .rw[if_neg (λz=>e1 (beq_iff_eq.mp z))]
   split
   .exact wpS_pure ⟨rfl,.inr ⟨rfl,⟨h0,by show 1 < j - 1;omega⟩,m',by show i+(j - 1)<=i+j - 1;omega⟩⟩
   .exact wpS_pure ⟨rfl,rfl,⟨h0,by show 1 < j - 1;omega⟩,m',by show i+(j - 1)<=i+j - 1;omega⟩
theorem zgT {z:Y2}(L:LtE prog w A E s κ k D)(hk:kindOf st=k)(T:Two κ D v u)(bot:∀ x∈v.toList,∀ y,u.toList[0]?=some y->LE κ y x)(m:MH κ v u z.2.2.2.1 z.2.1 z.2.2.1)(h0:0 < z.2.1/\1 < z.2.2.1)(hn:z.2.1+z.2.2.1<=n):wpS (model prog w) A E s (zlx v u z) (λr t=>Sm st t/\Gj2 κ v u n r) st:=by
 unfold zlx
 split
 .exact zdQ L hk T bot m h0.1 h0.2 hn
 .exact zdQ L hk T bot m h0.1 h0.2 hn
noncomputable def Gj3 (κ:KeyKind)(v u:KA)(n:Nat):ForInStep Y3->Prop
 | .done c=>∃ r,c.1=some r/\Fn κ v u r
 | .yield c=>c.1=none/\(0 < c.2.1/\1 < c.2.2.1)/\MH κ v u c.2.2.2.1 c.2.1 c.2.2.1/\c.2.1+c.2.2.1<=n
theorem zgN {z:Y3}(L:LtE prog w A E s κ k D)(hk:kindOf st=k)(T:Two κ D v u)(bot:∀ x∈v.toList,∀ y,u.toList[0]?=some y->LE κ y x)(m:MH κ v u z.2.2.2.1 z.2.1 z.2.2.1)(h0:0 < z.2.1/\1 < z.2.2.1):wpS (model prog w) A E s (zln v u z) (λr t=>Sm st t/\Gj3 κ v u (z.2.1+z.2.2.1 - 1) r) st:=by
 unfold zln
 have li:=m.li
 have lj:=m.lj
 refine wpS_bind (wpS_mono (wpS_forRange (I:=λx c t=>t=st/\c.1=none/\(0 < c.2.1/\1 < c.2.2.1)/\MH κ v u c.2.2.2.1 c.2.1 c.2.2.1/\(x=0\/c.2.1+c.2.2.1<=z.2.1+z.2.2.1 - 1)/\c.2.1+c.2.2.1<=z.2.1+z.2.2.1) (Q:=λc t=>t=st/\Oj1 κ v u (z.2.1+z.2.2.1 - 1) c)
  (λx c t _ _ hI=>?_) (λc t hI=>?_) ⟨rfl,rfl,h0,m,.inl rfl,Nat.le_refl _⟩) λy t hI=>?_)
 .obtain⟨rfl,h1,h2,h3,h4,h5⟩:=hI
  refine wpS_mono (zhl L hk T bot h3 h2) λr t' h=>?_
  obtain⟨rfl,hr⟩:=h
  cases r with
  | done c' =>
   rcases hr with hr | ⟨a1,a2,a3,a4⟩
   .exact⟨rfl,.inl hr⟩
   .exact⟨rfl,.inr ⟨a1,a2,a3,by omega⟩⟩
  | yield c' =>
   obtain⟨a1,a2,a3,a4⟩:=hr
   exact⟨rfl,a1,a2,a3,.inr (by omega),by omega⟩
 .obtain⟨rfl,h1,h2,h3,h4,h5⟩:=hI
  refine⟨rfl,.inr ⟨h1,h2,h3,?_⟩⟩
  rcases h4 with h4 | h4
  .exfalso
   have:max 0 (v.size+u.size)=v.size+u.size:=by omega
   omega
  .exact h4
 .obtain⟨rfl,hy⟩:=hI
  rcases hy with ⟨r,e,hr⟩ | ⟨e,p1,m1,h1⟩
  .rw[e]
   exact wpS_pure ⟨Sm.refl _,r,rfl,hr⟩
  .rw[e]
   dsimp only
   refine wpS_bind (wpS_lift (wpAny_rule ⟨rfl,?_⟩))
   refine wpS_bind (wpS_mono (wpS_forRange (I:=λx c t'=>Sm t t'/\c.1=none/\(0 < c.2.1/\1 < c.2.2.1)/\MH κ v u c.2.2.2.1 c.2.1 c.2.2.1/\c.2.1+c.2.2.1<=z.2.1+z.2.2.1 - 1) (Q:=λc t'=>Sm t t'/\Oj2 κ v u (z.2.1+z.2.2.1 - 1) c)
    (λx c t' _ _ hI=>?_) (λc t' hI=>?_) ⟨Sm.refl _,rfl,p1,m1,h1⟩) λx t' hI=>?_)
   .obtain⟨hs,b1,b2,b3,b4⟩:=hI
    refine wpS_mono (zgT L (hs.kd.trans hk) T bot b3 b2 b4) λr t2 h=>?_
    obtain⟨hs2,hr⟩:=h
    cases r with
    | done c'=>exact⟨hs.trans hs2,hr⟩
    | yield c'=>exact⟨hs.trans hs2,hr⟩
   .obtain⟨hs,b1,b2,b3,b4⟩:=hI
    exact⟨hs,.inr ⟨b1,b2,b3,b4⟩⟩
   .obtain⟨hs,hx⟩:=hI
    rcases hx with ⟨r,e,hr⟩ | ⟨e,p2,m2,h2⟩
    .rw[e]
     exact wpS_pure ⟨hs,r,rfl,hr⟩
    .rw[e]
     exact wpS_bind (ZZ λt2 hs2=>wpS_pure ⟨hs.trans hs2,rfl,p2,m2,h2⟩)
theorem ziO {P:KA->SortSt->Prop}(L:LtE prog w A E s κ k D)(hk:kindOf st=k)(T:Two κ D v u)(hv:0 < v.size)(hu:0 < u.size)(top:∀ y∈u.toList,∀ x,v.toList[v.size - 1]?=some x->LE κ y x)(bot:∀ x∈v.toList,∀ y,u.toList[0]?=some y->LE κ y x)
 (h:∀ r t,Sm st t->Fn κ v u r->P r t):wpS (model prog w) A E s (mhi v u) P st:=by
 rw[zkV]
 refine wpS_bind (wpS_lift (wpAny_rule ⟨rfl,?_⟩))
 obtain⟨x,hx⟩:=WL (v:=v) (i:=v.size - 1) (by omega)
 refine wpS_bind (zU hx ?_)
 have m0:MH κ v u #[] v.size u.size:=⟨Nat.le_refl _,Nat.le_refl _,by
  rw[Nat.sub_self,Nat.sub_self]
  exact⟨Nat.zero_le _,Nat.zero_le _,List.Perm.refl _,List.Pairwise.nil,(λz hz=>by cases hz),(λz hz=>by cases hz)⟩⟩
 have m1:MH κ v u #[x] (v.size - 1) u.size:=m0.pushA T hv hx λy hy=>top y (List.mem_of_mem_take hy) x hx
 by_cases e1:v.size - 1=0
 .rw[if_pos (beq_iff_eq.mpr e1)]
  exact wpS_pure (h _ _ (Sm.refl _) (zau T m1 (.inl e1)))
 rw[if_neg (λz=>e1 (beq_iff_eq.mp z))]
 by_cases e2:u.size=1
 .rw[if_pos (beq_iff_eq.mpr e2)]
  exact wpS_pure (h _ _ (Sm.refl _) (zbV T m1 e2 bot))
 rw[if_neg (λz=>e2 (beq_iff_eq.mp z))]
 refine wpS_bind (wpS_get ?_)
 refine wpS_bind (wpS_mono (wpS_forRange (I:=λx c t=>Sm st t/\c.1=none/\(0 < c.2.1/\1 < c.2.2.1)/\MH κ v u c.2.2.2.1 c.2.1 c.2.2.1/\x+(c.2.1+c.2.2.1)<=v.size+u.size) (Q:=λc t=>Sm st t/\∃ r,c.1=some r/\Fn κ v u r)
  (λx c t _ _ hI=>?_) (λc t hI=>?_) ⟨Sm.refl _,rfl,⟨by show 0 < v.size - 1;omega,by show 1 < u.size;omega⟩,m1,by show 0+(v.size - 1+u.size)<=v.size+u.size;omega⟩) λy t hI=>?_)
 .obtain⟨hs,b1,b2,b3,b4⟩:=hI
  refine wpS_mono (zgN L (hs.kd.trans hk) T bot b3 b2) λr t2 h=>?_
  obtain⟨hs2,hr⟩:=h
  cases r with
  | done c'=>exact⟨hs.trans hs2,hr⟩
  | yield c'=>exact⟨hs.trans hs2,hr.1,hr.2.1,hr.2.2.1,by have:=hr.2.2.2;omega⟩
 .obtain⟨hs,b1,b2,b3,b4⟩:=hI
  exfalso
  have:max 0 (v.size+u.size)=v.size+u.size:=by omega
  omega
 .obtain⟨hs,r,e,hr⟩:=hI
  rw[e]
  exact wpS_pure (h r t hs hr)
end
noncomputable abbrev Pd:=Array (Nat × Nat × Nat)
theorem zkv (i:Nat):mergeAt' i=(do
 let z<-get
 let (some (a,m,p),some (b,n,_)):=((pendingOf z)[i]?,(pendingOf z)[i+1]?) | (unsupported ("internal:list.sort.pending"))
 set (setPending z (((pendingOf z).setIfInBounds i (a,m+n,p)).eraseIdxIfInBounds (i+1)))
 let some k<-gal false (<- elem' (arrOf z) b) (arrOf z) a m 0 | return false
 let (a,m):=(a+k,m - k)
 if m == 0 then return true
 let some n<-gal true (<- elem' (arrOf z) (a+m - 1)) (arrOf z) b n (n - 1) | return false
 if n == 0 then return true
 let x:=(arrOf z).extract a b
 let y:=(arrOf z).extract b (b+n)
 let r<-if m<=n then mlo x y else mhi x y
 modify λs=>setArr s (r.toList.zipIdx.foldl (λx (y,j)=>x.setIfInBounds (a+j) y) (arrOf s))
 return (failedOf (<- get)).isNone):=rfl
theorem zhb:∀ (m:List Keyed) (x:KA) (b n:Nat),b+n+m.length<=x.size->((m.zipIdx n).foldl (λx z=>x.setIfInBounds (b+z.2) z.1) x).toList=x.toList.take (b+n)++m++x.toList.drop (b+n+m.length):=by
 intro m
 induction m with
 | nil=>intro x b n h;simp
 | cons y m ih =>
  intro x b n h
  rw[List.length_cons]at h
  rw[List.zipIdx_cons,List.foldl_cons]
  rw[ih (x.setIfInBounds (b+n) y) b (n+1) (by rw[Array.size_setIfInBounds];omega)]
  rw[Array.toList_setIfInBounds,List.length_cons,show b+(n+1)=b+n+1 by omega,show b+n+1+m.length=b+n+(m.length+1) by omega]
  have hl:b+n < x.toList.length:=by rw[Array.length_toList];omega
  rw[List.drop_set_of_lt (by omega),List.take_set]
  have e1:(x.toList.take (b+n+1)).set (b+n) y=x.toList.take (b+n)++[y]:=by
   rw[List.take_add_one,List.getElem?_eq_getElem hl]
   have:(x.toList.take (b+n)).length=b+n:=by rw[List.length_take];omega
   rw[List.set_append_right _ _ (by omega),this,Nat.sub_self]
   rfl
  rw[e1,List.append_assoc,List.append_assoc,List.append_assoc]
  rfl
theorem ZD {l:List Keyed}{a m k:Nat}(h:k<=m):l.take (a+k)=l.take a++((l.drop a).take m).take k:=by
 rw[List.take_add,List.take_take,Nat.min_eq_left h]
theorem zhm {l:List Keyed}{b n q:Nat}(h:q<=n)(hl:b+n<=l.length):l.drop (b+q)=((l.drop b).take n).drop q++l.drop (b+n):=by
 have e:(l.drop b).take n++(l.drop b).drop n=l.drop b:=List.take_append_drop n (l.drop b)
 rw[<-List.drop_drop,<- List.drop_drop]
 have e2:(l.drop b).drop q=((l.drop b).take n++(l.drop b).drop n).drop q:=by rw[e]
 rw[e2,List.drop_append_of_le_length (by rw[List.length_take,List.length_drop];omega)]
theorem ziU {prog:Program}{w:World}{A:Around}{E:Value->Shared->Prop}{s:Shared}{st z:SortSt}{Q:PUnit->SortSt->Prop}(h:Q ⟨⟩ z):wpS (model prog w) A E s (set z:SM PUnit) Q st:=wpS_modify (f:=λ_=>z) h
section
variable {prog:Program}{w:World}{A:Around}{E:Value->Shared->Prop}{s:Shared}{st:SortSt}{κ:KeyKind}{k:SortKind}{D:Keyed->Prop}
theorem zkX {l r:List Keyed}{q:Keyed}(sl:l.Pairwise (LE κ))(sr:r.Pairwise (LE κ))(h1:∀ x∈l,LE κ x q)(h2:∀ y∈r,LE κ q y):(l++r).Pairwise (LE κ):=by
 rw[List.pairwise_append]
 exact⟨sl,sr,λx hx y hy=>LE.trans (h1 x hx) (h2 y hy)⟩
theorem zi1 {P:Bool->SortSt->Prop}{i a m p b n x:Nat}{l S1 S2:List Keyed}(L:LtE prog w A E s κ k D)(hk:kindOf st=k)(hf:failedOf st=none)(h1:(pendingOf st)[i]?=some (a,m,p))(h2:(pendingOf st)[i+1]?=some (b,n,x))
 (el:(arrOf st).toList=l) (hd:∀ x∈l,D x) (hb:a+m=b) (hn:b+n<=l.length) (m0:0 < m) (n0:0 < n) (e1:(l.drop a).take m=S1) (e2:(l.drop b).take n=S2) (s1:S1.Pairwise (LE κ)) (s2:S2.Pairwise (LE κ))
 (h:∀ t M,kindOf t=k->failedOf t=none->pendingOf t=((pendingOf st).setIfInBounds i (a,m+n,p)).eraseIdxIfInBounds (i+1)->(arrOf t).toList=l.take a++M++l.drop (b+n)->M.Perm (S1++S2)->M.Pairwise (LE κ)->P true t):wpS (model prog w) A E s (mergeAt' i) P st:=by
 have hsz:(arrOf st).size=l.length:=by rw[<-el,Array.length_toList]
 have l1:S1.length=m:=by rw[<-e1,List.length_take,List.length_drop];omega
 have l2:S2.length=n:=by rw[<-e2,List.length_take,List.length_drop];omega
 have whole:l=l.take a++(S1++S2)++l.drop (b+n):=by
  have q1:=ZD (l:=l) (a:=a) (Nat.le_refl m)
  rw[e1,show S1.take m=S1 from List.take_of_length_le (by omega),hb]at q1
  have q2:=ZD (l:=l) (a:=b) (Nat.le_refl n)
  rw[e2,show S2.take n=S2 from List.take_of_length_le (by omega),q1]at q2
  have q3:=List.take_append_drop (b+n) l
  rw[q2]at q3
  rw[<-List.append_assoc]
  exact q3.symm
 have get1:∀ {i x},S1[i]?=some x->l[a+i]?=some x:=λ{i x} e=>by
  have hi:i < m:=by have:=(List.getElem?_eq_some_iff.mp e).1;omega
  rw[<-e1,List.getElem?_take_of_lt hi,List.getElem?_drop]at e
  exact e
 have get2:∀ {i x},S2[i]?=some x->l[b+i]?=some x:=λ{i x} e=>by
  have hi:i < n:=by have:=(List.getElem?_eq_some_iff.mp e).1;omega
  rw[<-e2,List.getElem?_take_of_lt hi,List.getElem?_drop]at e
  exact e
 have d1:∀ x∈S1,D x:=λx hx=>hd x (by rw[<-e1]at hx;exact List.mem_of_mem_drop (List.mem_of_mem_take hx))
 have d2:∀ x∈S2,D x:=λx hx=>hd x (by rw[<-e2]at hx;exact List.mem_of_mem_drop (List.mem_of_mem_take hx))
 rw[zkv]
 refine wpS_bind (wpS_get ?_)
 dsimp only
 rw[h1,h2]
 dsimp only
 refine wpS_bind (ziU ?_)
 obtain⟨y0,hy0⟩:∃ y,S2[0]?=some y:=⟨_,List.getElem?_eq_getElem (by omega)⟩
 refine wpS_bind (zU (by rw[el];exact get2 hy0) ?_)
 have hy2:∀ y∈S2,LE κ y0 y:=λy hy=>X4 (LE.refl (κ:=κ)) s2 hy0 y (by rw[List.drop_zero];exact hy)
 have hkz:kindOf (setPending st (((pendingOf st).setIfInBounds i (a,m+n,p)).eraseIdxIfInBounds (i+1)))=k:=hk
 refine wpS_bind (VD L hkz (d2 y0 (List.mem_of_getElem? hy0)) (λz hz=>d1 z (by rw[el,e1]at hz;exact hz)) (by rw[el];omega) (by omega) (by rw[el,e1];exact s1) λc hc g1 g2=>?_)
 rw[el,e1]at g1 g2
 dsimp only
 by_cases c0:m - c=0
 .rw[if_pos (beq_iff_eq.mpr c0)]
  refine wpS_pure (h _ (S1++S2) hk hf rfl (by show(arrOf st).toList=_;rw[el];exact whole) (List.Perm.refl _) (zkX s1 s2 (λx hx=>g1 x ?_) hy2))
  rw[List.take_of_length_le (by omega)]
  exact hx
 rw[if_neg (λz=>c0 (beq_iff_eq.mp z))]
 obtain⟨x0,hx0⟩:∃ x,S1[m - 1]?=some x:=⟨_,List.getElem?_eq_getElem (by omega)⟩
 refine wpS_bind (zU (x:=x0) (by rw[el,show a+c+(m - c) - 1=a+(m - 1) by omega];exact get1 hx0) ?_)
 have hx2:∀ x∈S1,LE κ x x0:=λx hx=>za7 s1 (i:=m) (by omega) hx0 x (by rw[List.take_of_length_le (by omega)];exact hx)
 refine wpS_bind (Vv L hkz (d1 x0 (List.mem_of_getElem? hx0)) (λz hz=>d2 z (by rw[el,e2]at hz;exact hz)) (by rw[el];omega) (by omega) (by rw[el,e2];exact s2) λq hq g3 g4=>?_)
 rw[el,e2]at g3 g4
 dsimp only
 by_cases q0:q=0
 .rw[if_pos (beq_iff_eq.mpr q0)]
  subst q0
  exact wpS_pure (h _ (S1++S2) hk hf rfl (by show(arrOf st).toList=_;rw[el];exact whole) (List.Perm.refl _) (zkX s1 s2 hx2 g4))
 rw[if_neg (λz=>q0 (beq_iff_eq.mp z))]
 have ev:((arrOf st).extract (a+c) b).toList=S1.drop c:=by
  rw[wC,el,<- e1,List.drop_take,List.drop_drop,show b - (a+c)=m - c by omega]
 have eu:((arrOf st).extract b (b+q)).toList=S2.take q:=by
  rw[wC,el,<- e2,List.take_take,Nat.add_sub_cancel_left,Nat.min_eq_left hq]
 have T:Two κ D ((arrOf st).extract (a+c) b) ((arrOf st).extract b (b+q)):=by
  refine⟨?_,?_,?_,?_⟩
  .rw[ev];exact λx hx=>d1 x (List.mem_of_mem_drop hx)
  .rw[eu];exact λx hx=>d2 x (List.mem_of_mem_take hx)
  .rw[ev];exact s1.sublist (List.drop_sublist _ _)
  .rw[eu];exact s2.sublist (List.take_sublist _ _)
 have zv:((arrOf st).extract (a+c) b).size=m - c:=by rw[<-Array.length_toList,ev,List.length_drop];omega
 have zu:((arrOf st).extract b (b+q)).size=q:=by rw[<-Array.length_toList,eu,List.length_take];omega
 have top:∀ y∈((arrOf st).extract b (b+q)).toList,∀ x,((arrOf st).extract (a+c) b).toList[((arrOf st).extract (a+c) b).size - 1]?=some x->LE κ y x:=by
  intro y hy x hx
  rw[eu]at hy
  rw[zv,ev,List.getElem?_drop,show c+(m - c - 1)=m - 1 by omega,hx0]at hx
  cases hx
  exact KeyOrd.kle_of_klt (g3 y hy)
 have bot:∀ x∈((arrOf st).extract (a+c) b).toList,∀ y,((arrOf st).extract b (b+q)).toList[0]?=some y->LE κ y x:=by
  intro x hx y hy
  rw[ev]at hx
  rw[eu,List.getElem?_take_of_lt (by omega),hy0]at hy
  cases hy
  exact KeyOrd.kle_of_klt (g2 x hx)
 have fin:∀ r t,Sm (setPending st (((pendingOf st).setIfInBounds i (a,m+n,p)).eraseIdxIfInBounds (i+1))) t->Fn κ ((arrOf st).extract (a+c) b) ((arrOf st).extract b (b+q)) r->wpS (model prog w) A E s (do
  modify λs=>setArr s (r.toList.zipIdx.foldl (λx z=>x.setIfInBounds (a+c+z.2) z.1) (arrOf s))
  let z<-get
  pure (failedOf z).isNone:SM Bool) P t:=λr t hs hr=>by
  refine wpS_bind (wpS_modify (wpS_bind (wpS_get ?_)))
  have hf':failedOf t=none:=hs.fl.trans hf
  show wpS _ _ _ _ (pure (failedOf t).isNone) _ _
  rw[hf']
  have ha:arrOf t=arrOf st:=hs.ar
  obtain⟨rp,rs⟩:=hr
  rw[ev,eu]at rp
  have rl:r.toList.length=m - c+q:=by rw[rp.length_eq,List.length_append,List.length_drop,List.length_take];omega
  refine wpS_pure (h _ (S1.take c++r.toList++S2.drop q) (hs.kd.trans hk) hf' hs.pd ?_ ?_ ?_)
  .show((r.toList.zipIdx.foldl (λx z=>x.setIfInBounds (a+c+z.2) z.1) (arrOf t))).toList=_
   rw[ha,zhb r.toList (arrOf st) (a+c) 0 (by rw[rl,hsz];omega),el,Nat.add_zero,rl,show a+c+(m - c+q)=b+q by omega,ZD (l:=l) (a:=a) hc,e1,zhm hq hn,e2]
   simp only[List.append_assoc]
  .refine((rp.append_left (S1.take c)).append_right (S2.drop q)).trans ?_
   rw[<-List.append_assoc,List.take_append_drop,List.append_assoc,List.take_append_drop]
  .rw[List.append_assoc]
   have s3:(r.toList++S2.drop q).Pairwise (LE κ):=by
    rw[List.pairwise_append]
    refine⟨rs,s2.sublist (List.drop_sublist _ _),λx hx y hy=>?_⟩
    rcases List.mem_append.mp (rp.mem_iff.mp hx)with hx | hx
    .exact LE.trans (hx2 x (List.mem_of_mem_drop hx)) (g4 y hy)
    .have:=List.take_append_drop q S2
     rw[<-this,List.pairwise_append]at s2
     exact s2.2.2 x hx y hy
   rw[List.pairwise_append]
   refine⟨s1.sublist (List.take_sublist _ _),s3,λx hx y hy=>?_⟩
   rcases List.mem_append.mp hy with hy | hy
   .rcases List.mem_append.mp (rp.mem_iff.mp hy)with hy | hy
    .have:=List.take_append_drop c S1
     rw[<-this,List.pairwise_append]at s1
     exact s1.2.2 x hx y hy
    .exact LE.trans (g1 x hx) (hy2 y (List.mem_of_mem_take hy))
   .exact LE.trans (g1 x hx) (hy2 y (List.mem_of_mem_drop hy))
 by_cases cc:m - c<=q
 .rw[if_pos cc]
  exact wpS_bind (ziZ L hkz T (by omega) (by omega) top bot fin)
 .rw[if_neg cc]
  exact wpS_bind (ziO L hkz T (by omega) (by omega) top bot fin)
end
noncomputable def zjO (lo a n:Nat):SM AscSt :=
 forIn [a:n] ((none,a):AscSt) λ_ c=>do
  let some z<-ltAt' (lo+c.2) (lo+c.2 - 1) | pure (.done (some none,c.2))
  if z=true then pure (.done (none,c.2))else pure (.yield (none,c.2+1))
noncomputable def zeM (lo n m:Nat):SM (Option Nat):=do
 reverseSlice' lo (lo+n)
 let c<-zjO lo n m
 match c.1 with
 | some r=>pure r
 | none=>pure (some c.2)
noncomputable def zgW (lo n m:Nat):SM DescSt :=
 forIn [n:m] ((none,n,0):DescSt) λ_ c=>do
  let some z<-ltAt' (lo+c.2.1) (lo+c.2.1 - 1) | pure (.done (some none,c.2.1,c.2.2))
  if z=true then
   if c.2.2 > 0 then do
    reverseSlice' (lo+c.2.1 - (c.2.2+1)) (lo+c.2.1)
    pure (.yield (none,c.2.1+1,0))
   else pure (.yield (none,c.2.1+1,0))
  else do
   let some y<-ltAt' (lo+c.2.1 - 1) (lo+c.2.1) | pure (.done (some none,c.2.1,c.2.2))
   if y=true then pure (.done (none,c.2.1,c.2.2))else pure (.yield (none,c.2.1+1,c.2.2+1))
noncomputable def zft (lo n m:Nat):SM (Option Nat):=do
 (rule ("list.sort.descending-run"))
 let c<-zgW lo (n+1) m
 match c.1 with
 | some r=>pure r
 | none =>
  if c.2.2 > 0 then do
   reverseSlice' (lo+c.2.1 - (c.2.2+1)) (lo+c.2.1)
   zeM lo c.2.1 m
  else zeM lo c.2.1 m
theorem zeq (lo m:Nat):countRun' lo m=(do
 let c<-zjO lo 1 m
 match c.1 with
 | some r=>pure r
 | none =>
  if (c.2 == m)=true then pure (some c.2)
  else if c.2 > 1 then do
   let some z<-ltAt' lo (lo+c.2 - 1) | pure none
   if z=true then pure (some c.2)else do
    reverseSlice' lo (lo+c.2)
    zft lo c.2 m
  else zft lo c.2 m):=by
 rw[countRun'_eq]
 unfold zft zeM zgW zjO
 dsimp only
 congr 1
 funext c
 obtain⟨r,n⟩:=c
 cases r with
 | some r=>rfl
 | none =>
  dsimp only
  split
  .rfl
  .split
   .congr 1
    funext x
    cases x with
    | none=>rfl
    | some z =>
     dsimp only
     split
     .rfl
     .congr 1;funext _;congr 1;funext _;congr 1;funext d
      obtain⟨r2,n2,q2⟩:=d
      cases r2 with
      | some r2=>rfl
      | none =>
       dsimp only
       split
       .congr 1;funext _;congr 1;funext _;congr 1;funext e
        obtain⟨r3,n3⟩:=e
        cases r3 <;> rfl
       .congr 1;funext _;congr 1;funext e
        obtain⟨r3,n3⟩:=e
        cases r3 <;> rfl
   .congr 1;funext _;congr 1;funext d
    obtain⟨r2,n2,q2⟩:=d
    cases r2 with
    | some r2=>rfl
    | none =>
     dsimp only
     split
     .congr 1;funext _;congr 1;funext _;congr 1;funext e
      obtain⟨r3,n3⟩:=e
      cases r3 <;> rfl
     .congr 1;funext _;congr 1;funext e
      obtain⟨r3,n3⟩:=e
      cases r3 <;> rfl
structure SL (k:SortKind) (a₀ X:KA) (lo:Nat) (p:Pd) (st:SortSt):Prop where
 pm:(arrOf st).Perm a₀
 kd:kindOf st=k
 fl:failedOf st=none
 pd:pendingOf st=p
 bl:∀ i,i < lo->(arrOf st)[i]?=X[i]?
noncomputable def SO (κ:KeyKind)(xs:KA)(lo n:Nat):Prop:=∀ i j,i<=j->j < n->κ.kle (KK κ xs (lo+i)) (KK κ xs (lo+j))
noncomputable def NO (κ:KeyKind)(xs:KA)(lo n:Nat):Prop:=∀ i j,i<=j->j < n->κ.kle (KK κ xs (lo+j)) (KK κ xs (lo+i))
section
variable {prog:Program}{w:World}{A:Around}{E:Value->Shared->Prop}{s:Shared}{st:SortSt}{κ:KeyKind}{k:SortKind}{a₀ X:KA}{lo:Nat}{p:Pd}
theorem SL.sz (S:SL k a₀ X lo p st):(arrOf st).size=a₀.size:=S.pm.size_eq
theorem SL.put (S:SL k a₀ X lo p st){ys:KA}(h:ys.Perm (arrOf st))(b:∀ i,i < lo->ys[i]?=(arrOf st)[i]?):SL k a₀ X lo p (setArr st ys):=⟨h.trans S.pm,S.kd,S.fl,S.pd,λi hi=>(b i hi).trans (S.bl i hi)⟩
theorem SL.mirror (S:SL k a₀ X lo p st){i j:Nat}(hi:lo<=i)(hj:j<=a₀.size):SL k a₀ X lo p (setArr st (mirror (arrOf st) i j ((j - i) / 2))) :=
 S.put (mirror_perm _ _ _ _) λq hq=>by rw[getElem?_mirror_all (by rw[S.sz];exact hj),if_neg (by omega)]
theorem zeL {xs:KA}{i:Nat}{x:Keyed}(h:xs[i]?=some x):KK κ xs i=ky κ x:=by
 unfold KK
 rw[h]
 rfl
theorem Z4 {i j:Nat}{Q:Option Bool->SortSt->Prop}(L:LtE prog w A E s κ k (·∈a₀.toList))(S:SL k a₀ X lo p st)(hi:i < a₀.size)(hj:j < a₀.size)(q:Q (some (κ.blt (KK κ (arrOf st) i) (KK κ (arrOf st) j))) st):wpS (model prog w) A E s (ltAt' i j) Q st:=by
 have look:∀ {i},i < a₀.size->∃ x,(arrOf st)[i]?=some x/\x∈a₀.toList:=λ{i} hi=>by
  have hi':i < (arrOf st).size:=by rw[S.sz];exact hi
  exact⟨(arrOf st)[i],getElem?_pos _ i hi',(Array.perm_iff_toList_perm.mp S.pm).mem_iff.mp (by simp)⟩
 obtain⟨x,e1,m1⟩:=look hi
 obtain⟨y,e2,m2⟩:=look hj
 rw[zeL e1,zeL e2]at q
 rw[ltAt'_eq]
 refine wpS_bind (wpS_get ?_)
 show wpS _ _ _ _ (elem' (arrOf st) i>>=λx=>elem' (arrOf st) j>>=λy=>lt' x y) Q st
 rw[elem'_eq,elem'_eq,e1,e2]
 exact wpS_bind (wpS_pure (wpS_bind (wpS_pure (L _ _ _ _ S.kd m1 m2 q))))
theorem SO.up {xs:KA}{x:Nat}(h:SO κ xs lo x)(hx:1<=x)(e:κ.kle (KK κ xs (lo+x - 1)) (KK κ xs (lo+x))):SO κ xs lo (x+1):=λi j hij hj=>by
 by_cases c:j < x
 .exact h i j hij c
 .obtain rfl:j=x:=by omega
  by_cases d:i=j
  .rw[d];exact KeyOrd.kle_refl _
  .have:=h i (j - 1) (by omega) (by omega)
   rw[show lo+(j - 1)=lo+j - 1 by omega]at this
   exact KeyOrd.kle_trans this e
theorem NO.down {xs:KA}{x:Nat}(h:NO κ xs lo x)(hx:1<=x)(e:κ.kle (KK κ xs (lo+x)) (KK κ xs (lo+x - 1))):NO κ xs lo (x+1):=λi j hij hj=>by
 by_cases c:j < x
 .exact h i j hij c
 .obtain rfl:j=x:=by omega
  by_cases d:i=j
  .rw[d];exact KeyOrd.kle_refl _
  .have:=h i (j - 1) (by omega) (by omega)
   rw[show lo+(j - 1)=lo+j - 1 by omega]at this
   exact KeyOrd.kle_trans e this
theorem SO.one {xs:KA}:SO κ xs lo 1:=λi j hij hj=>by
 obtain rfl:i=j:=by omega
 exact KeyOrd.kle_refl _
theorem NO.one {xs:KA}:NO κ xs lo 1:=λi j hij hj=>by
 obtain rfl:i=j:=by omega
 exact KeyOrd.kle_refl _
theorem NO.of {xs ys:KA}{n:Nat}(h:NO κ xs lo n)(e:∀ i,KK κ ys i=KK κ xs i):NO κ ys lo n:=λi j hij hj=>by rw[e,e];exact h i j hij hj
theorem NO.turn {xs:KA}{n:Nat}(h:NO κ xs lo n)(hn:lo+n<=xs.size):SO κ (mirror xs lo (lo+n) ((lo+n - lo) / 2)) lo n:=λi j hij hj=>by
 rw[KK_mirror hn,KK_mirror hn,if_pos ⟨by omega,by omega⟩,if_pos ⟨by omega,by omega⟩]
 have:=h (n - 1 - j) (n - 1 - i) (by omega) (by omega)
 rw[show lo+(n - 1 - i)=lo+(lo+n) - 1 - (lo+i) by omega,show lo+(n - 1 - j)=lo+(lo+n) - 1 - (lo+j) by omega]at this
 exact this
theorem zcs {a n:Nat}{Q:AscSt->SortSt->Prop}(L:LtE prog w A E s κ k (·∈a₀.toList))(hn:lo+n<=a₀.size)(ha:1<=a)(han:a<=n)(S:SL k a₀ X lo p st)(hs:SO κ (arrOf st) lo a)
 (h:∀ m,a<=m->m<=n->SO κ (arrOf st) lo m->(m=n\/κ.klt (KK κ (arrOf st) (lo+m)) (KK κ (arrOf st) (lo+m - 1)))->Q (none,m) st):wpS (model prog w) A E s (zjO lo a n) Q st:=by
 unfold zjO
 refine wpS_forRange (I:=λx c t=>(t=st/\c=(none,x))/\SO κ (arrOf st) lo x) (λx c t h1 h2 hI=>?_) (λc t hI=>?_) ⟨⟨rfl,rfl⟩,hs⟩
 .obtain⟨⟨rfl,rfl⟩,hx⟩:=hI
  refine wpS_bind (Z4 L S (by omega) (by omega) ?_)
  dsimp only
  cases c:κ.blt (KK κ (arrOf t) (lo+x)) (KK κ (arrOf t) (lo+x - 1)) with
  | true=>exact wpS_pure (h x h1 (by omega) hx (.inr c))
  | false=>exact wpS_pure ⟨⟨rfl,rfl⟩,hx.up (by omega) c⟩
 .obtain⟨⟨rfl,rfl⟩,hx⟩:=hI
  have e:max a n=n:=by omega
  rw[e]at hx ⊢
  exact h n han (Nat.le_refl _) hx (.inl rfl)
theorem V7 {n m:Nat}{Q:Option Nat->SortSt->Prop}(L:LtE prog w A E s κ k (·∈a₀.toList))(hm:lo+m<=a₀.size)(h1:1<=n)(hnm:n<=m)(S:SL k a₀ X lo p st)(hs:NO κ (arrOf st) lo n)
 (h:∀ r t,SL k a₀ X lo p t->1<=r->r<=m->SO κ (arrOf t) lo r->Q (some r) t):wpS (model prog w) A E s (zeM lo n m) Q st:=by
 unfold zeM
 have S':=S.mirror (i:=lo) (j:=lo+n) (Nat.le_refl _) (by omega)
 exact wpS_bind (wpS_reverse (wpS_bind (zcs L hm h1 hnm S' (hs.turn (by rw[S.sz];omega)) λr g1 g2 g3 _=>wpS_pure (h r _ S' (by omega) g2 g3))))
theorem zfw {n m:Nat}{Q:DescSt->SortSt->Prop}(L:LtE prog w A E s κ k (·∈a₀.toList))(hm:lo+m<=a₀.size)(h1:1<=n)(hnm:n<=m)(S:SL k a₀ X lo p st)(hs:NO κ (arrOf st) lo n)
 (h:∀ r q t,SL k a₀ X lo p t->n<=r->r<=m->NO κ (arrOf t) lo r->q+1<=r->(∀ i,lo+r - (q+1)<=i->i < lo+r->KK κ (arrOf t) i=KK κ (arrOf t) (lo+r - 1))->Q (none,r,q) t):wpS (model prog w) A E s (zgW lo n m) Q st:=by
 unfold zgW
 refine wpS_forRange (I:=λx c t=>∃ q,c=(none,x,q)/\SL k a₀ X lo p t/\NO κ (arrOf t) lo x/\q+1<=x/\∀ i,lo+x - (q+1)<=i->i < lo+x->KK κ (arrOf t) i=KK κ (arrOf t) (lo+x - 1))
  (λx c t g1 g2 hI=>?_) (λc t hI=>?_) ⟨0,rfl,S,hs,h1,λi c1 c2=>by rw[show i=lo+n - 1 by omega]⟩
 .obtain⟨q,rfl,S1,ni,hq,he⟩:=hI
  dsimp only
  refine wpS_bind (Z4 L S1 (by omega) (by omega) ?_)
  dsimp only
  cases c:κ.blt (KK κ (arrOf t) (lo+x)) (KK κ (arrOf t) (lo+x - 1)) with
  | true =>
   have d:=ni.down (by omega) (KeyOrd.kle_of_klt c)
   rw[if_pos rfl]
   by_cases hq0:q > 0
   .rw[if_pos hq0]
    exact wpS_bind (wpS_reverse (wpS_pure ⟨0,rfl,S1.mirror (by omega) (by omega),d.of (KK_mirror_equal (by rw[S1.sz];omega) he),by omega,λi c1 c2=>by rw[show i=lo+(x+1) - 1 by omega]⟩))
   .rw[if_neg hq0]
    exact wpS_pure ⟨0,rfl,S1,d,by omega,λi c1 c2=>by rw[show i=lo+(x+1) - 1 by omega]⟩
  | false =>
   rw[if_neg Bool.false_ne_true]
   refine wpS_bind (Z4 L S1 (by omega) (by omega) ?_)
   dsimp only
   cases c2:κ.blt (KK κ (arrOf t) (lo+x - 1)) (KK κ (arrOf t) (lo+x)) with
   | true=>exact wpS_pure (h x q t S1 g1 (by omega) ni hq he)
   | false =>
    have same:KK κ (arrOf t) (lo+x)=KK κ (arrOf t) (lo+x - 1):=KeyOrd.kle_antisymm c2 c
    refine wpS_pure ⟨q+1,rfl,S1,ni.down (by omega) c2,by omega,λi d1 d2=>?_⟩
    show KK κ (arrOf t) i=KK κ (arrOf t) (lo+x)
    by_cases di:i=lo+x
    .rw[di]
    .rw[same];exact he i (by omega) (by omega)
 .obtain⟨q,rfl,S1,ni,hq,he⟩:=hI
  have e:max n m=m:=by omega
  rw[e]at ni hq he ⊢
  exact h m q t S1 hnm (Nat.le_refl _) ni hq he
theorem zaE {n m:Nat}{Q:Option Nat->SortSt->Prop}(L:LtE prog w A E s κ k (·∈a₀.toList))(hm:lo+m<=a₀.size)(hnm:n+1<=m)(S:SL k a₀ X lo p st)(hs:NO κ (arrOf st) lo (n+1))
 (h:∀ r t,SL k a₀ X lo p t->1<=r->r<=m->SO κ (arrOf t) lo r->Q (some r) t):wpS (model prog w) A E s (zft lo n m) Q st:=by
 unfold zft
 refine wpS_bind (wpS_lift (wpAny_rule ⟨rfl,wpS_bind (zfw L hm (by omega) hnm S hs λr q t S1 r1 r2 ni hq he=>?_)⟩))
 dsimp only
 by_cases hq0:q > 0
 .rw[if_pos hq0]
  exact wpS_bind (wpS_reverse (V7 (n:=r) L hm (by omega) r2 (S1.mirror (by omega) (by omega)) (ni.of (KK_mirror_equal (by rw[S1.sz];omega) he)) h))
 .rw[if_neg hq0]
  exact V7 (n:=r) L hm (by omega) r2 S1 ni h
theorem zcU {m:Nat}{Q:Option Nat->SortSt->Prop}(L:LtE prog w A E s κ k (·∈a₀.toList))(hm:lo+m<=a₀.size)(h1:1<=m)(S:SL k a₀ X lo p st)
 (h:∀ r t,SL k a₀ X lo p t->1<=r->r<=m->SO κ (arrOf t) lo r->Q (some r) t):wpS (model prog w) A E s (countRun' lo m) Q st:=by
 rw[zeq]
 refine wpS_bind (zcs L hm (Nat.le_refl 1) h1 S SO.one λn n1 n2 sn or=>?_)
 dsimp only
 by_cases e:n=m
 .rw[if_pos (by rw[e];exact beq_self_eq_true m)]
  exact wpS_pure (h n st S n1 n2 sn)
 .rw[if_neg (λz=>e (eq_of_beq z))]
  have lt:=or.resolve_left e
  by_cases g:n > 1
  .rw[if_pos g]
   refine wpS_bind (Z4 L S (by omega) (by omega) ?_)
   dsimp only
   cases c:κ.blt (KK κ (arrOf st) lo) (KK κ (arrOf st) (lo+n - 1)) with
   | true=>exact wpS_pure (h n st S n1 n2 sn)
   | false =>
    have eq:∀ i,lo<=i->i < lo+n->KK κ (arrOf st) i=KK κ (arrOf st) (lo+n - 1):=λi hl hi=>by
     have z1:=sn (i - lo) (n - 1) (by omega) (by omega)
     have z2:=sn 0 (i - lo) (by omega) (by omega)
     rw[show lo+(i - lo)=i by omega,show lo+(n - 1)=lo+n - 1 by omega]at z1
     rw[show lo+(i - lo)=i by omega,Nat.add_zero]at z2
     exact KeyOrd.kle_antisymm z1 (KeyOrd.kle_trans c z2)
    have ni:NO κ (arrOf st) lo n:=λi j _ hj=>by rw[eq (lo+i) (by omega) (by omega),eq (lo+j) (by omega) (by omega)];exact KeyOrd.kle_refl _
    rw[if_neg Bool.false_ne_true]
    exact wpS_bind (wpS_reverse (zaE L hm (by omega) (S.mirror (Nat.le_refl _) (by omega)) ((ni.down (by omega) (KeyOrd.kle_of_klt lt)).of (KK_mirror_equal (by rw[S.sz];omega) eq)) h))
  .rw[if_neg g]
   obtain rfl:n=1:=by omega
   exact zaE L hm (by omega) S (NO.one.down (Nat.le_refl 1) (KeyOrd.kle_of_klt lt)) h
theorem SL.bubble (S:SL k a₀ X lo p st){x l:Nat}(hl:l<=x)(hx:lo+x < a₀.size):SL k a₀ X lo p (setArr st (bubble (arrOf st) (lo+x) (lo+x - (lo+l)))) :=
 S.put (bubble_perm _ _ _) λq hq=>by rw[getElem?_bubble (by rw[S.sz];exact hx) _ (by omega),if_neg (by omega),if_neg (by omega)]
theorem ziX {xs:KA}{x l:Nat}(hz:lo+x < xs.size)(hl:l<=x)(sx:SO κ xs lo x)(low:∀ i,i < l->κ.kle (KK κ xs (lo+i)) (KK κ xs (lo+x)))(up:∀ i,l<=i->i < x->κ.klt (KK κ xs (lo+x)) (KK κ xs (lo+i))):SO κ (bubble xs (lo+x) (lo+x - (lo+l))) lo (x+1):=by
 have key:∀ i,i < x+1->KK κ (bubble xs (lo+x) (lo+x - (lo+l))) (lo+i)=if i=l then KK κ xs (lo+x)else if l < i then KK κ xs (lo+(i - 1))else KK κ xs (lo+i):=λi hi=>by
  rw[KK_bubble hz (by omega)]
  by_cases c:i=l
  .rw[if_pos (by omega),if_pos c]
  .rw[if_neg (by omega),if_neg c]
   by_cases c2:l < i
   .rw[if_pos ⟨by omega,by omega⟩,if_pos c2,show lo+i - 1=lo+(i - 1) by omega]
   .rw[if_neg (by omega),if_neg c2]
 intro i j hij hj
 rw[key i (by omega),key j hj]
 by_cases i1:i=l
 .rw[if_pos i1]
  by_cases j1:j=l
  .rw[if_pos j1];exact KeyOrd.kle_refl _
  .rw[if_neg j1,if_pos (by omega)]
   exact KeyOrd.kle_of_klt (up (j - 1) (by omega) (by omega))
 .rw[if_neg i1]
  by_cases i2:l < i
  .rw[if_pos i2,if_neg (by omega),if_pos (by omega)]
   exact sx (i - 1) (j - 1) (by omega) (by omega)
  .rw[if_neg i2]
   by_cases j1:j=l
   .rw[if_pos j1];exact low i (by omega)
   .rw[if_neg j1]
    by_cases j2:l < j
    .rw[if_pos j2];exact sx i (j - 1) (by omega) (by omega)
    .rw[if_neg j2];exact sx i j hij (by omega)
theorem zga {n r:Nat}{Q:Bool->SortSt->Prop}(L:LtE prog w A E s κ k (·∈a₀.toList))(hn:lo+n<=a₀.size)(hr:r<=n)(h1:1<=r)(S:SL k a₀ X lo p st)(hs:SO κ (arrOf st) lo r)
 (h:∀ t,SL k a₀ X lo p t->SO κ (arrOf t) lo n->Q true t):wpS (model prog w) A E s (binarySort' lo n r) Q st:=by
 rw[binarySort'_eq]
 rw[show max r 1=r by omega]
 refine wpS_bind (wpS_mono (wpS_forRange (I:=λx c t=>c=(none,())/\SL k a₀ X lo p t/\SO κ (arrOf t) lo x) (Q:=λc t=>c=(none,())/\SL k a₀ X lo p t/\SO κ (arrOf t) lo n)
  (λx c t g1 g2 hI=>?_) (λc t hI=>?_) ⟨rfl,S,hs⟩) λc t hI=>?_)
 .obtain⟨rfl,S1,sx⟩:=hI
  refine wpS_bind (wpS_mono (wpS_forRange
   (I:=λy c t'=>t'=t/\∃ l u,c=(none,l,u)/\(l<=u/\u<=x/\u - l<=x - y)/\(∀ i,i < l->κ.kle (KK κ (arrOf t) (lo+i)) (KK κ (arrOf t) (lo+x)))/\∀ i,u<=i->i < x->κ.klt (KK κ (arrOf t) (lo+x)) (KK κ (arrOf t) (lo+i)))
   (Q:=λc t'=>t'=t/\∃ l u,c=(none,l,u)/\l<=x/\(∀ i,i < l->κ.kle (KK κ (arrOf t) (lo+i)) (KK κ (arrOf t) (lo+x)))/\∀ i,l<=i->i < x->κ.klt (KK κ (arrOf t) (lo+x)) (KK κ (arrOf t) (lo+i)))
   (λy c t' y1 y2 hJ=>?_) (λc t' hJ=>?_) ⟨rfl,0,x,rfl,⟨Nat.zero_le _,Nat.le_refl _,Nat.le_refl _⟩,λi hi=>absurd hi (Nat.not_lt_zero _),λi i1 i2=>absurd (Nat.lt_of_le_of_lt i1 i2) (Nat.lt_irrefl _)⟩) λc t' hJ=>?_)
  .obtain⟨rfl,l,u,rfl,⟨e1,e2,e3⟩,low,up⟩:=hJ
   dsimp only
   by_cases c1:l >= u
   .rw[if_pos c1]
    obtain rfl:l=u:=by omega
    exact wpS_pure ⟨rfl,l,l,rfl,e2,low,up⟩
   .rw[if_neg c1]
    obtain⟨md,hmd⟩:∃ md,(l+u) / 2=md:=⟨_,rfl⟩
    rw[hmd]
    have m1:l<=md/\md < u:=by omega
    refine wpS_bind (Z4 L S1 (by omega) (by omega) ?_)
    dsimp only
    cases c2:κ.blt (KK κ (arrOf t') (lo+x)) (KK κ (arrOf t') (lo+md)) with
    | true=>exact wpS_pure ⟨rfl,l,md,rfl,⟨m1.1,by omega,by omega⟩,low,λi i1 i2=>KeyOrd.klt_of_klt_of_kle c2 (sx md i i1 i2)⟩
    | false=>exact wpS_pure ⟨rfl,md+1,u,rfl,⟨by omega,e2,by omega⟩,λi i1=>KeyOrd.kle_trans (sx i md (by omega) (by omega)) c2,up⟩
  .obtain⟨rfl,l,u,rfl,⟨e1,e2,e3⟩,low,up⟩:=hJ
   obtain rfl:l=u:=by omega
   exact⟨rfl,l,l,rfl,e2,low,up⟩
  .obtain⟨rfl,l,u,rfl,e2,low,up⟩:=hJ
   dsimp only
   rw[moveDown'_eq]
   exact wpS_bind (wpS_modify (wpS_pure ⟨rfl,S1.bubble e2 (by omega),ziX (by rw[S1.sz];omega) e2 sx low up⟩))
 .obtain⟨e1,S1,sx⟩:=hI
  rw[show max r n=n by omega]at sx
  exact⟨e1,S1,sx⟩
 .obtain⟨rfl,S1,sx⟩:=hI
  exact wpS_pure (h t S1 sx)
end
noncomputable abbrev U1:=Option Unit × Unit
noncomputable abbrev U2:=Option Unit × Nat
noncomputable def zlv (q:Nat)(_:U1):SM (ForInStep U1):=do
 let z<-get
 let some (_,_,o):=(if (pendingOf z).size > 1 then (pendingOf z)[(pendingOf z).size - 2]? else none) | pure (.done (none,()))
 if o<=q then pure (.done (none,()))else do
  let b<-mergeAt' ((pendingOf z).size - 2)
  if (!b)=true then pure (.done (some (),()))else pure (.yield (none,()))
noncomputable def zbd (N lo n:Nat):SM (ForInStep U2):=do
 let z<-get
 let some (a,m,_):=(pendingOf z).back? | do
  modify λs=>setPending s ((pendingOf s).push (lo,n,0))
  pure (.yield (none,lo+n))
 let c<-forIn [0:N] ((none,()):U1) λ_ c=>zlv (power' N (2*a+m) (2*a+m+m+n) N) c
 match c.1 with
 | some r=>pure (.done (some r,lo))
 | none=>do
  modify λs=>setPending s ((pendingOf s).modify ((pendingOf s).size - 1) λx=>(x.1,x.2.1,power' N (2*a+m) (2*a+m+m+n) N))
  modify λs=>setPending s ((pendingOf s).push (lo,n,0))
  pure (.yield (none,lo+n))
noncomputable def zli (N M:Nat)(c:U2):SM (ForInStep U2) :=
 if c.2 >= N then pure (.done (none,c.2))else do
  let some f<-countRun' c.2 (N - c.2) | pure (.done (some (),c.2))
  if f < M then do
   (rule ("list.sort.binary-insertion"))
   let b<-binarySort' c.2 (min (N - c.2) M) f
   if (!b)=true then pure (.done (some (),c.2))else zbd N c.2 (min (N - c.2) M)
  else zbd N c.2 f
noncomputable def zlS (p:Pd):Nat:=if ((if p.size - 2 > 0 then p[p.size - 2 - 1]?.map (·.2.1)else none).any (· < (p[p.size - 2+1]?.elim 0 (·.2.1))))=true then p.size - 2 - 1 else p.size - 2
noncomputable def zmu (_:U1):SM (ForInStep U1):=do
 let z<-get
 if (pendingOf z).size<=1 then pure (.done (none,()))else do
  let b<-mergeAt' (zlS (pendingOf z))
  if (!b)=true then pure (.done (some (),()))else pure (.yield (none,()))
theorem ziW:sortRuns'=(do
 let z<-get
 let c<-forIn [0:(arrOf z).size] ((none,0):U2) λ_ c=>zli (arrOf z).size (minRun' (arrOf z).size (arrOf z).size 0) c
 match c.1 with
 | some r=>pure r
 | none=>do
  let d<-forIn [0:(arrOf z).size] ((none,()):U1) λ_ d=>zmu d
  match d.1 with
  | some r=>pure r
  | none=>pure ()):=by
 rw[sortRuns'_eq]
 dsimp only[zli,zbd,zlv,zmu,zlS]
 congr 1;funext z;congr 1
 .congr 1;funext _ c
  congr 1;congr 1;funext f
  cases f with
  | none=>rfl
  | some f =>
   dsimp only
   split
   .congr 1;funext _;congr 1;funext b
    congr 1;congr 1;funext y
    cases (pendingOf y).back? with
    | none=>rfl
    | some r =>
     dsimp only
     congr 1;funext d;obtain⟨r,d⟩:=d;cases r <;> rfl
   .congr 1;funext y
    cases (pendingOf y).back? with
    | none=>rfl
    | some r =>
     dsimp only
     congr 1;funext d;obtain⟨r,d⟩:=d;cases r <;> rfl
 .funext c;obtain⟨r,c⟩:=c
  cases r with
  | some r=>rfl
  | none =>
   dsimp only
   congr 1;funext d;obtain⟨r,d⟩:=d;cases r <;> rfl
noncomputable def XE (κ:KeyKind)(l:List Keyed):Nat->List (Nat × Nat)->Nat->Prop
 | a,[],b=>a=b
 | a,r::p,b=>r.1=a/\0 < r.2/\((l.drop a).take r.2).Pairwise (LE κ)/\XE κ l (a+r.2) p b
section
variable {κ:KeyKind}{l l':List Keyed}
theorem XE.le:∀ {p:List (Nat × Nat)} {a b:Nat},XE κ l a p b->a+p.length<=b
 | [],a,b,h=>by have:a=b:=h;rw[this];exact Nat.le_refl _
 | r::p,a,b,h=>by have:=XE.le h.2.2.2;have:=h.2.1;rw[List.length_cons];omega
theorem XE.split:∀ {p q:List (Nat × Nat)} {a b:Nat},XE κ l a (p++q) b->∃ c,XE κ l a p c/\XE κ l c q b
 | [],q,a,b,h=>⟨a,rfl,h⟩
 | r::p,q,a,b,h=>by
  obtain⟨c,h1,h2⟩:=XE.split (p:=p) h.2.2.2
  exact⟨c,⟨h.1,h.2.1,h.2.2.1,h1⟩,h2⟩
theorem XE.join:∀ {p q:List (Nat × Nat)} {a b c:Nat},XE κ l a p c->XE κ l c q b->XE κ l a (p++q) b
 | [],q,a,b,c,h,h2=>by have:a=c:=h;rw[this];exact h2
 | r::p,q,a,b,c,h,h2=>⟨h.1,h.2.1,h.2.2.1,XE.join h.2.2.2 h2⟩
theorem XE.low:∀ {p:List (Nat × Nat)} {a b:Nat},XE κ l a p b->l'.take b=l.take b->XE κ l' a p b
 | [],a,b,h,_=>h
 | r::p,a,b,h,e=>by
  have hl:=h.2.2.2.le
  refine⟨h.1,h.2.1,?_,h.2.2.2.low e⟩
  have key:∀ m:List Keyed,(m.drop a).take r.2=((m.take b).drop a).take r.2:=λm=>by
   rw[List.drop_take,List.take_take,Nat.min_eq_left (by omega)]
  rw[key,e,<- key]
  exact h.2.2.1
theorem XE.high:∀ {p:List (Nat × Nat)} {a b:Nat},XE κ l a p b->l'.drop a=l.drop a->XE κ l' a p b
 | [],a,b,h,_=>h
 | r::p,a,b,h,e=>by
  refine⟨h.1,h.2.1,by rw[e];exact h.2.2.1,h.2.2.2.high ?_⟩
  rw[<-List.drop_drop,e,List.drop_drop]
end
noncomputable abbrev g2 (r:Nat × Nat × Nat):Nat × Nat:=(r.1,r.2.1)
structure ST (κ:KeyKind) (k:SortKind) (a₀:KA) (hi:Nat) (st:SortSt):Prop where
 pm:(arrOf st).Perm a₀
 kd:kindOf st=k
 fl:failedOf st=none
 sg:XE κ (arrOf st).toList 0 ((pendingOf st).toList.map g2) hi
section
variable {prog:Program}{w:World}{A:Around}{E:Value->Shared->Prop}{s:Shared}{st:SortSt}{κ:KeyKind}{k:SortKind}{a₀:KA}{hi:Nat}
theorem ST.sz (S:ST κ k a₀ hi st):(arrOf st).size=a₀.size:=S.pm.size_eq
theorem ST.mem (S:ST κ k a₀ hi st):∀ x∈(arrOf st).toList,x∈a₀.toList:=λx hx=>(Array.perm_iff_toList_perm.mp S.pm).mem_iff.mp hx
theorem zdW {α:Type}{l:List α}{i:Nat}(h:i+1 < l.length):∃ P x y Q,l=P++x::y::Q/\P.length=i:=by
 refine⟨l.take i,l[i],l[i+1],l.drop (i+2),?_,by rw[List.length_take];omega⟩
 have e1:l.drop i=l[i]::l[i+1]::l.drop (i+2):=by rw[List.drop_eq_getElem_cons (by omega),List.drop_eq_getElem_cons h]
 rw[<-e1,List.take_append_drop]
theorem za6 {i:Nat}{Q:Bool->SortSt->Prop}(L:LtE prog w A E s κ k (·∈a₀.toList))(S:ST κ k a₀ hi st)(hi2:i+1 < (pendingOf st).size)(hle:hi<=a₀.size)
 (h:∀ t,ST κ k a₀ hi t->(pendingOf t).size+1=(pendingOf st).size->(arrOf t).toList.drop hi=(arrOf st).toList.drop hi->Q true t):wpS (model prog w) A E s (mergeAt' i) Q st:=by
 obtain⟨P,⟨a,m,p⟩,⟨b,n,x⟩,R,e,hP⟩:=zdW (l:=(pendingOf st).toList) (i:=i) (by rw[Array.length_toList];exact hi2)
 have sg:=S.sg
 rw[e,List.map_append,List.map_cons,List.map_cons]at sg
 obtain⟨c,s1,sa,m0,so1,sb,n0,so2,s2⟩:=sg.split
 have sa':a=c:=sa
 have sb':b=c+m:=sb
 subst sa' sb'
 dsimp only at m0 n0 so1 so2 s2
 have hl2:=s2.le
 have hz:(arrOf st).toList.length=a₀.size:=by rw[Array.length_toList,S.sz]
 have p1:(pendingOf st)[i]?=some (a,m,p):=by
  rw[<-Array.getElem?_toList,e,List.getElem?_append_right (by omega),hP,Nat.sub_self]
  rfl
 have p2:(pendingOf st)[i+1]?=some (a+m,n,x):=by
  rw[<-Array.getElem?_toList,e,List.getElem?_append_right (by omega),hP,Nat.add_sub_cancel_left]
  rfl
 refine zi1 L S.kd S.fl p1 p2 rfl S.mem rfl (by omega) m0 n0 rfl rfl so1 so2 λt M t1 t2 t3 t4 t5 t6=>?_
 have ep:(pendingOf t).toList=P++(a,m+n,p)::R:=by
  rw[t3,Array.toList_eraseIdxIfInBounds,Array.toList_setIfInBounds,e,List.set_append_right _ _ (by omega),hP,Nat.sub_self,List.eraseIdx_append_of_length_le (by omega),hP,Nat.add_sub_cancel_left]
  rfl
 have lP:((arrOf st).toList.take a).length=a:=by rw[List.length_take];omega
 have lM:M.length=m+n:=by rw[t5.length_eq,List.length_append,List.length_take,List.length_take,List.length_drop,List.length_drop];omega
 have d1:(arrOf t).toList.take a=(arrOf st).toList.take a:=by rw[t4,List.append_assoc,List.take_append_of_le_length (by omega),List.take_of_length_le (by omega)]
 have d2:(arrOf t).toList.drop (a+m+n)=(arrOf st).toList.drop (a+m+n):=by
  rw[t4,List.drop_append_of_le_length (by rw[List.length_append];omega),List.drop_eq_nil_of_le (by rw[List.length_append];omega),List.nil_append]
 have d3:((arrOf t).toList.drop a).take (m+n)=M:=by
  rw[t4,List.append_assoc,List.drop_append_of_le_length (by omega),List.drop_eq_nil_of_le (by omega),List.nil_append,List.take_append_of_le_length (by omega),List.take_of_length_le (by omega)]
 refine h t ⟨?_,t1,t2,?_⟩ ?_ ?_
 .refine Array.perm_iff_toList_perm.mpr (List.Perm.trans ?_ (Array.perm_iff_toList_perm.mp S.pm))
  rw[t4]
  have q1:=ZD (l:=(arrOf st).toList) (a:=a) (Nat.le_refl m)
  rw[List.take_take,Nat.min_self]at q1
  have q2:=ZD (l:=(arrOf st).toList) (a:=a+m) (Nat.le_refl n)
  rw[List.take_take,Nat.min_self,q1]at q2
  have q3:=List.take_append_drop (a+m+n) (arrOf st).toList
  rw[q2]at q3
  have q4:(arrOf st).toList.Perm (List.take a (arrOf st).toList++(List.take m (List.drop a (arrOf st).toList)++List.take n (List.drop (a+m) (arrOf st).toList))++List.drop (a+m+n) (arrOf st).toList):=by
   rw[<-List.append_assoc,q3]
  exact((t5.append_left _).append_right _).trans q4.symm
 .rw[ep,List.map_append,List.map_cons]
  refine(s1.low d1).join ⟨rfl,by show 0 < m+n;omega,by show(((arrOf t).toList.drop a).take (m+n)).Pairwise _;rw[d3];exact t6,?_⟩
  have:XE κ (arrOf t).toList (a+m+n) (R.map g2) hi:=s2.high d2
  show XE κ (arrOf t).toList (a+(m+n)) (R.map g2) hi
  rw[<-Nat.add_assoc]
  exact this
 .rw[<-Array.length_toList,<- Array.length_toList,ep,e]
  simp only[List.length_append,List.length_cons]
  omega
 .rw[show hi=a+m+n+(hi - (a+m+n)) by omega,<- List.drop_drop,d2,List.drop_drop]
theorem zeW {xs:KA}{lo n:Nat}(h:SO κ xs lo n):((xs.toList.drop lo).take n).Pairwise (LE κ):=by
 rw[List.pairwise_iff_getElem]
 intro i j hi hj hij
 have hj2:j < n:=by rw[List.length_take]at hj;omega
 have z:=h i j (by omega) hj2
 have e:∀ {q} (hq:q < ((xs.toList.drop lo).take n).length),KK κ xs (lo+q)=ky κ ((xs.toList.drop lo).take n)[q]:=λ{q} hq=>by
  refine zeL ?_
  have hq2:q < n:=by rw[List.length_take]at hq;omega
  rw[<-Array.getElem?_toList,<- List.getElem?_drop,<- List.getElem?_take_of_lt hq2,List.getElem?_eq_getElem hq]
 rw[e hi,e hj]at z
 exact z
theorem ST.push (S:ST κ k a₀ hi st){n:Nat}(hn:0 < n)(h:(((arrOf st).toList.drop hi).take n).Pairwise (LE κ)):ST κ k a₀ (hi+n) (setPending st ((pendingOf st).push (hi,n,0))):=by
 refine⟨S.pm,S.kd,S.fl,?_⟩
 show XE κ (arrOf st).toList 0 (((pendingOf st).push (hi,n,0)).toList.map g2) (hi+n)
 rw[Array.toList_push,List.map_append]
 exact S.sg.join ⟨rfl,hn,h,rfl⟩
theorem ziF {f:Nat × Nat × Nat->Nat × Nat × Nat}(hf:∀ r,g2 (f r)=g2 r)(p:Pd)(i:Nat):(p.modify i f).toList.map g2=p.toList.map g2:=by
 refine List.ext_getElem? λj=>?_
 rw[Array.toList_modify,List.getElem?_map,List.getElem?_map,List.getElem?_modify]
 cases p.toList[j]? with
 | none=>rfl
 | some r =>
  show Option.map g2 (some (if i=j then f r else r))=_
  split
  .exact congrArg some (hf r)
  .rfl
theorem ST.mod (S:ST κ k a₀ hi st){f:Nat × Nat × Nat->Nat × Nat × Nat}(hf:∀ r,g2 (f r)=g2 r)(i:Nat):ST κ k a₀ hi (setPending st ((pendingOf st).modify i f)):=by
 refine⟨S.pm,S.kd,S.fl,?_⟩
 show XE κ (arrOf st).toList 0 (((pendingOf st).modify i f).toList.map g2) hi
 rw[ziF hf]
 exact S.sg
theorem W0 {N n:Nat}(L:LtE prog w A E s κ k (·∈a₀.toList))(S:ST κ k a₀ hi st)(hn:0 < n)(hle:hi+n<=a₀.size)(so:(((arrOf st).toList.drop hi).take n).Pairwise (LE κ)) :
 wpS (model prog w) A E s (zbd N hi n) (λr t=>r=.yield (none,hi+n)/\ST κ k a₀ (hi+n) t) st:=by
 unfold zbd
 refine wpS_bind (wpS_get ?_)
 cases e:(pendingOf st).back? with
 | none=>exact wpS_bind (wpS_modify (wpS_pure ⟨rfl,S.push hn so⟩))
 | some r =>
  obtain⟨a,m,q⟩:=r
  dsimp only
  refine wpS_bind (wpS_mono (wpS_forRange (I:=λ_ c t=>c=(none,())/\ST κ k a₀ hi t/\(arrOf t).toList.drop hi=(arrOf st).toList.drop hi) (Q:=λc t=>c=(none,())/\ST κ k a₀ hi t/\(arrOf t).toList.drop hi=(arrOf st).toList.drop hi)
   (λx c t _ _ hI=>?_) (λc t hI=>hI) ⟨rfl,S,rfl⟩) λc t hI=>?_)
  .obtain⟨rfl,S1,d1⟩:=hI
   unfold zlv
   refine wpS_bind (wpS_get ?_)
   by_cases c1:(pendingOf t).size > 1
   .rw[if_pos c1]
    cases e2:(pendingOf t)[(pendingOf t).size - 2]? with
    | none=>exact wpS_pure ⟨rfl,S1,d1⟩
    | some r =>
     obtain⟨r1,r2,o⟩:=r
     dsimp only
     split
     .exact wpS_pure ⟨rfl,S1,d1⟩
     .refine wpS_bind (za6 L S1 (by omega) (by omega) λt2 S2 _ d2=>?_)
      exact wpS_pure ⟨rfl,S2,d2.trans d1⟩
   .rw[if_neg c1]
    exact wpS_pure ⟨rfl,S1,d1⟩
  .obtain⟨rfl,S1,d1⟩:=hI
   dsimp only
   refine wpS_bind (wpS_modify (wpS_bind (wpS_modify (wpS_pure ⟨rfl,?_⟩))))
   exact(S1.mod (f:=λx=>(x.1,x.2.1,power' N (2*a+m) (2*a+m+m+n) N)) (λ_=>rfl) ((pendingOf t).size - 1)).push hn (by show(((arrOf t).toList.drop hi).take n).Pairwise (LE κ);rw[d1];exact so)
theorem zgs {xs ys:KA}{lo:Nat}(h:∀ i,i < lo->ys[i]?=xs[i]?):ys.toList.take lo=xs.toList.take lo:=by
 refine List.ext_getElem? λi=>?_
 by_cases c:i < lo
 .rw[List.getElem?_take_of_lt c,List.getElem?_take_of_lt c,Array.getElem?_toList,Array.getElem?_toList]
  exact h i c
 .rw[List.getElem?_eq_none (by rw[List.length_take];omega),List.getElem?_eq_none (by rw[List.length_take];omega)]
theorem ST.sl (S:ST κ k a₀ hi st):SL k a₀ (arrOf st) hi (pendingOf st) st:=⟨S.pm,S.kd,S.fl,rfl,λ_ _=>rfl⟩
theorem ST.from (S:ST κ k a₀ hi st){t:SortSt}(T:SL k a₀ (arrOf st) hi (pendingOf st) t):ST κ k a₀ hi t:=⟨T.pm,T.kd,T.fl,by rw[T.pd];exact S.sg.low (zgs T.bl)⟩
theorem zgb {M:Nat}{c:U2}(L:LtE prog w A E s κ k (·∈a₀.toList))(S:ST κ k a₀ c.2 st)(hc:c.1=none)(hle:c.2<=a₀.size) :
 wpS (model prog w) A E s (zli a₀.size M c) (λr t=>(c.2=a₀.size/\r=.done (none,c.2)/\t=st)\/∃ n,0 < n/\c.2+n<=a₀.size/\r=.yield (none,c.2+n)/\ST κ k a₀ (c.2+n) t) st:=by
 unfold zli
 by_cases c1:c.2 >= a₀.size
 .rw[if_pos c1]
  exact wpS_pure (.inl ⟨by omega,rfl,rfl⟩)
 .rw[if_neg c1]
  refine wpS_bind (zcU (m:=a₀.size - c.2) L (by omega) (by omega) S.sl λf t T f1 f2 so=>?_)
  dsimp only
  have S1:=S.from T
  by_cases c2:f < M
  .rw[if_pos c2]
   refine wpS_bind (wpS_lift (wpAny_rule ⟨rfl,?_⟩))
   have hm:f<=min (a₀.size - c.2) M:=Nat.le_min.mpr ⟨f2,by omega⟩
   have hm2:min (a₀.size - c.2) M<=a₀.size - c.2:=Nat.min_le_left _ _
   refine wpS_bind (zga (n:=min (a₀.size - c.2) M) L (by omega) hm f1 S1.sl so λt2 T2 so2=>?_)
   exact wpS_mono (W0 L (S1.from T2) (by omega) (by omega) (zeW so2)) λr t3 h=>.inr ⟨_,by omega,by omega,h.1,h.2⟩
  .rw[if_neg c2]
   exact wpS_mono (W0 L S1 (by omega) (by omega) (zeW so)) λr t3 h=>.inr ⟨f,by omega,by omega,h.1,h.2⟩
theorem zh9 {p:Pd}(h:1 < p.size):zlS p+1 < p.size:=by
 have key:∀ b:Bool,(if b=true then p.size - 2 - 1 else p.size - 2)+1 < p.size:=λb=>by
  cases b with
  | true=>rw[if_pos rfl];omega
  | false=>rw[if_neg Bool.false_ne_true];omega
 exact key _
theorem own_runsE {Q:Unit->SortSt->Prop}(L:LtE prog w A E s κ k (·∈a₀.toList))(pm:(arrOf st).Perm a₀)(kd:kindOf st=k)(fl:failedOf st=none)(pd:pendingOf st=#[])
 (h:∀ t,(arrOf t).Perm a₀->failedOf t=none->SortedToK κ (arrOf t) a₀.size->Q () t):wpS (model prog w) A E s sortRuns' Q st:=by
 rw[ziW]
 refine wpS_bind (wpS_get ?_)
 have hz:(arrOf st).size=a₀.size:=pm.size_eq
 rw[hz]
 have S0:ST κ k a₀ 0 st:=⟨pm,kd,fl,by rw[pd];exact rfl⟩
 refine wpS_bind (wpS_mono (wpS_forRange (I:=λx c t=>c.1=none/\ST κ k a₀ c.2 t/\c.2<=a₀.size/\(x<=c.2\/c.2=a₀.size)) (Q:=λc t=>c.1=none/\ST κ k a₀ a₀.size t)
  (λx c t _ hx hI=>?_) (λc t hI=>?_) ⟨rfl,S0,Nat.zero_le _,.inl (Nat.le_refl _)⟩) λc t hI=>?_)
 .obtain⟨h1,h2,h3,h4⟩:=hI
  refine wpS_mono (zgb L h2 h1 h3) λr t2 hr=>?_
  rcases hr with ⟨e,rfl,rfl⟩ | ⟨n,n0,n1,rfl,S2⟩
  .exact⟨rfl,by rw[e]at h2;exact h2⟩
  .exact⟨rfl,S2,n1,by rcases h4 with h4 | h4 <;> (show x+1<=c.2+n\/c.2+n=a₀.size;omega)⟩
 .obtain⟨h1,h2,h3,h4⟩:=hI
  refine⟨h1,?_⟩
  have e:c.2=a₀.size:=by
   rcases h4 with h4 | h4
   .have:max 0 a₀.size=a₀.size:=by omega
    omega
   .exact h4
  rw[e]at h2
  exact h2
 .obtain⟨h1,S1⟩:=hI
  rw[h1]
  dsimp only
  have len:=S1.sg.le
  rw[List.length_map,Array.length_toList]at len
  refine wpS_bind (wpS_mono (wpS_forRange (I:=λx d t=>d=(none,())/\ST κ k a₀ a₀.size t/\(pendingOf t).size+x<=a₀.size) (Q:=λd t=>d=(none,())/\ST κ k a₀ a₀.size t/\(pendingOf t).size<=1)
   (λx d t _ hx hI=>?_) (λd t hI=>?_) ⟨rfl,S1,by omega⟩) λd t hI=>?_)
  .obtain⟨rfl,S2,h2⟩:=hI
   unfold zmu
   refine wpS_bind (wpS_get ?_)
   by_cases c1:(pendingOf t).size<=1
   .rw[if_pos c1]
    exact wpS_pure ⟨rfl,S2,c1⟩
   .rw[if_neg c1]
    refine wpS_bind (za6 L S2 (zh9 (by omega)) (Nat.le_refl _) λt2 S3 e3 _=>?_)
    exact wpS_pure ⟨rfl,S3,by omega⟩
  .obtain⟨rfl,S2,h2⟩:=hI
   refine⟨rfl,S2,?_⟩
   have:max 0 a₀.size=a₀.size:=by omega
   omega
  .obtain⟨rfl,S2,h2⟩:=hI
   refine wpS_pure (h t S2.pm S2.fl ?_)
   have sz:(arrOf t).toList.length=a₀.size:=by rw[Array.length_toList,S2.sz]
   have so:(arrOf t).toList.Pairwise (LE κ):=by
    have sg:=S2.sg
    have hl:((pendingOf t).toList.map g2).length<=1:=by rw[List.length_map,Array.length_toList];exact h2
    match e:(pendingOf t).toList.map g2 with
    | [] =>
     rw[e]at sg
     have z:0=a₀.size:=sg
     have:(arrOf t).toList=[]:=List.length_eq_zero_iff.mp (by omega)
     rw[this]
     exact List.Pairwise.nil
    | [r] =>
     rw[e]at sg
     obtain⟨_,_,s3,s4⟩:=sg
     have z:0+r.2=a₀.size:=s4
     rw[List.drop_zero,List.take_of_length_le (by omega)]at s3
     exact s3
    | r::r2::q=>rw[e]at hl;simp at hl
   intro i j hij hj
   obtain⟨y,hy⟩:∃ y,(arrOf t).toList[j]?=some y:=⟨_,List.getElem?_eq_getElem (by omega)⟩
   obtain⟨x,hx⟩:∃ x,(arrOf t).toList[i]?=some x:=⟨_,List.getElem?_eq_getElem (by omega)⟩
   rw[zeL (by rw[<-Array.getElem?_toList];exact hx),zeL (by rw[<-Array.getElem?_toList];exact hy)]
   exact VP so hij hx hy
end
end OwnTim
namespace OwnSortT
open PySem PyProof.Rows OwnSort
theorem lex_irr:∀ a:List Int,HT.lexLt a a=false:=by
 intro a
 induction a with
 | nil=>rfl
 | cons x xs ih=>rw[HT.lexLt_cons,if_pos rfl,ih]
theorem lex_trans:∀ a b c:List Int,HT.lexLt a b=true->HT.lexLt b c=true->HT.lexLt a c=true:=by
 intro a
 induction a with
 | nil =>
  intro b c h1 h2
  cases c with
  | nil=>cases b <;> cases h2
  | cons _ _=>rfl
 | cons x xs ih =>
  intro b c h1 h2
  cases b with
  | nil=>cases h1
  | cons y ys=>cases c with
   | nil=>cases h2
   | cons z zs =>
    rw[HT.lexLt_cons]at h1 h2 ⊢
    by_cases e1:x=y
    .rw[if_pos e1]at h1
     by_cases e2:y=z
     .rw[if_pos e2]at h2;rw[if_pos (e1.trans e2)];exact ih _ _ h1 h2
     .rw[if_neg e2,decide_eq_true_eq]at h2;rw[if_neg (by omega),decide_eq_true_eq];omega
    .rw[if_neg e1,decide_eq_true_eq]at h1
     by_cases e2:y=z
     .rw[if_neg (by omega),decide_eq_true_eq];omega
     .rw[if_neg e2,decide_eq_true_eq]at h2;rw[if_neg (by omega),decide_eq_true_eq];omega
theorem lex_total:∀ a b:List Int,HT.lexLt a b=false->HT.lexLt b a=false->a=b:=by
 intro a
 induction a with
 | nil =>
  intro b h1 h2
  cases b with
  | nil=>rfl
  | cons _ _=>cases h1
 | cons x xs ih =>
  intro b h1 h2
  cases b with
  | nil=>cases h2
  | cons y ys =>
   rw[HT.lexLt_cons]at h1 h2
   by_cases e:x=y
   .rw[if_pos e]at h1;rw[if_pos e.symm]at h2;rw[e,ih _ h1 h2]
   .rw[if_neg e,decide_eq_false_iff_not]at h1;rw[if_neg (Ne.symm e),decide_eq_false_iff_not]at h2;omega
theorem lex_neg (a b c:List Int)(h:HT.lexLt a c=true):HT.lexLt a b=true\/HT.lexLt b c=true:=by
 cases h1:HT.lexLt a b with
 | true=>exact .inl rfl
 | false =>
  refine .inr ?_
  cases h2:HT.lexLt b a with
  | true=>exact lex_trans _ _ _ h2 h
  | false=>rw[<-lex_total _ _ h1 h2];exact h
noncomputable def TT (h:Heap) (v:Value) (t:List Int):Prop:=∃ a o n its,v=.ref a/\h.get? a=some o/\o.cls=.type "tuple"/\o.data=.seq its.toArray n/\IntsAre its t/\t≠[]
theorem zfb:∀ {vs:List Value} {ns ms:List Int},IntsAre vs ns->IntsAre vs ms->ns=ms:=by
 intro vs ns ms h
 induction h generalizing ms with
 | nil=>intro h2;cases h2;rfl
 | cons n t h ih=>intro h2;cases h2 with | cons n' t' h'=>rw[ih h']
theorem TT.uniq {h:Heap}{v:Value}{s t:List Int}(x:TT h v s)(y:TT h v t):s=t:=by
 obtain⟨a,o,n,its,rfl,e1,_,d1,i1,_⟩:=x
 obtain⟨b,p,m,its',e,e2,_,d2,i2,_⟩:=y
 cases e
 rw[e1]at e2
 cases e2
 rw[d1]at d2
 have e3:its.toArray=its'.toArray:=by injection d2
 cases List.toArray_inj e3
 exact zfb i1 i2
theorem TT.keep {h h':Heap}{v:Value}{t:List Int}(x:TT h v t)(k:∀ b o,h.get? b=some o->h'.get? b=some o):TT h' v t:=by
 obtain⟨a,o,n,its,e,e1,r⟩:=x
 exact⟨a,o,n,its,e,k _ _ e1,r⟩
theorem TT.keepT {h h':Heap} {v:Value} {t:List Int} (x:TT h v t) (k:∀ b o,o.cls=.type "tuple"->h.get? b=some o->h'.get? b=some o):TT h' v t:=by
 obtain⟨a,o,n,its,e,e1,c,r⟩:=x
 exact⟨a,o,n,its,e,k _ _ c e1,c,r⟩
open Classical in
noncomputable def keyTT (h:Heap)(v:Value):Option (List Int):=if x:∃ t,TT h v t then some x.choose else none
theorem keyTT_of {h:Heap}{v:Value}{t:List Int}(x:TT h v t):keyTT h v=some t:=by
 unfold keyTT
 have y:∃ t,TT h v t:=⟨t,x⟩
 rw[dif_pos y,y.choose_spec.uniq x]
@[reducible] noncomputable def zcl (h:Heap):KeyKind where
 α:=List Int
 blt:=HT.lexLt
 irrefl:=lex_irr
 trans:=lex_trans
 negTrans:=lex_neg
 total:=lex_total
 keyOf:=keyTT h
 dflt:=[]
section
variable {prog:Program}{w:World}{A:Around}{E:Value->Shared->Prop}{s:Shared}
noncomputable def zjf (d:Bool):List Int->List Int->Bool
 | x::xs,y::ys=>if x=y then zjf d xs ys else decide (x < y)
 | _,_=>d
theorem ziy:∀ a b:List Int,zjf (decide (a.length < b.length)) a b=HT.lexLt a b:=by
 intro a
 induction a with
 | nil=>intro b;cases b with
  | nil=>rfl
  | cons _ _=>rfl
 | cons x xs ih=>intro b;cases b with
  | nil=>rfl
  | cons y ys =>
   rw[HT.lexLt_cons,<- ih ys]
   show(if x=y then zjf (decide (xs.length+1 < ys.length+1)) xs ys else decide (x < y))=_
   rw[show decide (xs.length+1 < ys.length+1)=decide (xs.length < ys.length) by congr 1;apply propext;omega]
noncomputable def zee (x:(Value × Value) × Nat)(_:Option Bool × Unit):Sem (ForInStep (Option Bool × Unit)):=do
 let b<-eqBool x.1.1 x.1.2
 if (!b)=true then do
  let c<-oneLt' (true&&x.2 == 0) x.1.1 x.1.2
  pure (ForInStep.done (some c,()))
 else pure (ForInStep.yield (none,()))
theorem zhg {d:Bool}:∀ {xs:List Value} {ns:List Int} {ys:List Value} {ms:List Int} {k:Nat} {Q:Option Bool × Unit->Shared->Prop},IntsAre xs ns->IntsAre ys ms->(∀ r:Option Bool × Unit,r.1.getD d=zjf d ns ms->Q r s) ->
 wpAny (model prog w) A (forIn ((xs.zip ys).zipIdx k) ((none,()):Option Bool × Unit) zee) Q E s:=by
 intro xs ns ys ms k Q h1
 induction h1 generalizing ys ms k with
 | nil=>intro h2 q;exact wpAny_pure (q (none,()) rfl)
 | cons x t h1 ih =>
  intro h2 q
  cases h2 with
  | nil=>exact wpAny_pure (q (none,()) rfl)
  | cons y u h2 =>
   rw[List.zip_cons_cons,List.zipIdx_cons,List.forIn_cons]
   refine wpAny_bind (wpAny_bind (SeqAt.EqAt.int_int x t y u prog w E _ ?_))
   by_cases c:x=y
   .rw[show(x == y)=true by rw[c];exact beq_self_eq_true _]
    refine wpAny_pure (ih h2 λr hr=>q r (hr.trans ?_))
    show _=(if x=y then zjf d _ _ else decide (x < y))
    rw[if_pos c]
   .rw[show(x == y)=false by simpa using c]
    have q0:Q (some (decide (x < y)),()) s:=q _ (by
     show decide (x < y)=(if x=y then zjf d _ _ else decide (x < y))
     rw[if_neg c])
    cases k with
    | zero=>exact wpAny_bind (oneLt_int (wpAny_pure (wpAny_pure q0)))
    | succ k=>exact wpAny_bind (lt0 (wpAny_pure (wpAny_pure q0)))
theorem ziB {x y:Value}{a b:List Int}{Q:Bool->Shared->Prop}(hx:TT s.heap x a)(hy:TT s.heap y b)(h:Q (HT.lexLt a b) s):wpAny (model prog w) A (keyLt' (tuples' true) x y) Q E s:=by
 obtain⟨p,o,n,xs,rfl,e1,_,d1,i1,_⟩:=hx
 obtain⟨q,o2,n2,ys,rfl,e2,_,d2,i2,_⟩:=hy
 rw[zfy]
 refine wpAny_bind (listItems_at e1 d1 (wpAny_bind (listItems_at e2 d2 ?_)))
 show wpAny _ _ (forIn ((xs.zip ys).zipIdx 0) ((none,()):Option Bool × Unit) zee>>=_) _ _ _
 refine wpAny_bind (zhg (d:=decide (xs.length < ys.length)) i1 i2 λr hr=>?_)
 have e:Q (r.1.getD (decide (xs.length < ys.length))) s:=by
  rw[hr,i1.length,i2.length,ziy];exact h
 obtain⟨r1,u⟩:=r
 cases r1 with
 | none=>exact wpAny_pure e
 | some v=>exact wpAny_pure e
theorem zgG {vs:List Value}(hT:∀ v∈vs,∃ t,TT s.heap v t):OwnTim.LtE prog w A E s (zcl s.heap) (tuples' true) (·∈(pairsOf vs).toList):=by
 intro st x y Q hk hx hy h
 have look:∀ {x:Keyed},x∈(pairsOf vs).toList->∃ t,TT s.heap x.1 t/\OwnTim.ky (zcl s.heap) x=t:=λ{x} hm=>by
  rw[pairsOf_toList]at hm
  obtain⟨t,ht⟩:=hT _ (mem_zip_self hm).2
  refine⟨t,ht,?_⟩
  unfold OwnTim.ky
  show(keyTT s.heap x.1).getD _=t
  rw[keyTT_of ht]
  rfl
 obtain⟨a,ta,ka⟩:=look hx
 obtain⟨b,tb,kb⟩:=look hy
 rw[ka,kb]at h
 rw[lt'_eq]
 refine wpS_bind (wpS_get ?_)
 rw[hk]
 exact wpS_bind (wpS_lift (wpAny_attempt (ziB ta tb ⟨rfl,wpS_pure h⟩)))
theorem Vf:∀ {vs:List Value} {Q:List (Option Value)->Shared->Prop},(∀ v∈vs,∃ t,TT s.heap v t)->(∀ fs:List Value,fs.length=vs.length->(∀ f∈fs,∃ i t,f=.int i t)->Q (fs.map some) s)->wpAny (model prog w) A (vs.mapM firstOfTuple') Q E s
 | [],Q,_,h=>by rw[List.mapM_nil];exact wpAny_pure (h [] rfl (by simp))
 | v::vs,Q,hT,h=>by
  obtain⟨t,a,o,n,its,rfl,e1,c1,d1,hi,hne⟩:=hT v List.mem_cons_self
  obtain⟨z,zs,i0,tk,rfl,rfl⟩:∃ z zs i0 tk,its=z::zs/\z=.int i0 tk:=by
   cases hi with
   | nil=>exact absurd rfl hne
   | cons i0 tk hi=>exact⟨_,_,_,_,rfl,rfl⟩
  rw[List.mapM_cons,zeG]
  refine wpAny_bind (wpAny_bind (wpAny_typeOf (T:="tuple") ⟨o,e1,c1⟩ ?_))
  rw[if_neg (by simp)]
  refine wpAny_bind (listItems_at e1 d1 (wpAny_pure (wpAny_bind (Vf (λu hu=>hT u (List.mem_cons_of_mem _ hu)) λfs hl hf=>wpAny_pure ?_))))
  exact h (.int i0 tk::fs) (by simp[hl]) λf hf'=>by
   rcases List.mem_cons.mp hf' with rfl | hf'
   .exact⟨_,_,rfl⟩
   .exact hf f hf'
theorem zfk {v₁:Value}{vs:List Value}{Q:SortKind->Shared->Prop}(hT:∀ v∈v₁::vs,∃ t,TT s.heap v t)(h:Q (tuples' true) s):wpAny (model prog w) A (keyKind' (v₁::vs).toArray) Q E s:=by
 rw[keyKind'_eq,List.mapM_toArray,<- bind_pure_comp,bind_assoc]
 refine wpAny_bind (Vf hT λfs hl hf=>wpAny_bind (wpAny_pure ?_))
 cases fs with
 | nil=>simp at hl
 | cons f fs =>
  rw[if_pos (by simp)]
  have ef:((f::fs).map some).toArray.filterMap id=(f::fs).toArray:=by simp
  refine wpAny_bind (wpAny_rule ?_)
  rw[ef,oneTypeOnly'_eq,List.mapM_toArray,zb3 hf]
  simp only[map_pure,pure_bind]
  rw[show(List.map (λ_=>Value.type "int") (f::fs)).toArray[0]?=some (Value.type "int") by simp]
  have al:((List.map (λ_=>Value.type "int") (f::fs)).toArray.all λx=>x == Value.type "int")=true:=by
   simp only[List.all_toArray,List.all_map,List.all_eq_true]
   intro _ _
   rfl
  simp only[al,if_true,pure_bind,Option.any_some]
  rw[show(Value.type "int" != Value.type "tuple")=true by decide +kernel]
  exact wpAny_pure h
end
noncomputable def Rise (h:Heap)(out:List Value):Prop:=∃ ts:List (List Int),out.length=ts.length/\(∀ (i:Nat) (v:Value) (t:(List Int)),out[i]?=some v->ts[i]?=some t->TT h v t)/\ts.Pairwise λa b=>HT.lexLt b a=false
theorem ze7 {h h':Heap}{vs:List Value}{xs:Array Keyed}(hT:∀ v∈vs,∃ t,TT h v t)(hk:∀ v t,TT h v t->TT h' v t)(pm:xs.Perm (pairsOf vs))(hs:SortedToK (zcl h') xs (pairsOf vs).size):(xs.map (·.2)).toList.Perm vs/\Rise h (xs.map (·.2)).toList:=by
 have hl:xs.toList.Perm (vs.zip vs):=by rw[<-pairsOf_toList];exact Array.perm_iff_toList_perm.mp pm
 have hm:∀ p∈xs.toList,p.1=p.2/\p.1∈vs:=λp hp=>mem_zip_self (hl.mem_iff.mp hp)
 have e2:(xs.map (·.2)).toList=xs.toList.map (·.2):=by simp
 rw[e2]
 refine⟨?_,xs.toList.map λp=>(keyTT h' p.1).getD ([]:List Int),by simp,λi v t hv ht=>?_,?_⟩
 .have:=hl.map (·.2)
  rwa[show(vs.zip vs).map (·.2)=vs from List.map_snd_zip (Nat.le_refl _)]at this
 .rw[List.getElem?_map]at hv ht
  cases hx:xs.toList[i]? with
  | none=>rw[hx]at hv;cases hv
  | some p =>
   rw[hx]at hv ht
   cases hv
   cases ht
   obtain⟨q1,q2⟩:=hm p (List.mem_of_getElem? hx)
   obtain⟨t,ht⟩:=hT _ q2
   show TT h p.2 ((keyTT h' p.1).getD ([]:List Int))
   rw[keyTT_of (hk _ _ ht),<- q1]
   exact ht
 .rw[List.pairwise_iff_getElem]
  intro i j hi hj hij
  have hi':i < xs.size:=by simpa using hi
  have hj':j < xs.size:=by simpa using hj
  have:=hs i j (Nat.le_of_lt hij) (by rw[<-pm.size_eq];exact hj')
  unfold KK at this
  rw[getElem?_pos xs i hi',getElem?_pos xs j hj']at this
  have this:HT.lexLt ((keyTT h' xs[j].1).getD ([]:List Int)) ((keyTT h' xs[i].1).getD ([]:List Int))=false:=this
  simpa using this
section
variable {prog:Program}{w:World}{A:Around}{E:Value->Shared->Prop}{s:Shared}
theorem ownT_list_sort {a:Addr} {vs:List Value} {n:Nat} {P:Fin->Shared->Prop} (ho:s.heap.get? a=some (seqObj "list" vs.toArray n)) (hT:∀ v∈vs,∃ t,TT s.heap v t) (h64:vs.length < 10000000)
 (h:∀ out:Array Value,out.toList.Perm vs->Rise s.heap out.toList->P (.done (.ret .none)) { s with heap:=sortedHeap s.heap a vs out }):wpAny (model prog w) A (Builtin.«list.sort» ⟨[.ref a],[]⟩) P E s:=by
 have la:a < s.heap.objs.size:=Heap.lt_size ho
 have zl:vs.toArray.size=vs.length:=List.size_toArray
 obtain⟨e1,o1⟩:∃ e1,(s.heap.update a (Obj.mapSeq λ_=>#[])).get? a=some (seqObj "list" #[] e1):=⟨_,get?_update_seq ho (λ_=>#[])⟩
 have o6:(((s.heap.update a (Obj.mapSeq λ_=>#[])).push (seqObj "tuple" vs.toArray 0)).push (seqObj "list" #[] 0)).get? a=some (seqObj "list" #[] e1):=Heap.get?_push_of_some _ (Heap.get?_push_of_some _ o1)
 have up:∀ b o,o.cls=.type "tuple"->s.heap.get? b=some o->(((s.heap.update a (Obj.mapSeq λ_=>#[])).push (seqObj "tuple" vs.toArray 0)).push (seqObj "list" #[] 0)).get? b=some o:=λb o c e=>by
  refine Heap.get?_push_of_some _ (Heap.get?_push_of_some _ ((Heap.get?_update_other _ _ λz=>?_).trans e))
  subst z
  rw[ho]at e
  cases e
  exact absurd (show Value.type "list"=Value.type "tuple" from c) (by decide +kernel)
 have hT6:∀ v∈vs,∃ t,TT (((s.heap.update a (Obj.mapSeq λ_=>#[])).push (seqObj "tuple" vs.toArray 0)).push (seqObj "list" #[] 0)) v t:=λv hv=>let ⟨t,ht⟩:=hT v hv;⟨t,ht.keepT up⟩
 rw[list_sort_plain]
 refine wpAny_bind (listItems_at ho rfl (wpAny_bind (listUpdate_at ho rfl (wpAny_bind (seqEpoch_at o1 rfl (wpAny_bind (wpAny_newTuple (wpAny_bind (wpAny_newList (wpAny_holding ?_))))))))))
 show wpAny (model prog w) A _ P E { s with heap:=((s.heap.update a (Obj.mapSeq λ_=>#[])).push (seqObj "tuple" vs.toArray 0)).push (seqObj "list" #[] 0) }
 by_cases c2:vs.toArray.size < 2
 .rw[if_pos c2,if_pos c2]
  refine wpAny_bind (wpAny_pure ?_)
  dsimp only
  rw[StateT.run_pure]
  refine wpAny_bind (wpAny_pure ?_)
  obtain⟨r1,r2⟩:=ze7 (xs:=pairsOf vs) hT (λv t ht=>ht) (Array.Perm.refl _) (λi j hij hj=>by
   obtain rfl:i=j:=by rw[pairsOf_size]at hj;omega
   exact KeyOrd.kle_refl _)
  refine wpAny_bind (seqEpoch_at o6 rfl (wpAny_bind (listUpdate_at o6 rfl ?_ (hsz2:=by rw[Array.size_map];show(pairsOf vs).size<=_;rw[pairsOf_size,sizeLine_eq];omega))))
  rw[show(e1 != e1)=false by simp]
  exact wpAny_pure (h _ r1 r2)
 .rw[if_neg c2,if_neg c2]
  cases vs with
  | nil=>simp at c2
  | cons v₁ rest =>
   refine wpAny_bind (zfk hT6 ?_)
   refine wpAny_bind (wpAny_mono (OwnTim.own_runsE (st:=SortSt.mk' (tuples' true) ((v₁::rest).toArray.zip (v₁::rest).toArray) #[] 7 none) (Q:=λ_ t=>(arrOf t).Perm (pairsOf (v₁::rest))/\failedOf t=none/\SortedToK (zcl _) (arrOf t) (pairsOf (v₁::rest)).size)
    (zgG hT6) (Array.Perm.refl _) rfl rfl rfl λt p1 p2 p3=>⟨p1,p2,p3⟩) ?_ λ_ _ e=>e)
   rintro⟨⟨⟩,t⟩ s' ⟨rfl,p1,p2,p3⟩
   obtain⟨r1,r2⟩:=ze7 hT (λv t ht=>ht.keepT up) p1 p3
   refine wpAny_bind (seqEpoch_at o6 rfl (wpAny_bind (listUpdate_at o6 rfl ?_ (hsz2:=by rw[Array.size_map];show(arrOf t).size<=_;rw[p1.size_eq,pairsOf_size,sizeLine_eq];omega))))
   rw[p2,show(e1 != e1)=false by simp]
   exact wpAny_pure (h _ r1 r2)
theorem ownT_sorted {l:Addr}{vs:List Value}{Q:Value->Shared->Prop}(hl:s.heap.IsList l vs.toArray)(hT:∀ v∈vs,∃ t,TT s.heap v t)(h64:vs.length < 10000000)
 (h:∀ out:Array Value,out.toList.Perm vs->Rise s.heap out.toList->Q (.ref (s.heap.objs.size+1)) { s with heap:=sortedAll s.heap vs out }):wpAny (model prog w) A (call (.builtin "sorted") [.ref l]) Q E s:=by
 have z1:((s.heap.push (seqObj "list" #[] 0)).update s.heap.objs.size (Obj.mapSeq (·++vs.toArray))).objs.size=s.heap.objs.size+1:=(Heap.size_update ..).trans (size_push' _ _)
 have oL:(((s.heap.push (seqObj "list" #[] 0)).update s.heap.objs.size (Obj.mapSeq (·++vs.toArray))).push (seqObj "list" vs.toArray 0)).get? (s.heap.objs.size+1)=some (seqObj "list" vs.toArray 0):=z1 ▸ Heap.get?_push_size _ rfl
 have up:∀ b o,s.heap.get? b=some o->(((s.heap.push (seqObj "list" #[] 0)).update s.heap.objs.size (Obj.mapSeq (·++vs.toArray))).push (seqObj "list" vs.toArray 0)).get? b=some o:=λb o e =>
  Heap.get?_push_of_some _ ((Heap.get?_update_other _ _ λz=>by subst z;exact absurd (Heap.lt_size e) (Nat.lt_irrefl _)).trans (Heap.get?_push_of_some _ e))
 refine Calls.call_function_entry kind_sorted plain_sorted entry_sorted (args_sorted1 _) ?_
 unfold Builtin.«sorted»
 refine wpAny_bind (m:=checkCount "sorted" 1 1 _) (wpAny_pure (wpAny_bind (collect_list hl (wpAny_bind (wpAny_newList ?_)))))
 show wpAny _ _ _ _ _ (Shared.mk (((s.heap.push (seqObj "list" #[] 0)).update s.heap.objs.size (Obj.mapSeq (·++vs.toArray))).push (seqObj "list" vs.toArray 0)) s.gens s.drawn s.toks s.os)
 rw[z1]
 refine wpAny_bind (wpAny_holding (wpAny_call_entry slot_list_sort ⟨_,oL,rfl⟩ entry_list_sort (ownT_list_sort oL (λv hv=>let ⟨t,ht⟩:=hT v hv;⟨t,ht.keep up⟩) h64 λout p1 p2=>⟨_,rfl,wpAny_pure ⟨_,rfl,h out p1 ?_⟩⟩) (args_list_sort _)))
 obtain⟨ts,q1,q2,q3⟩:=p2
 refine⟨ts,q1,λi v t hv ht=>?_,q3⟩
 obtain⟨t0,ht0⟩:=hT v (p1.mem_iff.mp (List.mem_of_getElem? hv))
 rw[(q2 i v t hv ht).uniq (ht0.keep up)]
 exact ht0
end
end OwnSortT
namespace OwnSort
open PySem PyProof.Rows
noncomputable def Rise (h:Heap)(out:List Value):Prop:=∃ ts:List Pr,out.length=ts.length/\(∀ (i:Nat) (v:Value) (t:Pr),out[i]?=some v->ts[i]?=some t->TP h v t)/\ts.Pairwise λa b=>bltP b a=false
theorem TP.tt {h:Heap}{v:Value}{t:Pr}(x:TP h v t):OwnSortT.TT h v [t.1,t.2]:=by
 obtain⟨a,o,n,tx,ty,e1,e2,e3,e4⟩:=x
 exact⟨a,o,n,[.int t.1 tx,.int t.2 ty],e1,e2,e3,e4,.cons _ _ (.cons _ _ .nil),List.cons_ne_nil _ _⟩
theorem zgm (a b:Pr):HT.lexLt [a.1,a.2] [b.1,b.2]=bltP a b:=by
 rw[HT.lexLt_cons,HT.lexLt_cons]
 unfold bltP
 by_cases c:a.1=b.1
 .rw[if_pos c]
  by_cases c2:a.2=b.2
  .rw[if_pos c2,decide_eq_false (by omega)];rfl
  .rw[if_neg c2,decide_eq_decide];omega
 .rw[if_neg c,decide_eq_decide];omega
theorem zfG {h:Heap}{vs out:List Value}(hT:∀ v∈vs,∃ t,TP h v t)(pm:out.Perm vs)(r:OwnSortT.Rise h out):Rise h out:=by
 obtain⟨ts,l1,l2,l3⟩:=r
 have key:∀ (i:Nat) (v:Value) (t:List Int),out[i]?=some v->ts[i]?=some t->∃ p:Pr,TP h v p/\t=[p.1,p.2]:=λi v t h1 h2=>by
  obtain⟨p,hp⟩:=hT v (pm.mem_iff.mp (List.mem_of_getElem? h1))
  exact⟨p,hp,OwnSortT.TT.uniq (l2 i v t h1 h2) hp.tt⟩
 have ex:∀ t∈ts,∃ p:Pr,t=[p.1,p.2]:=λt ht=>by
  obtain⟨i,hi,rfl⟩:=List.getElem_of_mem ht
  obtain⟨p,_,e⟩:=key i out[i] ts[i] (List.getElem?_eq_getElem (by omega)) (List.getElem?_eq_getElem hi)
  exact⟨p,e⟩
 refine⟨ts.map λt=>(t.getD 0 0,t.getD 1 0),by rw[List.length_map,l1],λi v t h1 h2=>?_,?_⟩
 .rw[List.getElem?_map]at h2
  obtain⟨u,hu,rfl⟩:=Option.map_eq_some_iff.mp h2
  obtain⟨p,hp,rfl⟩:=key i v u h1 hu
  exact hp
 .rw[List.pairwise_map]
  refine l3.imp_of_mem λ{a b} ha hb hab=>?_
  obtain⟨p,rfl⟩:=ex a ha
  obtain⟨q,rfl⟩:=ex b hb
  rw[zgm]at hab
  exact hab
section
variable {prog:Program}{w:World}{A:Around}{E:Value->Shared->Prop}{s:Shared}
theorem own_sorted {l:Addr}{vs:List Value}{Q:Value->Shared->Prop}(hl:s.heap.IsList l vs.toArray)(hT:∀ v∈vs,∃ t,TP s.heap v t)(h64:vs.length < 64)
 (h:∀ out:Array Value,out.toList.Perm vs->Rise s.heap out.toList->Q (.ref (s.heap.objs.size+1)) { s with heap:=sortedAll s.heap vs out }):wpAny (model prog w) A (call (.builtin "sorted") [.ref l]) Q E s :=
 OwnSortT.ownT_sorted hl (λv hv=>(hT v hv).imp' (λt=>[t.1,t.2]) λ_ ht=>ht.tt) (by omega) λout p r=>h out p (zfG hT p r)
end
end OwnSort
namespace Dl
open PySem L2
class KK where
 K:W.Frag
inductive D where
 | non | bl (b:Bool) | int (i:Int) | str (x:Str) | tup (ds:List D) | lst (ds:List D) | scr (ns:List Int)
  | dct (z t:Bool) (ks:List (List Key)) (vs:List D)
 deriving Inhabited
section
variable [KK]
noncomputable def Vi (o:HO)(t:Bool)(ks:List (List Key))(xs:List V):Prop :=
 if t=true then ∃ kvs,o=.dT kvs/\kvs.map (·.1)=ks/\kvs.map (·.2)=xs else ∃ kvs:List (Key × V),o=.dK kvs/\kvs.map (λp=>[p.1])=ks/\kvs.map (·.2)=xs
noncomputable def VU (H:Hp)(a:Addr)(z t:Bool)(ks:List (List Key))(xs:List V):Prop :=
 ∃ u,Vi u t ks xs/\if z=true then ∃ ob,H a=some (.frz ob u)else H a=some u
theorem VU.mono {H H':Hp}{a:Addr}{z t:Bool}{ks:List (List Key)}{xs:List V}(s:yU H H')(h:VU H a z t ks xs):VU H' a z t ks xs:=by
 obtain⟨u,h1,h2⟩:=h
 refine⟨u,h1,?_⟩
 cases z with
 | true =>
  rw[if_pos rfl]at h2 ⊢
  obtain⟨ob,h2⟩:=h2
  exact⟨ob,s _ _ h2⟩
 | false =>
  rw[if_neg Bool.false_ne_true]at h2 ⊢
  exact s _ _ h2
theorem VU.rd {H:Hp}{a:Addr}{z t:Bool}{ks:List (List Key)}{xs:List V}(h:VU H a z t ks xs):∃ u,Vi u t ks xs/\Rd H a u:=by
 obtain⟨u,h1,h2⟩:=h
 refine⟨u,h1,?_⟩
 cases z with
 | true =>
  rw[if_pos rfl]at h2
  obtain⟨ob,h2⟩:=h2
  exact .inr ⟨ob,h2⟩
 | false =>
  rw[if_neg Bool.false_ne_true]at h2
  exact .inl h2
mutual
noncomputable def At (H:Hp):D->V->Prop
 | .non,v=>v=.non
 | .bl b,v=>v=.bl b
 | .int i,v=>v=.int i
 | .str x,v=>v=.str x
 | .tup ds,v=>∃ a xs,v=.ref a/\H a=some (.tup xs)/\AtL H ds xs
 | .lst ds,v=>∃ a xs,v=.ref a/\H a=some (.lst xs)/\AtL H ds xs
 | .scr ns,v=>∃ a,v=.ref a/\SqL KK.K H a (ns.map V.int)
 | .dct z t ks vs,v=>∃ a xs,v=.ref a/\VU H a z t ks xs/\AtL H vs xs
noncomputable def AtL (H:Hp):List D->List V->Prop
 | [],xs=>xs=[]
 | d::ds,xs=>∃ x r,xs=x::r/\At H d x/\AtL H ds r
end
mutual
theorem At.mono {H H':Hp}(s:yU H H'):∀ {d:D} {v:V},At H d v->At H' d v
 | .non,_,h=>by unfold At at h ⊢;exact h
 | .bl _,_,h=>by unfold At at h ⊢;exact h
 | .int _,_,h=>by unfold At at h ⊢;exact h
 | .str _,_,h=>by unfold At at h ⊢;exact h
 | .tup ds,_,h=>by
  unfold At at h ⊢
  obtain⟨a,xs,e,hx,hl⟩:=h
  exact⟨a,xs,e,s _ _ hx,AtL.mono s hl⟩
 | .lst ds,_,h=>by
  unfold At at h ⊢
  obtain⟨a,xs,e,hx,hl⟩:=h
  exact⟨a,xs,e,s _ _ hx,AtL.mono s hl⟩
 | .scr ns,_,h=>by
  unfold At at h ⊢
  obtain⟨a,e,hx⟩:=h
  exact⟨a,e,s.seq hx⟩
 | .dct z t ks vs,_,h=>by
  unfold At at h ⊢
  obtain⟨a,xs,e,hx,hl⟩:=h
  exact⟨a,xs,e,hx.mono s,AtL.mono s hl⟩
theorem AtL.mono {H H':Hp}(s:yU H H'):∀ {ds:List D} {xs:List V},AtL H ds xs->AtL H' ds xs
 | [],_,h=>by unfold AtL at h ⊢;exact h
 | d::ds,_,h=>by
  unfold AtL at h ⊢
  obtain⟨x,r,e,h1,h2⟩:=h
  exact⟨x,r,e,At.mono s h1,AtL.mono s h2⟩
end
mutual
noncomputable def noL:D->Bool
 | .tup ds=>zlw ds
 | .lst _=>false
 | .scr _=>false
 | .dct _ _ _ _=>false
 | _=>true
noncomputable def zlw:List D->Bool
 | []=>true
 | d::ds=>noL d&&zlw ds
end
mutual
theorem At.flat {G F:Hp}(h:∀ q xs,G q=some (.tup xs)->F q=some (.tup xs)):∀ {d:D} {v:V},noL d=true->At G d v->At F d v
 | .non,_,_,a=>by unfold At at a ⊢;exact a
 | .bl _,_,_,a=>by unfold At at a ⊢;exact a
 | .int _,_,_,a=>by unfold At at a ⊢;exact a
 | .str _,_,_,a=>by unfold At at a ⊢;exact a
 | .tup ds,_,n,a=>by
  unfold At at a ⊢
  unfold noL at n
  obtain⟨p,xs,e,hx,hl⟩:=a
  exact⟨p,xs,e,h _ _ hx,AtL.flat h n hl⟩
 | .lst ds,_,n,_=>by unfold noL at n;cases n
 | .scr ds,_,n,_=>by unfold noL at n;cases n
 | .dct _ _ _ _,_,n,_=>by unfold noL at n;cases n
theorem AtL.flat {G F:Hp}(h:∀ q xs,G q=some (.tup xs)->F q=some (.tup xs)):∀ {ds:List D} {xs:List V},zlw ds=true->AtL G ds xs->AtL F ds xs
 | [],_,_,a=>by unfold AtL at a ⊢;exact a
 | d::ds,_,n,a=>by
  unfold AtL at a ⊢
  unfold zlw at n
  rw[Bool.and_eq_true]at n
  obtain⟨x,r,e,h1,h2⟩:=a
  exact⟨x,r,e,At.flat h n.1 h1,AtL.flat h n.2 h2⟩
end
section
variable {H H':Hp}{d:D}{ds es:List D}{v x:V}{xs ys:List V}
theorem At.int {i:Int}:At H (.int i) (.int i):=by unfold At;rfl
theorem At.bl {b:Bool}:At H (.bl b) (.bl b):=by unfold At;rfl
theorem At.non:At H .non .non:=by unfold At;rfl
theorem At.str {y:Str}:At H (.str y) (.str y):=by unfold At;rfl
theorem At.tup {a:Addr}(h:H a=some (.tup xs))(hl:AtL H ds xs):At H (.tup ds) (.ref a):=by unfold At;exact⟨a,xs,rfl,h,hl⟩
theorem At.lst {a:Addr}(h:H a=some (.lst xs))(hl:AtL H ds xs):At H (.lst ds) (.ref a):=by unfold At;exact⟨a,xs,rfl,h,hl⟩
theorem AtL.nil:AtL H [] []:=by unfold AtL;rfl
theorem AtL.cons (h:At H d x)(hl:AtL H ds xs):AtL H (d::ds) (x::xs):=by unfold AtL;exact⟨x,xs,rfl,h,hl⟩
theorem At.int_inv {i:Int}(h:At H (.int i) v):v=.int i:=by unfold At at h;exact h
theorem At.bl_inv {b:Bool}(h:At H (.bl b) v):v=.bl b:=by unfold At at h;exact h
theorem At.non_inv (h:At H .non v):v=.non:=by unfold At at h;exact h
theorem At.str_inv {y:Str}(h:At H (.str y) v):v=.str y:=by unfold At at h;exact h
theorem At.tup_inv (h:At H (.tup ds) v):∃ a xs,v=.ref a/\H a=some (.tup xs)/\AtL H ds xs:=by unfold At at h;exact h
theorem At.lst_inv (h:At H (.lst ds) v):∃ a xs,v=.ref a/\H a=some (.lst xs)/\AtL H ds xs:=by unfold At at h;exact h
theorem At.scr_inv {ns:List Int}(h:At H (.scr ns) v):∃ a,v=.ref a/\SqL KK.K H a (ns.map V.int):=by unfold At at h;exact h
theorem At.dct_inv {z t:Bool}{ks:List (List Key)}{vs:List D}(h:At H (.dct z t ks vs) v):∃ a xs,v=.ref a/\VU H a z t ks xs/\AtL H vs xs:=by unfold At at h;exact h
theorem AtL.nil_inv (h:AtL H [] xs):xs=[]:=by unfold AtL at h;exact h
theorem AtL.cons_inv (h:AtL H (d::ds) xs):∃ x r,xs=x::r/\At H d x/\AtL H ds r:=by unfold AtL at h;exact h
theorem AtL.length:∀ {ds:List D} {xs:List V},AtL H ds xs->xs.length=ds.length
 | [],_,h=>by rw[h.nil_inv];rfl
 | _::_,_,h=>by
  obtain⟨x,r,rfl,_,h2⟩:=h.cons_inv
  rw[List.length_cons,List.length_cons,AtL.length h2]
theorem AtL.get:∀ {ds:List D} {xs:List V} {i:Nat} {d:D},AtL H ds xs->ds[i]?=some d->∃ x,xs[i]?=some x/\At H d x
 | [],_,_,_,_,e=>by simp at e
 | _::_,_,i,_,h,e=>by
  obtain⟨x,r,rfl,h1,h2⟩:=h.cons_inv
  cases i with
  | zero =>
   simp at e
   subst e
   exact⟨x,rfl,h1⟩
  | succ i =>
   obtain⟨y,hy,ha⟩:=AtL.get (i:=i) h2 (by simpa using e)
   exact⟨y,by simpa using hy,ha⟩
theorem AtL.append:∀ {ds es:List D} {xs ys:List V},AtL H ds xs->AtL H es ys->AtL H (ds++es) (xs++ys)
 | [],_,_,_,h,k=>by rw[h.nil_inv];exact k
 | _::_,_,_,_,h,k=>by
  obtain⟨x,r,rfl,h1,h2⟩:=h.cons_inv
  exact .cons h1 (AtL.append h2 k)
theorem AtL.snoc (h:AtL H ds xs)(k:At H d v):AtL H (ds++[d]) (xs++[v]):=h.append (.cons k .nil)
theorem AtL.take:∀ (n:Nat) {ds:List D} {xs:List V},AtL H ds xs->AtL H (ds.take n) (xs.take n)
 | 0,_,_,_=>by simpa using AtL.nil
 | n+1,[],_,h=>by rw[h.nil_inv];simpa using AtL.nil
 | n+1,_::_,_,h=>by
  obtain⟨x,r,rfl,h1,h2⟩:=h.cons_inv
  rw[List.take_succ_cons,List.take_succ_cons]
  exact .cons h1 (AtL.take n h2)
theorem AtL.drop:∀ (n:Nat) {ds:List D} {xs:List V},AtL H ds xs->AtL H (ds.drop n) (xs.drop n)
 | 0,_,_,h=>h
 | n+1,[],_,h=>by rw[h.nil_inv];simpa using AtL.nil
 | n+1,_::_,_,h=>by
  obtain⟨x,r,rfl,h1,h2⟩:=h.cons_inv
  rw[List.drop_succ_cons,List.drop_succ_cons]
  exact AtL.drop n h2
theorem AtL.set:∀ (n:Nat) {ds:List D} {xs:List V},AtL H ds xs->At H d v->AtL H (ds.set n d) (xs.set n v)
 | _,[],_,h,_=>by rw[h.nil_inv];simpa using AtL.nil
 | 0,_::_,_,h,k=>by
  obtain⟨x,r,rfl,h1,h2⟩:=h.cons_inv
  exact .cons k h2
 | n+1,_::_,_,h,k=>by
  obtain⟨x,r,rfl,h1,h2⟩:=h.cons_inv
  exact .cons h1 (AtL.set n h2 k)
theorem AtL.reverse:∀ {ds:List D} {xs:List V},AtL H ds xs->AtL H ds.reverse xs.reverse
 | [],_,h=>by rw[h.nil_inv];exact .nil
 | _::_,_,h=>by
  obtain⟨x,r,rfl,h1,h2⟩:=h.cons_inv
  rw[List.reverse_cons,List.reverse_cons]
  exact(AtL.reverse h2).snoc h1
theorem AtL.rep (h:AtL H ds xs):∀ k:Nat,AtL H (List.replicate k ds).flatten (List.replicate k xs).flatten
 | 0=>.nil
 | k+1=>by
  rw[List.replicate_succ,List.replicate_succ,List.flatten_cons,List.flatten_cons]
  exact h.append (AtL.rep h k)
theorem AtL.ints (ns:List Int):AtL H (ns.map D.int) (ns.map V.int):=by
 induction ns with
 | nil=>exact .nil
 | cons n r ih=>exact .cons .int ih
theorem AtL.of_ints:∀ {ns:List Int} {xs:List V},AtL H (ns.map D.int) xs->xs=ns.map V.int
 | [],_,h=>h.nil_inv
 | n::r,_,h=>by
  obtain⟨x,r',rfl,h1,h2⟩:=AtL.cons_inv (by simpa using h)
  rw[h1.int_inv,AtL.of_ints h2]
  rfl
end
noncomputable def tyN:D->String
 | .non=>"NoneType" | .bl _=>"bool" | .int _=>"int" | .str _=>"str" | .tup _=>"tuple" | .lst _=>"list" | .scr _=>"list" | .dct _ _ _ _=>"dict"
noncomputable def Hid (F':Hp)(p:Addr)(o:HO):Prop:=F' p=none\/((∃ xs,o=.tup xs)/\F' p=some o)
noncomputable def Keep (F H F' H':Hp):Prop:=∀ p o,F p=none->H p=some o->Hid F' p o/\H' p=some o
structure Gr (F H F' H':Hp):Prop where
 ff:yU F F'
 fh:yU F' H'
 kp:Keep F H F' H'
theorem Gr.refl {F H:Hp}(s:yU F H):Gr F H F H:=⟨yU.refl _,s,λ_ _ a b=>⟨.inl a,b⟩⟩
theorem Gr.trans {F H F1 H1 F2 H2:Hp}(a:Gr F H F1 H1)(b:Gr F1 H1 F2 H2):Gr F H F2 H2 :=
 ⟨a.ff.trans b.ff,b.fh,λp o e1 e2=>by
  obtain⟨x,y⟩:=a.kp p o e1 e2
  rcases x with x | ⟨x1,x2⟩
  .exact b.kp p o x y
  .exact⟨.inr ⟨x1,b.ff _ _ x2⟩,b.fh _ _ (b.ff _ _ x2)⟩⟩
theorem Gr.kl {F H F' H':Hp}{p:Addr}{o:HO}(g:Gr F H F' H')(n:∀ xs,o≠.tup xs)(e1:F p=none)(e2:H p=some o):F' p=none/\H' p=some o:=by
 obtain⟨x,y⟩:=g.kp p o e1 e2
 rcases x with x | ⟨⟨xs,x1⟩,_⟩
 .exact⟨x,y⟩
 .exact absurd x1 (n xs)
theorem Gr.alloc {F H:Hp}{p:Addr}(s:yU F H)(h:H p=none)(o:HO):Gr F H (upd F p o) (upd H p o):=by
 have hF:F p=none:=s.free h
 refine⟨λb u q=>?_,λb u q=>?_,λb u q r=>?_⟩
 .rw[zq (zn q hF)];exact q
 .by_cases e:b=p
  .subst e;rw[zo]at q ⊢;exact q
  .rw[zq e]at q ⊢;exact s b u q
 .have e:b≠p:=zn r h
  rw[zq e];exact⟨.inl (by rw[zq e];exact q),r⟩
theorem Gr.hide {F H:Hp}{p:Addr}(s:yU F H)(h:H p=none)(o:HO):Gr F H F (upd H p o):=by
 refine⟨yU.refl _,λb u q=>?_,λb u q r=>?_⟩
 .rw[zq (zn (s b u q) h)];exact s b u q
 .have e:b≠p:=zn r h
  rw[zq e];exact⟨.inl q,r⟩
theorem Gr.show {F H:Hp}{p:Addr}{o:HO}{F0 H0:Hp}(g:Gr F0 H0 F H)(h0:H0 p=none)(hF:F p=none)(h:H p=some o):Gr F0 H0 (upd F p o) H:=by
 refine⟨λb u q=>?_,λb u q=>?_,λb u q r=>?_⟩
 .have:=g.ff b u q
  rw[zq (zn this hF)];exact this
 .by_cases e:b=p
  .subst e;rw[zo]at q;rw[<-q];exact h
  .rw[zq e]at q;exact g.fh b u q
 .have e:b≠p:=zn r h0
  obtain⟨x,y⟩:=g.kp b u q r
  refine⟨?_,y⟩
  unfold Hid
  rw[zq e]
  exact x
noncomputable abbrev Ev:=List (Option D)
noncomputable def VAt (F:Hp)(ρ:Ev)(σ:St):Prop:=∀ (i:Nat) (d:D),ρ[i]?=some (some d)->∃ v,σ[i]?=some (some v)/\At F d v
theorem VAt.mono {F F':Hp}{ρ:Ev}{σ:St}(h:VAt F ρ σ)(s:yU F F'):VAt F' ρ σ:=λi d e=>let ⟨v,e1,a⟩:=h i d e;⟨v,e1,a.mono s⟩
noncomputable def RE (t:TE)(f:Ev->Option D):Prop :=
 ∀ (σ:St) (ρ:Ev) (F H:Hp) (d:D) (Q:VK),yU F H->VAt F ρ σ->f ρ=some d->(∀ F' H' v,Gr F H F' H'->At F' d v->Q v H')->t σ H Q
noncomputable def RT (t:TT)(f:Ev->Option Bool):Prop :=
 ∀ (σ:St) (ρ:Ev) (F H:Hp) (b:Bool) (Q:Bool->Hp->Prop),yU F H->VAt F ρ σ->f ρ=some b->(∀ F' H',Gr F H F' H'->Q b H')->t σ H Q
noncomputable def RA (t:TA)(f:Ev->Option (List D)):Prop :=
 ∀ (σ:St) (ρ:Ev) (F H:Hp) (ds:List D) (Q:List V->Hp->Prop),yU F H->VAt F ρ σ->f ρ=some ds->(∀ F' H' vs,Gr F H F' H'->AtL F' ds vs->Q vs H')->t σ H Q
noncomputable def RF (t:TE)(f:Ev->Option (List D)):Prop :=
 ∀ (σ:St) (ρ:Ev) (F H:Hp) (ds:List D) (Q:VK),yU F H->VAt F ρ σ->f ρ=some ds->(∀ F' H' p xs,Gr F H F' H'->H p=none->F' p=none->H' p=some (.lst xs)->AtL F' ds xs->Q (.ref p) H')->t σ H Q
noncomputable def ED (X:Cx)(e:Expr)(f:Ev->Option D):Prop:=∃ t,PE X e t/\RE t f
noncomputable def TD (X:Cx)(e:Expr)(f:Ev->Option Bool):Prop:=∃ t,PT X e t/\RT t f
noncomputable def WD (X:Cx)(e:Expr)(f:Ev->Option Bool):Prop:=∃ t,PW X e t/\RT t f
noncomputable def AD (X:Cx)(es:List Expr)(f:Ev->Option (List D)):Prop:=∃ t,PA X es t/\RA t f
noncomputable def FL (X:Cx)(e:Expr)(f:Ev->Option (List D)):Prop:=∃ t,PE X e t/\RF t f
section
variable {X:Cx}{a b c:Expr}{pos:Pos}
noncomputable def yK (f:Ev->Option (List D)):Ev->Option D:=fun ρ=>(f ρ).map .lst
theorem x5 {f:Ev->Option (List D)}(h:FL X a f):ED X a (yK f):=by
 obtain⟨t,ht,r⟩:=h
 refine⟨t,ht,fun σ ρ F H d Q s va e q=>?_⟩
 obtain⟨ds,e1,rfl⟩:=Option.map_eq_some_iff.mp e
 refine r σ ρ F H ds Q s va e1 λF' H' p xs g h0 hF hH hx=>?_
 have g2:=g.show h0 hF hH
 exact q _ _ _ g2 (At.lst zo (hx.mono (λb u e=>by rw[zq (zn e hF)];exact e)))
noncomputable def zc (i:Nat):Ev->Option D:=fun ρ=>(ρ[i]?).getD none
theorem zld (i:Nat)(h:PE X a (zhO i)):ED X a (zc i):=by
 refine⟨_,h,fun σ ρ F H d Q s va e q=>?_⟩
 have e':ρ[i]?=some (some d):=by
  unfold zc at e
  cases h:ρ[i]? with
  | none=>rw[h]at e;cases e
  | some x=>rw[h]at e;cases x with
   | none=>cases e
   | some y=>cases e;rfl
 obtain⟨v,e1,a1⟩:=va i d e'
 exact⟨v,e1,q _ _ _ (.refl s) a1⟩
noncomputable def eC (d:D):Ev->Option D:=λ_=>some d
theorem zf {i:Int}(h:PE X a (tC (.int i))):ED X a (eC (.int i)):=⟨_,h,λ_ _ _ _ _ _ s _ e q=>by cases e;exact q _ _ _ (.refl s) .int⟩
theorem x9 {i:Bool}(h:PE X a (tC (.bl i))):ED X a (eC (.bl i)):=⟨_,h,λ_ _ _ _ _ _ s _ e q=>by cases e;exact q _ _ _ (.refl s) .bl⟩
theorem zks {i:Str}(h:PE X a (tC (.str i))):ED X a (eC (.str i)):=⟨_,h,λ_ _ _ _ _ _ s _ e q=>by cases e;exact q _ _ _ (.refl s) .str⟩
theorem zb6 (h:PE X a (tC .non)):ED X a (eC .non):=⟨_,h,λ_ _ _ _ _ _ s _ e q=>by cases e;exact q _ _ _ (.refl s) .non⟩
noncomputable def OpD (r:R2)(g:D->D->Option D):Prop :=
 ∀ (F H:Hp) (x y:V) (d e z:D) (Q:VK),yU F H->At F d x->At F e y->g d e=some z->(∀ F' H' v,Gr F H F' H'->At F' z v->Q v H')->r x y H Q
noncomputable def zj (g:D->D->Option D)(f h:Ev->Option D):Ev->Option D:=fun ρ=>(f ρ).bind λx=>(h ρ).bind λy=>g x y
theorem zhi {r:R2}{g:D->D->Option D}{ta tb:TE}{f h:Ev->Option D}(hg:OpD r g)(ra:RE ta f)(rb:RE tb h):RE (tOp r ta tb) (zj g f h):=by
 intro σ ρ F H z Q s va e q
 obtain⟨x,e1,e⟩:=Option.bind_eq_some_iff.mp e
 obtain⟨y,e2,e⟩:=Option.bind_eq_some_iff.mp e
 refine ra σ ρ F H x _ s va e1 λF1 H1 v g1 a1=>?_
 refine rb σ ρ F1 H1 y _ g1.fh (va.mono g1.ff) e2 λF2 H2 u g2 a2=>?_
 exact hg F2 H2 v u x y z Q g2.fh (a1.mono g2.ff) a2 e λF3 H3 w g3 a3=>q F3 H3 w ((g1.trans g2).trans g3) a3
theorem Vh {op:Operator}{r:R2}{g:D->D->Option D}{f h:Ev->Option D}(ho:OpR X (binaryOp op) r)(hg:OpD r g)(ha:ED X a f)(hb:ED X b h):ED X (.BinOp a op b pos) (zj g f h) :=
 let ⟨_,pa,ra⟩:=ha
 let ⟨_,pb,rb⟩:=hb
 ⟨_,zlL ho pa pb,zhi hg ra rb⟩
theorem ZK {op:CmpOp}{r:R2}{g:D->D->Option D}{f h:Ev->Option D}(ho:OpR X (compareOp op) r)(hg:OpD r g)(hm:behindInMarks op b=false)(ha:ED X a f)(hb:ED X b h):ED X (.Compare a [op] [b] pos) (zj g f h) :=
 let ⟨_,pa,ra⟩:=ha
 let ⟨_,pb,rb⟩:=hb
 ⟨_,ziY ho pa pb hm,zhi hg ra rb⟩
noncomputable def asB:D->Option Bool
 | .bl b=>some b
 | _=>none
theorem XY {d:D}{b:Bool}(h:asB d=some b):d=.bl b:=by
 cases d <;> first | (cases h;rfl) | cases h
noncomputable def tOf (f:Ev->Option D):Ev->Option Bool:=fun ρ=>(f ρ).bind asB
theorem zj5 {t:TE}{f:Ev->Option D}(r:RE t f):RT (zkc t) (tOf f):=by
 intro σ ρ F H b Q s va e q
 obtain⟨x,e1,e⟩:=Option.bind_eq_some_iff.mp e
 cases XY e
 exact r σ ρ F H _ _ s va e1 λF1 H1 v g1 a1=>⟨b,a1.bl_inv,q F1 H1 g1⟩
theorem yj {op:CmpOp}{r:R2}{g:D->D->Option D}{f h:Ev->Option D}(ho:OpR X (compareOp op) r)(hg:OpD r g)(hm:behindInMarks op b=false)(ha:ED X a f)(hb:ED X b h):TD X (.Compare a [op] [b] pos) (tOf (zj g f h)) :=
 let ⟨_,pa,ra⟩:=ha
 let ⟨_,pb,rb⟩:=hb
 ⟨_,zir ho pa pb hm,zj5 (zhi hg ra rb)⟩
theorem xJ {f:Ev->Option D}(ha:ED X a f)(he:∀ whole,isTrue a X.env whole=(do let v<-whole;standAt a.pos;holding [v] (truthy v)):=by intro _;rfl):TD X a (tOf f) :=
 let ⟨_,pa,ra⟩:=ha
 ⟨_,zkd pa he,zj5 ra⟩
noncomputable def yr (f g:Ev->Option Bool):Ev->Option Bool:=fun ρ=>(f ρ).bind λc=>if c=true then g ρ else some false
noncomputable def xW (f g:Ev->Option Bool):Ev->Option Bool:=fun ρ=>(f ρ).bind λc=>if c=true then some true else g ρ
noncomputable def zT (f:Ev->Option Bool):Ev->Option Bool:=fun ρ=>(f ρ).map (!·)
theorem V4 {f:Ev->Option Bool}(ha:TD X a f):WD X (.BoolOp .And [a] pos) f:=let ⟨_,pa,ra⟩:=ha;⟨_,zhX pa,ra⟩
theorem Xp {f:Ev->Option Bool}(ha:TD X a f):WD X (.BoolOp .Or [a] pos) f:=let ⟨_,pa,ra⟩:=ha;⟨_,zk3 pa,ra⟩
theorem zcI {rest:List Expr}{f g:Ev->Option Bool}(ha:TD X a f)(hb:WD X (.BoolOp .And (b::rest) pos) g):WD X (.BoolOp .And (a::b::rest) pos) (yr f g):=by
 obtain⟨ta,pa,ra⟩:=ha
 obtain⟨tb,pb,rb⟩:=hb
 refine⟨_,zjv pa pb,fun σ ρ F H z Q s va e q=>?_⟩
 obtain⟨x,e1,e⟩:=Option.bind_eq_some_iff.mp e
 refine ra σ ρ F H x _ s va e1 λF1 H1 g1=>?_
 cases x with
 | true =>
  rw[if_pos rfl]at e ⊢
  exact rb σ ρ F1 H1 z Q g1.fh (va.mono g1.ff) e λF2 H2 g2=>q F2 H2 (g1.trans g2)
 | false =>
  rw[if_neg Bool.false_ne_true]at e ⊢
  cases e
  exact q F1 H1 g1
theorem WM {rest:List Expr}{f g:Ev->Option Bool}(ha:TD X a f)(hb:WD X (.BoolOp .Or (b::rest) pos) g):WD X (.BoolOp .Or (a::b::rest) pos) (xW f g):=by
 obtain⟨ta,pa,ra⟩:=ha
 obtain⟨tb,pb,rb⟩:=hb
 refine⟨_,zmq pa pb,fun σ ρ F H z Q s va e q=>?_⟩
 obtain⟨x,e1,e⟩:=Option.bind_eq_some_iff.mp e
 refine ra σ ρ F H x _ s va e1 λF1 H1 g1=>?_
 cases x with
 | false =>
  rw[if_neg Bool.false_ne_true]at e ⊢
  exact rb σ ρ F1 H1 z Q g1.fh (va.mono g1.ff) e λF2 H2 g2=>q F2 H2 (g1.trans g2)
 | true =>
  rw[if_pos rfl]at e ⊢
  cases e
  exact q F1 H1 g1
theorem zdx {f:Ev->Option Bool}(h:WD X a f):TD X a f:=let ⟨_,p,r⟩:=h;⟨_,p.pt,r⟩
theorem wv {f:Ev->Option Bool}(ha:TD X a f):TD X (.UnaryOp .Not a pos) (zT f):=by
 obtain⟨ta,pa,ra⟩:=ha
 refine⟨_,zkg pa,fun σ ρ F H z Q s va e q=>?_⟩
 obtain⟨x,e1,rfl⟩:=Option.map_eq_some_iff.mp e
 exact ra σ ρ F H x _ s va e1 λF1 H1 g1=>q F1 H1 g1
noncomputable def wj (f g:Ev->Option D):Ev->Option D:=fun ρ=>((f ρ).bind asB).bind λc=>if c=true then g ρ else some (.bl false)
noncomputable def eOr (f g:Ev->Option D):Ev->Option D:=fun ρ=>((f ρ).bind asB).bind λc=>if c=true then some (.bl true)else g ρ
noncomputable def YD (f:Ev->Option D):Ev->Option D:=fun ρ=>((f ρ).bind asB).map λc=>.bl (!c)
theorem YQ {op}{f:Ev->Option D}(ha:ED X a f):ED X (.BoolOp op [a] pos) f:=let ⟨_,pa,ra⟩:=ha;⟨_,zk2 pa,ra⟩
theorem vA {rest:List Expr}{f g:Ev->Option D}(ha:ED X a f)(hb:ED X (.BoolOp .And (b::rest) pos) g):ED X (.BoolOp .And (a::b::rest) pos) (wj f g):=by
 obtain⟨ta,pa,ra⟩:=ha
 obtain⟨tb,pb,rb⟩:=hb
 refine⟨_,zjR pa pb,fun σ ρ F H z Q s va e q=>?_⟩
 obtain⟨x,e1,e⟩:=Option.bind_eq_some_iff.mp e
 obtain⟨y,e1,e2⟩:=Option.bind_eq_some_iff.mp e1
 cases XY e2
 refine ra σ ρ F H _ _ s va e1 λF1 H1 v g1 a1=>⟨x,a1.bl_inv,?_⟩
 cases x with
 | true =>
  rw[if_pos rfl]at e ⊢
  exact rb σ ρ F1 H1 z Q g1.fh (va.mono g1.ff) e λF2 H2 w g2 a2=>q F2 H2 w (g1.trans g2) a2
 | false =>
  rw[if_neg Bool.false_ne_true]at e ⊢
  cases e
  exact q F1 H1 _ g1 .bl
theorem zeC {f:Ev->Option D}(ha:ED X a f):ED X (.UnaryOp .Not a pos) (YD f):=by
 obtain⟨ta,pa,ra⟩:=ha
 refine⟨_,zjm pa,fun σ ρ F H z Q s va e q=>?_⟩
 obtain⟨x,e1,rfl⟩:=Option.map_eq_some_iff.mp e
 obtain⟨y,e1,e2⟩:=Option.bind_eq_some_iff.mp e1
 cases XY e2
 exact ra σ ρ F H _ _ s va e1 λF1 H1 v g1 a1=>⟨x,a1.bl_inv,q F1 H1 _ g1 .bl⟩
noncomputable def eIf (t:Ev->Option Bool)(f g:Ev->Option D):Ev->Option D:=fun ρ=>(t ρ).bind λc=>if c=true then f ρ else g ρ
noncomputable def eUn (g:D->Option D)(f:Ev->Option D):Ev->Option D:=fun ρ=>(f ρ).bind g
noncomputable def Yp:D->Option D
 | .int i=>some (.int (-i))
 | _=>none
theorem zbT {f:Ev->Option D}(ha:ED X a f):ED X (.UnaryOp .USub a pos) (eUn Yp f):=by
 obtain⟨ta,pa,ra⟩:=ha
 refine⟨_,zmt zkY pa,fun σ ρ F H z Q s va e q=>?_⟩
 obtain⟨x,e1,e⟩:=Option.bind_eq_some_iff.mp e
 cases x <;> try cases e
 exact ra σ ρ F H _ _ s va e1 λF1 H1 v g1 a1=>⟨_,a1.int_inv,q F1 H1 _ g1 .int⟩
noncomputable def zr:Ev->Option (List D):=λ_=>some []
noncomputable def zb (f:Ev->Option D)(g:Ev->Option (List D)):Ev->Option (List D):=fun ρ=>(f ρ).bind λd=>(g ρ).map (d::·)
theorem ze:AD X [] zr:=⟨_,zam,λ_ _ _ _ _ _ s _ e q=>by cases e;exact q _ _ _ (.refl s) .nil⟩
theorem za {e:Expr}{es:List Expr}{f:Ev->Option D}{g:Ev->Option (List D)}(ha:ED X e f)(hr:AD X es g)(hs:starEach (e::es) X.env=(false,eval e X.env)::starEach es X.env:=by rfl):AD X (e::es) (zb f g):=by
 obtain⟨ta,pa,ra⟩:=ha
 obtain⟨tb,pb,rb⟩:=hr
 refine⟨_,Zt pa pb hs,fun σ ρ F H z Q s va e q=>?_⟩
 obtain⟨x,e1,e⟩:=Option.bind_eq_some_iff.mp e
 obtain⟨ds,e2,rfl⟩:=Option.map_eq_some_iff.mp e
 refine ra σ ρ F H x _ s va e1 λF1 H1 v g1 a1=>?_
 exact rb σ ρ F1 H1 ds _ g1.fh (va.mono g1.ff) e2 λF2 H2 w g2 a2=>q F2 H2 _ (g1.trans g2) (.cons (a1.mono g2.ff) a2)
noncomputable def lim (n:Nat):Bool:=decide (n<=sizeLine)
noncomputable def ww (g:Ev->Option (List D)):Ev->Option D:=fun ρ=>(g ρ).bind λds=>if lim ds.length=true then some (.tup ds)else none
noncomputable def zI (g:Ev->Option (List D)):Ev->Option (List D):=fun ρ=>(g ρ).bind λds=>if lim ds.length=true then some ds else none
theorem Yv {es:List Expr}{x1}{g:Ev->Option (List D)}(h:AD X es g):ED X (.Tuple es x1 pos) (ww g):=by
 obtain⟨ta,pa,ra⟩:=h
 refine⟨_,zju pa,fun σ ρ F H z Q s va e q=>?_⟩
 obtain⟨ds,e1,e⟩:=Option.bind_eq_some_iff.mp e
 split at e <;> cases e
 rename_i hl
 refine ra σ ρ F H ds _ s va e1 λF1 H1 vs g1 a1=>⟨by rw[a1.length];exact of_decide_eq_true hl,λp hp=>?_⟩
 have g2:=Gr.alloc g1.fh hp (.tup vs)
 exact q _ _ _ (g1.trans g2) (.tup zo (a1.mono g2.ff))
theorem xH {es:List Expr}{g:Ev->Option (List D)}(h:AD X es g):FL X (.List es pos) (zI g):=by
 obtain⟨ta,pa,ra⟩:=h
 refine⟨_,zjE pa,fun σ ρ F H z Q s va e q=>?_⟩
 obtain⟨ds,e1,e⟩:=Option.bind_eq_some_iff.mp e
 split at e <;> cases e
 rename_i hl
 refine ra σ ρ F H _ _ s va e1 λF1 H1 vs g1 a1=>⟨by rw[a1.length];exact of_decide_eq_true hl,λp hp=>?_⟩
 have g2:=Gr.hide g1.fh hp (.lst vs)
 have h0:H p=none:=by
  cases e:H p with
  | none=>rfl
  | some o =>
   cases e2:F p with
   | none=>rw[(g1.kp p o e2 e).2]at hp;cases hp
   | some u=>rw[g1.fh _ _ (g1.ff _ _ e2)]at hp;cases hp
 exact q _ _ _ _ (g1.trans g2) h0 (g1.fh.free hp) zo a1
end
end
end Dl
namespace Dl
open PySem L2
variable [KK]
inductive Sl where
 | no | v (d:D) | o (ds:List D) | m (t:Bool) (ks:List (List Key)) (vs:List D)
 deriving Inhabited
noncomputable abbrev SE:=List Sl
noncomputable def Sl.f:Sl->Option D
 | .v d=>some d
 | _=>none
noncomputable def Sl.g:Sl->Option D
 | .v d=>some d
 | .o ds=>some (.lst ds)
 | .m t ks vs=>some (.dct false t ks vs)
 | .no=>none
noncomputable def Sl.isO:Sl->Bool
 | .o _=>true
 | .m _ _ _=>true
 | _=>false
noncomputable def visF (ρ:SE):Ev:=ρ.map Sl.f
noncomputable def visG (ρ:SE):Ev:=ρ.map Sl.g
noncomputable def zcJ (F:Hp)(o:HO):Sl->Prop
 | .o ds=>∃ xs,o=.lst xs/\AtL F ds xs
 | .m t ks ds=>∃ xs,Vi o t ks xs/\AtL F ds xs
 | _=>False
theorem zcJ.mono {F F':Hp}{o:HO}{s:Sl}(h:zcJ F o s)(k:yU F F'):zcJ F' o s:=by
 cases s with
 | no=>exact h
 | v d=>exact h
 | o ds=>obtain⟨xs,e,a⟩:=h;exact⟨xs,e,a.mono k⟩
 | m t ks ds=>obtain⟨xs,e,a⟩:=h;exact⟨xs,e,a.mono k⟩
theorem zcJ.isO {F:Hp}{o:HO}{s:Sl}(h:zcJ F o s):s.isO=true:=by
 cases s with
 | no=>exact h.elim
 | v d=>exact h.elim
 | o ds=>rfl
 | m t ks ds=>rfl
theorem zcJ.ntup {F:Hp}{o:HO}{s:Sl}(h:zcJ F o s)(xs:List V):o≠.tup xs:=by
 cases s with
 | no=>exact h.elim
 | v d=>exact h.elim
 | o ds=>obtain⟨ys,rfl,_⟩:=h;intro e;cases e
 | m t ks ds =>
  obtain⟨ys,e,_⟩:=h
  unfold Vi at e
  split at e
  .obtain⟨kvs,rfl,_⟩:=e;intro e;cases e
  .obtain⟨kvs,rfl,_⟩:=e;intro e;cases e
theorem zcJ.at {F G:Hp}{o:HO}{s:Sl}{d:D}{p:Addr}(h:zcJ F o s)(e:s.g=some d)(hp:G p=some o)(k:yU F G):At G d (.ref p):=by
 cases s with
 | no=>exact h.elim
 | v d=>exact h.elim
 | o ds =>
  cases e
  obtain⟨xs,rfl,a⟩:=h
  exact .lst hp (a.mono k)
 | m t ks ds =>
  cases e
  obtain⟨xs,e,a⟩:=h
  unfold At
  exact⟨p,xs,rfl,⟨o,e,hp⟩,a.mono k⟩
structure Rl (Fb Hb F H:Hp) (ρ:SE) (σ:St):Prop where
 gr:Gr Fb Hb F H
 vals:∀ (i:Nat) (d:D),ρ[i]?=some (.v d)->∃ v,σ[i]?=some (some v)/\At F d v
 ows:∀ (i:Nat) (s:Sl),ρ[i]?=some s->s.isO=true->∃ p o,σ[i]?=some (some (.ref p))/\Hb p=none/\F p=none/\H p=some o/\zcJ F o s
 dis:∀ (i j:Nat) (p:Addr) (s t:Sl),ρ[i]?=some s->ρ[j]?=some t->s.isO=true->t.isO=true->σ[i]?=some (some (.ref p))->σ[j]?=some (some (.ref p))->i=j
 len:ρ.length=σ.length
section
variable {Fb Hb F H F' H':Hp}{ρ ρ':SE}{σ σ':St}
theorem Rl.owns (r:Rl Fb Hb F H ρ σ)(i:Nat)(ds:List D)(e:ρ[i]?=some (.o ds)):∃ p xs,σ[i]?=some (some (.ref p))/\Hb p=none/\F p=none/\H p=some (.lst xs)/\AtL F ds xs:=by
 obtain⟨p,o,e1,e2,e3,e4,xs,rfl,a⟩:=r.ows i _ e rfl
 exact⟨p,xs,e1,e2,e3,e4,a⟩
theorem Rl.grow (r:Rl Fb Hb F H ρ σ)(g:Gr F H F' H'):Rl Fb Hb F' H' ρ σ:=by
 refine⟨r.gr.trans g,λi d e=>?_,λi s e h=>?_,r.dis,r.len⟩
 .obtain⟨v,e1,a⟩:=r.vals i d e
  exact⟨v,e1,a.mono g.ff⟩
 .obtain⟨p,o,e1,e2,e3,e4,a⟩:=r.ows i s e h
  obtain⟨k1,k2⟩:=g.kl a.ntup e3 e4
  exact⟨p,o,e1,e2,k1,k2,a.mono g.ff⟩
theorem Rl.visF (r:Rl Fb Hb F H ρ σ):VAt F (visF ρ) σ:=λi d e=>by
 unfold Dl.visF at e
 rw[List.getElem?_map]at e
 cases h:ρ[i]? with
 | none=>rw[h]at e;cases e
 | some x =>
  rw[h]at e
  cases x with
  | no=>cases e
  | v d' =>
   cases e
   exact r.vals i d h
  | o ds=>cases e
  | m t ks ds=>cases e
noncomputable def Own (ρ:SE)(σ:St)(p:Addr):Prop:=∃ (i:Nat) (s:Sl),ρ[i]?=some s/\s.isO=true/\σ[i]?=some (some (.ref p))
open Classical in
noncomputable def gOf (ρ:SE)(σ:St)(F H:Hp):Hp:=λp=>if Own ρ σ p then H p else F p
open Classical in
noncomputable def fOf (ρ:SE)(σ:St)(G:Hp):Hp:=λp=>if Own ρ σ p then none else G p
theorem Rl.own (r:Rl Fb Hb F H ρ σ){p:Addr}(h:Own ρ σ p):Hb p=none/\F p=none/\∃ o,H p=some o/\∀ xs,o≠.tup xs:=by
 obtain⟨i,s,e1,e2,e3⟩:=h
 obtain⟨q,o,e4,e5,e6,e7,a⟩:=r.ows i s e1 e2
 rw[e3]at e4
 cases e4
 exact⟨e5,e6,o,e7,a.ntup⟩
theorem Rl.notown (r:Rl Fb Hb F H ρ σ){q:Addr}(h:H q=none)(j:Nat)(s:Sl)(e1:ρ[j]?=some s)(e2:s.isO=true):σ[j]?≠some (some (.ref q)):=λe=>by
 obtain⟨p,o,f1,_,_,f4,_⟩:=r.ows j s e1 e2
 rw[e]at f1
 cases f1
 rw[h]at f4
 cases f4
theorem Rl.notbase (r:Rl Fb Hb F H ρ σ){q:Addr}(h:H q=none):Hb q=none:=by
 cases z:Hb q with
 | none=>rfl
 | some o =>
  cases z2:Fb q with
  | none=>rw[(r.gr.kp q o z2 z).2]at h;cases h
  | some u=>rw[r.gr.fh _ _ (r.gr.ff _ _ z2)]at h;cases h
theorem Rl.fg (r:Rl Fb Hb F H ρ σ):yU F (gOf ρ σ F H):=λp o e=>by
 unfold gOf
 split
 .exact r.gr.fh p o e
 .exact e
theorem Rl.gh (r:Rl Fb Hb F H ρ σ):yU (gOf ρ σ F H) H:=λp o e=>by
 unfold gOf at e
 split at e
 .exact e
 .exact r.gr.fh p o e
theorem Rl.visG (r:Rl Fb Hb F H ρ σ):VAt (gOf ρ σ F H) (visG ρ) σ:=λi d e=>by
 unfold Dl.visG at e
 rw[List.getElem?_map]at e
 cases h:ρ[i]? with
 | none=>rw[h]at e;cases e
 | some x =>
  rw[h]at e
  have e:x.g=some d:=Option.some.inj e
  have own:x.isO=true->∃ v,σ[i]?=some (some v)/\At (gOf ρ σ F H) d v:=λhx=>by
   obtain⟨p,o,e1,e2,e3,e4,a⟩:=r.ows i x h hx
   refine⟨_,e1,a.at e ?_ r.fg⟩
   unfold gOf
   rw[if_pos ⟨i,x,h,hx,e1⟩]
   exact e4
  cases x with
  | no=>cases e
  | v d' =>
   cases e
   obtain⟨v,e1,a⟩:=r.vals i d h
   exact⟨v,e1,a.mono r.fg⟩
  | o ds=>exact own rfl
  | m t ks ds=>exact own rfl
theorem Rl.back {G':Hp}(r:Rl Fb Hb F H ρ σ)(g:Gr (gOf ρ σ F H) H G' H'):Gr F H (fOf ρ σ G') H'/\∀ q xs,G' q=some (.tup xs)->fOf ρ σ G' q=some (.tup xs):=by
 refine⟨⟨λp o e=>?_,λp o e=>?_,λp o e1 e2=>?_⟩,λq xs e=>?_⟩
 .unfold fOf
  rw[if_neg (λh=>by rw[(r.own h).2.1]at e;cases e)]
  exact g.ff p o (r.fg p o e)
 .unfold fOf at e
  split at e
  .cases e
  .exact g.fh p o e
 .by_cases h:Own ρ σ p
  .refine⟨.inl (by unfold fOf;rw[if_pos h]),g.fh p o (g.ff p o ?_)⟩
   unfold gOf
   rw[if_pos h]
   exact e2
  .obtain⟨x,y⟩:=g.kp p o (by unfold gOf;rw[if_neg h];exact e1) e2
   refine⟨?_,y⟩
   unfold Hid fOf
   rw[if_neg h]
   exact x
 .unfold fOf
  rw[if_neg (λh=>?_)]
  .exact e
  .obtain⟨_,_,o,e2,n⟩:=r.own h
   have:G' q=some o:=g.ff q _ (by unfold gOf;rw[if_pos h];exact e2)
   rw[this]at e
   cases e
   exact n xs rfl
theorem Rl.out {G':Hp}(r:Rl Fb Hb F H ρ σ)(g:Gr (gOf ρ σ F H) H G' H'):Gr Fb Hb G' H':=by
 refine⟨λp o e=>g.ff p o (r.fg p o (r.gr.ff p o e)),g.fh,λp o e1 e2=>?_⟩
 obtain⟨k1,k2⟩:=r.gr.kp p o e1 e2
 have e3:gOf ρ σ F H p=F p:=by
  unfold gOf
  rw[if_neg (λh=>by rw[(r.own h).1]at e2;cases e2)]
 rcases k1 with k1 | ⟨k1,k3⟩
 .exact g.kp p o (by rw[e3];exact k1) k2
 .have:=g.ff p o (by rw[e3];exact k3)
  exact⟨.inr ⟨k1,this⟩,g.fh _ _ this⟩
theorem Rl.set (r:Rl Fb Hb F H ρ σ){i:Nat}{d:D}{v:V}(a:At F d v):Rl Fb Hb F H (ρ.set i (.v d)) (σ.set i (some v)):=by
 have nj:∀ {j:Nat} {s:Sl},(ρ.set i (.v d))[j]?=some s->s.isO=true->i≠j:=λ{j s} h ho e=>by
  subst e
  rw[List.getElem?_set]at h
  simp only[if_true]at h
  split at h <;> cases h
  cases ho
 refine⟨r.gr,λj e h=>?_,λj s h ho=>?_,λj k p s t h1 h2 o1 o2 h3 h4=>?_,by simp[r.len]⟩
 .by_cases hj:i=j
  .subst hj
   rw[List.getElem?_set]at h
   simp only[if_true]at h
   split at h
   .rename_i hl
    cases h
    refine⟨v,?_,a⟩
    rw[List.getElem?_set]
    simp[<-r.len,hl]
   .cases h
  .rw[List.getElem?_set_ne hj]at h ⊢
   exact r.vals j e h
 .have hj:=nj h ho
  rw[List.getElem?_set_ne hj]at h ⊢
  exact r.ows j s h ho
 .have a1:=nj h1 o1
  have a2:=nj h2 o2
  rw[List.getElem?_set_ne a1]at h1 h3
  rw[List.getElem?_set_ne a2]at h2 h4
  exact r.dis j k p s t h1 h2 o1 o2 h3 h4
theorem Rl.setW (r:Rl Fb Hb F H ρ σ){i:Nat}{w:Sl}{p:Addr}{o:HO}(h0:Hb p=none)(hF:F p=none)(hH:H p=some o)(a:zcJ F o w)
 (nw:∀ (j:Nat) (s:Sl),ρ[j]?=some s->s.isO=true->σ[j]?≠some (some (.ref p))):Rl Fb Hb F H (ρ.set i w) (σ.set i (some (.ref p))):=by
 have at_i:∀ {s:Sl},(ρ.set i w)[i]?=some s->i < ρ.length/\s=w:=λ{s} h=>by
  rw[List.getElem?_set]at h
  simp only[if_true]at h
  split at h
  .rename_i hl
   cases h
   exact⟨hl,rfl⟩
  .cases h
 have st_i:i < ρ.length->(σ.set i (some (V.ref p)))[i]?=some (some (.ref p)):=λhl=>by
  rw[List.getElem?_set]
  simp[<-r.len,hl]
 refine⟨r.gr,λj e h=>?_,λj s h ho=>?_,λj k q s t h1 h2 o1 o2 h3 h4=>?_,by simp[r.len]⟩
 .by_cases hj:i=j
  .subst hj
   have e:=(at_i h).2
   have:=a.isO
   rw[<-e]at this
   cases this
  .rw[List.getElem?_set_ne hj]at h ⊢
   exact r.vals j e h
 .by_cases hj:i=j
  .subst hj
   obtain⟨hl,e⟩:=at_i h
   subst e
   exact⟨p,o,st_i hl,h0,hF,hH,a⟩
  .rw[List.getElem?_set_ne hj]at h ⊢
   exact r.ows j s h ho
 .by_cases hj:i=j
  .subst hj
   by_cases hk:i=k
   .exact hk
   .obtain⟨hl,_⟩:=at_i h1
    rw[st_i hl]at h3
    cases h3
    rw[List.getElem?_set_ne hk]at h2 h4
    exact absurd h4 (nw k t h2 o2)
  .by_cases hk:i=k
   .subst hk
    obtain⟨hl,_⟩:=at_i h2
    rw[st_i hl]at h4
    cases h4
    rw[List.getElem?_set_ne hj]at h1 h3
    exact absurd h3 (nw j s h1 o1)
   .rw[List.getElem?_set_ne hj]at h1 h3
    rw[List.getElem?_set_ne hk]at h2 h4
    exact r.dis j k q s t h1 h2 o1 o2 h3 h4
theorem Rl.setO (r:Rl Fb Hb F H ρ σ){i:Nat}{ds:List D}{p:Addr}{xs:List V}(h0:Hb p=none)(hF:F p=none)(hH:H p=some (.lst xs))(a:AtL F ds xs)
 (nw:∀ (j:Nat) (s:Sl),ρ[j]?=some s->s.isO=true->σ[j]?≠some (some (.ref p))):Rl Fb Hb F H (ρ.set i (.o ds)) (σ.set i (some (.ref p))):=r.setW h0 hF hH ⟨xs,rfl,a⟩ nw
theorem Rl.mutW (r:Rl Fb Hb F H ρ σ){i:Nat}{w w':Sl}{p:Addr}{o':HO}(e:ρ[i]?=some w)(hw:w.isO=true)(e1:σ[i]?=some (some (.ref p)))(a:zcJ F o' w'):Rl Fb Hb F (upd H p o') (ρ.set i w') σ:=by
 obtain⟨q,o,e2,h0,hF,hH,_⟩:=r.ows i w e hw
 rw[e1]at e2
 cases e2
 have hi:i < ρ.length:=(List.getElem?_eq_some_iff.mp e).1
 have neP:∀ {j:Nat} {s:Sl} {q:Addr},i≠j->ρ[j]?=some s->s.isO=true->σ[j]?=some (some (.ref q))->q≠p:=λ{j s q} hne h1 ho h2 z=>by
  subst z
  exact hne (r.dis i j q w s e h1 hw ho e1 h2)
 refine⟨⟨r.gr.ff,λb o z=>?_,λb o z1 z2=>?_⟩,λj d h=>?_,λj s h ho=>?_,λj k q s t h1 h2 o1 o2 h3 h4=>?_,by simp[r.len]⟩
 .rw[zq (zn z hF)]
  exact r.gr.fh b o z
 .rw[zq (zn z2 h0)]
  exact r.gr.kp b o z1 z2
 .by_cases hj:i=j
  .subst hj
   rw[List.getElem?_set_self hi]at h
   cases h
   exact(Bool.noConfusion a.isO)
  .rw[List.getElem?_set_ne hj]at h
   exact r.vals j d h
 .by_cases hj:i=j
  .subst hj
   rw[List.getElem?_set_self hi]at h
   cases h
   exact⟨p,o',e1,h0,hF,zo,a⟩
  .rw[List.getElem?_set_ne hj]at h
   obtain⟨q,z,f1,f2,f3,f4,f5⟩:=r.ows j s h ho
   refine⟨q,z,f1,f2,f3,?_,f5⟩
   rw[zq (neP hj h ho f1)]
   exact f4
 .have back:∀ {j:Nat} {s:Sl},(ρ.set i w')[j]?=some s->s.isO=true->∃ s',ρ[j]?=some s'/\s'.isO=true:=λ{j s} h ho=>by
   by_cases hj:i=j
   .subst hj;exact⟨w,e,hw⟩
   .rw[List.getElem?_set_ne hj]at h;exact⟨s,h,ho⟩
  obtain⟨f1,g1,g1'⟩:=back h1 o1
  obtain⟨f2,g2,g2'⟩:=back h2 o2
  exact r.dis j k q f1 f2 g1 g2 g1' g2' h3 h4
theorem Rl.mutate (r:Rl Fb Hb F H ρ σ){i:Nat}{ds es:List D}{p:Addr}{ys:List V}(e:ρ[i]?=some (.o ds))(e1:σ[i]?=some (some (.ref p)))(a:AtL F es ys):Rl Fb Hb F (upd H p (.lst ys)) (ρ.set i (.o es)) σ :=
 r.mutW e rfl e1 ⟨ys,rfl,a⟩
noncomputable def Sl.fz:Sl->Sl
 | .o ds=>.v (.lst ds)
 | .m t ks vs=>.v (.dct false t ks vs)
 | s=>s
noncomputable def zjs (ρ:SE)(i:Nat):SE:=ρ.set i ((ρ[i]?).getD .no).fz
theorem Rl.freeze (r:Rl Fb Hb F H ρ σ)(i:Nat):∃ F',Rl Fb Hb F' H (zjs ρ i) σ:=by
 unfold zjs
 cases h:ρ[i]? with
 | none =>
  refine⟨F,?_⟩
  rw[List.set_eq_of_length_le (List.getElem?_eq_none_iff.mp h)]
  exact r
 | some s =>
  have hi:i < ρ.length:=(List.getElem?_eq_some_iff.mp h).1
  have same:s.fz=s->∃ F',Rl Fb Hb F' H (ρ.set i ((some s).getD .no).fz) σ:=λe=>by
   refine⟨F,?_⟩
   show Rl Fb Hb F H (ρ.set i s.fz) σ
   rw[e]
   have:ρ.set i s=ρ:=by
    apply List.ext_getElem?
    intro j
    by_cases hj:i=j
    .subst hj;rw[List.getElem?_set_self hi,h]
    .rw[List.getElem?_set_ne hj]
   rw[this]
   exact r
  have give:∀ d,s.isO=true->s.g=some d->s.fz=.v d->∃ F',Rl Fb Hb F' H (ρ.set i ((some s).getD .no).fz) σ:=λd ho hg hz=>by
   obtain⟨p,o,e1,e2,e3,e4,a⟩:=r.ows i s h ho
   have sF:yU F (upd F p o):=λb u e=>by rw[zq (zn e e3)];exact e
   show ∃ F',Rl Fb Hb F' H (ρ.set i s.fz) σ
   rw[hz]
   have nj:∀ {j:Nat} {t:Sl},(ρ.set i (.v d))[j]?=some t->t.isO=true->i≠j:=λ{j t} h ht e=>by
    subst e
    rw[List.getElem?_set_self hi]at h
    cases h
    cases ht
   refine⟨upd F p o,r.gr.show e2 e3 e4,λj e z=>?_,λj t z ht=>?_,λj k q t u h1 h2 o1 o2 h3 h4=>?_,by simp[r.len]⟩
   .by_cases hj:i=j
    .subst hj
     rw[List.getElem?_set_self hi]at z
     cases z
     exact⟨_,e1,a.at hg zo sF⟩
    .rw[List.getElem?_set_ne hj]at z
     obtain⟨v,f1,f2⟩:=r.vals j e z
     exact⟨v,f1,f2.mono sF⟩
   .have hj:=nj z ht
    rw[List.getElem?_set_ne hj]at z
    obtain⟨q,y,f1,f2,f3,f4,f5⟩:=r.ows j t z ht
    refine⟨q,y,f1,f2,?_,f4,f5.mono sF⟩
    rw[zq (λw=>hj (r.dis i j p s t h z ho ht e1 (by rw[<-w];exact f1)))]
    exact f3
   .have a1:=nj h1 o1
    have a2:=nj h2 o2
    rw[List.getElem?_set_ne a1]at h1
    rw[List.getElem?_set_ne a2]at h2
    exact r.dis j k q t u h1 h2 o1 o2 h3 h4
  cases s with
  | no=>exact same rfl
  | v d=>exact same rfl
  | o ds=>exact give _ rfl rfl rfl
  | m t ks ds=>exact give _ rfl rfl rfl
end
inductive Ctl where
 | nx (ρ:SE) | rt (d:D) | bk (ρ:SE) | ct (ρ:SE) | no
 deriving Inhabited
noncomputable def SOk (Fb Hb:Hp)(E:zf6):Ctl->Prop
 | .nx ρ=>∀ F H σ,Rl Fb Hb F H ρ σ->E.nx σ H
 | .bk ρ=>∀ F H σ,Rl Fb Hb F H ρ σ->E.bk σ H
 | .ct ρ=>∀ F H σ,Rl Fb Hb F H ρ σ->E.ct σ H
 | .rt d=>∀ F H v,Gr Fb Hb F H->At F d v->E.rt v H
 | .no=>False
noncomputable def RS (t:TS)(g:SE->Ctl):Prop:=∀ (Fb Hb F H:Hp) (ρ:SE) (σ:St) (E:zf6),Rl Fb Hb F H ρ σ->SOk Fb Hb E (g ρ)->t E σ H
noncomputable def SD (X:Cx)(st:Stmt)(g:SE->Ctl):Prop:=∃ t,PS X st t/\RS t g
noncomputable def SDs (X:Cx)(sts:List Stmt)(g:SE->Ctl):Prop:=∃ t,PSs X sts t/\RS t g
section
variable {X:Cx}{st:Stmt}{sts:List Stmt}{a b c e:Expr}{pos pos':Pos}
noncomputable def zH:SE->Ctl:=.nx
noncomputable def zS (g h:SE->Ctl):SE->Ctl:=fun ρ=>match g ρ with
 | .nx ρ'=>h ρ'
 | .rt d=>.rt d
 | .bk ρ'=>.bk ρ'
 | .ct ρ'=>.ct ρ'
 | .no=>.no
theorem zJ:SDs X [] zH:=⟨_,zi7,λ_ _ F H ρ σ E r h=>h F H σ r⟩
theorem zd {g h:SE->Ctl}(h1:SD X st g)(h2:SDs X sts h):SDs X (st::sts) (zS g h):=by
 obtain⟨t,p,r⟩:=h1
 obtain⟨u,p2,r2⟩:=h2
 refine⟨_,zf3 p p2,λFb Hb F H ρ σ E rl k=>?_⟩
 refine r Fb Hb F H ρ σ { E with nx:=u E } rl ?_
 unfold zS at k
 cases e:g ρ with
 | nx ρ' =>
  rw[e]at k
  exact λF' H' σ' rl'=>r2 Fb Hb F' H' ρ' σ' E rl' k
 | rt d=>rw[e]at k;exact k
 | bk d=>rw[e]at k;exact k
 | ct d=>rw[e]at k;exact k
 | no=>rw[e]at k;exact k
theorem zh {g:SE->Ctl}(h1:SD X st g):SDs X [st] g:=let ⟨_,p,r⟩:=h1;⟨_,zhU p,r⟩
noncomputable def sFz (i:Nat)(g:SE->Ctl):SE->Ctl:=fun ρ=>g (zjs ρ i)
theorem Xu {g:SE->Ctl}(i:Nat)(h:SDs X sts g):SDs X sts (sFz i g):=by
 obtain⟨t,p,r⟩:=h
 refine⟨_,p,λFb Hb F H ρ σ E rl k=>?_⟩
 obtain⟨F',rl'⟩:=rl.freeze i
 exact r Fb Hb F' H _ σ E rl' k
noncomputable def sNo:SE->Ctl:=λ_=>.no
theorem XQ:SD X st sNo:=⟨_,zhf,λ_ _ _ _ _ _ _ _ h=>h.elim⟩
noncomputable def yq (f:Ev->Option D):SE->Ctl:=fun ρ=>match f (visG ρ) with
 | some d=>.rt d
 | none=>.no
theorem zC {f:Ev->Option D}(h:ED X e f):SD X (.Return (some e) pos) (yq f):=by
 obtain⟨t,p,r⟩:=h
 refine⟨_,zj9 p,λFb Hb F H ρ σ E rl k=>?_⟩
 unfold yq at k
 cases h:f (visG ρ) with
 | none=>rw[h]at k;exact k.elim
 | some d =>
  rw[h]at k
  exact r σ _ _ H d _ rl.gh rl.visG h λF' H' v g av=>k F' H' v (rl.out g) av
noncomputable def xn:SE->Ctl:=λ_=>.rt .non
noncomputable def vEv (m:Bool)(f:Ev->Option D)(ρ:SE):Option D:=if m=true then (f (visG ρ)).bind λd=>if noL d=true then some d else none else f (visF ρ)
theorem RE.at {Fb Hb F H:Hp}{ρ:SE}{σ:St}{m:Bool}{f:Ev->Option D}{t:TE}{d:D}{Q:VK}(r:RE t f)(rl:Rl Fb Hb F H ρ σ)(h:vEv m f ρ=some d)(q:∀ F' H' v,Gr F H F' H'->At F' d v->Q v H'):t σ H Q:=by
 unfold vEv at h
 cases m with
 | false =>
  rw[if_neg Bool.false_ne_true]at h
  exact r σ _ _ H d _ rl.gr.fh rl.visF h q
 | true =>
  rw[if_pos rfl]at h
  obtain⟨d',h1,h2⟩:=Option.bind_eq_some_iff.mp h
  split at h2 <;> cases h2
  rename_i hn
  refine r σ _ _ H d _ rl.gh rl.visG h1 λF' H' v g av=>?_
  obtain⟨g2,fl⟩:=rl.back g
  exact q _ H' v g2 (av.flat fl hn)
noncomputable def y4 (m:Bool)(i:Nat)(f:Ev->Option D):SE->Ctl:=fun ρ=>match vEv m f ρ with
 | some d=>.nx (ρ.set i (.v d))
 | none=>.no
theorem yi {m:Bool}{i:Nat}{x:Str}{f:Ev->Option D}(hN:X.N.Nodup)(hi:X.N[i]?=some x)(hx:Loc X.env.scope x)(he:ED X e f)(hs:swapsWith e (some (.Name x pos')) pos.line X.env=pure false:=by rfl)
 (hf:X.fn x=true\/X.env.scope.names.lookup x=some .local:=by first | exact .inl rfl | exact .inr rfl | assumption):SD X (.Assign [.Name x pos'] e pos) (y4 m i f):=by
 obtain⟨t,p,r⟩:=he
 refine⟨_,zar hN hi hx p hs hf,λFb Hb F H ρ σ E rl k=>?_⟩
 unfold y4 at k
 cases h:vEv m f ρ with
 | none=>rw[h]at k;exact k.elim
 | some d =>
  rw[h]at k
  exact r.at rl h λF' H' v g av=>k F' H' _ ((rl.grow g).set av)
noncomputable def vM (f:Ev->Option D):SE->Ctl:=fun ρ=>match f (visG ρ) with
 | some _=>.nx ρ
 | none=>.no
theorem X9 {f:Ev->Option D}(he:ED X e f)(hs:swapsWith e none pos.line X.env=pure false:=by rfl):SD X (.Expr e pos) (vM f):=by
 obtain⟨t,p,r⟩:=he
 refine⟨_,Vl p hs,λFb Hb F H ρ σ E rl k=>?_⟩
 unfold vM at k
 cases h:f (visG ρ) with
 | none=>rw[h]at k;exact k.elim
 | some d =>
  rw[h]at k
  exact r σ _ _ H d _ rl.gh rl.visG h λF' H' v g av=>k _ H' σ (rl.grow (rl.back g).1)
noncomputable def vx (i:Nat)(f:Ev->Option (List D)):SE->Ctl:=fun ρ=>match f (visF ρ) with
 | some ds=>.nx (ρ.set i (.o ds))
 | none=>.no
theorem Xs {i:Nat}{x:Str}{f:Ev->Option (List D)}(hN:X.N.Nodup)(hi:X.N[i]?=some x)(hx:Loc X.env.scope x)(he:FL X e f)(hs:swapsWith e (some (.Name x pos')) pos.line X.env=pure false:=by rfl)
 (hf:X.fn x=true\/X.env.scope.names.lookup x=some .local:=by first | exact .inl rfl | exact .inr rfl | assumption):SD X (.Assign [.Name x pos'] e pos) (vx i f):=by
 obtain⟨t,p,r⟩:=he
 refine⟨_,zar hN hi hx p hs hf,λFb Hb F H ρ σ E rl k=>?_⟩
 unfold vx at k
 cases h:f (visF ρ) with
 | none=>rw[h]at k;exact k.elim
 | some ds =>
  rw[h]at k
  refine r σ _ _ H ds _ rl.gr.fh rl.visF h λF' H' q xs g h0 hF hH hx=>?_
  have rl2:=rl.grow g
  exact k F' H' _ (rl2.setO (rl.notbase h0) hF hH hx (rl.notown h0))
noncomputable def sIf (t:Ev->Option Bool)(g h:SE->Ctl):SE->Ctl:=fun ρ=>match t (visG ρ) with
 | some true=>g ρ
 | some false=>h ρ
 | none=>.no
theorem xm {as bs:List Stmt}{t:Ev->Option Bool}{g h:SE->Ctl}(hc:TD X c t)(ha:SDs X as g)(hb:SDs X bs h):SD X (.If c as bs pos) (sIf t g h):=by
 obtain⟨tc,pc,rc⟩:=hc
 obtain⟨ta,pa,ra⟩:=ha
 obtain⟨tb,pb,rb⟩:=hb
 refine⟨_,zmo pc pa pb,λFb Hb F H ρ σ E rl k=>?_⟩
 unfold sIf at k
 cases h:t (visG ρ) with
 | none=>rw[h]at k;exact k.elim
 | some d =>
  rw[h]at k
  refine rc σ _ _ H d _ rl.gh rl.visG h λF' H' g=>?_
  have rl2:=rl.grow (rl.back g).1
  cases d with
  | true=>rw[if_pos rfl];exact ra Fb Hb _ H' ρ σ E rl2 k
  | false=>rw[if_neg Bool.false_ne_true];exact rb Fb Hb _ H' ρ σ E rl2 k
noncomputable def Zj (t:Ev->Option Bool)(g:SE->Ctl):Nat->SE->Ctl
 | 0,_=>.no
 | n+1,ρ=>match t (visG ρ) with
  | some true=>match g ρ with
   | .nx ρ'=>Zj t g n ρ'
   | .ct ρ'=>Zj t g n ρ'
   | .bk ρ'=>.nx ρ'
   | .rt d=>.rt d
   | .no=>.no
  | some false=>.nx ρ
  | none=>.no
theorem zf1 {as:List Stmt}{t:Ev->Option Bool}{g:SE->Ctl}(n:Nat)(hp:PassesOwn (model X.prog X.w) X.A X.env X.xe)(hc:TD X c t)(ha:SDs X as g):SD X (.While c as [] pos) (Zj t g n):=by
 obtain⟨tc,pc,rc⟩:=hc
 obtain⟨ta,pa,ra⟩:=ha
 refine⟨_,zf4 hp pc pa,λFb Hb F H ρ σ E rl k=>?_⟩
 refine⟨λm σ H=>∃ F ρ,Rl Fb Hb F H ρ σ/\SOk Fb Hb E (Zj t g m ρ),⟨n,F,ρ,rl,k⟩,?_⟩
 rintro m σ H ⟨F,ρ,rl,k⟩
 cases m with
 | zero=>exact k.elim
 | succ m =>
  unfold Zj at k
  cases h:t (visG ρ) with
  | none=>rw[h]at k;exact k.elim
  | some d =>
   rw[h]at k
   refine rc σ _ _ H d _ rl.gh rl.visG h λF' H' gr=>?_
   have rl2:=rl.grow (rl.back gr).1
   cases d with
   | false=>rw[if_neg Bool.false_ne_true];exact k _ H' σ rl2
   | true =>
    rw[if_pos rfl]
    refine⟨fun σ H=>∃ F ρ,Rl Fb Hb F H ρ σ/\SOk Fb Hb E (Zj t g m ρ),fun σ' H' w=>⟨m,Nat.lt_succ_self m,w⟩,?_⟩
    refine ra Fb Hb _ H' ρ σ _ rl2 ?_
    dsimp only at k
    cases hg:g ρ with
    | nx ρ'=>rw[hg]at k;exact λF2 H2 σ2 r2=>⟨F2,ρ',r2,k⟩
    | ct ρ'=>rw[hg]at k;exact λF2 H2 σ2 r2=>⟨F2,ρ',r2,k⟩
    | bk ρ'=>rw[hg]at k;exact k
    | rt d=>rw[hg]at k;exact k
    | no=>rw[hg]at k;exact k.elim
noncomputable def RG (t:TG)(b:D->SE->Option SE):Prop:=∀ (Fb Hb F H:Hp) (ρ ρ':SE) (σ:St) (d:D) (v:V) (Q:St->Hp->Prop),Rl Fb Hb F H ρ σ->At F d v->b d ρ=some ρ'->(∀ σ',Rl Fb Hb F H ρ' σ'->Q σ' H)->t v σ H Q
noncomputable def RGs (t:TGs)(b:List D->SE->Option SE):Prop:=∀ (Fb Hb F H:Hp) (ρ ρ':SE) (σ:St) (ds:List D) (vs:List V) (Q:St->Hp->Prop),Rl Fb Hb F H ρ σ->AtL F ds vs->b ds ρ=some ρ'->(∀ σ',Rl Fb Hb F H ρ' σ'->Q σ' H)->t vs σ H Q
noncomputable def BD (X:Cx)(tg:Expr)(b:D->SE->Option SE):Prop:=∃ t,PG X tg t/\RG t b
noncomputable def BDs (X:Cx)(tgs:List Expr)(b:List D->SE->Option SE):Prop:=∃ t,PGs X tgs t/\RGs t b
noncomputable def zX (i:Nat):D->SE->Option SE:=λd ρ=>some (ρ.set i (.v d))
theorem yk {i:Nat}(h:PG X a (zcS i)):BD X a (zX i):=by
 refine⟨_,h,λFb Hb F H ρ ρ' σ d v Q rl av e q=>?_⟩
 cases e
 exact q _ (rl.set av)
noncomputable def Yo:List D->SE->Option SE
 | [],ρ=>some ρ
 | _,_=>none
noncomputable def yt (b:D->SE->Option SE)(c:List D->SE->Option SE):List D->SE->Option SE
 | d::ds,ρ=>(b d ρ).bind (c ds)
 | [],_=>none
theorem WB:BDs X [] Yo:=by
 refine⟨_,ziV,λFb Hb F H ρ ρ' σ ds vs Q rl av e q=>?_⟩
 cases ds with
 | nil=>cases e;exact⟨av.nil_inv,q _ rl⟩
 | cons _ _=>cases e
theorem xV {es:List Expr}{b:D->SE->Option SE}{c:List D->SE->Option SE}(h1:BD X e b)(h2:BDs X es c)
 (hs:(assignEach (e::es) X.env).map (·.2)=assign e X.env::(assignEach es X.env).map (·.2):=by rfl):BDs X (e::es) (yt b c):=by
 obtain⟨t,p,r⟩:=h1
 obtain⟨u,p2,r2⟩:=h2
 refine⟨_,zgA p p2 hs,λFb Hb F H ρ ρ' σ ds vs Q rl av e q=>?_⟩
 cases ds with
 | nil=>cases e
 | cons d ds =>
  obtain⟨x,xs,rfl,a1,a2⟩:=av.cons_inv
  obtain⟨ρ1,e1,e2⟩:=Option.bind_eq_some_iff.mp e
  exact⟨x,xs,rfl,r Fb Hb F H ρ ρ1 σ d x _ rl a1 e1 fun σ1 rl1=>r2 Fb Hb F H ρ1 ρ' σ1 ds xs Q rl1 a2 e2 q⟩
noncomputable def Yk (n:Nat)(c:List D->SE->Option SE):D->SE->Option SE
 | .tup ds,ρ=>if ds.length=n then c ds ρ else none
 | _,_=>none
theorem zaj {es:List Expr}{k:Nat}{n:Nat}{c:List D->SE->Option SE}(hc:X.calm=true)(h:BDs X es c)
 (hn:(assignEach es X.env).length=n:=by rfl) (hst:(assignEach es X.env).findIdx? (·.1)=none:=by rfl):BD X (.Tuple es k pos) (Yk n c):=by
 obtain⟨t,p,r⟩:=h
 refine⟨_,zjV hc p hn hst,λFb Hb F H ρ ρ' σ d v Q rl av e q=>?_⟩
 cases d with
 | tup ds =>
  unfold Yk at e
  dsimp only at e
  split at e
  .rename_i hl
   obtain⟨a,xs,rfl,hx,al⟩:=av.tup_inv
   exact⟨a,xs,rfl,SqT.of (rl.gr.fh _ _ hx),by rw[al.length];exact hl,r Fb Hb F H ρ ρ' σ ds xs Q rl al e q⟩
  .cases e
 | _=>cases e
noncomputable def Zq (m:Bool)(f:Ev->Option D)(b:D->SE->Option SE):SE->Ctl:=fun ρ=>match (vEv m f ρ).bind λd=>b d ρ with
 | some ρ'=>.nx ρ'
 | none=>.no
noncomputable def vL (m:Bool)(i:Nat)(fk fe:Ev->Option D):SE->Ctl:=fun ρ=>match (vEv m fe ρ).bind λd=>(fk (visG ρ)).bind λk=>match ρ[i]?,k with
 | some (.o ds),.int k=>(ixN ds.length k).map λj=>ρ.set i (.o (ds.set j d))
 | _,_=>none with
 | some ρ'=>.nx ρ'
 | none=>.no
theorem zcw {m:Bool}{i:Nat}{ko:Expr}{fk fe:Ev->Option D}(he:ED X e fe)(ho:PE X a (zhO i))(hk:ED X ko fk)(hs:swapsWithSole [.Subscript a ko pos'] e pos.line X.env=pure false:=by rfl)(hw:swappedStores [.Subscript a ko pos'] e X.env=pure none:=by rfl)
 (h1:(assignEach [.Subscript a ko pos'] X.env).map (·.2)=[assign (.Subscript a ko pos') X.env]:=by rfl)
 (ha:∀ v,assign (.Subscript a ko pos') X.env v=(do
  let ov<-holding [v] (eval a X.env)
  let iv<-holding [v,ov] (eval ko X.env)
  standAt pos'
  holding [v,ov,iv] (setItem ov iv v)
  release [v,ov,iv] []):=by intro _;rfl):SD X (.Assign [.Subscript a ko pos'] e pos) (vL m i fk fe):=by
 obtain⟨t,p,r⟩:=he
 obtain⟨tk,pk,rk⟩:=hk
 refine⟨_,zkl p (zjT ho pk zf7 ha) hs hw h1,λFb Hb F H ρ σ E rl k=>?_⟩
 unfold vL at k
 cases h:(vEv m fe ρ).bind λd=>(fk (visG ρ)).bind λk=>match ρ[i]?,k with
  | some (.o ds),.int k=>(ixN ds.length k).map λj=>ρ.set i (.o (ds.set j d))
  | _,_=>none with
 | none=>rw[h]at k;exact k.elim
 | some ρ' =>
  rw[h]at k
  obtain⟨d,e1,e2⟩:=Option.bind_eq_some_iff.mp h
  obtain⟨kd,e3,e2⟩:=Option.bind_eq_some_iff.mp e2
  cases hs:ρ[i]? with
  | none=>rw[hs]at e2;cases e2
  | some sl =>
   rw[hs]at e2
   cases sl with
   | no=>cases e2
   | v _=>cases e2
   | m _ _ _=>cases e2
   | o ds =>
    cases kd with
    | int kk =>
     obtain⟨j,e4,rfl⟩:=Option.map_eq_some_iff.mp e2
     refine r.at rl e1 λF' H' v g av=>?_
     have rl2:=rl.grow g
     obtain⟨q,xs,f1,_⟩:=rl2.owns i ds hs
     refine⟨_,f1,?_⟩
     refine rk σ _ _ H' _ _ rl2.gh rl2.visG e3 λF3 H3 v3 g3 av3=>?_
     obtain⟨gb,_⟩:=rl2.back g3
     have rl3:=rl2.grow gb
     obtain⟨q3,xs3,f1',_,_,f4,f5⟩:=rl3.owns i ds hs
     rw[f1]at f1'
     cases f1'
     refine⟨q,xs3,kk,j,rfl,av3.int_inv,f4,by rw[f5.length];exact e4,?_⟩
     exact k _ _ σ (rl3.mutate hs f1 (f5.set j (av.mono gb.ff)))
    | _=>cases e2
end
end Dl
namespace L2
open PySem PySem.Spec PyProof.Rows
section
variable {X:Cx}{tg:Expr}
noncomputable def iSeq (K:W.Frag)(tl:TE):TI:=fun σ H R=>tl σ H λx H1=>(∃ a,x=.ref a/\(∃ xs,SqL K H1 a xs)/\R (Itl K a) H1)\/(∃ a,x=.ref a/\(∃ xs,SqT K H1 a xs)/\R (Itt K a) H1)
theorem zkH {l:Expr}{tl:TE}(hl:PE X l tl):PI X tg l (iSeq X.K tl):=by
 intro pins s σ H R I h
 refine thn (hl pins s σ H _ I h) λv s1 hh9=>?_
 obtain⟨x,H1,I1,r1,q1⟩:=hh9
 rcases q1 with ⟨a,e,⟨xs,hq⟩,q⟩ | ⟨a,e,⟨xs,hq⟩,q⟩
 .subst e
  cases r1
  obtain⟨its,rv,p,hz⟩:=I1.list hq
  refine wpAny_pyIter_list p.isList ?_
  refine⟨s1.heap.objs.size,[s1.heap.objs.size],_,_,H1,rfl,I1.kept (t':=s1.toks) λb o e=>Heap.get?_push_of_some _ e,zeP a _,⟨_,Heap.get?_push_size _ rfl,rfl,rfl⟩,λb hb=>?_,q⟩
  have e:b=s1.heap.objs.size:=by simpa using hb
  subst e
  exact I1.fpOk (Nat.le_refl _) (I1.hok.fresh (Nat.le_refl _))
 .subst e
  cases r1
  obtain⟨its,rv,p,hz⟩:=I1.tuple hq
  refine wpAny_pyIter_tuple (show s1.heap.IsTuple a its.toArray from p) ?_
  refine⟨s1.heap.objs.size,[s1.heap.objs.size],_,_,H1,rfl,I1.kept (t':=s1.toks) λb o e=>Heap.get?_push_of_some _ e,zdk a _,⟨_,Heap.get?_push_size _ rfl,rfl,rfl⟩,λb hb=>?_,q⟩
  have e:b=s1.heap.objs.size:=by simpa using hb
  subst e
  exact I1.fpOk (Nat.le_refl _) (I1.hok.fresh (Nat.le_refl _))
end
end L2
namespace Dl
open PySem L2
variable [KK]
noncomputable def zjc (J:It)(F:Hp)(ds:List D):Prop:=∀ (i:Nat) (F2 H2:Hp),yU F F2->yU F2 H2->(i=ds.length->J.stop i H2) /\
 ∀ d,ds[i]?=some d->J.go i H2/\∀ x H3,J.yld i H2 x H3->∃ F3,Gr F2 H2 F3 H3/\At F3 d x
noncomputable def RI (wi:TI)(f:Ev->Option (List D)):Prop :=
 ∀ (σ:St) (ρ:Ev) (F H:Hp) (ds:List D) (R:It->Hp->Prop),yU F H->VAt F ρ σ->f ρ=some ds->(∀ F' H' J,Gr F H F' H'->zjc J F' ds->R J H')->wi σ H R
noncomputable def ID (X:Cx)(tg iter:Expr)(f:Ev->Option (List D)):Prop:=∃ wi,PI X tg iter wi/\RI wi f
noncomputable def yu:D->Option (List D)
 | .lst ds=>some ds
 | .tup ds=>some ds
 | _=>none
section
variable {X:Cx}{tg a b c e:Expr}{pos:Pos}
theorem zjX {K:W.Frag}{F:Hp}{p:Addr}{xs:List V}{ds:List D}(h:F p=some (.lst xs))(al:AtL F ds xs):zjc (Itl K p) F ds:=by
 intro i F2 H2 s1 s2
 have q:SqL K H2 p xs:=SqL.of (s2 _ _ (s1 _ _ h))
 refine⟨λhl=>⟨xs,q,by rw[al.length,hl];exact Nat.le_refl _⟩,λd hd=>?_⟩
 obtain⟨x,hx,ax⟩:=al.get hd
 refine⟨⟨xs,x,q,hx⟩,λy H3 hy=>?_⟩
 obtain⟨rfl,hy⟩:=hy
 have:=hy xs q
 rw[hx]at this
 cases this
 exact⟨F2,.refl s2,ax.mono s1⟩
theorem zjI {K:W.Frag}{F:Hp}{p:Addr}{xs:List V}{ds:List D}(h:F p=some (.tup xs))(al:AtL F ds xs):zjc (Itt K p) F ds:=by
 intro i F2 H2 s1 s2
 have q:SqT K H2 p xs:=SqT.of (s2 _ _ (s1 _ _ h))
 refine⟨λhl=>⟨xs,q,by rw[al.length,hl];exact Nat.le_refl _⟩,λd hd=>?_⟩
 obtain⟨x,hx,ax⟩:=al.get hd
 refine⟨⟨xs,x,q,hx⟩,λy H3 hy=>?_⟩
 obtain⟨rfl,hy⟩:=hy
 have:=hy xs q
 rw[hx]at this
 cases this
 exact⟨F2,.refl s2,ax.mono s1⟩
noncomputable def iOf (f:Ev->Option D):Ev->Option (List D):=fun ρ=>(f ρ).bind yu
theorem wL {f:Ev->Option D}(ha:ED X a f):ID X tg a (iOf f):=by
 obtain⟨t,p,r⟩:=ha
 refine⟨_,zkH p,fun σ ρ F H ds R s va e q=>?_⟩
 obtain⟨d,e1,e2⟩:=Option.bind_eq_some_iff.mp e
 refine r σ ρ F H d _ s va e1 λF1 H1 v g1 a1=>?_
 cases d <;> try cases e2
 .obtain⟨p,xs,rfl,hx,al⟩:=a1.tup_inv
  exact .inr ⟨p,rfl,⟨xs,SqT.of (g1.fh _ _ hx)⟩,q F1 H1 _ g1 (zjI hx al)⟩
 .obtain⟨p,xs,rfl,hx,al⟩:=a1.lst_inv
  exact .inl ⟨p,rfl,⟨xs,SqL.of (g1.fh _ _ hx)⟩,q F1 H1 _ g1 (zjX hx al)⟩
noncomputable def Xq (lo:Int)(n:Nat):List D:=(List.range n).map λk:Nat=>.int (lo+k)
theorem zdE {F:Hp}(lo:Int)(n:Nat):zjc (Itr lo n) F (Xq lo n):=by
 intro i F2 H2 s1 s2
 have hlen:(Xq lo n).length=n:=by unfold Xq;simp
 refine⟨λhl=>by rw[hlen]at hl;rw[hl];exact Nat.le_refl _,λd hd=>?_⟩
 have hi:i < n:=by
  have:=(List.getElem?_eq_some_iff.mp hd).1
  omega
 refine⟨hi,λy H3 hy=>?_⟩
 obtain⟨rfl,rfl⟩:=hy
 refine⟨F2,.refl s2,?_⟩
 unfold Xq at hd
 rw[List.getElem?_map,List.getElem?_range hi]at hd
 cases hd
 exact .int
@[irreducible] noncomputable def zfO (j:Int):Bool:=decide (-(2 ^ 62)<=j/\j < 2 ^ 62)
omit [KK] in
theorem y6 {j:Int}:zfO j=true↔-(2 ^ 62)<=j/\j < 2 ^ 62:=by unfold zfO;exact decide_eq_true_iff
noncomputable def wB:List D->Option (List D)
 | [.int j]=>if zfO j=true then some (Xq 0 j.toNat)else none
 | _=>none
noncomputable def v8:List D->Option (List D)
 | [.int i,.int j]=>if zfO i=true/\zfO j=true then some (Xq i (j - i).toNat)else none
 | _=>none
noncomputable def vX (g:List D->Option (List D))(f:Ev->Option (List D)):Ev->Option (List D):=fun ρ=>(f ρ).bind g
theorem zfe {p:Pos} {f:Ev->Option (List D)} (hg:Gl X "range") (hm:X.mg "range"=none) (ha:AD X [a] f) (hs:starEach [a] X.env=[(false,eval a X.env)]:=by rfl):ID X tg (.Call (.Name "range" p) [a] [] pos) (vX wB f):=by
 obtain⟨t,pa,r⟩:=ha
 refine⟨_,zai hg hm pa hs,fun σ ρ F H ds R s va e q=>?_⟩
 obtain⟨d,e1,e2⟩:=Option.bind_eq_some_iff.mp e
 refine r σ ρ F H d _ s va e1 λF1 H1 v g1 a1=>?_
 unfold wB at e2
 split at e2
 .split at e2
  .cases e2
   rename_i hc
   obtain⟨x,r',rfl,ax,ar⟩:=a1.cons_inv
   cases ar.nil_inv
   exact⟨_,by rw[ax.int_inv],(y6.mp hc).1,(y6.mp hc).2,q F1 H1 _ g1 (zdE 0 _)⟩
  .cases e2
 .cases e2
theorem zfB {p:Pos} {f:Ev->Option (List D)} (hg:Gl X "range") (hm:X.mg "range"=none) (ha:AD X [a,b] f) (hs:starEach [a,b] X.env=[(false,eval a X.env),(false,eval b X.env)]:=by rfl) (hs2:starEach [b] X.env=[(false,eval b X.env)]:=by rfl) :
 ID X tg (.Call (.Name "range" p) [a,b] [] pos) (vX v8 f):=by
 obtain⟨t,pa,r⟩:=ha
 refine⟨_,zdU hg hm pa hs hs2,fun σ ρ F H ds R s va e q=>?_⟩
 obtain⟨d,e1,e2⟩:=Option.bind_eq_some_iff.mp e
 refine r σ ρ F H d _ s va e1 λF1 H1 v g1 a1=>?_
 unfold v8 at e2
 split at e2
 .split at e2
  .cases e2
   rename_i hc
   obtain⟨x,r',rfl,ax,ar⟩:=a1.cons_inv
   obtain⟨y,r',rfl,ay,ar⟩:=ar.cons_inv
   cases ar.nil_inv
   exact⟨_,_,by rw[ax.int_inv,ay.int_inv],⟨(y6.mp hc.1).1,(y6.mp hc.1).2,(y6.mp hc.2).1,(y6.mp hc.2).2⟩,q F1 H1 _ g1 (zdE _ _)⟩
  .cases e2
 .cases e2
noncomputable def Wy (n:Nat):List D->List D
 | []=>[]
 | d::ds=>.tup [.int n,d]::Wy (n+1) ds
omit [KK] in
theorem YO (ds:List D):∀ (n i:Nat),(Wy n ds)[i]?=(ds[i]?).map λd=>.tup [.int ((n+i:Nat):Int),d]:=by
 induction ds with
 | nil=>intro n i;simp[Wy]
 | cons d ds ih =>
  intro n i
  cases i with
  | zero=>simp[Wy]
  | succ i =>
   show(Wy (n+1) ds)[i]?=(ds[i]?).map _
   rw[ih]
   have:n+1+i=n+(i+1):=by omega
   rw[this]
omit [KK] in
theorem vc (ds:List D):∀ n,(Wy n ds).length=ds.length:=by
 induction ds with
 | nil=>intro n;rfl
 | cons d ds ih=>intro n;simp[Wy,ih]
noncomputable def zY (f:Ev->Option (List D)):Ev->Option (List D):=fun ρ=>(f ρ).bind λas=>match as with
 | [d]=>(yu d).map (Wy 0)
 | _=>none
theorem zbP {es:List Expr} {k:Nat} {tp p:Pos} {f:Ev->Option (List D)} (hg:Gl X "enumerate") (hm:X.mg "enumerate"=none) (hb:bootBuiltins "enumerate"=some (.type "enumerate")) (ha:AD X [a] f)
 (hs:starEach [a] X.env=[(false,eval a X.env)]:=by rfl):ID X (.Tuple es k tp) (.Call (.Name "enumerate" p) [a] [] pos) (zY f):=by
 obtain⟨t,pa,r⟩:=ha
 refine⟨_,zi0 hg hm hb pa hs,fun σ ρ F H ds R s va e q=>?_⟩
 obtain⟨as,e1,e2⟩:=Option.bind_eq_some_iff.mp e
 refine r σ ρ F H as _ s va e1 λF1 H1 v g1 a1=>?_
 split at e2
 .obtain⟨x,r',rfl,ax,ar⟩:=a1.cons_inv
  cases ar.nil_inv
  obtain⟨es,e3,rfl⟩:=Option.map_eq_some_iff.mp e2
  rename_i d
  cases d <;> try cases e3
  .obtain⟨p,xs,rfl,hx,al⟩:=ax.tup_inv
   refine⟨p,rfl,.inr ⟨xs,SqT.of (g1.fh _ _ hx),q F1 H1 _ g1 λi F2 H2 s1 s2=>?_⟩⟩
   have qq:SqT X.K H2 p xs:=SqT.of (s2 _ _ (s1 _ _ hx))
   refine⟨λhl=>⟨xs,qq,by rw[al.length,hl,vc];exact Nat.le_refl _⟩,λd hd=>?_⟩
   rw[YO]at hd
   obtain⟨d',hd',rfl⟩:=Option.map_eq_some_iff.mp hd
   obtain⟨x,hxi,ax⟩:=al.get hd'
   refine⟨⟨xs,x,qq,hxi⟩,λy H3 hy=>?_⟩
   obtain⟨T,y,rfl,hT,rfl,hy⟩:=hy
   have:=hy xs qq
   rw[hxi]at this
   cases this
   have g3:=Gr.alloc s2 hT (.tup [.int i,x])
   exact⟨_,g3,.tup zo (.cons (by rw[Nat.zero_add];exact .int) (.cons (ax.mono (s1.trans g3.ff)) .nil))⟩
  .obtain⟨p,xs,rfl,hx,al⟩:=ax.lst_inv
   refine⟨p,rfl,.inl ⟨xs,g1.fh _ _ hx,q F1 H1 _ g1 λi F2 H2 s1 s2=>?_⟩⟩
   have qq:SqL X.K H2 p xs:=SqL.of (s2 _ _ (s1 _ _ hx))
   refine⟨λhl=>⟨xs,qq,by rw[al.length,hl,vc];exact Nat.le_refl _⟩,λd hd=>?_⟩
   rw[YO]at hd
   obtain⟨d',hd',rfl⟩:=Option.map_eq_some_iff.mp hd
   obtain⟨x,hxi,ax⟩:=al.get hd'
   refine⟨⟨xs,x,qq,hxi⟩,λy H3 hy=>?_⟩
   obtain⟨T,y,rfl,hT,rfl,hy⟩:=hy
   have:=hy xs qq
   rw[hxi]at this
   cases this
   have g3:=Gr.alloc s2 hT (.tup [.int i,x])
   exact⟨_,g3,.tup zo (.cons (by rw[Nat.zero_add];exact .int) (.cons (ax.mono (s1.trans g3.ff)) .nil))⟩
 .cases e2
noncomputable def hb2 (F1 Hb:Hp):Hp:=λp=>match F1 p with
 | some o=>some o
 | none=>Hb p
theorem XL {F1 Hb:Hp}{p:Addr}(h:F1 p=none):hb2 F1 Hb p=Hb p:=by unfold hb2;rw[h]
theorem zfX {F1 Hb:Hp}{p:Addr}{o:HO}(h:F1 p=some o):hb2 F1 Hb p=some o:=by unfold hb2;rw[h]
theorem Gr.up {Fb Hb F1 H1 F H:Hp}(g1:Gr Fb Hb F1 H1)(g:Gr F1 (hb2 F1 Hb) F H):Gr Fb Hb F H:=by
 refine⟨g1.ff.trans g.ff,g.fh,λp o e1 e2=>?_⟩
 rcases(g1.kp p o e1 e2).1 with n | ⟨n1,n2⟩
 .exact g.kp p o n (by rw[XL n];exact e2)
 .exact⟨.inr ⟨n1,g.ff _ _ n2⟩,g.fh _ _ (g.ff _ _ n2)⟩
theorem Gr.dn {Fb Hb F1 F H:Hp}(g:Gr Fb Hb F H)(s1:yU Fb F1)(s:yU F1 F):Gr F1 (hb2 F1 Hb) F H:=by
 refine⟨s,g.fh,λp o e1 e2=>?_⟩
 rw[XL e1]at e2
 exact g.kp p o (s1.free e1) e2
theorem Rl.up {Fb Hb F1 H1 F H:Hp}{ρ:SE}{σ:St}(g1:Gr Fb Hb F1 H1)(r:Rl F1 (hb2 F1 Hb) F H ρ σ):Rl Fb Hb F H ρ σ:=by
 refine⟨g1.up r.gr,r.vals,λi s e ho=>?_,r.dis,r.len⟩
 obtain⟨p,o,e1,e2,e3⟩:=r.ows i s e ho
 refine⟨p,o,e1,?_,e3⟩
 cases h:F1 p with
 | none=>rw[XL h]at e2;exact e2
 | some o=>rw[zfX h]at e2;cases e2
theorem Rl.dn {Fb Hb F1 F H:Hp}{ρ:SE}{σ:St}(r:Rl Fb Hb F H ρ σ)(s1:yU Fb F1)(s:yU F1 F):Rl F1 (hb2 F1 Hb) F H ρ σ:=by
 refine⟨r.gr.dn s1 s,r.vals,λi t e ho=>?_,r.dis,r.len⟩
 obtain⟨p,o,e1,e2,e3,e4⟩:=r.ows i t e ho
 refine⟨p,o,e1,?_,e3,e4⟩
 rw[XL (s.free e3)]
 exact e2
noncomputable def zeX (b:D->SE->Option SE)(g:SE->Ctl):List D->SE->Ctl
 | [],ρ=>.nx ρ
 | d::ds,ρ=>match b d ρ with
  | none=>.no
  | some ρ1=>match g ρ1 with
   | .nx ρ'=>zeX b g ds ρ'
   | .ct ρ'=>zeX b g ds ρ'
   | .bk ρ'=>.nx ρ'
   | .rt d=>.rt d
   | .no=>.no
noncomputable def wG (f:Ev->Option (List D))(b:D->SE->Option SE)(g:SE->Ctl):SE->Ctl:=fun ρ=>match f (visF ρ) with
 | some ds=>zeX b g ds ρ
 | none=>.no
theorem zhn {Fb Hb F1 H1:Hp}{ρ:SE}{σ:St}{E:zf6}{J:It}{g:TG}{tb:TS}{ds:List D}{b:D->SE->Option SE}{gb:SE->Ctl}(hit:zjc J F1 ds)(rg:RG g b)(rb:RS tb gb)(rl0:Rl Fb Hb F1 H1 ρ σ)(k:SOk Fb Hb E (zeX b gb ds ρ)) :
 ∃ W:Nat->Nat->St->Hp->Prop,(∃ m,W 0 m σ H1)/\∀ i m σ H,W i m σ H ->
  (J.stop i H/\E.nx σ H)\/(J.go i H/\∃ N:St->Hp->Prop,(∀ σ' H',N σ' H'->∃ m',m' < m/\W (i+1) m' σ' H')/\∀ x H',J.yld i H x H'->g x σ H' fun σ2 H2=>tb { E with nx:=N,ct:=N,bk:=E.nx } σ2 H2):=by
 refine⟨λi m σ H=>m=ds.length - i/\i<=ds.length/\∃ F ρ,yU F1 F/\Rl Fb Hb F H ρ σ/\SOk Fb Hb E (zeX b gb (ds.drop i) ρ),⟨ds.length,by simp,Nat.zero_le _,F1,ρ,yU.refl _,rl0,k⟩,?_⟩
 rintro i m σ H ⟨rfl,hi,F,ρ,s1,rl,k⟩
 obtain⟨stop,go⟩:=hit i F H s1 rl.gr.fh
 by_cases hlt:i < ds.length
 .have hd:ds.drop i=ds[i]::ds.drop (i+1):=List.drop_eq_getElem_cons hlt
  rw[hd]at k
  unfold zeX at k
  obtain⟨g1,g2⟩:=go ds[i] (by simp[hlt])
  refine .inr ⟨g1,fun σ H=>∃ F ρ,yU F1 F/\Rl Fb Hb F H ρ σ/\SOk Fb Hb E (zeX b gb (ds.drop (i+1)) ρ),fun σ' H' w=>⟨ds.length - (i+1),by omega,rfl,hlt,w⟩,λx H' hy=>?_⟩
  obtain⟨F3,g3,a3⟩:=g2 x H' hy
  cases hb:b ds[i] ρ with
  | none=>rw[hb]at k;exact k.elim
  | some ρ1 =>
   rw[hb]at k
   dsimp only at k
   refine rg Fb Hb F3 H' ρ ρ1 σ _ x _ (rl.grow g3) a3 hb fun σ2 rl2=>?_
   have s3:=s1.trans g3.ff
   refine rb F1 (hb2 F1 Hb) F3 H' ρ1 σ2 _ (rl2.dn rl0.gr.ff s3) ?_
   cases hg:gb ρ1 with
   | nx ρ'=>rw[hg]at k;exact λF4 H4 σ4 r4=>⟨F4,ρ',r4.gr.ff,r4.up rl0.gr,k⟩
   | ct ρ'=>rw[hg]at k;exact λF4 H4 σ4 r4=>⟨F4,ρ',r4.gr.ff,r4.up rl0.gr,k⟩
   | bk ρ'=>rw[hg]at k;exact λF4 H4 σ4 r4=>k F4 H4 σ4 (r4.up rl0.gr)
   | rt d=>rw[hg]at k;exact λF4 H4 v g4 a4=>k F4 H4 v (rl0.gr.up g4) a4
   | no=>rw[hg]at k;exact k.elim
 .have e:i=ds.length:=by omega
  subst e
  rw[List.drop_length]at k
  exact .inl ⟨stop rfl,k F H σ rl⟩
theorem vG {iter:Expr}{body:List Stmt}{f:Ev->Option (List D)}{b:D->SE->Option SE}{g:SE->Ctl}(hp:PassesOwn (model X.prog X.w) X.A X.env X.xe)(hc:X.calm=true)(hi:ID X tg iter f)(hg:BD X tg b)(hb:SDs X body g)
 (hs:∀ x,foldedSetIterable iter X.env x=pure x:=by intro _;rfl):SD X (.For tg iter body [] pos) (wG f b g):=by
 obtain⟨wi,pi,ri⟩:=hi
 obtain⟨tg',pg,rg⟩:=hg
 obtain⟨tb,pb,rb⟩:=hb
 refine⟨_,zhT hp hc pi pg pb hs,λFb Hb F H ρ σ E rl k=>?_⟩
 unfold wG at k
 cases h:f (visF ρ) with
 | none=>rw[h]at k;exact k.elim
 | some ds =>
  rw[h]at k
  exact ri σ _ _ H ds _ rl.gr.fh rl.visF h λF1 H1 J g1 ok=>zhn ok rg rb (rl.grow g1) k
end
noncomputable def lcD (b:D->Option (List (Option D)))(t:Ev->Option Bool)(f:Ev->Option D)(ρ:Ev):List D->Option (List D)
 | []=>some []
 | d::ds=>(b d).bind λown=>(t (own++ρ)).bind λc=>if c=true then (f (own++ρ)).bind λy=>(lcD b t f ρ ds).map (y::·)else lcD b t f ρ ds
noncomputable def fLC (i:Ev->Option (List D))(b:D->Option (List (Option D)))(t:Ev->Option Bool)(f:Ev->Option D):Ev->Option (List D):=fun ρ=>(i ρ).bind λds=>if lim ds.length=true then lcD b t f ρ ds else none
noncomputable def b1:D->Option (List (Option D)):=λd=>some [some d]
noncomputable def b2:D->Option (List (Option D))
 | .tup [x,y]=>some [some x,some y]
 | _=>none
noncomputable def RB (n:Nat)(t:TG)(b:D->Option (List (Option D))):Prop:=∀ (σ:St) (ρ:Ev) (F H:Hp) (d:D) (v:V) (own:List (Option D)) (Q:St->Hp->Prop),yU F H->VAt F ρ σ->At F d v->b d=some own->(∀ σ',VAt F (own++ρ) σ'->Q σ' H)->t v (List.replicate n none++σ) H Q
noncomputable def yg:Ev->Option Bool:=λ_=>some true
theorem zk9:RT tYes yg:=λ_ _ _ _ _ _ s _ e q=>by cases e;exact q _ _ (.refl s)
theorem zke {wi:TI}{n:Nat}{g:TG}{tt:TT}{te:TE}{fi:Ev->Option (List D)}{b:D->Option (List (Option D))}{ft:Ev->Option Bool}{fe:Ev->Option D}(ri:RI wi fi)(rg:RB n g b)(rt:RT tt ft)(re:RE te fe) :
 RF (tLC wi n g tt te) (fLC fi b ft fe):=by
 intro σ ρ F H out Q s va e q
 obtain⟨ds,e1,e2⟩:=Option.bind_eq_some_iff.mp e
 split at e2 <;> try cases e2
 rename_i hlim
 have hlim:ds.length<=sizeLine:=of_decide_eq_true hlim
 refine ri σ ρ F H ds _ s va e1 λF1 H1 J g1 ok=>?_
 intro P hP
 have hF1:F1 P=none:=g1.fh.free hP
 have hH0:H P=none:=by
  cases e:H P with
  | none=>rfl
  | some o =>
   cases e2:F P with
   | none=>rw[(g1.kp P o e2 e).2]at hP;cases hP
   | some u=>rw[g1.fh _ _ (g1.ff _ _ e2)]at hP;cases hP
 refine⟨λi m ys H2=>m=ds.length - i/\i<=ds.length/\∃ F2 done,Gr F1 H1 F2 H2/\Gr F1 (upd H1 P (.lst [])) F2 (upd H2 P (.lst []))/\F2 P=none/\H2 P=some (.lst ys)/\AtL F2 done ys/\done.length<=i/\∃ more,lcD b ft fe ρ (ds.drop i)=some more/\done++more=out,⟨ds.length,by simp,Nat.zero_le _,F1,[],Gr.hide g1.fh hP _,?_,hF1,zo,.nil,Nat.zero_le _,out,e2,rfl⟩,?_⟩
 .rw[Wq]
  exact .refl λb u z=>by rw[zq (zn z hF1)];exact g1.fh b u z
 rintro i m ys H2 ⟨rfl,hi,F2,done,g2,g2',hF2,hH2,al,hdl,more,hm,hout⟩
 obtain⟨stop,go⟩:=ok i F2 H2 g2.ff g2.fh
 by_cases hlt:i < ds.length
 .have hd:ds.drop i=ds[i]::ds.drop (i+1):=List.drop_eq_getElem_cons hlt
  rw[hd]at hm
  unfold lcD at hm
  obtain⟨own,hb,hm⟩:=Option.bind_eq_some_iff.mp hm
  obtain⟨cb,hc,hm⟩:=Option.bind_eq_some_iff.mp hm
  obtain⟨k1,k2⟩:=go ds[i] (by simp[hlt])
  refine .inr ⟨k1,by rw[al.length];omega,λx H3 hy=>?_⟩
  obtain⟨F3,g3,a3⟩:=k2 x H3 hy
  refine rg σ ρ F3 H3 ds[i] x own _ g3.fh (va.mono (g1.ff.trans (g2.ff.trans g3.ff))) a3 hb fun σ4 va4=>?_
  refine rt σ4 _ F3 H3 cb _ g3.fh va4 hc λF5 H5 g5=>?_
  have g35:=g3.trans g5
  obtain⟨n5,h5⟩:=g35.kl (λ_ e=>by cases e) hF2 hH2
  have keep2:∀ {F6 H6:Hp} {o:HO},Gr F2 H2 F6 H6->F6 P=none->Gr F1 (upd H1 P (.lst [])) F6 (upd (upd H6 P o) P (.lst [])):=λ{F6 H6 o} g6 n6=>by
   rw[Wq]
   refine⟨g2.ff.trans g6.ff,λb u z=>?_,λb u z1 z2=>?_⟩
   .rw[zq (zn z n6)];exact g6.fh b u z
   .by_cases hbP:b=P
    .subst hbP
     rw[zo]at z2 ⊢
     exact⟨.inl n6,z2⟩
    .rw[zq hbP]at z2 ⊢
     exact(g2.trans g6).kp b u z1 z2
  have keep1:∀ {F6 H6:Hp} {o:HO},Gr F2 H2 F6 H6->F6 P=none->Gr F1 H1 F6 (upd H6 P o):=λ{F6 H6 o} g6 n6=>by
   refine⟨g2.ff.trans g6.ff,λb u z=>?_,λb u z1 z2=>?_⟩
   .rw[zq (zn z n6)];exact g6.fh b u z
   .rw[zq (zn z2 hP)]
    exact(g2.trans g6).kp b u z1 z2
  cases cb with
  | false =>
   rw[if_neg Bool.false_ne_true]at hm ⊢
   have ups:H5=upd H5 P (.lst ys):=by
    funext b
    by_cases hbP:b=P
    .subst hbP;rw[zo];exact h5
    .rw[zq hbP]
   refine⟨ds.length - (i+1),by omega,rfl,hlt,F5,done,?_,?_,n5,h5,al.mono g35.ff,by omega,more,hm,hout⟩
   .rw[ups];exact keep1 g35 n5
   .have:=keep2 (o:=.lst ys) g35 n5
    rw[<-ups]at this
    exact this
  | true =>
   rw[if_pos rfl]at hm ⊢
   obtain⟨y,hy,hm⟩:=Option.bind_eq_some_iff.mp hm
   obtain⟨rest,hm',rfl⟩:=Option.map_eq_some_iff.mp hm
   refine re σ4 _ F5 H5 y _ g5.fh (va4.mono g5.ff) hy λF6 H6 v g6 a6=>?_
   have g36:=g35.trans g6
   obtain⟨n6,h6⟩:=g36.kl (λ_ e=>by cases e) hF2 hH2
   refine⟨h6,ds.length - (i+1),by omega,rfl,hlt,F6,done++[y],keep1 g36 n6,keep2 g36 n6,n6,zo,(al.mono g36.ff).snoc a6,by rw[List.length_append];simp;omega,rest,hm',by rw[<-hout,List.append_assoc];rfl⟩
 .have e:i=ds.length:=by omega
  subst e
  rw[List.drop_length]at hm
  cases hm
  rw[List.append_nil]at hout
  subst hout
  exact .inl ⟨stop rfl,q F2 H2 P ys (g1.trans g2) hH0 hF2 hH2 al⟩
theorem rb1:RB 1 (zcS 0) b1:=by
 intro σ ρ F H d v own Q s va av e q
 cases e
 refine q _ λi d' h=>?_
 cases i with
 | zero=>cases h;exact⟨v,rfl,av⟩
 | succ i=>exact va i d' h
noncomputable def tCan (f:Ev->Option D):TE:=fun σ H Q=>∃ ρ F d,yU F H/\VAt F ρ σ/\f ρ=some d/\∀ F' H' v,Gr F H F' H'->At F' d v->Q v H'
noncomputable def zk4 (f:Ev->Option Bool):TT:=fun σ H Q=>∃ ρ F d,yU F H/\VAt F ρ σ/\f ρ=some d/\∀ F' H',Gr F H F' H'->Q d H'
theorem ED.can {X:Cx}{e:Expr}{f:Ev->Option D}(h:ED X e f):PE X e (tCan f):=by
 obtain⟨t,p,r⟩:=h
 rintro pins s σ H Q I ⟨ρ,F,d,h1,h2,h3,h4⟩
 exact p pins s σ H Q I (r σ ρ F H d Q h1 h2 h3 h4)
theorem TD.can {X:Cx}{e:Expr}{f:Ev->Option Bool}(h:TD X e f):PT X e (zk4 f):=by
 obtain⟨t,p,r⟩:=h
 rintro pins s σ H Q I ⟨ρ,F,d,h1,h2,h3,h4⟩
 exact p pins s σ H Q I (r σ ρ F H d Q h1 h2 h3 h4)
theorem zhP {f:Ev->Option D}:RE (tCan f) f:=λ_ ρ F _ d _ h1 h2 h3 h4=>⟨ρ,F,d,h1,h2,h3,h4⟩
theorem zky {f:Ev->Option Bool}:RT (zk4 f) f:=λ_ ρ F _ d _ h1 h2 h3 h4=>⟨ρ,F,d,h1,h2,h3,h4⟩
theorem zaA {X:Cx}{elt tg iter:Expr}{L M:List Str}{scope:Scope}{cl:List (Str × Addr)}{pos:Pos}{fi:Ev->Option (List D)}{b:D->Option (List (Option D))}{fe:Ev->Option D}{g:TG}
 (hc:X.calm=true) (S:vF X L M scope cl) (hi:ID X tg iter fi)
 (hgS:∀ (σ:St) (v:V) (H:Hp) (Q:St->Hp->Prop),g v (List.replicate L.length none++σ) H Q->g v (List.replicate L.length none++σ) H (fun σ2 H2=>XO (List.replicate L.length none++σ) σ2/\Q σ2 H2))
 (hrb:RB L.length g b)
 (hg:∀ s₀ H₀ ex pn,PG (zdz X L M scope cl s₀ H₀ ex pn) tg g) (he:∀ s₀ H₀ ex pn,ED (zdz X L M scope cl s₀ H₀ ex pn) elt fe)
 (hs:∀ x,foldedSetIterable iter X.env x=pure x:=by intro _;rfl):FL X (.ListComp elt [⟨tg,iter,[],0⟩] scope pos) (fLC fi b yg fe):=by
 obtain⟨wi,pi,ri⟩:=hi
 exact⟨_,zhs hc S pi hgS hg (λ_ _ _ _=>ziT) (λ_ _ _ _=>(he _ _ _ _).can) hs,zke ri hrb zk9 zhP⟩
theorem zcE {X:Cx}{elt tg iter c:Expr}{L M:List Str}{scope:Scope}{cl:List (Str × Addr)}{pos:Pos}{fi:Ev->Option (List D)}{b:D->Option (List (Option D))}{ft:Ev->Option Bool}{fe:Ev->Option D}{g:TG}
 (hc:X.calm=true) (S:vF X L M scope cl) (hi:ID X tg iter fi)
 (hgS:∀ (σ:St) (v:V) (H:Hp) (Q:St->Hp->Prop),g v (List.replicate L.length none++σ) H Q->g v (List.replicate L.length none++σ) H (fun σ2 H2=>XO (List.replicate L.length none++σ) σ2/\Q σ2 H2))
 (hrb:RB L.length g b)
 (hg:∀ s₀ H₀ ex pn,PG (zdz X L M scope cl s₀ H₀ ex pn) tg g) (ht:∀ s₀ H₀ ex pn,TD (zdz X L M scope cl s₀ H₀ ex pn) c ft) (he:∀ s₀ H₀ ex pn,ED (zdz X L M scope cl s₀ H₀ ex pn) elt fe)
 (hs:∀ x,foldedSetIterable iter X.env x=pure x:=by intro _;rfl):FL X (.ListComp elt [⟨tg,iter,[c],0⟩] scope pos) (fLC fi b ft fe):=by
 obtain⟨wi,pi,ri⟩:=hi
 exact⟨_,zhs hc S pi hgS hg (λ_ _ _ _=>zib (ht _ _ _ _).can) (λ_ _ _ _=>(he _ _ _ _).can) hs,zke ri hrb zky zhP⟩
noncomputable def fnD (n:Nat)(g:SE->Ctl)(ds:List D):Option D:=match g (ds.map .v++List.replicate (n - ds.length) .no) with
 | .rt d=>some d
 | .nx _=>some .non
 | _=>none
noncomputable def spD (m:Nat)(p:List D->Option D):Sp:=λvs H Q _=>∃ ds d F,ds.length=m/\yU F H/\AtL F ds vs/\p ds=some d/\∀ F' H' v,Gr F H F' H'->At F' d v->Q v H'
theorem zgD {F H:Hp}{N:List Str}{ds:List D}{vs:List V}(s:yU F H)(a:AtL F ds vs):Rl F H F H (ds.map .v++List.replicate (N.length - ds.length) .no) (L2.start N vs):=by
 have hl:=a.length
 have noO:∀ (i:Nat) (t:Sl),(ds.map Sl.v++List.replicate (N.length - ds.length) Sl.no)[i]?=some t->t.isO=true->False:=λi t h ho=>by
  by_cases hi:i < ds.length
  .rw[List.getElem?_append_left (by simpa using hi),List.getElem?_map]at h
   cases e:ds[i]? with
   | none=>rw[e]at h;cases h
   | some d=>rw[e]at h;cases h;cases ho
  .rw[List.getElem?_append_right (by simpa using hi),List.getElem?_replicate]at h
   split at h <;> cases h
   cases ho
 refine⟨.refl s,λi d h=>?_,λi t h ho=>(noO i t h ho).elim,λi j p t u h _ ho=>(noO i t h ho).elim,?_⟩
 .by_cases hi:i < ds.length
  .rw[List.getElem?_append_left (by simpa using hi),List.getElem?_map]at h
   cases e:ds[i]? with
   | none=>rw[e]at h;cases h
   | some d' =>
    rw[e]at h
    cases h
    obtain⟨x,hx,ax⟩:=a.get e
    refine⟨x,?_,ax⟩
    unfold L2.start
    rw[List.getElem?_append_left (by simpa [hl]using hi),List.getElem?_map,hx]
    rfl
  .rw[List.getElem?_append_right (by simpa using hi),List.getElem?_replicate]at h
   split at h <;> cases h
 .unfold L2.start
  simp[hl]
theorem xa {P:Program}{w:World}{K:W.Frag}{mg:Str->Option Value}{base:Heap}{x qual:Str}{st:Stmt}{f:Addr}{fd:FuncData}{N ps:List Str}{k:Nat}{g:SE->Ctl}(Fu:Fun K x qual st f fd)(S:zB N ps (zm st))
 (hb:∀ (cdv:Value) (A:Around) (outer:List Env) (s:Shared) (H:Hp) (E:XK),YK k (A.deeper (PyProof.Rows.envOfC qual (zm st) s.heap.objs.size f cdv))->SDs (zhS CX0 P w K mg base N qual (zm st) f cdv A outer s H E).nox (vo st) g) :
 xK P w K mg base CX0 (k+1) f fd ps (spD ps.length (fnD N.length g)):=by
 refine Fu.ok S (λvs H Q E h=>?_) λcdv A outer s H vs Q E hr h=>?_
 .obtain⟨ds,d,F,hl,_,a,_⟩:=h
  rw[a.length];exact hl
 .obtain⟨ds,d,F,hl,sm,a,e,q⟩:=h
  obtain⟨t,p,r⟩:=hb cdv A outer s H E hr
  refine⟨t,p,r F H F H _ _ _ (zgD sm a) ?_⟩
  unfold fnD at e
  cases hg:g (ds.map .v++List.replicate (N.length - ds.length) .no) with
  | rt d'=>rw[hg]at e;cases e;exact λF' H' v g av=>q F' H' v g av
  | nx ρ=>rw[hg]at e;cases e;exact λF' H' σ rl=>q F' H' _ rl.gr .non
  | bk ρ=>rw[hg]at e;cases e
  | ct ρ=>rw[hg]at e;cases e
  | no=>rw[hg]at e;cases e
theorem x6 {P:Program}{w:World}{K:W.Frag}{mg:Str->Option Value}{base:Heap}{f:Addr}{fd:FuncData}{ps:List Str}{k m:Nat}{p q:List D->Option D}(F:xK P w K mg base CX0 k f fd ps (spD m p))(h:∀ ds d,ds.length=m->q ds=some d->p ds=some d):xK P w K mg base CX0 k f fd ps (spD m q) :=
 F.imp λvs H Q E ⟨ds,d,F',h1,h2,h3,h4,h5⟩=>⟨ds,d,F',h1,h2,h3,h ds d h1 h4,h5⟩
noncomputable def zp (m:Nat)(p:List D->Option D)(f:Ev->Option (List D)):Ev->Option D:=fun ρ=>(f ρ).bind λds=>if ds.length=m then p ds else none
theorem zd9 {X:Cx}{x:Str}{k m:Nat}{f:Addr}{fd:FuncData}{ps:List Str}{p:List D->Option D}{e:Expr}{es:List Expr}{pp pos:Pos}{fa:Ev->Option (List D)}(F:xK X.prog X.w X.K X.mg X.base CX0 k f fd ps (spD m p))(hr:YK k X.A)(hg:Gl X x)(hm:X.mg x=some (.ref f))(hk:W.keepIn X.K (.ref f)=true)(hb:zbs X.K fd ps [])
 (ha:AD X (e::es) fa) (hdb:(x == ("__debug__":Str))=false:=by decide) (he:starEach (e::es) X.env=(false,eval e X.env)::starEach es X.env:=by rfl) (hpl:(backTo pos (starEach es X.env)).any (·.1)=false:=by rfl) :
 ED X (.Call (.Name x pp) (e::es) [] pos) (zp m p fa):=by
 obtain⟨t,pa,r⟩:=ha
 refine⟨_,ziS F hr hg hm hk hb .nil zl1 pa hdb he hpl,fun σ ρ F0 H d Q s va e q=>?_⟩
 obtain⟨ds,e1,e2⟩:=Option.bind_eq_some_iff.mp e
 split at e2 <;> try cases e2
 rename_i hl
 refine r σ ρ F0 H ds _ s va e1 λF1 H1 vs g1 a1=>?_
 refine⟨ds,d,F1,hl,g1.fh,by rw[List.append_nil];exact a1,e2,λF' H' v g av=>q F' H' v (g1.trans g) av⟩
end Dl
namespace Dl
open PySem L2
variable [KK]
section
variable {X:Cx}{a b c e:Expr}{pos:Pos}
theorem Vn:bootBuiltins "isinstance"=some (.builtin "isinstance"):=by decide +kernel
theorem Xy:bootBuiltins "len"=some (.builtin "len"):=by decide +kernel
theorem zfH:bootBuiltins "min"=some (.builtin "min"):=by decide +kernel
theorem zkO:bootBuiltins "max"=some (.builtin "max"):=by decide +kernel
theorem zbf:bootBuiltins "sorted"=some (.builtin "sorted"):=by decide +kernel
theorem zhq:bootBuiltins "sum"=some (.builtin "sum"):=by decide +kernel
theorem zhL:bootBuiltins "all"=some (.builtin "all"):=by decide +kernel
theorem zcG:bootBuiltins "int"=some (.type "int"):=by decide +kernel
theorem Wx:bootBuiltins "bool"=some (.type "bool"):=by decide +kernel
theorem xh:bootBuiltins "tuple"=some (.type "tuple"):=by decide +kernel
theorem Xo:bootBuiltins "list"=some (.type "list"):=by decide +kernel
theorem zhA:bootBuiltins "str"=some (.type "str"):=by decide +kernel
theorem YR:bootBuiltins "enumerate"=some (.type "enumerate"):=by decide +kernel
theorem zby:bootBuiltins "reversed"=some (.type "reversed"):=by decide +kernel
theorem zkL:bootBuiltins "zip"=some (.type "zip"):=by decide +kernel
noncomputable def Yq (C:Int->Int->Bool)(g:Int->Int->Int):D->D->Option D
 | .int i,.int j=>if C i j=true then some (.int (g i j))else none
 | _,_=>none
noncomputable def yT (g:Int->Int->Int):D->D->Option D
 | .int i,.int j=>some (.int (g i j))
 | _,_=>none
noncomputable def Yt (g:Int->Int->Bool):D->D->Option D
 | .int i,.int j=>some (.bl (g i j))
 | _,_=>none
theorem XT {C:Int->Int->Prop}{Cb:Int->Int->Bool}{g:Int->Int->Int}(h:∀ i j,Cb i j=true->C i j):OpD (rI C λi j=>.int (g i j)) (Yq Cb g):=by
 intro F H x y d e z Q s ax ay ez q
 cases d <;> try cases ez
 cases e <;> try cases ez
 unfold Yq at ez
 dsimp only at ez
 split at ez <;> cases ez
 rename_i hc
 exact⟨_,_,ax.int_inv,ay.int_inv,h _ _ hc,q F H _ (.refl s) .int⟩
theorem zay {g:Int->Int->Int}:OpD (rI0 λi j=>.int (g i j)) (yT g):=by
 intro F H x y d e z Q s ax ay ez q
 cases d <;> try cases ez
 cases e <;> try cases ez
 exact⟨_,_,ax.int_inv,ay.int_inv,q F H _ (.refl s) .int⟩
theorem yF {g:Int->Int->Bool}:OpD (rI0 λi j=>.bl (g i j)) (Yt g):=by
 intro F H x y d e z Q s ax ay ez q
 cases d <;> try cases ez
 cases e <;> try cases ez
 exact⟨_,_,ax.int_inv,ay.int_inv,q F H _ (.refl s) .bl⟩
theorem zaM {r r':R2}{g g':D->D->Option D}(h:OpD r g)(h':OpD r' g'):OpD (λx y H Q=>r x y H Q\/r' x y H Q) (λd e=>(g d e).or (g' d e)):=by
 intro F H x y d e z Q s ax ay ez q
 dsimp only at ez
 cases hg:g d e with
 | some z'=>rw[hg]at ez;cases ez;exact .inl (h F H x y d e z Q s ax ay hg q)
 | none=>rw[hg]at ez;exact .inr (h' F H x y d e z Q s ax ay ez q)
noncomputable def zk6:D->D->Option D
 | .tup a,.tup b=>if lim (a.length+b.length)=true then some (.tup (a++b))else none
 | _,_=>none
noncomputable def zjC:D->D->Option (List D)
 | .lst a,.lst b=>if lim (a.length+b.length)=true then some (a++b)else none
 | _,_=>none
noncomputable def zfm (d e:D):Option D:=(zjC d e).map .lst
noncomputable def zk8:D->D->Option D
 | .str a,.str b=>if lim (a.length+b.length)=true then some (.str (a++b))else none
 | _,_=>none
theorem zgP {K:W.Frag}:OpD (zhD K) zk6:=by
 intro F H x y d e z Q s ax ay ez q
 cases d <;> try cases ez
 cases e <;> try cases ez
 unfold zk6 at ez
 dsimp only at ez
 split at ez <;> cases ez
 rename_i hl
 obtain⟨p,xs,rfl,hx,al⟩:=ax.tup_inv
 obtain⟨p2,ys,rfl,hy,bl⟩:=ay.tup_inv
 refine⟨p,p2,xs,ys,rfl,rfl,SqT.of (s _ _ hx),SqT.of (s _ _ hy),by rw[al.length,bl.length];exact of_decide_eq_true hl,λe1=>?_,λ_ e2=>?_,λ_ _ r hr=>?_⟩
 .subst e1
  have:(_:List D)=[]:=List.length_eq_zero_iff.mp al.length.symm
  subst this
  exact q F H _ (.refl s) (.tup hy bl)
 .subst e2
  have:(_:List D)=[]:=List.length_eq_zero_iff.mp bl.length.symm
  subst this
  rw[List.append_nil]at q
  exact q F H _ (.refl s) (.tup hx al)
 .have g:=Gr.alloc s hr (.tup (xs++ys))
  exact q _ _ _ g (.tup zo ((al.append bl).mono g.ff))
theorem zgV:OpD rCat zfm:=by
 intro F H x y d e z Q s ax ay ez q
 cases d <;> try cases ez
 cases e <;> try cases ez
 unfold zfm zjC at ez
 dsimp only at ez
 split at ez <;> cases ez
 rename_i hl
 obtain⟨p,xs,rfl,hx,al⟩:=ax.lst_inv
 obtain⟨p2,ys,rfl,hy,bl⟩:=ay.lst_inv
 refine⟨p,p2,xs,ys,rfl,rfl,s _ _ hx,s _ _ hy,by rw[al.length,bl.length];exact of_decide_eq_true hl,λr hr=>?_⟩
 have g:=Gr.alloc s hr (.lst (xs++ys))
 exact q _ _ _ g (.lst zo ((al.append bl).mono g.ff))
theorem zf0:OpD (λx y H Q=>∃ i j,x=.str i/\y=.str j/\i.length+j.length<=sizeLine/\Q (.str (i++j)) H) zk8:=by
 intro F H x y d e z Q s ax ay ez q
 cases d <;> try cases ez
 cases e <;> try cases ez
 unfold zk8 at ez
 dsimp only at ez
 split at ez <;> cases ez
 rename_i hl
 exact⟨_,_,ax.str_inv,ay.str_inv,of_decide_eq_true hl,q F H _ (.refl s) .str⟩
noncomputable def y8:D->D->Option D
 | .int i,.int j=>some (.int (i+j))
 | .tup a,.tup b=>if lim (a.length+b.length)=true then some (.tup (a++b))else none
 | .lst a,.lst b=>if lim (a.length+b.length)=true then some (.lst (a++b))else none
 | .str a,.str b=>if lim (a.length+b.length)=true then some (.str (a++b))else none
 | _,_=>none
theorem zbD {r:R2}{g g':D->D->Option D}(h:OpD r g)(k:∀ d e z,g' d e=some z->g d e=some z):OpD r g':=λF H x y d e z Q s ax ay ez q=>h F H x y d e z Q s ax ay (k d e z ez) q
theorem zW {f h:Ev->Option D}(ha:ED X a f)(hb:ED X b h):ED X (.BinOp a .Add b pos) (zj y8 f h) :=
 Vh (((zkU.or zgB).or zkW).or zdr) (zbD (zaM (zaM (zaM (zay (g:=λi j=>i+j)) zgP) zgV) zf0) λd e z h=>by
  cases d <;> try cases h
  all_goals cases e <;> try cases h
  .rfl
  .unfold y8 at h;dsimp only at h;split at h <;> cases h;rename_i hl;simp[yT,zk6,hl,zfm,zjC,zk8]
  .unfold y8 at h;dsimp only at h;split at h <;> cases h;rename_i hl;simp[yT,zk6,hl,zfm,zjC,zk8]
  .unfold y8 at h;dsimp only at h;split at h <;> cases h;rename_i hl;simp[yT,zk6,hl,zfm,zjC,zk8]) ha hb
theorem zdd {F H F1 H1:Hp}{p:Addr}(g1:Gr F H F1 H1)(hp:H1 p=none):H p=none:=by
 cases e:H p with
 | none=>rfl
 | some o =>
  cases e2:F p with
  | none=>rw[(g1.kp p o e2 e).2]at hp;cases hp
  | some u=>rw[g1.fh _ _ (g1.ff _ _ e2)]at hp;cases hp
noncomputable def Wd (i j:Int):Bool:=decide ((-(2 ^ 64) < i/\i < 2 ^ 64)\/(-(2 ^ 64) < j/\j < 2 ^ 64))
noncomputable def zl9:D->D->Option (List D)
 | .lst a,.int k=>if -(2 ^ 63)<=k/\k < 2 ^ 63/\lim (a.length*k.toNat)=true then some (List.replicate k.toNat a).flatten else none
 | _,_=>none
noncomputable def zgz (d e:D):Option D:=(zl9 d e).map .lst
noncomputable def wx:D->D->Option D
 | .int i,.int j=>if Wd i j=true then some (.int (i*j))else none
 | .lst a,.int k=>if -(2 ^ 63)<=k/\k < 2 ^ 63/\lim (a.length*k.toNat)=true then some (.lst (List.replicate k.toNat a).flatten)else none
 | _,_=>none
theorem zgL:OpD rRep zgz:=by
 intro F H x y d e z Q s ax ay ez q
 cases d <;> try cases ez
 cases e <;> try cases ez
 unfold zgz zl9 at ez
 dsimp only at ez
 split at ez <;> cases ez
 rename_i hl
 obtain⟨p,xs,rfl,hx,al⟩:=ax.lst_inv
 refine⟨p,_,xs,rfl,ay.int_inv,s _ _ hx,hl.1,hl.2.1,by rw[al.length];exact of_decide_eq_true hl.2.2,λr hr=>?_⟩
 rename_i ds k
 have g:=Gr.alloc s hr (.lst (List.replicate k.toNat xs).flatten)
 exact q _ _ _ g (.lst zo ((al.rep _).mono g.ff))
theorem WE {f h:Ev->Option D}(ha:ED X a f)(hb:ED X b h):ED X (.BinOp a .Mult b pos) (zj wx f h) :=
 Vh (zjq.or zjz) (zbD (zaM (XT (Cb:=Wd) (g:=λi j=>i*j) λi j h=>by have h':=of_decide_eq_true (show decide ((-(2 ^ 64) < i/\i < 2 ^ 64)\/(-(2 ^ 64) < j/\j < 2 ^ 64))=true from h);exact h') zgL) λd e z h=>by
  cases d <;> try cases h
  all_goals cases e <;> try cases h
  .unfold wx at h;dsimp only at h;split at h <;> cases h;rename_i hl;simp[Yq,hl]
  .unfold wx at h;dsimp only at h;split at h <;> cases h;rename_i hl;show(zgz _ _)=_;unfold zgz zl9;dsimp only;rw[if_pos hl];rfl) ha hb
noncomputable def vQ:=yT λi j=>i - j
noncomputable def yd:=Yq (λ_ j=>decide (0 < j/\j < 1606938044258990275541962092341162602522202993782792835301376)) λi j=>i / j
noncomputable def yP:=Yq (λ_ j=>decide (0 < j)) λi j=>i % j
noncomputable def zjh:=Yq (λ_ j=>decide (0<=j)) λi j=>i / 2 ^ j.toNat
theorem zaR {f h:Ev->Option D}(ha:ED X a f)(hb:ED X b h):ED X (.BinOp a .Sub b pos) (zj vQ f h):=Vh zkb zay ha hb
theorem zgq:OpR X (binaryOp .FloorDiv) (rI (λ_ j=>0 < j/\j < 1606938044258990275541962092341162602522202993782792835301376) λi j=>.int (i / j)):=opI λi j _ _ _ _ _ hc q=>by
 have h1:(0:Int) < j:=hc.1
 have h2:j < 1606938044258990275541962092341162602522202993782792835301376:=hc.2
 refine PyProof.Rows.floordiv_int (by omega) (by rw[Int.fdiv_eq_ediv_of_nonneg i (by omega)];exact q) (.inl (PyProof.noPylong_of_log2 ?_))
 have h0:j.natAbs≠0:=by omega
 have h3:j.natAbs < 1606938044258990275541962092341162602522202993782792835301376:=by omega
 have h4:j.natAbs.log2 < 200:=(Nat.log2_lt h0).mpr h3
 omega
theorem Zs {f h:Ev->Option D}(ha:ED X a f)(hb:ED X b h):ED X (.BinOp a .FloorDiv b pos) (zj yd f h):=Vh zgq (XT λ_ _ h=>by have h':=of_decide_eq_true h;exact h') ha hb
theorem xo {f h:Ev->Option D}(ha:ED X a f)(hb:ED X b h):ED X (.BinOp a .Mod b pos) (zj yP f h):=Vh zjH (XT λ_ _ h=>by have h':=of_decide_eq_true h;exact h') ha hb
theorem zjU {f h:Ev->Option D}(ha:ED X a f)(hb:ED X b h):ED X (.BinOp a .RShift b pos) (zj zjh f h):=Vh zj3 (XT λ_ _ h=>by have h':=of_decide_eq_true h;exact h') ha hb
noncomputable def ltD:=Yt λi j=>decide (i < j)
noncomputable def leD:=Yt λi j=>decide (i<=j)
noncomputable def gtD:=Yt λi j=>decide (j < i)
noncomputable def geD:=Yt λi j=>decide (j<=i)
noncomputable def eqS:D->D->Option Bool
 | .non,.non=>some true
 | .int i,.int j=>some (decide (i=j))
 | .bl i,.bl j=>some (decide (i=j))
 | .str i,.str j=>some (decide (i=j))
 | .non,.int _=>some false | .int _,.non=>some false | .non,.bl _=>some false | .bl _,.non=>some false | .non,.str _=>some false | .str _,.non=>some false
 | .int _,.str _=>some false | .str _,.int _=>some false | .bl _,.str _=>some false | .str _,.bl _=>some false
 | _,_=>none
noncomputable def eqD (d e:D):Option D:=(eqS d e).map .bl
noncomputable def neD (d e:D):Option D:=(eqS d e).map λc=>.bl (!c)
theorem zhG:OpD rEq eqD:=by
 intro F H x y d e z Q s ax ay ez q
 obtain⟨c,e1,rfl⟩:=Option.map_eq_some_iff.mp ez
 cases d <;> cases e <;> try cases e1
 .cases ax.non_inv;cases ay.non_inv;exact⟨rfl,q F H _ (.refl s) .bl⟩
 .cases ax.non_inv;cases ay.bl_inv;exact⟨rfl,q F H _ (.refl s) .bl⟩
 .cases ax.non_inv;cases ay.int_inv;exact⟨rfl,q F H _ (.refl s) .bl⟩
 .cases ax.non_inv;cases ay.str_inv;exact⟨rfl,q F H _ (.refl s) .bl⟩
 .cases ax.bl_inv;cases ay.non_inv;exact⟨rfl,q F H _ (.refl s) .bl⟩
 .cases ax.bl_inv;cases ay.bl_inv;refine⟨rfl,?_⟩;rw[show ∀ i j:Bool,decide (V.bl i=V.bl j)=decide (i=j)from λi j=>by simp];exact q F H _ (.refl s) .bl
 .cases ax.bl_inv;cases ay.str_inv;exact⟨rfl,q F H _ (.refl s) .bl⟩
 .cases ax.int_inv;cases ay.non_inv;exact⟨rfl,q F H _ (.refl s) .bl⟩
 .cases ax.int_inv;cases ay.int_inv;refine⟨rfl,?_⟩;rw[show ∀ i j:Int,decide (V.int i=V.int j)=decide (i=j)from λi j=>by simp];exact q F H _ (.refl s) .bl
 .cases ax.int_inv;cases ay.str_inv;exact⟨rfl,q F H _ (.refl s) .bl⟩
 .cases ax.str_inv;cases ay.non_inv;exact⟨rfl,q F H _ (.refl s) .bl⟩
 .cases ax.str_inv;cases ay.bl_inv;exact⟨rfl,q F H _ (.refl s) .bl⟩
 .cases ax.str_inv;cases ay.int_inv;exact⟨rfl,q F H _ (.refl s) .bl⟩
 .cases ax.str_inv;cases ay.str_inv;refine⟨rfl,?_⟩;rw[show ∀ i j:Str,decide (V.str i=V.str j)=decide (i=j)from λi j=>by simp];exact q F H _ (.refl s) .bl
theorem Xr:OpD rNe neD:=by
 intro F H x y d e z Q s ax ay ez q
 obtain⟨c,e1,rfl⟩:=Option.map_eq_some_iff.mp ez
 have:=zhG F H x y d e (.bl c) (λv H'=>∃ b,v=.bl b/\Q (.bl (!b)) H') s ax ay (by unfold eqD;rw[e1];rfl) λF' H' v g av=>⟨c,av.bl_inv,q F' H' _ g .bl⟩
 obtain⟨h1,b,h2,h3⟩:=this
 cases h2
 exact⟨h1,h3⟩
noncomputable def YL:D->D->Option D
 | d,.non=>some (.bl (match d with | .non=>true | _=>false))
 | .bl a,.bl b=>some (.bl (a == b))
 | _,_=>none
noncomputable def zM:D->D->Option D
 | d,.non=>some (.bl (match d with | .non=>false | _=>true))
 | .bl a,.bl b=>some (.bl (!(a == b)))
 | _,_=>none
theorem zif {F:Hp}{d:D}{x:V}(h:At F d x):decide (x=V.non)=(match d with | .non=>true | _=>false):=by
 cases d with
 | non=>cases h.non_inv;rfl
 | bl b=>cases h.bl_inv;rfl
 | int b=>cases h.int_inv;rfl
 | str b=>cases h.str_inv;rfl
 | tup ds=>obtain⟨a,xs,rfl,_⟩:=h.tup_inv;rfl
 | lst ds=>obtain⟨a,xs,rfl,_⟩:=h.lst_inv;rfl
 | scr ds=>obtain⟨a,rfl,_⟩:=h.scr_inv;rfl
 | dct z t ks vs=>obtain⟨a,xs,rfl,_⟩:=h.dct_inv;rfl
theorem zec:OpD (λx y H Q=>(y=.non/\Q (.bl (decide (x=.non))) H)\/∃ i j,x=.bl i/\y=.bl j/\Q (.bl (i == j)) H) YL:=by
 intro F H x y d e z Q s ax ay ez q
 unfold YL at ez
 split at ez
 .cases ez
  refine .inl ⟨ay.non_inv,?_⟩
  rw[zif ax]
  have:=q F H _ (.refl s) .bl
  cases d <;> exact this
 .cases ez
  exact .inr ⟨_,_,ax.bl_inv,ay.bl_inv,q F H _ (.refl s) .bl⟩
 .cases ez
theorem zhw:OpR X (compareOp .Is) (λx y H Q=>(y=.non/\Q (.bl (decide (x=.non))) H)\/∃ i j,x=.bl i/\y=.bl j/\Q (.bl (i == j)) H):=zj4.or zf5
noncomputable def ya (g g':D->D->Option D)(f h k:Ev->Option D):Ev->Option D:=fun ρ=>(f ρ).bind λx=>(h ρ).bind λy=>((g x y).bind asB).bind λc=>if c=true then (k ρ).bind λz=>g' y z else some (.bl false)
theorem zgZ {r r':R2}{g g':D->D->Option D}{ta tb tc:TE}{f h k:Ev->Option D}(hg:OpD r g)(hg':OpD r' g')(ra:RE ta f)(rb:RE tb h)(rc:RE tc k):RE (zfr r r' ta tb tc) (ya g g' f h k):=by
 intro σ ρ F H z Q s va e q
 obtain⟨x,e1,e⟩:=Option.bind_eq_some_iff.mp e
 obtain⟨y,e2,e⟩:=Option.bind_eq_some_iff.mp e
 obtain⟨c,e3,e⟩:=Option.bind_eq_some_iff.mp e
 obtain⟨cd,e3,e4⟩:=Option.bind_eq_some_iff.mp e3
 cases XY e4
 refine ra σ ρ F H x _ s va e1 λF1 H1 v g1 a1=>?_
 refine rb σ ρ F1 H1 y _ g1.fh (va.mono g1.ff) e2 λF2 H2 u g2 a2=>?_
 refine hg F2 H2 v u x y _ _ g2.fh (a1.mono g2.ff) a2 e3 λF3 H3 w g3 a3=>⟨c,a3.bl_inv,?_⟩
 have g123:=(g1.trans g2).trans g3
 cases c with
 | true =>
  rw[if_pos rfl]at e ⊢
  obtain⟨z',e5,e6⟩:=Option.bind_eq_some_iff.mp e
  refine rc σ ρ F3 H3 z' _ g3.fh (va.mono g123.ff) e5 λF4 H4 w4 g4 a4=>?_
  exact hg' F4 H4 u w4 y z' z Q g4.fh (a2.mono (g3.ff.trans g4.ff)) a4 e6 λF5 H5 w5 g5 a5=>q F5 H5 w5 ((g123.trans g4).trans g5) a5
 | false =>
  rw[if_neg Bool.false_ne_true]at e ⊢
  cases e
  exact q F3 H3 _ g123 .bl
theorem zgw {op op':CmpOp}{r r':R2}{g g':D->D->Option D}{f h k:Ev->Option D}(ho:OpR X (compareOp op) r)(ho':OpR X (compareOp op') r')(hg:OpD r g)(hg':OpD r' g')(ha:ED X a f)(hb:ED X b h)(hc:ED X c k)
 (pch:∀ {ta tb tc:TE},PE X a ta->PE X b tb->PE X c tc->PE X (.Compare a [op,op'] [b,c] pos) (zfr r r' ta tb tc)):ED X (.Compare a [op,op'] [b,c] pos) (ya g g' f h k) :=
 let ⟨_,pa,ra⟩:=ha
 let ⟨_,pb,rb⟩:=hb
 let ⟨_,pc,rc⟩:=hc
 ⟨_,pch pa pb pc,zgZ hg hg' ra rb rc⟩
noncomputable def zb5:List D->Option (List Int)
 | []=>some []
 | .int b::ds=>(zb5 ds).map (b::·)
 | _=>none
omit [KK] in
theorem Wb:∀ {ds:List D} {bs:List Int},zb5 ds=some bs->ds=bs.map .int
 | [],bs,h=>by cases h;rfl
 | d::ds,bs,h=>by
  cases d <;> try cases h
  obtain⟨cs,h1,rfl⟩:=Option.map_eq_some_iff.mp h
  rw[Wb h1]
  rfl
noncomputable def leT:D->D->Option D
 | .tup a,.tup b=>(zb5 a).bind λns=>(zb5 b).map λms=>.bl (HT.lexLe ns ms)
 | _,_=>none
theorem zi6 {K:W.Frag}:OpD (rLeT K) leT:=by
 intro F H x y d e z Q s ax ay ez q
 cases d <;> try cases ez
 cases e <;> try cases ez
 obtain⟨ns,e1,e2⟩:=Option.bind_eq_some_iff.mp ez
 obtain⟨ms,e3,rfl⟩:=Option.map_eq_some_iff.mp e2
 rw[Wb e1]at ax
 rw[Wb e3]at ay
 obtain⟨p,xs,rfl,hx,al⟩:=ax.tup_inv
 obtain⟨p2,ys,rfl,hy,bl⟩:=ay.tup_inv
 cases al.of_ints
 cases bl.of_ints
 exact⟨p,p2,ns,ms,rfl,rfl,SqT.of (s _ _ hx),SqT.of (s _ _ hy),q F H _ (.refl s) .bl⟩
noncomputable def ixD:D->D->Option D
 | .lst ds,.int i=>atI ds i
 | .tup ds,.int i=>atI ds i
 | .scr ns,.int i=>(atI ns i).map .int
 | _,_=>none
theorem AtL.atI {F:Hp}{ds:List D}{xs:List V}{i:Int}{d:D}(al:AtL F ds xs)(h:L2.atI ds i=some d):∃ x,L2.atI xs i=some x/\At F d x:=by
 unfold L2.atI at h ⊢
 obtain⟨j,e1,e2⟩:=Option.bind_eq_some_iff.mp h
 obtain⟨x,hx,ax⟩:=al.get e2
 exact⟨x,by rw[al.length,e1];exact hx,ax⟩
theorem zku:OpD (rIx KK.K) ixD:=by
 intro F H x y d e z Q s ax ay ez q
 cases e <;> try (cases d <;> cases ez)
 cases ay.int_inv
 cases d with
 | lst ds =>
  obtain⟨p,xs,rfl,hx,al⟩:=ax.lst_inv
  obtain⟨v,e1,av⟩:=al.atI ez
  exact .inl ⟨p,xs,_,v,rfl,rfl,SqL.of (s _ _ hx),e1,q F H _ (.refl s) av⟩
 | tup ds =>
  obtain⟨p,xs,rfl,hx,al⟩:=ax.tup_inv
  obtain⟨v,e1,av⟩:=al.atI ez
  exact .inr (.inl ⟨p,xs,_,v,rfl,rfl,SqT.of (s _ _ hx),e1,q F H _ (.refl s) av⟩)
 | scr ns =>
  obtain⟨p,rfl,hx⟩:=ax.scr_inv
  obtain⟨n,e1,rfl⟩:=Option.map_eq_some_iff.mp ez
  refine .inl ⟨p,ns.map V.int,_,.int n,rfl,rfl,s.seq hx,?_,q F H _ (.refl s) .int⟩
  unfold L2.atI at e1 ⊢
  rw[List.length_map]
  obtain⟨j,e2,e3⟩:=Option.bind_eq_some_iff.mp e1
  rw[e2]
  show(ns.map V.int)[j]?=_
  rw[List.getElem?_map,e3]
  rfl
 | _=>cases ez
theorem yD {f h:Ev->Option D}(ha:ED X a f)(hb:ED X b h)(hs:zdM b)(hK:X.K=KK.K:=by rfl):ED X (.Subscript a b pos) (zj ixD f h) :=
 let ⟨_,pa,ra⟩:=ha
 let ⟨_,pb,rb⟩:=hb
 ⟨_,zlX zkq pa pb hs,zhi (by rw[hK];exact zku) ra rb⟩
noncomputable def X1 {α:Type}(xs:List α)(lo hi:Option Int):List α:=(xs.drop (HT.sIx xs.length 0 lo)).take (HT.sIx xs.length xs.length hi - HT.sIx xs.length 0 lo)
theorem AtL.cut {F:Hp}{ds:List D}{xs:List V}{lo hi:Option Int}(al:AtL F ds xs):AtL F (X1 ds lo hi) (zbS xs lo hi):=by
 unfold X1 zbS
 rw[al.length]
 exact(al.drop _).take _
noncomputable def OD (X:Cx)(e:Option Expr)(f:Ev->Option (Option Int)):Prop:=∃ t,PO X e t/\∀ (σ:St) (ρ:Ev) (F H:Hp) (i:Option Int) (Q:Option Int->Hp->Prop),yU F H->VAt F ρ σ->f ρ=some i->(∀ F' H',Gr F H F' H'->Q i H')->t σ H Q
noncomputable def yn:Ev->Option (Option Int):=λ_=>some none
noncomputable def asI:D->Option Int
 | .int i=>some i
 | _=>none
noncomputable def yf (f:Ev->Option D):Ev->Option (Option Int):=fun ρ=>((f ρ).bind asI).map some
theorem Zv:OD X none yn:=⟨_,zik,λ_ _ _ _ _ _ s _ e q=>by cases e;exact q _ _ (.refl s)⟩
theorem vT {f:Ev->Option D}(h:ED X e f):OD X (some e) (yf f):=by
 obtain⟨t,p,r⟩:=h
 refine⟨_,zjb p,fun σ ρ F H i Q s va e q=>?_⟩
 obtain⟨j,e1,rfl⟩:=Option.map_eq_some_iff.mp e
 obtain⟨d,e1,e2⟩:=Option.bind_eq_some_iff.mp e1
 cases d <;> cases e2
 exact r σ ρ F H _ _ s va e1 λF1 H1 v g1 a1=>⟨_,a1.int_inv,q F1 H1 g1⟩
noncomputable def slD:D->Option Int->Option Int->Option D
 | .lst ds,lo,hi=>some (.lst (X1 ds lo hi))
 | .scr ns,lo,hi=>some (.lst ((X1 ns lo hi).map .int))
 | .tup ds,lo,hi=>some (.tup (X1 ds lo hi))
 | _,_,_=>none
noncomputable def eSl (g:D->Option Int->Option Int->Option D)(f:Ev->Option D)(l h:Ev->Option (Option Int)):Ev->Option D:=fun ρ=>(f ρ).bind λd=>(l ρ).bind λlo=>(h ρ).bind λhi=>g d lo hi
omit [KK] in
theorem zgc {ns:List Int}{lo hi:Option Int}:zbS (ns.map V.int) lo hi=(X1 ns lo hi).map V.int:=by
 unfold zbS X1
 rw[List.length_map,List.map_take,List.map_drop]
end
end Dl
namespace L2
open PySem PySem.Spec PyProof.Rows
noncomputable def rSlN:V->Option Int->Option Int->Hp->VK->Prop:=λx lo hi H Q=>∃ a xs,x=.ref a/\H a=some (.tup xs)/\(zbS xs lo hi=xs->Q (.ref a) H)/\∀ p,H p=none->Q (.ref p) (upd H p (.tup (zbS xs lo hi)))
theorem zhZ {X:Cx}:SlR X rSlN:=by
 intro pins s σ H x v vl vu lo hi sl Q I rx hs pl pu h
 obtain⟨a,xs,rfl,hx,q1,q2⟩:=h
 by_cases hw:HT.sIx xs.length 0 lo=0/\HT.sIx xs.length xs.length hi=xs.length
 .cases rx
  obtain⟨its,r,ht,hz⟩:=I.tuple (SqT.of hx)
  have hlen:its.toArray.size=xs.length:=by rw[List.size_toArray];exact r.length.symm
  refine⟨"tuple",_,PyProof.Rows.slot_tuple_getitem.lookup,ht.typeIs,?_⟩
  refine HT.own_getItem_whole ht hs pl pu (by rw[hlen];exact hw) ⟨.ref a,H,I,rfl,q1 ?_⟩
  unfold zbS
  rw[hw.1,hw.2,List.drop_zero,Nat.sub_zero,List.take_length]
 .exact zkC pins s σ H (.ref a) v vl vu lo hi sl Q I rx hs pl pu ⟨a,xs,rfl,SqT.of hx,hw,q2⟩
end L2
namespace Dl
open PySem L2
variable [KK]
section
variable {X:Cx}{a b c e:Expr}{pos:Pos}
theorem ve {lo hi:Option Expr}{p2:Pos}{f:Ev->Option D}{l h:Ev->Option (Option Int)}(ha:ED X a f)(hl:OD X lo l)(hh:OD X hi h)(hK:X.K=KK.K:=by rfl):ED X (.Subscript a (.Slice lo hi none p2) pos) (eSl slD f l h):=by
 obtain⟨ta,pa,ra⟩:=ha
 obtain⟨tl,ppl,rl⟩:=hl
 obtain⟨th,ph,rh⟩:=hh
 refine⟨_,zf2 (zin.or zhZ) pa ppl ph,fun σ ρ F H z Q s va e q=>?_⟩
 obtain⟨d,e1,e⟩:=Option.bind_eq_some_iff.mp e
 obtain⟨i,e2,e⟩:=Option.bind_eq_some_iff.mp e
 obtain⟨j,e3,e⟩:=Option.bind_eq_some_iff.mp e
 refine ra σ ρ F H d _ s va e1 λF1 H1 v g1 a1=>?_
 refine rl σ ρ F1 H1 i _ g1.fh (va.mono g1.ff) e2 λF2 H2 g2=>?_
 refine rh σ ρ F2 H2 j _ g2.fh (va.mono (g1.ff.trans g2.ff)) e3 λF3 H3 g3=>?_
 have g123:=(g1.trans g2).trans g3
 have a3:=a1.mono (g2.ff.trans g3.ff)
 cases d <;> try cases e
 .obtain⟨p,xs,rfl,hx,al⟩:=a3.tup_inv
  refine .inr ⟨p,xs,rfl,g3.fh _ _ hx,λec=>?_,λr hr=>?_⟩
  .have:=al.cut (lo:=i) (hi:=j)
   rw[ec]at this
   exact q F3 H3 _ g123 (.tup hx this)
  .have g:=Gr.alloc g3.fh hr (.tup (zbS xs i j))
   exact q _ _ _ (g123.trans g) (.tup zo (al.cut.mono g.ff))
 .obtain⟨p,xs,rfl,hx,al⟩:=a3.lst_inv
  refine .inl ⟨p,xs,rfl,SqL.of (g3.fh _ _ hx),λr hr=>?_⟩
  have g:=Gr.alloc g3.fh hr (.lst (zbS xs i j))
  exact q _ _ _ (g123.trans g) (.lst zo (al.cut.mono g.ff))
 .rename_i ns _ _
  obtain⟨p,rfl,hx⟩:=a3.scr_inv
  refine .inl ⟨p,_,rfl,(by rw[hK];exact g3.fh.seq hx),λr hr=>?_⟩
  rw[zgc]
  have g:=Gr.alloc g3.fh hr (.lst ((X1 ns i j).map V.int))
  exact q _ _ _ (g123.trans g) (.lst zo (.ints _))
noncomputable def CaD (r:List V->Hp->VK->Prop)(g:List D->Option D):Prop:=∀ (F H:Hp) (vs:List V) (ds:List D) (z:D) (Q:VK),yU F H->AtL F ds vs->g ds=some z->(∀ F' H' v,Gr F H F' H'->At F' z v->Q v H')->r vs H Q
noncomputable def eFn (g:List D->Option D)(f:Ev->Option (List D)):Ev->Option D:=fun ρ=>(f ρ).bind g
noncomputable def fFn (g:List D->Option (List D))(f:Ev->Option (List D)):Ev->Option (List D):=fun ρ=>(f ρ).bind g
theorem yx {x:Str}{id:String}{p:Pos}{es:List Expr}{r:List V->Hp->VK->Prop}{g:List D->Option D}{f:Ev->Option (List D)}(hc:Yr X (.builtin id) r)(hg:CaD r g)(hgl:Gl X x)(hm:X.mg x=none)(hv:bootBuiltins x=some (.builtin id))(ha:AD X (e::es) f)
 (hn:x≠"__name__":=by decide) (hdb:(x == ("__debug__":Str))=false:=by decide) (he:starEach (e::es) X.env=(false,eval e X.env)::starEach es X.env:=by rfl) (hpl:(backTo pos (starEach es X.env)).any (·.1)=false:=by rfl) :
 ED X (.Call (.Name x p) (e::es) [] pos) (eFn g f):=by
 obtain⟨t,pa,ra⟩:=ha
 refine⟨_,XN hc hgl hm hv pa hn hdb he hpl,fun σ ρ F H z Q s va e q=>?_⟩
 obtain⟨ds,e1,e2⟩:=Option.bind_eq_some_iff.mp e
 refine ra σ ρ F H ds _ s va e1 λF1 H1 vs g1 a1=>?_
 exact hg F1 H1 vs ds z Q g1.fh a1 e2 λF' H' v g av=>q F' H' v (g1.trans g) av
theorem vC {x:Str}{T:String}{p:Pos}{es:List Expr}{r:List V->Hp->VK->Prop}{g:List D->Option D}{f:Ev->Option (List D)}(hc:Yr X (.type T) r)(hg:CaD r g)(hgl:Gl X x)(hm:X.mg x=none)(hv:bootBuiltins x=some (.type T))(ha:AD X (e::es) f)
 (hn:x≠"__name__":=by decide) (hdb:(x == ("__debug__":Str))=false:=by decide) (he:starEach (e::es) X.env=(false,eval e X.env)::starEach es X.env:=by rfl) (hpl:(backTo pos (starEach es X.env)).any (·.1)=false:=by rfl) :
 ED X (.Call (.Name x p) (e::es) [] pos) (eFn g f):=by
 obtain⟨t,pa,ra⟩:=ha
 refine⟨_,zaB hc hgl hm hv pa hn hdb he hpl,fun σ ρ F H z Q s va e q=>?_⟩
 obtain⟨ds,e1,e2⟩:=Option.bind_eq_some_iff.mp e
 refine ra σ ρ F H ds _ s va e1 λF1 H1 vs g1 a1=>?_
 exact hg F1 H1 vs ds z Q g1.fh a1 e2 λF' H' v g av=>q F' H' v (g1.trans g) av
noncomputable def wY:List D->Option D
 | [.lst ds]=>some (.int ds.length)
 | [.tup ds]=>some (.int ds.length)
 | [.scr ds]=>some (.int ds.length)
 | _=>none
theorem YI:CaD (λxs H Q=>∃ p ys,xs=[.ref p]/\(SqL KK.K H p ys\/SqT KK.K H p ys)/\Q (.int ys.length) H) wY:=by
 intro F H vs ds z Q s al e q
 unfold wY at e
 split at e <;> cases e
 all_goals
  obtain⟨x,r,rfl,ax,ar⟩:=al.cons_inv
  cases ar.nil_inv
 .obtain⟨p,xs,rfl,hx,bl⟩:=ax.lst_inv
  exact⟨p,xs,rfl,.inl (SqL.of (s _ _ hx)),by rw[bl.length];exact q F H _ (.refl s) .int⟩
 .obtain⟨p,xs,rfl,hx,bl⟩:=ax.tup_inv
  exact⟨p,xs,rfl,.inr (SqT.of (s _ _ hx)),by rw[bl.length];exact q F H _ (.refl s) .int⟩
 .obtain⟨p,rfl,hx⟩:=ax.scr_inv
  exact⟨p,_,rfl,.inl ((s.seq hx)),by rw[List.length_map];exact q F H _ (.refl s) .int⟩
noncomputable def zkk:List D->Option D
 | [.int i,.int j]=>some (.int (if j > i then j else i))
 | _=>none
noncomputable def zgy:List D->Option D
 | [.int i,.int j]=>some (.int (if j < i then j else i))
 | _=>none
theorem zch {g:Int->Int->Int}:CaD (λxs H Q=>∃ i j,xs=[.int i,.int j]/\Q (.int (g i j)) H) (λds=>match ds with | [.int i,.int j]=>some (.int (g i j)) | _=>none):=by
 intro F H vs ds z Q s al e q
 dsimp only at e
 split at e <;> cases e
 obtain⟨x,r,rfl,ax,ar⟩:=al.cons_inv
 obtain⟨y,r,rfl,ay,ar⟩:=ar.cons_inv
 cases ar.nil_inv
 exact⟨_,_,by rw[ax.int_inv,ay.int_inv],q F H _ (.refl s) .int⟩
theorem zf9:CaD (λxs H Q=>∃ i j,xs=[.int i,.int j]/\Q (.int (if j > i then j else i)) H) zkk:=zch (g:=λi j=>if j > i then j else i)
theorem zb8:CaD (λxs H Q=>∃ i j,xs=[.int i,.int j]/\Q (.int (if j < i then j else i)) H) zgy:=zch (g:=λi j=>if j < i then j else i)
noncomputable def zR:List D->Option D
 | [.lst ds]=>some (.tup ds)
 | [.tup ds]=>some (.tup ds)
 | _=>none
theorem Yw {K:W.Frag}:CaD (λxs H Q=>∃ p ys,xs=[.ref p]/\((SqL K H p ys/\∀ l,H l=none->Q (.ref l) (upd H l (.tup ys)))\/(SqT K H p ys/\Q (.ref p) H))) zR:=by
 intro F H vs ds z Q s al e q
 unfold zR at e
 split at e <;> cases e
 all_goals
  obtain⟨x,r,rfl,ax,ar⟩:=al.cons_inv
  cases ar.nil_inv
 .obtain⟨p,xs,rfl,hx,bl⟩:=ax.lst_inv
  refine⟨p,xs,rfl,.inl ⟨SqL.of (s _ _ hx),λl hl=>?_⟩⟩
  have g:=Gr.alloc s hl (.tup xs)
  exact q _ _ _ g (.tup zo (bl.mono g.ff))
 .obtain⟨p,xs,rfl,hx,bl⟩:=ax.tup_inv
  exact⟨p,xs,rfl,.inr ⟨SqT.of (s _ _ hx),q F H _ (.refl s) (.tup hx bl)⟩⟩
noncomputable def yS:List D->Option (List D)
 | [.lst ds]=>some ds
 | [.tup ds]=>some ds
 | [.scr ns]=>some (ns.map .int)
 | _=>none
theorem zbo {p:Pos} {f:Ev->Option (List D)} (hgl:Gl X "list") (hm:X.mg "list"=none) (ha:AD X [e] f) (hK:X.K=KK.K:=by rfl)
 (he:starEach [e] X.env=(false,eval e X.env)::starEach [] X.env:=by rfl) (hpl:(backTo pos (starEach [] X.env)).any (·.1)=false:=by rfl):FL X (.Call (.Name "list" p) [e] [] pos) (fFn yS f):=by
 obtain⟨t,pa,ra⟩:=ha
 refine⟨_,zaB zaO hgl hm Xo pa (by decide) (by decide) he hpl,fun σ ρ F H z Q s va e q=>?_⟩
 obtain⟨ds,e1,e2⟩:=Option.bind_eq_some_iff.mp e
 refine ra σ ρ F H ds _ s va e1 λF1 H1 vs g1 a1=>?_
 unfold yS at e2
 split at e2 <;> cases e2
 all_goals
  obtain⟨x,r,rfl,ax,ar⟩:=a1.cons_inv
  cases ar.nil_inv
 .obtain⟨p,xs,rfl,hx,bl⟩:=ax.lst_inv
  exact⟨p,xs,rfl,.inl (SqL.of (g1.fh _ _ hx)),λl hl=>q _ _ _ _ (g1.trans (Gr.hide g1.fh hl _)) (zdd g1 hl) (g1.fh.free hl) zo bl⟩
 .obtain⟨p,xs,rfl,hx,bl⟩:=ax.tup_inv
  exact⟨p,xs,rfl,.inr (SqT.of (g1.fh _ _ hx)),λl hl=>q _ _ _ _ (g1.trans (Gr.hide g1.fh hl _)) (zdd g1 hl) (g1.fh.free hl) zo bl⟩
 .obtain⟨p,rfl,hx⟩:=ax.scr_inv
  exact⟨p,_,rfl,.inl (by rw[hK];exact g1.fh.seq hx),λl hl=>q _ _ _ _ (g1.trans (Gr.hide g1.fh hl _)) (zdd g1 hl) (g1.fh.free hl) zo (.ints _)⟩
inductive TyD (K:W.Frag) (H:Hp):V->Value->Prop where
 | of {v:V} {t:Value} (h:zcv K H v t):TyD K H v t
 | dd {a:Addr} {u:HO} (h:Rd H a u) (d:(∃ kvs,u=.dK kvs)\/∃ kvs,u=.dT kvs):TyD K H (.ref a) (.type "dict")
theorem V6 {X:Cx}:Yr X (.builtin "isinstance") (λxs H Q=>∃ x n t b,xs=[x,.ty n]/\TyD X.K H x t/\W.kitOne X.K t (.type n)=some b/\Q (.bl b) H):=by
 intro pins s σ H xs us Q I r h
 obtain⟨x,n,t,b,rfl,ty,e,q⟩:=h
 cases ty with
 | of ty=>exact zbF pins s σ H _ us Q I r ⟨x,n,t,b,rfl,ty,e,q⟩
 | @dd a u h d =>
  cases r with
  | cons r1 r2 =>
   cases r2 with
   | cons r3 r4 =>
    cases r4
    cases r1
    cases r3
    have ok:=h.ok I.hok
    rcases d with ⟨kvs,rfl⟩ | ⟨kvs,rfl⟩
    .obtain⟨_,_,vs,_,p⟩:=(show yR X.prog X.w H s.heap a (.dK kvs)from ok)
     obtain⟨o,es,ep,h1,h2,_⟩:=p
     exact W.kia_one W.kitx_dict I.kIn ⟨o,h1,h2.1⟩ e (λz=>nomatch z) λtk=>⟨.bl b,H,I.tok tk,rfl,q⟩
    .obtain⟨_,_,xs,_,o,es,ep,h1,h2,_⟩:=(show yR X.prog X.w H s.heap a (.dT kvs)from ok)
     exact W.kia_one W.kitx_dict I.kIn ⟨o,h1,h2.1⟩ e (λz=>nomatch z) λtk=>⟨.bl b,H,I.tok tk,rfl,q⟩
theorem At.ty {K:W.Frag}{F H:Hp}(s:yU F H):∀ {d:D} {v:V},At F d v->(∀ ns,d≠.scr ns)->TyD K H v (.type (tyN d))
 | .non,_,h,_=>by cases h.non_inv;exact .of .non
 | .bl b,_,h,_=>by cases h.bl_inv;exact .of (.bl b)
 | .int i,_,h,_=>by cases h.int_inv;exact .of (.int i)
 | .str x,_,h,_=>by cases h.str_inv;exact .of (.str x)
 | .tup ds,_,h,_=>by obtain⟨a,xs,rfl,e,_⟩:=h.tup_inv;exact .of (.tup (s _ _ e))
 | .lst ds,_,h,_=>by obtain⟨a,xs,rfl,e,_⟩:=h.lst_inv;exact .of (.lst (s _ _ e))
 | .scr ns,_,_,n=>absurd rfl (n ns)
 | .dct z t ks vs,_,h,_=>by
  obtain⟨a,xs,rfl,d,_⟩:=h.dct_inv
  obtain⟨u,e1,e2⟩:=(d.mono s).rd
  exact .dd e2 (by
   unfold Vi at e1
   split at e1
   .obtain⟨kvs,rfl,_⟩:=e1;exact .inr ⟨kvs,rfl⟩
   .obtain⟨kvs,rfl,_⟩:=e1;exact .inl ⟨kvs,rfl⟩)
inductive Ty where
 | int | bool | tuple | list | str
noncomputable def Ty.nm:Ty->String
 | .int=>"int" | .bool=>"bool" | .tuple=>"tuple" | .list=>"list" | .str=>"str"
noncomputable def isT:Ty->D->Bool
 | .int,.int _=>true | .int,.bl _=>true
 | .bool,.bl _=>true
 | .tuple,.tup _=>true
 | .list,.lst _=>true
 | .str,.str _=>true
 | _,_=>false
noncomputable def zP (n:Ty):D->Option D
 | .scr _=>none
 | d=>some (.bl (isT n d))
theorem zkf (K:W.Frag)(n:Ty)(d:D)(h:∀ ns,d≠.scr ns):W.kitOne K (.type (tyN d)) (.type n.nm)=some (isT n d):=by
 cases n <;> cases d <;> first | exact absurd rfl (h _) | kernel_rfl
theorem zF {p:Pos} {f:Ev->Option D} (n:Ty) (hgl:Gl X "isinstance") (hm:X.mg "isinstance"=none) (ha:ED X a f) (hb:PE X b (tC (.ty n.nm)))
 (hs:starEach [a,b] X.env=(false,eval a X.env)::starEach [b] X.env:=by rfl) (hs2:starEach [b] X.env=(false,eval b X.env)::starEach [] X.env:=by rfl) (hpl:(backTo pos (starEach [b] X.env)).any (·.1)=false:=by rfl) :
 ED X (.Call (.Name "isinstance" p) [a,b] [] pos) (eUn (zP n) f):=by
 obtain⟨t,pa,ra⟩:=ha
 refine⟨_,XN V6 hgl hm Vn (Zt pa (Zt hb zam hs2) hs) (by decide) (by decide) hs hpl,fun σ ρ F H z Q s va e q=>?_⟩
 obtain⟨d,e1,e2⟩:=Option.bind_eq_some_iff.mp e
 refine ra σ ρ F H d _ s va e1 λF1 H1 v g1 a1=>?_
 have ns:∀ ns,d≠.scr ns:=λns h=>by subst h;cases e2
 have e3:z=.bl (isT n d):=by
  cases d <;> first | exact(Option.some.inj e2).symm | exact absurd rfl (ns _)
 subst e3
 exact⟨v,n.nm,_,_,rfl,a1.ty g1.fh ns,zkf _ n d ns,q F1 H1 _ g1 .bl⟩
noncomputable def vv (m:Bool)(i:Nat)(f:Ev->Option D):SE->Ctl:=fun ρ=>match (vEv m f ρ).bind λd=>match ρ[i]? with
 | some (.o ds)=>if decide (ds.length < sizeLine)=true then some (ρ.set i (.o (ds++[d])))else none
 | _=>none with
 | some ρ'=>.nx ρ'
 | none=>.no
theorem W4 {m:Bool}{i:Nat}{p pos':Pos}{f:Ev->Option D}(ho:PE X a (zhO i))(he:ED X e f)
 (hp:∀ {ta:TE} {t:TA},PE X a ta->PA X [e] t->PE X (.Call (.Attribute a "append" p) [e] [] pos') (tBM X.K "list" zfC ta t)) (hsw:swapsWith (.Call (.Attribute a "append" p) [e] [] pos') none pos.line X.env=pure false:=by rfl)
 (hs:starEach [e] X.env=(false,eval e X.env)::starEach [] X.env:=by rfl):SD X (.Expr (.Call (.Attribute a "append" p) [e] [] pos') pos) (vv m i f):=by
 obtain⟨t,pe,re⟩:=he
 refine⟨_,Vl (hp ho (Zt pe zam hs)) hsw,λFb Hb F H ρ σ E rl k=>?_⟩
 unfold vv at k
 cases h:(vEv m f ρ).bind λd=>match ρ[i]? with
  | some (.o ds)=>if decide (ds.length < sizeLine)=true then some (ρ.set i (.o (ds++[d])))else none
  | _=>none with
 | none=>rw[h]at k;exact k.elim
 | some ρ' =>
  rw[h]at k
  obtain⟨d,e1,e2⟩:=Option.bind_eq_some_iff.mp h
  cases hs:ρ[i]? with
  | none=>rw[hs]at e2;cases e2
  | some sl =>
   rw[hs]at e2
   cases sl with
   | no=>cases e2
   | v _=>cases e2
   | m _ _ _=>cases e2
   | o ds =>
    dsimp only at e2
    split at e2 <;> cases e2
    rename_i hl
    obtain⟨q,xs,f1,f2,f3,f4,f5⟩:=rl.owns i ds hs
    refine⟨_,f1,.inl ⟨rfl,xs,SqL.of f4⟩,?_⟩
    refine re.at rl e1 λF' H' v g av=>?_
    have rl2:=rl.grow g
    obtain⟨q2,xs2,f1',_,_,f4',f5'⟩:=rl2.owns i ds hs
    rw[f1]at f1'
    cases f1'
    refine⟨q,xs2,v,rfl,rfl,f4',by rw[f5'.length];exact of_decide_eq_true hl,?_⟩
    exact k _ _ σ (rl2.mutate hs f1 (f5'.snoc av))
noncomputable def YX (i:Nat)(f:Ev->Option D):SE->Ctl:=fun ρ=>match (f (visF ρ)).bind λd=>match ρ[i]?,d with
 | some (.o ds),.lst es=>if lim (ds.length+es.length)=true then some (ρ.set i (.o (ds++es)))else none
 | _,_=>none with
 | some ρ'=>.nx ρ'
 | none=>.no
theorem zkI {i:Nat}{p pos':Pos}{f:Ev->Option D}(ho:PE X a (zhO i))(he:ED X e f)
 (hp:∀ {ta:TE} {t:TA},PE X a ta->PA X [e] t->PE X (.Call (.Attribute a "extend" p) [e] [] pos') (tBM X.K "list" zeB ta t)) (hsw:swapsWith (.Call (.Attribute a "extend" p) [e] [] pos') none pos.line X.env=pure false:=by rfl)
 (hs:starEach [e] X.env=(false,eval e X.env)::starEach [] X.env:=by rfl):SD X (.Expr (.Call (.Attribute a "extend" p) [e] [] pos') pos) (YX i f):=by
 obtain⟨t,pe,re⟩:=he
 refine⟨_,Vl (hp ho (Zt pe zam hs)) hsw,λFb Hb F H ρ σ E rl k=>?_⟩
 unfold YX at k
 cases h:(f (visF ρ)).bind λd=>match ρ[i]?,d with
  | some (.o ds),.lst es=>if lim (ds.length+es.length)=true then some (ρ.set i (.o (ds++es)))else none
  | _,_=>none with
 | none=>rw[h]at k;exact k.elim
 | some ρ' =>
  rw[h]at k
  obtain⟨d,e1,e2⟩:=Option.bind_eq_some_iff.mp h
  cases hs:ρ[i]? with
  | none=>rw[hs]at e2;cases e2
  | some sl =>
   rw[hs]at e2
   cases sl with
   | no=>cases e2
   | v _=>cases e2
   | m _ _ _=>cases e2
   | o ds =>
    cases d with
    | lst es =>
     dsimp only at e2
     split at e2 <;> cases e2
     rename_i hl
     obtain⟨q,xs,f1,f2,f3,f4,f5⟩:=rl.owns i ds hs
     refine⟨_,f1,.inl ⟨rfl,xs,SqL.of f4⟩,?_⟩
     refine re σ _ _ H _ _ rl.gr.fh rl.visF e1 λF' H' v g av=>?_
     have rl2:=rl.grow g
     obtain⟨q2,xs2,f1',_,_,f4',f5'⟩:=rl2.owns i ds hs
     rw[f1]at f1'
     cases f1'
     obtain⟨pb,zs,rfl,hz,bl⟩:=av.lst_inv
     refine⟨q,pb,xs2,zs,rfl,rfl,f4',g.fh _ _ hz,by rw[f5'.length,bl.length];exact of_decide_eq_true hl,?_⟩
     exact k _ _ σ (rl2.mutate hs f1 (f5'.append bl))
    | _=>cases e2
end
end Dl
namespace Dl
open PySem L2
variable [KK]
noncomputable def okE:Nat->D->Bool
 | _,.scr _=>false
 | _,.dct _ _ _ _=>false
 | 0,.tup _=>false
 | 0,.lst _=>false
 | n+1,.tup ds=>ds.all (okE n)
 | n+1,.lst ds=>ds.all (okE n)
 | _,_=>true
noncomputable def eqN:Nat->D->D->Bool
 | _,.non,.non=>true
 | _,.bl a,.bl b=>a == b
 | _,.bl a,.int b=>(if a then 1 else 0) == b
 | _,.int a,.bl b=>a == (if b then 1 else 0)
 | _,.int a,.int b=>a == b
 | _,.str a,.str b=>a == b
 | n+1,.tup a,.tup b=>(List.zipWith (eqN n) a b).all id&&a.length == b.length
 | n+1,.lst a,.lst b=>(List.zipWith (eqN n) a b).all id&&a.length == b.length
 | _,_,_=>false
omit [KK] in
theorem Wl {n:Nat}:∀ (a b:List D),(List.zipWith (eqN n) a b).all id=(List.range (min a.length b.length)).all λj=>eqN n (a.getD j .non) (b.getD j .non):=by
 intro a b
 have:List.zipWith (eqN n) a b=(List.range (min a.length b.length)).map λj=>eqN n (a.getD j .non) (b.getD j .non):=by
  apply List.ext_getElem
  .simp
  .intro i h1 h2
   simp at h1 h2
   have g1:i < a.length:=Nat.lt_of_lt_of_le h1 (Nat.min_le_left _ _)
   have g2:i < b.length:=Nat.lt_of_lt_of_le h1 (Nat.min_le_right _ _)
   simp[g1,g2]
 rw[this,List.all_map]
 rfl
omit [KK] in
noncomputable def vOf:D->V
 | .bl b=>.bl b
 | .int i=>.int i
 | .str t=>.str t
 | _=>.non
theorem wl {F:Hp}{d:D}{x:V}(h:okE 0 d=true)(a:At F d x):x=vOf d:=by
 cases d with
 | non=>exact a.non_inv
 | bl b=>exact a.bl_inv
 | int b=>exact a.int_inv
 | str b=>exact a.str_inv
 | _=>cases h
omit [KK] in
theorem X2 {d:D}(h:okE 0 d=true):zhW (vOf d)=true:=by
 cases d <;> first | rfl | cases h
omit [KK] in
theorem Vp {d:D}{p:Addr}(h:okE 0 d=true)(e:vOf d=.ref p):False:=by
 cases d <;> first | (cases h;done) | (cases e;done)
noncomputable def dOfV:V->D
 | .bl b=>.bl b
 | .int i=>.int i
 | .str t=>.str t
 | _=>.non
omit [KK] in
theorem zeK {d:D}(h:okE 0 d=true):dOfV (vOf d)=d:=by
 cases d <;> first | rfl | (cases h;done)
omit [KK] in
theorem zfK {d e:D}(h1:okE 0 d=true)(h2:okE 0 e=true)(h:vOf d=vOf e):d=e:=by
 rw[<-zeK h1,h,zeK h2]
omit [KK] in
theorem wa {n:Nat}{d:D}(h:okE (n+1) d=true):okE 0 d=true\/(∃ ds,d=.tup ds/\ds.all (okE n)=true)\/∃ ds,d=.lst ds/\ds.all (okE n)=true:=by
 cases d with
 | tup ds=>exact .inr (.inl ⟨ds,rfl,h⟩)
 | lst ds=>exact .inr (.inr ⟨ds,rfl,h⟩)
 | scr _=>cases h
 | dct _ _ _ _=>cases h
 | _=>exact .inl rfl
theorem zd3 {F:Hp}{n:Nat}(ih:∀ {d e:D} {v:V},okE n d=true->okE n e=true->At F d v->At F e v->d=e):∀ {xs:List V} {ds es:List D},ds.all (okE n)=true->es.all (okE n)=true->AtL F ds xs->AtL F es xs->ds=es:=by
 intro xs
 induction xs with
 | nil =>
  intro ds es _ _ a1 a2
  exact(List.length_eq_zero_iff.mp a1.length.symm).trans (List.length_eq_zero_iff.mp a2.length.symm).symm
 | cons x xs ih2 =>
  intro ds es h1 h2 a1 a2
  cases ds with
  | nil=>cases a1.nil_inv
  | cons d ds=>cases es with
   | nil=>cases a2.nil_inv
   | cons e es =>
    obtain⟨y,r,e1,b1,c1⟩:=a1.cons_inv
    obtain⟨y2,r2,e2,b2,c2⟩:=a2.cons_inv
    cases e1
    cases e2
    rw[List.all_cons,Bool.and_eq_true]at h1 h2
    rw[ih2 h1.2 h2.2 c1 c2,ih h1.1 h2.1 b1 b2]
theorem zhx {F:Hp}:∀ (n:Nat) {d e:D} {v:V},okE n d=true->okE n e=true->At F d v->At F e v->d=e:=by
 intro n
 induction n with
 | zero =>
  intro d e v h1 h2 a1 a2
  exact zfK h1 h2 ((wl h1 a1).symm.trans (wl h2 a2))
 | succ n ih =>
  intro d e v h1 h2 a1 a2
  rcases wa h1 with f1 | ⟨ds,rfl,k1⟩ | ⟨ds,rfl,k1⟩
  .have e1:=wl f1 a1
   rcases wa h2 with f2 | ⟨es,rfl,_⟩ | ⟨es,rfl,_⟩
   .exact zfK f1 f2 (e1.symm.trans (wl f2 a2))
   .obtain⟨p,xs,e2,_⟩:=a2.tup_inv
    exact(Vp f1 (e1.symm.trans e2)).elim
   .obtain⟨p,xs,e2,_⟩:=a2.lst_inv
    exact(Vp f1 (e1.symm.trans e2)).elim
  .obtain⟨p,xs,e0,hx,al⟩:=a1.tup_inv
   rcases wa h2 with f2 | ⟨es,rfl,k2⟩ | ⟨es,rfl,k2⟩
   .exact(Vp f2 ((wl f2 a2).symm.trans e0)).elim
   .obtain⟨q,ys,e1,hy,bl⟩:=a2.tup_inv
    cases e0.symm.trans e1
    cases hx.symm.trans hy
    rw[zd3 ih k1 k2 al bl]
   .obtain⟨q,ys,e1,hy,bl⟩:=a2.lst_inv
    cases e0.symm.trans e1
    cases hx.symm.trans hy
  .obtain⟨p,xs,e0,hx,al⟩:=a1.lst_inv
   rcases wa h2 with f2 | ⟨es,rfl,k2⟩ | ⟨es,rfl,k2⟩
   .exact(Vp f2 ((wl f2 a2).symm.trans e0)).elim
   .obtain⟨q,ys,e1,hy,bl⟩:=a2.tup_inv
    cases e0.symm.trans e1
    cases hx.symm.trans hy
   .obtain⟨q,ys,e1,hy,bl⟩:=a2.lst_inv
    cases e0.symm.trans e1
    cases hx.symm.trans hy
    rw[zd3 ih k1 k2 al bl]
omit [KK] in
theorem zg5:∀ (n:Nat) {d:D},okE n d=true->eqN n d d=true:=by
 intro n
 induction n with
 | zero =>
  intro d h
  cases d with
  | tup _=>cases h
  | lst _=>cases h
  | scr _=>cases h
  | dct _ _ _ _=>cases h
  | _=>first | rfl | exact decide_eq_true rfl | exact beq_self_eq_true _
 | succ n ih =>
  have ihl:∀ {ds:List D},ds.all (okE n)=true->(List.zipWith (eqN n) ds ds).all id=true:=by
   intro ds
   induction ds with
   | nil=>intro _;rfl
   | cons d ds ih2 =>
    intro h
    rw[List.all_cons,Bool.and_eq_true]at h
    rw[List.zipWith_cons_cons,List.all_cons,ih2 h.2,Bool.and_true]
    exact ih h.1
  intro d h
  cases d with
  | tup ds=>show((List.zipWith (eqN n) ds ds).all id&&ds.length == ds.length)=true;rw[ihl h];simp
  | lst ds=>show((List.zipWith (eqN n) ds ds).all id&&ds.length == ds.length)=true;rw[ihl h];simp
  | scr _=>cases h
  | dct _ _ _ _=>cases h
  | _=>first | rfl | exact decide_eq_true rfl | exact beq_self_eq_true _
theorem zhv {F:Hp}(n:Nat){d e:D}{v:V}(h1:okE n d=true)(h2:okE n e=true)(a1:At F d v)(a2:At F e v):eqN n d e=true:=by
 rw[zhx n h1 h2 a1 a2]
 exact zg5 n h2
omit [KK] in
theorem xx {n:Nat}{ds:List D}{j:Nat}(h:ds.all (okE n)=true)(hj:j < ds.length):okE n (ds.getD j .non)=true:=by
 have:ds.getD j .non=ds[j]:=by simp[hj]
 rw[this]
 exact List.all_eq_true.mp h _ (List.getElem_mem hj)
theorem AtL.nth {F:Hp}{ds:List D}{xs:List V}{us:List Value}{j:Nat}(al:AtL F ds xs)(r:yw xs us)(h:j < us.length):∃ x,At F (ds.getD j .non) x/\yZ x us[j]:=by
 have hl:=al.length
 have hl2:=r.length
 have hj:j < ds.length:=by omega
 obtain⟨x,hx,ax⟩:=al.get (i:=j) (d:=ds[j]) (by simp[hj])
 obtain⟨u,hu,ru⟩:=r.get hx
 refine⟨x,by rw[show ds.getD j .non=ds[j] by simp[hj]];exact ax,?_⟩
 have:us[j]?=some us[j]:=by simp[h]
 rw[hu]at this
 cases this
 exact ru
omit [KK] in
theorem zcA {n:Nat}{d e:D}(h1:okE 0 d=true)(h2:okE 0 e=true):eqN n d e=eqV (vOf d) (vOf e):=by
 cases n <;> cases d <;> first | (cases h1;done) | skip
 all_goals cases e <;> first | (cases h2;done) | rfl
omit [KK] in
theorem zcn {n:Nat}{d:D}(ds:List D)(h:okE 0 d=true):eqN (n+1) d (.tup ds)=false/\eqN (n+1) d (.lst ds)=false/\eqN (n+1) (.tup ds) d=false/\eqN (n+1) (.lst ds) d=false:=by
 cases d <;> first | exact⟨rfl,rfl,rfl,rfl⟩ | cases h
omit [KK] in
theorem Vr {A:Around}{s:Shared}{d:D}{u:Value}{p:Addr}{its:Array Value}(h:okE 0 d=true)(r:yZ (vOf d) u)(hu:A.units < cLine) :
 (s.heap.IsTuple p its->SeqAt.EqAt A s u (.ref p) false/\SeqAt.EqAt A s (.ref p) u false)/\(s.heap.IsList p its->SeqAt.EqAt A s u (.ref p) false/\SeqAt.EqAt A s (.ref p) u false):=by
 cases d with
 | non=>cases r;exact⟨λht=>⟨.none_tuple ht hu,.tuple_none ht hu⟩,λht=>⟨.none_list ht hu,.list_none ht hu⟩⟩
 | bl b=>cases r;exact⟨λht=>⟨.bool_tuple b ht hu,.tuple_bool b ht hu⟩,λht=>⟨.bool_list b ht hu,.list_bool b ht hu⟩⟩
 | int b=>obtain⟨t,rfl⟩:=r;exact⟨λht=>⟨.int_tuple b t ht hu,.tuple_int b t ht hu⟩,λht=>⟨.int_list b t ht hu,.list_int b t ht hu⟩⟩
 | str b=>obtain⟨t,rfl⟩:=r;exact⟨λht=>⟨.str_tuple b t ht hu,.tuple_str b t ht hu⟩,λht=>⟨.str_list b t ht hu,.list_str b t ht hu⟩⟩
 | _=>cases h
theorem VF {X:Cx}{pins:List (Addr × Obj)}{σ:St}{F H:Hp}{s:Shared}(I:Inv X pins σ H s)(sm:yU F H){ds:List D}{x:V}{u:Value}(a:At F (.tup ds) x)(r:yZ x u):∃ p its xs,u=.ref p/\x=.ref p/\yw xs its/\AtL F ds xs/\s.heap.IsTuple p its.toArray:=by
 obtain⟨p,xs,rfl,hx,al⟩:=a.tup_inv
 cases r
 obtain⟨its,rv,ht,hz⟩:=I.tuple (SqT.of (sm _ _ hx))
 exact⟨p,its,xs,rfl,rfl,rv,al,ht⟩
theorem VG {X:Cx}{pins:List (Addr × Obj)}{σ:St}{F H:Hp}{s:Shared}(I:Inv X pins σ H s)(sm:yU F H){ds:List D}{x:V}{u:Value}(a:At F (.lst ds) x)(r:yZ x u):∃ p its xs,u=.ref p/\x=.ref p/\yw xs its/\AtL F ds xs/\s.heap.IsList p its.toArray:=by
 obtain⟨p,xs,rfl,hx,al⟩:=a.lst_inv
 cases r
 obtain⟨its,rv,ht,hz⟩:=I.list (SqL.of (sm _ _ hx))
 exact⟨p,its,xs,rfl,rfl,rv,al,ht.isList⟩
omit [KK] in
theorem zey {n:Nat}(ds es:List D):((List.zipWith (eqN n) ds es).all id&&ds.length == es.length)=((List.range (min ds.length es.length)).all (λj=>eqN n (ds.getD j .non) (es.getD j .non))&&ds.length == es.length):=by rw[Wl]
theorem WX {X:Cx}{pins:List (Addr × Obj)}{σ:St}{F H:Hp}{s:Shared}(I:Inv X pins σ H s)(sm:yU F H):∀ (n:Nat) {A:Around} {d e:D} {x y:V} {u v:Value},okE n d=true->okE n e=true->At F d x->At F e y->yZ x u->yZ y v->A.units+n < cLine->SeqAt.EqAt A s u v (eqN n d e):=by
 intro n
 induction n with
 | zero =>
  intro A d e x y u v h1 h2 a1 a2 r1 r2 hu
  cases wl h1 a1
  cases wl h2 a2
  rw[zcA h1 h2]
  exact zhu r1 r2 (X2 h1) (X2 h2)
 | succ n ih =>
  intro A d e x y u v h1 h2 a1 a2 r1 r2 hu
  have hu0:A.units < cLine:=Nat.lt_of_le_of_lt (Nat.le_add_right _ _) hu
  have hu1:A.units+1+n < cLine:=by rw[Nat.add_assoc,Nat.add_comm 1 n];exact hu
  rcases wa h1 with f1 | ⟨ds,rfl,k1⟩ | ⟨ds,rfl,k1⟩
  .cases wl f1 a1
   rcases wa h2 with f2 | ⟨es,rfl,k2⟩ | ⟨es,rfl,k2⟩
   .cases wl f2 a2
    rw[zcA f1 f2]
    exact zhu r1 r2 (X2 f1) (X2 f2)
   .obtain⟨q,its2,ys,rfl,_,_,_,ht2⟩:=VF I sm a2 r2
    rw[(zcn es f1).1]
    exact((Vr f1 r1 hu0).1 ht2).1
   .obtain⟨q,its2,ys,rfl,_,_,_,ht2⟩:=VG I sm a2 r2
    rw[(zcn es f1).2.1]
    exact((Vr f1 r1 hu0).2 ht2).1
  .obtain⟨p,its,xs,rfl,hxp,rv,al,ht⟩:=VF I sm a1 r1
   rcases wa h2 with f2 | ⟨es,rfl,k2⟩ | ⟨es,rfl,k2⟩
   .cases wl f2 a2
    rw[(zcn ds f2).2.2.1]
    exact((Vr f2 r2 hu0).1 ht).2
   .obtain⟨q,its2,ys,rfl,hyq,rv2,bl,ht2⟩:=VF I sm a2 r2
    by_cases hpq:p=q
    .subst hpq
     rw[hxp]at a1
     rw[hyq]at a2
     rw[zhv (n+1) h1 h2 a1 a2]
     exact .same _
    .have hl1:its.toArray.size=ds.length:=by rw[List.size_toArray,<- rv.length,al.length]
     have hl2:its2.toArray.size=es.length:=by rw[List.size_toArray,<- rv2.length,bl.length]
     have:=SeqAt.RcAt.tuples (A:=A) (e:=λj=>eqN n (ds.getD j .non) (es.getD j .non)) ht ht2 hu0 λj g1 g2=>by
      obtain⟨x',ax,rx⟩:=al.nth rv (j:=j) g1
      obtain⟨y',ay,ry⟩:=bl.nth rv2 (j:=j) g2
      exact ih (xx k1 (hl1 ▸ g1)) (xx k2 (hl2 ▸ g2)) ax ay rx ry hu1
     rw[hl1,hl2]at this
     rw[show eqN (n+1) (.tup ds) (.tup es)=_ from zey ds es]
     exact SeqAt.EqAt.of_refs hpq this
   .obtain⟨q,its2,ys,rfl,_,_,_,ht2⟩:=VG I sm a2 r2
    exact .tuple_list ht ht2 hu0
  .obtain⟨p,its,xs,rfl,hxp,rv,al,ht⟩:=VG I sm a1 r1
   rcases wa h2 with f2 | ⟨es,rfl,k2⟩ | ⟨es,rfl,k2⟩
   .cases wl f2 a2
    rw[(zcn ds f2).2.2.2]
    exact((Vr f2 r2 hu0).2 ht).2
   .obtain⟨q,its2,ys,rfl,_,_,_,ht2⟩:=VF I sm a2 r2
    exact .list_tuple ht ht2 hu0
   .obtain⟨q,its2,ys,rfl,hyq,rv2,bl,ht2⟩:=VG I sm a2 r2
    by_cases hpq:p=q
    .subst hpq
     rw[hxp]at a1
     rw[hyq]at a2
     rw[zhv (n+1) h1 h2 a1 a2]
     exact .same _
    .have hl1:its.toArray.size=ds.length:=by rw[List.size_toArray,<- rv.length,al.length]
     have hl2:its2.toArray.size=es.length:=by rw[List.size_toArray,<- rv2.length,bl.length]
     rw[show eqN (n+1) (.lst ds) (.lst es)=_ from zey ds es]
     by_cases hle:ds.length=es.length
     .have:=SeqAt.RcAt.lists (A:=A) (e:=λj=>eqN n (ds.getD j .non) (es.getD j .non)) ht ht2 (by rw[hl1,hl2,hle]) hu0 λj g1 g2=>by
       obtain⟨x',ax,rx⟩:=al.nth rv (j:=j) g1
       obtain⟨y',ay,ry⟩:=bl.nth rv2 (j:=j) g2
       exact ih (xx k1 (hl1 ▸ g1)) (xx k2 (hl2 ▸ g2)) ax ay rx ry hu1
      rw[hl1]at this
      rw[<-hle,Nat.min_self,beq_self_eq_true,Bool.and_true]
      exact SeqAt.EqAt.of_refs hpq this
     .have:=SeqAt.RcAt.lists_lengths (A:=A) ht ht2 (by rw[hl1,hl2];exact bne_iff_ne.mpr hle) hu0
      rw[beq_eq_false_iff_ne.mpr hle,Bool.and_false]
      exact SeqAt.EqAt.of_refs hpq this
noncomputable def zgf (d:D)(es:List D):Option Bool:=if okE 20 d=true/\es.all (okE 20)=true then some (es.any λe=>eqN 20 e d)else none
noncomputable def inD (d e:D):Option D:=(yu e).bind λes=>(zgf d es).map .bl
noncomputable def zd2 (d e:D):Option D:=(yu e).bind λes=>(zgf d es).map λb=>.bl (!b)
open Classical in
noncomputable def zaW (F:Hp)(d:D)(u:Value):Bool:=decide (∃ d0 x,At F d0 x/\yZ x u/\okE 20 d0=true/\eqN 20 d0 d=true)
open Classical in
theorem zbz {F:Hp}{d d0:D}{x:V}{u:Value}(a:At F d0 x)(r:yZ x u)(k:okE 20 d0=true):zaW F d u=eqN 20 d0 d:=by
 unfold zaW
 cases h:eqN 20 d0 d with
 | true=>exact decide_eq_true ⟨d0,x,a,r,k,h⟩
 | false =>
  refine decide_eq_false ?_
  rintro⟨d1,y,a1,r1,k1,h1⟩
  have e:=r1.inj r
  subst e
  rw[zhx 20 k1 k a1 a]at h1
  rw[h1]at h
  cases h
theorem Z0 {F:Hp}{d:D}:∀ {ds:List D} {xs:List V} {us:List Value},AtL F ds xs->yw xs us->ds.all (okE 20)=true->us.any (zaW F d)=ds.any λe=>eqN 20 e d
 | [],_,_,al,r,_=>by cases al.nil_inv;cases r;rfl
 | e::ds,_,_,al,r,k=>by
  obtain⟨x,xs,rfl,a1,a2⟩:=al.cons_inv
  cases r with
  | cons r1 r2 =>
   rw[List.all_cons,Bool.and_eq_true]at k
   rw[List.any_cons,List.any_cons,zbz a1 r1 k.1,Z0 a2 r2 k.2]
section
variable {X:Cx}
noncomputable def zll (neg:Bool):R2:=λx y H Q=>∃ F d e es b,yU F H/\At F d x/\At F e y/\yu e=some es/\zgf d es=some b/\Q (.bl (if neg then !b else b)) H
theorem zkt {k:Nat}(hr:YK k X.A):OpR X (compareOp .In) (zll false):=by
 intro pins s σ H x y v u Q I rx ry h
 obtain⟨F,d,e,es,b,sm,a1,a2,hs,hb,q⟩:=h
 unfold zgf at hb
 split at hb <;> cases hb
 rename_i hk
 have hu:X.A.in1.units+20 < cLine:=by have:=hr.un;show X.A.units+1+20 < cLine;omega
 have mem:∀ {xs:List V} {us:List Value},AtL F es xs->yw xs us->∀ z∈us,SeqAt.EqAt X.A.in1 s z v (zaW F d z):=λ{xs us} al r z hz=>by
  obtain⟨j,hj,rfl⟩:=List.getElem_of_mem hz
  obtain⟨x',ax,rx'⟩:=al.nth r hj
  have hj':j < es.length:=by have:=al.length;have:=r.length;omega
  have k2:=xx hk.2 hj'
  rw[zbz ax rx' k2]
  exact WX I sm 20 k2 hk.1 ax a1 rx' rx hu
 cases e <;> cases hs
 .obtain⟨p,xs,rfl,hx,al⟩:=a2.tup_inv
  cases ry
  obtain⟨its,r,pl,hz⟩:=I.tuple (SqT.of (sm _ _ hx))
  refine SeqAt.in_tupleAt (zaW F d) pl (λz hz=>mem al r z (by simpa using hz)) ⟨.bl _,H,I,rfl,?_⟩
  rw[show its.toArray.any (zaW F d)=its.any (zaW F d) by simp,Z0 al r hk.2]
  exact q
 .obtain⟨p,xs,rfl,hx,al⟩:=a2.lst_inv
  cases ry
  obtain⟨its,r,pl,hz⟩:=I.list (SqL.of (sm _ _ hx))
  refine SeqAt.in_listAt (zaW F d) pl.isList (λz hz=>mem al r z (by simpa using hz)) ⟨.bl _,H,I,rfl,?_⟩
  rw[show its.toArray.any (zaW F d)=its.any (zaW F d) by simp,Z0 al r hk.2]
  exact q
theorem zes {k:Nat}(hr:YK k X.A):OpR X (compareOp .NotIn) (zll true):=by
 intro pins s σ H x y v u Q I rx ry h
 obtain⟨F,d,e,es,b,sm,a1,a2,hs,hb,q⟩:=h
 unfold zgf at hb
 split at hb <;> cases hb
 rename_i hk
 have hu:X.A.in1.units+20 < cLine:=by have:=hr.un;show X.A.units+1+20 < cLine;omega
 have mem:∀ {xs:List V} {us:List Value},AtL F es xs->yw xs us->∀ z∈us,SeqAt.EqAt X.A.in1 s z v (zaW F d z):=λ{xs us} al r z hz=>by
  obtain⟨j,hj,rfl⟩:=List.getElem_of_mem hz
  obtain⟨x',ax,rx'⟩:=al.nth r hj
  have hj':j < es.length:=by have:=al.length;have:=r.length;omega
  have k2:=xx hk.2 hj'
  rw[zbz ax rx' k2]
  exact WX I sm 20 k2 hk.1 ax a1 rx' rx hu
 cases e <;> cases hs
 .obtain⟨p,xs,rfl,hx,al⟩:=a2.tup_inv
  cases ry
  obtain⟨its,r,pl,hz⟩:=I.tuple (SqT.of (sm _ _ hx))
  refine SeqAt.notIn_tupleAt (zaW F d) pl (λz hz=>mem al r z (by simpa using hz)) ⟨.bl _,H,I,rfl,?_⟩
  rw[show its.toArray.any (zaW F d)=its.any (zaW F d) by simp,Z0 al r hk.2]
  exact q
 .obtain⟨p,xs,rfl,hx,al⟩:=a2.lst_inv
  cases ry
  obtain⟨its,r,pl,hz⟩:=I.list (SqL.of (sm _ _ hx))
  refine SeqAt.notIn_listAt (zaW F d) pl.isList (λz hz=>mem al r z (by simpa using hz)) ⟨.bl _,H,I,rfl,?_⟩
  rw[show its.toArray.any (zaW F d)=its.any (zaW F d) by simp,Z0 al r hk.2]
  exact q
theorem zkx:OpD (zll false) inD:=by
 intro F H x y d e z Q s ax ay ez q
 obtain⟨es,e1,e2⟩:=Option.bind_eq_some_iff.mp ez
 obtain⟨b,e3,rfl⟩:=Option.map_eq_some_iff.mp e2
 exact⟨F,d,e,es,b,s,ax,ay,e1,e3,q F H _ (.refl s) .bl⟩
theorem zfc:OpD (zll true) zd2:=by
 intro F H x y d e z Q s ax ay ez q
 obtain⟨es,e1,e2⟩:=Option.bind_eq_some_iff.mp ez
 obtain⟨b,e3,rfl⟩:=Option.map_eq_some_iff.mp e2
 exact⟨F,d,e,es,b,s,ax,ay,e1,e3,q F H _ (.refl s) .bl⟩
noncomputable def eqG (d e:D):Option Bool:=match d,e with
 | .tup _,.tup _=>if okE 20 d=true/\okE 20 e=true then some (eqN 20 d e)else none
 | .lst _,.lst _=>if okE 20 d=true/\okE 20 e=true then some (eqN 20 d e)else none
 | _,_=>eqS d e
noncomputable def Vs (d e:D):Option D:=(eqG d e).map .bl
noncomputable def zlh:R2:=λx y H Q=>∃ F d e,yU F H/\At F d x/\At F e y/\((∃ ds es,d=.tup ds/\e=.tup es)\/(∃ ds es,d=.lst ds/\e=.lst es))/\okE 20 d=true/\okE 20 e=true/\Q (.bl (eqN 20 d e)) H
theorem zkG {k:Nat}(hr:YK k X.A):OpR X (compareOp .Eq) zlh:=by
 intro pins s σ H x y v u Q I rx ry h
 obtain⟨F,d,e,sm,a1,a2,hk,k1,k2,q⟩:=h
 have hu:X.A.units+30 < cLine:=by have:=hr.un;omega
 rcases hk with ⟨ds,es,rfl,rfl⟩ | ⟨ds,es,rfl,rfl⟩
 .obtain⟨p,xs,rfl,hx,al⟩:=a1.tup_inv
  obtain⟨p2,ys,rfl,hy,bl⟩:=a2.tup_inv
  cases rx
  cases ry
  obtain⟨its,r,ht,hz⟩:=I.tuple (SqT.of (sm _ _ hx))
  obtain⟨its2,r2,ht2,hz2⟩:=I.tuple (SqT.of (sm _ _ hy))
  have hl1:its.toArray.size=ds.length:=by rw[List.size_toArray,<- r.length,al.length]
  have hl2:its2.toArray.size=es.length:=by rw[List.size_toArray,<- r2.length,bl.length]
  refine SeqAt.eq_tupleAt (e:=λj=>eqN 19 (ds.getD j .non) (es.getD j .non)) (show s.heap.IsTuple p its.toArray from ht) (show s.heap.IsTuple p2 its2.toArray from ht2) (by omega) (λj g1 g2=>?_) ⟨.bl _,H,I,rfl,?_⟩
  .obtain⟨x',ax,rx⟩:=al.nth r (j:=j) (by simpa using g1)
   obtain⟨y',ay,ry⟩:=bl.nth r2 (j:=j) (by simpa using g2)
   exact WX I sm 19 (xx k1 (by rw[<-hl1];exact g1)) (xx k2 (by rw[<-hl2];exact g2)) ax ay (by simpa using rx) (by simpa using ry) (Nat.lt_of_le_of_lt (show X.A.units+20<=X.A.units+30 from Nat.add_le_add_left (by decide) _) hu)
  .rw[hl1,hl2,<- Wl]
   exact q
 .obtain⟨p,xs,rfl,hx,al⟩:=a1.lst_inv
  obtain⟨p2,ys,rfl,hy,bl⟩:=a2.lst_inv
  cases rx
  cases ry
  obtain⟨its,r,ht,hz⟩:=I.list (SqL.of (sm _ _ hx))
  obtain⟨its2,r2,ht2,hz2⟩:=I.list (SqL.of (sm _ _ hy))
  have hl1:its.toArray.size=ds.length:=by rw[List.size_toArray,<- r.length,al.length]
  have hl2:its2.toArray.size=es.length:=by rw[List.size_toArray,<- r2.length,bl.length]
  have e1:eqN 20 (.lst ds) (.lst es)=((List.range (min ds.length es.length)).all (λj=>eqN 19 (ds.getD j .non) (es.getD j .non))&&ds.length == es.length):=by
   show((List.zipWith (eqN 19) ds es).all id&&ds.length == es.length)=_
   rw[Wl]
  by_cases hle:ds.length=es.length
  .refine SeqAt.eq_listAt (e:=λj=>eqN 19 (ds.getD j .non) (es.getD j .non)) ht.isList ht2.isList (by rw[hl1,hl2];exact hle) (Nat.lt_of_le_of_lt (Nat.le_add_right _ 30) hu) (λj g1 g2=>?_) ⟨.bl _,H,I,rfl,?_⟩
   .obtain⟨x',ax,rx⟩:=al.nth r (j:=j) (by simpa using g1)
    obtain⟨y',ay,ry⟩:=bl.nth r2 (j:=j) (by simpa using g2)
    exact WX I sm 19 (xx k1 (by rw[<-hl1];exact g1)) (xx k2 (by rw[<-hl2];exact g2)) ax ay (by simpa using rx) (by simpa using ry) (Nat.lt_of_le_of_lt (show X.A.units+20<=X.A.units+30 from Nat.add_le_add_left (by decide) _) hu)
   .rw[hl1]
    rw[e1,<- hle,Nat.min_self]at q
    simpa using q
  .refine SeqAt.eq_list_lengthsAt ht.isList ht2.isList (by rw[hl1,hl2];simpa using hle) (Nat.lt_of_le_of_lt (Nat.le_add_right _ 30) hu) ⟨.bl _,H,I,rfl,?_⟩
   have:(ds.length == es.length)=false:=by simpa using hle
   rw[e1,this,Bool.and_false]at q
   exact q
theorem ziE:OpD zlh (λd e=>match d,e with
 | .tup _,.tup _=>if okE 20 d=true/\okE 20 e=true then some (.bl (eqN 20 d e))else none
 | .lst _,.lst _=>if okE 20 d=true/\okE 20 e=true then some (.bl (eqN 20 d e))else none
 | _,_=>none):=by
 intro F H x y d e z Q s ax ay ez q
 dsimp only at ez
 split at ez
 .split at ez <;> cases ez
  rename_i hk
  exact⟨F,_,_,s,ax,ay,.inl ⟨_,_,rfl,rfl⟩,hk.1,hk.2,q F H _ (.refl s) .bl⟩
 .split at ez <;> cases ez
  rename_i hk
  exact⟨F,_,_,s,ax,ay,.inr ⟨_,_,rfl,rfl⟩,hk.1,hk.2,q F H _ (.refl s) .bl⟩
 .cases ez
theorem Wr {k:Nat}(hr:YK k X.A):OpR X (compareOp .Eq) (λx y H Q=>rEq x y H Q\/zlh x y H Q):=zlI.or (zkG hr)
theorem Zu:OpD (λx y H Q=>rEq x y H Q\/zlh x y H Q) Vs:=by
 refine zbD (zaM zhG ziE) λd e z h=>?_
 obtain⟨b,hb,rfl⟩:=Option.map_eq_some_iff.mp h
 unfold eqG at hb
 split at hb
 .split at hb <;> cases hb
  rename_i hk
  show(Option.or none (if okE 20 _=true/\okE 20 _=true then some (D.bl (eqN 20 _ _))else none))=_
  rw[if_pos hk]
  rfl
 .split at hb <;> cases hb
  rename_i hk
  show(Option.or none (if okE 20 _=true/\okE 20 _=true then some (D.bl (eqN 20 _ _))else none))=_
  rw[if_pos hk]
  rfl
 .show((eqD d e).or _)=_
  unfold eqD
  rw[hb]
  rfl
theorem XS {pins:List (Addr × Obj)}{σ:St}{H:Hp}{s:Shared}{a:Addr}{xs:List V}{A:Around}{Q:Value->Shared->Prop}{E:Value->Shared->Prop}(I:Inv X pins σ H s)(hh:A.handled=none)(h:SqL X.K H a xs\/SqT X.K H a xs)
 (k:∀ (it:Addr) (its:List Value) (fp wr:List Addr) (St:Nat->Heap->Prop) (s₂:Shared),yw xs its->Walks X.prog X.w A it fp wr its.length (λi v=>its[i]?=some v) St->St 0 s₂.heap->(∀ b∈fp,b < s₂.heap.objs.size) ->
  (∀ (h':Heap) (tk:Nat),(∀ b o,b∉wr->s₂.heap.get? b=some o->h'.get? b=some o)->Inv X pins σ H { s₂ with heap:=h',toks:=tk })->Q (.ref it) s₂) :
 wpAny (model X.prog X.w) A (pyIter (.ref a)) Q E s:=by
 have back:∀ {o:Obj} {s₂:Shared},s₂={ s with heap:=s.heap.push o }->∀ (h':Heap) (tk:Nat),(∀ b u,b∉[s.heap.objs.size]->s₂.heap.get? b=some u->h'.get? b=some u)->Inv X pins σ H { s₂ with heap:=h',toks:=tk }:=λ{o s₂} e h' tk kk=>by
  subst e
  exact I.kept (t':=tk) λb u z=>kk b u (by simpa using Nat.ne_of_lt (Heap.lt_size z)) (Heap.get?_push_of_some _ z)
 rcases h with h | h
 .obtain⟨its,rv,p,hz⟩:=I.list h
  have lt:a < s.heap.objs.size:=by obtain⟨o,n,ho,_⟩:=p;exact Heap.lt_size ho
  refine wpAny_pyIter_list p.isList ?_
  have W:=Walks.list (prog:=X.prog) (w:=X.w) (A:=A) hh s.heap.objs.size a (Nat.ne_of_lt lt) its.toArray
  refine k s.heap.objs.size its [s.heap.objs.size,a] [s.heap.objs.size] (λi h=>h.IsListIter s.heap.objs.size a i/\h.IsList a its.toArray) _ rv (by simpa using W) ⟨⟨_,Heap.get?_push_size _ rfl,rfl,rfl⟩,p.isList.at λo e=>Heap.get?_push_of_some _ e⟩ (λb hb=>?_) (back rfl)
  show b < (s.heap.push _).objs.size
  rw[Heap.size_push]
  rcases List.mem_cons.mp hb with rfl | hb
  .exact Nat.lt_succ_self _
  .rw[List.mem_singleton.mp hb];exact Nat.lt_succ_of_lt lt
 .obtain⟨its,rv,p,hz⟩:=I.tuple h
  have p':s.heap.IsTuple a its.toArray:=p
  have lt:a < s.heap.objs.size:=by obtain⟨o,ho,_⟩:=p;exact Heap.lt_size ho
  refine wpAny_pyIter_tuple p' ?_
  have W:=Walks.tuple (prog:=X.prog) (w:=X.w) (A:=A) hh s.heap.objs.size a (Nat.ne_of_lt lt) its.toArray
  refine k s.heap.objs.size its [s.heap.objs.size,a] [s.heap.objs.size] (λi h=>h.IsTupleIter s.heap.objs.size a i/\h.IsTuple a its.toArray) _ rv (by simpa using W) ⟨⟨_,Heap.get?_push_size _ rfl,rfl,rfl⟩,p'.at λo e=>Heap.get?_push_of_some _ e⟩ (λb hb=>?_) (back rfl)
  show b < (s.heap.push _).objs.size
  rw[Heap.size_push]
  rcases List.mem_cons.mp hb with rfl | hb
  .exact Nat.lt_succ_self _
  .rw[List.mem_singleton.mp hb];exact Nat.lt_succ_of_lt lt
end
end Dl
namespace Dl
open PySem L2
variable [KK]
omit [KK] in
theorem zd8 {bs:List Bool}:(List.range bs.length).all (λi=>bs.getD i false)=bs.all id:=by
 have:bs=(List.range bs.length).map λi=>bs.getD i false:=by
  apply List.ext_getElem
  .simp
  .intro i h1 h2
   simp[h1]
 conv=>rhs;rw[this]
 rw[List.all_map]
 rfl
omit [KK] in
theorem zeU:∀ (ns:List Int) (n:Nat),n<=ns.length->preSum (λi=>ns.getD i 0) n=(ns.take n).sum:=by
 intro ns n
 induction n with
 | zero=>intro _;simp[preSum]
 | succ n ih =>
  intro h
  show preSum (λi=>ns.getD i 0) n+ns.getD n 0=_
  rw[ih (by omega),List.take_succ,List.sum_append]
  have:ns[n]?=some ns[n]:=by simp[show n < ns.length by omega]
  simp[this]
section
variable {X:Cx}
omit [KK] in
theorem zhY {bs:List Bool}{its:List Value}{i:Nat}{v:Value}(r:yw (bs.map V.bl) its)(h:its[i]?=some v):v=.bool (bs.getD i false):=by
 have hl:=r.length
 have hi:i < its.length:=(List.getElem?_eq_some_iff.mp h).1
 rw[List.length_map]at hl
 obtain⟨u,hu,ru⟩:=r.get (i:=i) (x:=.bl (bs[i]'(by omega))) (by rw[List.getElem?_map];simp[show i < bs.length by omega])
 rw[h]at hu
 cases hu
 cases ru
 simp[show i < bs.length by omega]
omit [KK] in
theorem v0 {ns:List Int}{its:List Value}{i:Nat}{v:Value}(r:yw (ns.map V.int) its)(h:its[i]?=some v):∃ t,v=.int (ns.getD i 0) t:=by
 have hl:=r.length
 have hi:i < its.length:=(List.getElem?_eq_some_iff.mp h).1
 rw[List.length_map]at hl
 obtain⟨u,hu,ru⟩:=r.get (i:=i) (x:=.int (ns[i]'(by omega))) (by rw[List.getElem?_map];simp[show i < ns.length by omega])
 rw[h]at hu
 cases hu
 obtain⟨t,rfl⟩:=ru
 exact⟨t,by simp[show i < ns.length by omega]⟩
theorem zac (hc:X.calm=true):Yr X (.builtin "all") (λxs H Q=>∃ (p:Addr) (bs:List Bool),xs=[.ref p]/\(SqL X.K H p (bs.map V.bl)\/SqT X.K H p (bs.map V.bl))/\Q (.bl (bs.all id)) H):=by
 intro pins s σ H xs us Q I r h
 obtain⟨p,bs,rfl,hq,q⟩:=h
 obtain⟨u,rfl,ru⟩:=Ws r
 cases ru
 refine call_all_walk (XS I (I.ok.hd hc) hq λit its fp wr St s₂ rv W st fpl back=>?_)
 have hl:=rv.length
 rw[List.length_map]at hl
 refine⟨it,fp,wr,_,_,St,λi=>bs.getD i false,rfl,W,st,λi v s Q E hv hQ=>?_,λh' tk kk=>⟨.bl _,H,back h' tk kk,rfl,?_⟩⟩
 .rw[zhY rv hv]
  exact wpAny_truthy_bool hQ
 .rw[<-hl,zd8]
  exact q
theorem zae (hc:X.calm=true):Yr X (.builtin "sum") (λxs H Q=>∃ (p:Addr) (ns:List Int),xs=[.ref p]/\(SqL X.K H p (ns.map V.int)\/SqT X.K H p (ns.map V.int))/\Q (.int ns.sum) H):=by
 intro pins s σ H xs us Q I r h
 obtain⟨p,ns,rfl,hq,q⟩:=h
 obtain⟨u,rfl,ru⟩:=Ws r
 cases ru
 refine call_sum_walkG (XS I (I.ok.hd hc) hq λit its fp wr St s₂ rv W st fpl back=>?_)
 have hl:=rv.length
 rw[List.length_map]at hl
 refine⟨it,fp,wr,_,_,St,λi=>ns.getD i 0,rfl,W,st,fpl,λi v hv=>v0 rv hv,λh' tk t' kk=>⟨.int ns.sum,H,back h' tk kk,?_,q⟩⟩
 refine⟨t',?_⟩
 rw[<-hl,zeU ns _ (Nat.le_refl _),List.take_length]
noncomputable def zlf (ns:List Int):Int:=(ns.max?).getD 0
noncomputable def zcB (ns:List Int):Int:=(ns.min?).getD 0
omit [KK] in
theorem zeS (f:Nat→Int):∀ k i,i≤k→f i≤f (argBest (fun i j=>decide (f j < f i)) k)∧argBest (fun i j=>decide (f j < f i)) k≤k:=by
  intro k
  induction k with
  | zero => intro i hi; have : i = 0 := by omega
            subst this;exact ⟨Int.le_refl _,Nat.le_refl _⟩
  | succ k ih =>
    intro i hi
    unfold argBest
    obtain ⟨h1,h2⟩:=ih (min i k) (Nat.min_le_right _ _)
    split
    · rename_i hc
      have hc:f (argBest (fun i j=>decide (f j < f i)) k) < f (k+1):=of_decide_eq_true hc
      refine ⟨?_,Nat.le_refl _⟩
      by_cases hik:i≤k
      · rw [Nat.min_eq_left hik] at h1;omega
      · have:i=k+1:=by omega
        subst this;exact Int.le_refl _
    · rename_i hc
      have hc:¬ f (argBest (fun i j=>decide (f j < f i)) k) < f (k+1):=fun z=>hc (decide_eq_true z)
      refine ⟨?_,by omega⟩
      by_cases hik:i≤k
      · rw [Nat.min_eq_left hik] at h1;exact h1
      · have:i=k+1:=by omega
        subst this;omega
omit [KK] in
theorem zkm {ns:List Int}{m:Int}(h1:m∈ns)(h2:∀ x∈ns,x<=m):zlf ns=m:=by
 unfold zlf
 rw[List.max?_eq_some_iff.mpr ⟨h1,h2⟩]
 rfl
omit [KK] in
theorem zkK {ns:List Int}{m:Int}(h1:m∈ns)(h2:∀ x∈ns,m<=x):zcB ns=m:=by
 unfold zcB
 rw[List.min?_eq_some_iff.mpr ⟨h1,h2⟩]
 rfl
omit [KK] in
theorem getD_mem {ns:List Int}{k:Nat}(h:k < ns.length):ns.getD k 0∈ns:=by
 rw[List.getD_eq_getElem?_getD,List.getElem?_eq_getElem h]
 exact List.getElem_mem h
omit [KK] in
theorem getD_at {ns:List Int}{k:Nat}(h:k < ns.length):ns.getD k 0=ns[k]:=by
 rw[List.getD_eq_getElem?_getD,List.getElem?_eq_getElem h]
 rfl
theorem zjM (hc:X.calm=true):Yr X (.builtin "max") (λxs H Q=>∃ (p:Addr) (ns:List Int),xs=[.ref p]/\(SqL X.K H p (ns.map V.int)\/SqT X.K H p (ns.map V.int))/\ns≠[]/\Q (.int (zlf ns)) H):=by
 intro pins s σ H xs us Q I r h
 obtain⟨p,ns,rfl,hq,hne,q⟩:=h
 obtain⟨u,rfl,ru⟩:=Ws r
 cases ru
 refine call_max_walk (XS I (I.ok.hd hc) hq λit its fp wr St s₂ rv W st fpl back=>?_)
 have hl:=rv.length
 rw[List.length_map]at hl
 have hpos:0 < ns.length:=List.length_pos_iff.mpr hne
 refine⟨it,fp,wr,_,_,St,λi j=>decide (ns.getD j 0 < ns.getD i 0),rfl,W,st,fpl,by omega,λi j vi vj s Q E hi hj hQ=>?_,λv h' tk hv kk=>?_⟩
 .obtain⟨t1,rfl⟩:=v0 rv hi
  obtain⟨t2,rfl⟩:=v0 rv hj
  exact PyProof.Rows.gt_int hQ
 .obtain⟨t,rfl⟩:=v0 rv hv
  refine⟨.int (zlf ns),H,back h' tk kk,⟨t,?_⟩,q⟩
  have key:=zeS (λi=>ns.getD i 0) (its.length - 1)
  have hb:argBest (λi j=>decide (ns.getD j 0 < ns.getD i 0)) (its.length - 1) < ns.length:=by
   have:=(key 0 (Nat.zero_le _)).2
   omega
  rw[zkm (m:=ns.getD (argBest (λi j=>decide (ns.getD j 0 < ns.getD i 0)) (its.length - 1)) 0)]
  .exact getD_mem hb
  .intro x hx
   obtain⟨j,hj,rfl⟩:=List.getElem_of_mem hx
   have:=(key j (by omega)).1
   rw[<-getD_at hj]
   exact this
theorem ze4 (hc:X.calm=true):Yr X (.builtin "min") (λxs H Q=>∃ (p:Addr) (ns:List Int),xs=[.ref p]/\(SqL X.K H p (ns.map V.int)\/SqT X.K H p (ns.map V.int))/\ns≠[]/\Q (.int (zcB ns)) H):=by
 intro pins s σ H xs us Q I r h
 obtain⟨p,ns,rfl,hq,hne,q⟩:=h
 obtain⟨u,rfl,ru⟩:=Ws r
 cases ru
 refine call_min_walk (XS I (I.ok.hd hc) hq λit its fp wr St s₂ rv W st fpl back=>?_)
 have hl:=rv.length
 rw[List.length_map]at hl
 have hpos:0 < ns.length:=List.length_pos_iff.mpr hne
 refine⟨it,fp,wr,_,_,St,λi j=>decide (ns.getD i 0 < ns.getD j 0),rfl,W,st,fpl,by omega,λi j vi vj s Q E hi hj hQ=>?_,λv h' tk hv kk=>?_⟩
 .obtain⟨t1,rfl⟩:=v0 rv hi
  obtain⟨t2,rfl⟩:=v0 rv hj
  exact PyProof.Rows.lt_int hQ
 .obtain⟨t,rfl⟩:=v0 rv hv
  refine⟨.int (zcB ns),H,back h' tk kk,⟨t,?_⟩,q⟩
  have key:=zeS (λi=>- ns.getD i 0) (its.length - 1)
  have e0:(λi j=>decide (ns.getD i 0 < ns.getD j 0))=λi j=>decide (-ns.getD j 0 < -ns.getD i 0):=by
   funext i j
   congr 1
   apply propext
   constructor <;> intro h <;> omega
  rw[e0]
  have hb:argBest (λi j=>decide (-ns.getD j 0 < -ns.getD i 0)) (its.length - 1) < ns.length:=by
   have:=(key 0 (Nat.zero_le _)).2
   omega
  rw[zkK (m:=ns.getD (argBest (λi j=>decide (-ns.getD j 0 < -ns.getD i 0)) (its.length - 1)) 0)]
  .exact getD_mem hb
  .intro x hx
   obtain⟨j,hj,rfl⟩:=List.getElem_of_mem hx
   have:=(key j (by omega)).1
   rw[<-getD_at hj]
   omega
noncomputable def zh0:List D->Option (List Bool)
 | []=>some []
 | .bl b::ds=>(zh0 ds).map (b::·)
 | _=>none
noncomputable def zdy:List D->Option (List Int)
 | []=>some []
 | .int b::ds=>(zdy ds).map (b::·)
 | _=>none
omit [KK] in
theorem zd7:∀ {ds:List D} {bs:List Bool},zh0 ds=some bs->ds=bs.map .bl
 | [],bs,h=>by cases h;rfl
 | d::ds,bs,h=>by
  cases d <;> try cases h
  obtain⟨cs,h1,rfl⟩:=Option.map_eq_some_iff.mp h
  rw[zd7 h1]
  rfl
omit [KK] in
theorem Vk:∀ {ds:List D} {bs:List Int},zdy ds=some bs->ds=bs.map .int
 | [],bs,h=>by cases h;rfl
 | d::ds,bs,h=>by
  cases d <;> try cases h
  obtain⟨cs,h1,rfl⟩:=Option.map_eq_some_iff.mp h
  rw[Vk h1]
  rfl
omit [KK] in
theorem zhc (bs:List Bool):zh0 (bs.map .bl)=some bs:=by
 induction bs with
 | nil=>rfl
 | cons b r ih=>show(zh0 (r.map .bl)).map (b::·)=_;rw[ih];rfl
omit [KK] in
theorem X3 (bs:List Int):zdy (bs.map .int)=some bs:=by
 induction bs with
 | nil=>rfl
 | cons b r ih=>show(zdy (r.map .int)).map (b::·)=_;rw[ih];rfl
theorem AtL.of_bls {H:Hp}:∀ {ns:List Bool} {xs:List V},AtL H (ns.map D.bl) xs->xs=ns.map V.bl
 | [],_,h=>h.nil_inv
 | n::r,_,h=>by
  obtain⟨x,r',rfl,h1,h2⟩:=AtL.cons_inv (by simpa using h)
  rw[h1.bl_inv,AtL.of_bls h2]
  rfl
noncomputable def zjN {α:Type}(as:List D->Option α)(g:α->Option D):List D->Option D
 | [d]=>((yu d).bind as).bind g
 | _=>none
theorem zbt {K:W.Frag}{F H:Hp}{vs:List V}{ds:List D}{z:D}{α:Type}{as:List D->Option α}{g:α->Option D}(s:yU F H)(al:AtL F ds vs)(e:zjN as g ds=some z) :
 ∃ p es xs b,vs=[.ref p]/\(SqL K H p xs\/SqT K H p xs)/\AtL F es xs/\as es=some b/\g b=some z:=by
 unfold zjN at e
 split at e
 .obtain⟨b,e1,e2⟩:=Option.bind_eq_some_iff.mp e
  obtain⟨es,e3,e4⟩:=Option.bind_eq_some_iff.mp e1
  obtain⟨x,r,rfl,ax,ar⟩:=al.cons_inv
  cases ar.nil_inv
  rename_i d
  cases d <;> cases e3
  .obtain⟨p,xs,rfl,hx,bl⟩:=ax.tup_inv
   exact⟨p,_,xs,b,rfl,.inr (SqT.of (s _ _ hx)),bl,e4,e2⟩
  .obtain⟨p,xs,rfl,hx,bl⟩:=ax.lst_inv
   exact⟨p,_,xs,b,rfl,.inl (SqL.of (s _ _ hx)),bl,e4,e2⟩
 .cases e
noncomputable def zhE:=zjN zh0 λbs=>some (.bl (bs.all id))
noncomputable def zjd:=zjN zdy λns=>some (.int ns.sum)
noncomputable def zgH:=zjN zdy λns=>if ns=[]then none else some (.int (zcB ns))
theorem zeZ {K:W.Frag}:CaD (λxs H Q=>∃ (p:Addr) (bs:List Bool),xs=[.ref p]/\(SqL K H p (bs.map V.bl)\/SqT K H p (bs.map V.bl))/\Q (.bl (bs.all id)) H) zhE:=by
 intro F H vs ds z Q s al e q
 obtain⟨p,es,xs,bs,rfl,hq,bl,e1,e2⟩:=zbt (K:=K) s al e
 cases e2
 rw[zd7 e1]at bl
 rw[bl.of_bls]at hq
 exact⟨p,bs,rfl,hq,q F H _ (.refl s) .bl⟩
theorem zek {K:W.Frag}:CaD (λxs H Q=>∃ (p:Addr) (ns:List Int),xs=[.ref p]/\(SqL K H p (ns.map V.int)\/SqT K H p (ns.map V.int))/\Q (.int ns.sum) H) zjd:=by
 intro F H vs ds z Q s al e q
 obtain⟨p,es,xs,bs,rfl,hq,bl,e1,e2⟩:=zbt (K:=K) s al e
 cases e2
 rw[Vk e1]at bl
 rw[bl.of_ints]at hq
 exact⟨p,bs,rfl,hq,q F H _ (.refl s) .int⟩
theorem zg3 {K:W.Frag}:CaD (λxs H Q=>∃ (p:Addr) (ns:List Int),xs=[.ref p]/\(SqL K H p (ns.map V.int)\/SqT K H p (ns.map V.int))/\ns≠[]/\Q (.int (zcB ns)) H) zgH:=by
 intro F H vs ds z Q s al e q
 obtain⟨p,es,xs,bs,rfl,hq,bl,e1,e2⟩:=zbt (K:=K) s al e
 split at e2 <;> cases e2
 rename_i hne
 rw[Vk e1]at bl
 rw[bl.of_ints]at hq
 exact⟨p,bs,rfl,hq,hne,q F H _ (.refl s) .int⟩
end
end Dl
namespace Dl
open PySem L2
variable [KK]
section
variable {X:Cx}{tg a b c e:Expr}{pos:Pos}
noncomputable def zca:List D->List D->List D
 | x::xs,y::ys=>.tup [x,y]::zca xs ys
 | _,_=>[]
omit [KK] in
theorem zbX:∀ (xs ys:List D) (i:Nat),(zca xs ys)[i]?=match xs[i]?,ys[i]? with | some x,some y=>some (.tup [x,y]) | _,_=>none
 | [],ys,i=>by simp[zca]
 | x::xs,[],i=>by simp[zca]
 | x::xs,y::ys,0=>by simp[zca]
 | x::xs,y::ys,i+1=>by simpa [zca]using zbX xs ys i
omit [KK] in
theorem Wn:∀ (xs ys:List D),xs.length<=ys.length->(zca xs ys).length=xs.length
 | [],ys,_=>by simp[zca]
 | x::xs,[],h=>by simp at h
 | x::xs,y::ys,h=>by simp[zca,Wn xs ys (by simpa using h)]
noncomputable def y9 (f:Ev->Option (List D)):Ev->Option (List D):=fun ρ=>(f ρ).bind λas=>match as with
 | [d,e]=>(yu d).bind λxs=>(yu e).bind λys=>if xs.length<=ys.length then some (zca xs ys)else none
 | _=>none
theorem zka {K:W.Frag}{F H:Hp}{d:D}{v:V}{ds:List D}(s:yU F H)(h:At F d v)(e:yu d=some ds):∃ b p xs,v=.ref p/\(∀ {F' H':Hp},yU F F'->yU F' H'->Sq b K H' p xs)/\AtL F ds xs:=by
 cases d <;> cases e
 .obtain⟨p,xs,rfl,hx,al⟩:=h.tup_inv
  exact⟨false,p,xs,rfl,λs1 s2=>SqT.of (s2 _ _ (s1 _ _ hx)),al⟩
 .obtain⟨p,xs,rfl,hx,al⟩:=h.lst_inv
  exact⟨true,p,xs,rfl,λs1 s2=>SqL.of (s2 _ _ (s1 _ _ hx)),al⟩
theorem zk0 {es:List Expr} {k:Nat} {tp p:Pos} {f:Ev->Option (List D)} (hg:Gl X "zip") (hm:X.mg "zip"=none) (ha:AD X [a,b] f)
 (hs:starEach [a,b] X.env=[(false,eval a X.env),(false,eval b X.env)]:=by rfl) (hs2:starEach [b] X.env=[(false,eval b X.env)]:=by rfl):ID X (.Tuple es k tp) (.Call (.Name "zip" p) [a,b] [] pos) (y9 f):=by
 obtain⟨t,pa,r⟩:=ha
 refine⟨_,zkM hg hm zkL pa hs hs2,fun σ ρ F H ds R s va e q=>?_⟩
 obtain⟨as,e1,e2⟩:=Option.bind_eq_some_iff.mp e
 refine r σ ρ F H as _ s va e1 λF1 H1 v g1 a1=>?_
 split at e2
 .obtain⟨x,r',rfl,ax,ar⟩:=a1.cons_inv
  obtain⟨y,r',rfl,ay,ar⟩:=ar.cons_inv
  cases ar.nil_inv
  obtain⟨xs,e3,e2'⟩:=Option.bind_eq_some_iff.mp e2
  obtain⟨ys,e4,e2''⟩:=Option.bind_eq_some_iff.mp e2'
  clear e2 e2' e
  split at e2'' <;> cases e2''
  rename_i hle
  obtain⟨b1,p1,us,rfl,sq1,al⟩:=zka (K:=X.K) g1.fh ax e3
  obtain⟨b2,p2,ws,rfl,sq2,bl⟩:=zka (K:=X.K) g1.fh ay e4
  refine⟨b1,b2,p1,p2,us,ws,rfl,sq1 (yU.refl _) g1.fh,sq2 (yU.refl _) g1.fh,q F1 H1 _ g1 λi F2 H2 s1 s2=>?_⟩
  have q1:=sq1 s1 s2
  have q2:=sq2 s1 s2
  refine⟨λhl=>⟨us,q1,by rw[hl,Wn _ _ hle,al.length]⟩,λd hd=>?_⟩
  rw[zbX]at hd
  cases h1:xs[i]? with
  | none=>rw[h1]at hd;cases hd
  | some x =>
   cases h2:ys[i]? with
   | none=>rw[h1,h2]at hd;cases hd
   | some y =>
    rw[h1,h2]at hd
    cases hd
    obtain⟨u,hu,au⟩:=al.get h1
    obtain⟨u2,hu2,au2⟩:=bl.get h2
    refine⟨⟨us,ws,u,u2,q1,q2,hu,hu2⟩,λz H3 hz=>?_⟩
    obtain⟨T,x',y',rfl,hT,rfl,hx',hy'⟩:=hz
    have e5:=hx' us q1
    have e6:=hy' ws q2
    rw[hu]at e5
    rw[hu2]at e6
    cases e5
    cases e6
    have g3:=Gr.alloc s2 hT (.tup [u,u2])
    exact⟨_,g3,.tup zo (.cons (au.mono (s1.trans g3.ff)) (.cons (au2.mono (s1.trans g3.ff)) .nil))⟩
 .cases e2
noncomputable def yG (g:List D->Option (List D))(f:Ev->Option (List D))(b:D->SE->Option SE)(h:SE->Ctl):SE->Ctl:=fun ρ=>match (f (visG ρ)).bind g with
 | some ds=>zeX b h ds ρ
 | none=>.no
theorem XX {p pos':Pos} {body:List Stmt} {f:Ev->Option (List D)} {b':D->SE->Option SE} {g:SE->Ctl} (hp:PassesOwn (model X.prog X.w) X.A X.env X.xe) (hc:X.calm=true) (hgl:Gl X "range") (hm:X.mg "range"=none) (ha:AD X [a] f) (hg:BD X tg b') (hb:SDs X body g)
 (hs0:starEach [a] X.env=[(false,eval a X.env)]:=by rfl) (hs:∀ x,foldedSetIterable (.Call (.Name "range" p) [a] [] pos) X.env x=pure x:=by intro _;rfl):SD X (.For tg (.Call (.Name "range" p) [a] [] pos) body [] pos') (yG wB f b' g):=by
 obtain⟨t,pa,r⟩:=ha
 obtain⟨tg',pg,rg⟩:=hg
 obtain⟨tb,pb,rb⟩:=hb
 refine⟨_,zhT hp hc (zai hgl hm pa hs0) pg pb hs,λFb Hb F H ρ σ E rl k=>?_⟩
 unfold yG at k
 cases h:(f (visG ρ)).bind wB with
 | none=>rw[h]at k;exact k.elim
 | some ds =>
  rw[h]at k
  obtain⟨as,e1,e2⟩:=Option.bind_eq_some_iff.mp h
  refine r σ _ _ H as _ rl.gh rl.visG e1 λF1 H1 vs g1 a1=>?_
  have rl2:=rl.grow (rl.back g1).1
  unfold wB at e2
  split at e2
  .split at e2 <;> cases e2
   rename_i hc
   obtain⟨x,r',rfl,ax,ar⟩:=a1.cons_inv
   cases ar.nil_inv
   exact⟨_,by rw[ax.int_inv],(y6.mp hc).1,(y6.mp hc).2,zhn (zdE 0 _) rg rb rl2 k⟩
  .cases e2
end
theorem zi5 {P:Program}{w:World}{K:W.Frag}{mg:Str->Option Value}{base:Heap}{f:Addr}{fd:FuncData}{ps:List Str}{k m:Nat}:xK P w K mg base CX0 k f fd ps (spD m λ_=>none):=by
 refine⟨λvs H Q E h=>?_,λA outer s H args us vs Q E _ _ _ _ h=>?_⟩
 .obtain⟨_,_,_,_,_,_,e,_⟩:=h
  cases e
 .obtain⟨_,_,_,_,_,_,e,_⟩:=h
  cases e
noncomputable def zkZ (n:Nat)(g:(List D->Option D)->SE->Ctl):Nat->List D->Option D
 | 0=>λ_=>none
 | k+1=>fnD n (g (zkZ n g k))
theorem zjS {P:Program}{w:World}{K:W.Frag}{mg:Str->Option Value}{base:Heap}{x qual:Str}{st:Stmt}{f:Addr}{fd:FuncData}{N ps:List Str}{k0:Nat}{g:(List D->Option D)->SE->Ctl}(Fu:Fun K x qual st f fd)(S:zB N ps (zm st))
 (hb:∀ (k:Nat) (r:List D->Option D),xK P w K mg base CX0 (k0+k) f fd ps (spD ps.length r)->∀ (cdv:Value) (A:Around) (outer:List Env) (s:Shared) (H:Hp) (E:XK),YK (k0+k) (A.deeper (PyProof.Rows.envOfC qual (zm st) s.heap.objs.size f cdv))->SDs (zhS CX0 P w K mg base N qual (zm st) f cdv A outer s H E).nox (vo st) (g r)) :
 ∀ n,xK P w K mg base CX0 (k0+n) f fd ps (spD ps.length (zkZ N.length g n)):=by
 intro n
 induction n with
 | zero=>exact zi5
 | succ n ih=>exact xa Fu S λcdv A outer s H E hr=>hb n _ ih cdv A outer s H E hr
noncomputable def zet (K:W.Frag):Sp:=λvs H Q _=>∃ (a:Addr) (ns:List Int),vs=[.ref a]/\SqL K H a (ns.map V.int)/\ns.length<=63/\∀ H',Q (.bl true) H'
end Dl
namespace Dl
open PySem L2
theorem zkT {P:Program}{w:World}{K:W.Frag}{mg:Str->Option Value}{base:Heap}{f:Addr}{fd:FuncData}{ps:List Str}{k:Nat}{p:List D->Option D}(F:xK P w K mg base CX0 k f fd ps (@spD ⟨K⟩ 1 p))(h:∀ ns:List Int,ns.length<=63->p [.scr ns]=some (.bl true)) :
 xK P w K mg base CX0 k f fd ps (zet K):=by
 letI:KK:=⟨K⟩
 refine F.imp λvs H Q E hs=>?_
 obtain⟨a,ns,rfl,hq,hl,q⟩:=hs
 refine⟨[.scr ns],.bl true,H,rfl,yU.refl _,.cons ?_ .nil,h ns hl,λF' H' v _ av=>?_⟩
 .unfold At
  exact⟨a,rfl,hq⟩
 .rw[av.bl_inv]
  exact q H'
structure Def (K:W.Frag) (mg:Str->Option Value) (x:Str) (st:Stmt) (ps:List Str) (f:Addr) (fd:FuncData):Prop where
 fn:Fun K x x st f fd
 bd:zbs K fd ps []
 at_:mg x=some (.ref f)
theorem Def.kp {K:W.Frag}{mg:Str->Option Value}{x:Str}{st:Stmt}{ps:List Str}{f:Addr}{fd:FuncData}(d:Def K mg x st ps f fd):W.keepIn K (.ref f)=true:=d.fn.kp
inductive Ctl.w:Ctl->(SE->Prop)->(SE->Prop)->(SE->Prop)->(D->Prop)->Prop where
 | nx {ρ:SE} {n b k:SE->Prop} {r:D->Prop}:n ρ->Ctl.w (.nx ρ) n b k r
 | bk {ρ:SE} {n b k:SE->Prop} {r:D->Prop}:b ρ->Ctl.w (.bk ρ) n b k r
 | ct {ρ:SE} {n b k:SE->Prop} {r:D->Prop}:k ρ->Ctl.w (.ct ρ) n b k r
 | rt {d:D} {n b k:SE->Prop} {r:D->Prop}:r d->Ctl.w (.rt d) n b k r
section
variable {ρ:SE}{d:D}{n b k:SE->Prop}{r:D->Prop}
theorem Ctl.w.nxi (h:Ctl.w (.nx ρ) n b k r):n ρ:=by cases h;assumption
theorem Ctl.w.bki (h:Ctl.w (.bk ρ) n b k r):b ρ:=by cases h;assumption
theorem Ctl.w.cti (h:Ctl.w (.ct ρ) n b k r):k ρ:=by cases h;assumption
theorem Ctl.w.rti (h:Ctl.w (.rt d) n b k r):r d:=by cases h;assumption
theorem Ctl.w.noi (h:Ctl.w .no n b k r):False:=by cases h
end
noncomputable abbrev noP:SE->Prop:=λ_=>False
section
variable {g h:SE->Ctl}{ρ ρ':SE}{n b k:SE->Prop}{r:D->Prop}
theorem yX (e:(g ρ).w (fun ρ'=>(h ρ').w n b k r) b k r):(zS g h ρ).w n b k r:=by
 unfold zS
 cases hg:g ρ with
 | nx ρ'=>rw[hg]at e;exact e.nxi
 | bk ρ'=>rw[hg]at e;exact .bk e.bki
 | ct ρ'=>rw[hg]at e;exact .ct e.cti
 | rt d=>rw[hg]at e;exact .rt e.rti
 | no=>rw[hg]at e;exact e.noi.elim
theorem zw (e:g ρ=.nx ρ')(q:(h ρ').w n b k r):(zS g h ρ).w n b k r:=yX (by rw[e];exact .nx q)
theorem Y4 (e:g ρ=.nx ρ')(q:n ρ'):(g ρ).w n b k r:=by rw[e];exact .nx q
theorem Y7 {d:D}(e:g ρ=.rt d)(q:r d):(g ρ).w n b k r:=by rw[e];exact .rt q
theorem Xz {t:Ev->Option Bool}{c:Bool}(e:t (visG ρ)=some c)(h1:c=true->(g ρ).w n b k r)(h2:c=false->(h ρ).w n b k r):(sIf t g h ρ).w n b k r:=by
 unfold sIf
 rw[e]
 cases c with
 | true=>exact h1 rfl
 | false=>exact h2 rfl
theorem zhI {i:Nat}(e:zjs ρ i=ρ')(q:(g ρ').w n b k r):(sFz i g ρ).w n b k r:=by
 unfold sFz
 rw[e]
 exact q
theorem zfh {bd:D->SE->Option SE}(I:Nat->SE->Prop):∀ (ds:List D) (j:Nat) (ρ:SE),I j ρ ->
 (∀ i d ρ,ds[i]?=some d->I (j+i) ρ->∃ ρ1,bd d ρ=some ρ1/\(g ρ1).w (I (j+i+1)) n (I (j+i+1)) r)->(∀ ρ,I (j+ds.length) ρ->n ρ)->(zeX bd g ds ρ).w n b k r
 | [],j,ρ,h0,_,fin=>.nx (fin ρ h0)
 | d::ds,j,ρ,h0,step,fin=>by
  obtain⟨ρ1,e1,e2⟩:=step 0 d ρ rfl h0
  unfold zeX
  rw[e1]
  dsimp only
  have next:∀ ρ',I (j+1) ρ'->(zeX bd g ds ρ').w n b k r:=fun ρ' h'=>zfh I ds (j+1) ρ' h'
   (λi d' ρ hd hI=>by
    have:=step (i+1) d' ρ (by simpa using hd) (by rw[show j+(i+1)=j+1+i by omega];exact hI)
    rwa[show j+(i+1)+1=j+1+i+1 by omega]at this)
   (fun ρ hI=>fin ρ (by rw[List.length_cons,show j+(ds.length+1)=j+1+ds.length by omega];exact hI))
  cases hg:g ρ1 with
  | nx ρ'=>rw[hg]at e2;exact next ρ' e2.nxi
  | ct ρ'=>rw[hg]at e2;exact next ρ' e2.cti
  | bk ρ'=>rw[hg]at e2;exact .nx e2.bki
  | rt d'=>rw[hg]at e2;exact .rt e2.rti
  | no=>rw[hg]at e2;exact e2.noi.elim
theorem ZW {f:Ev->Option (List D)}{bd:D->SE->Option SE}{ds:List D}(I:Nat->SE->Prop)(e:f (visF ρ)=some ds)(h0:I 0 ρ)
 (step:∀ i d ρ,ds[i]?=some d->I i ρ->∃ ρ1,bd d ρ=some ρ1/\(g ρ1).w (I (i+1)) n (I (i+1)) r) (fin:∀ ρ,I ds.length ρ->n ρ):(wG f bd g ρ).w n b k r:=by
 unfold wG
 rw[e]
 exact zfh I ds 0 ρ h0 (λi d ρ hd hI=>by rw[Nat.zero_add]at hI ⊢;exact step i d ρ hd hI) (fun ρ hI=>fin ρ (by rw[Nat.zero_add]at hI;exact hI))
theorem zci {f:Ev->Option (List D)}{bd:D->SE->Option SE}{rg:List D->Option (List D)}{lo:Int}{c:Nat}(I:Nat->SE->Prop)(e:(f (visG ρ)).bind rg=some (Xq lo c))(h0:I 0 ρ)
 (step:∀ (i:Nat) ρ,i < c->I i ρ->∃ ρ1,bd (.int (lo+i)) ρ=some ρ1/\(g ρ1).w (I (i+1)) n (I (i+1)) r) (fin:∀ ρ,I c ρ->n ρ):(yG rg f bd g ρ).w n b k r:=by
 unfold yG
 rw[e]
 refine zfh I (Xq lo c) 0 ρ h0 (λi d ρ hd hI=>?_) (fun ρ hI=>fin ρ ?_)
 .rw[Nat.zero_add]at hI ⊢
  unfold Xq at hd
  rw[List.getElem?_map]at hd
  by_cases hi:i < c
  .rw[List.getElem?_range hi]at hd
   cases hd
   exact step i ρ hi hI
  .rw[List.getElem?_eq_none (by simpa using hi)]at hd
   cases hd
 .rw[Nat.zero_add]at hI
  rwa[show(Xq lo c).length=c by unfold Xq;simp]at hI
theorem zeJ {n' b' k':SE->Prop}{r':D->Prop}{c:Ctl}(q:c.w n b k r)(h1:∀ ρ,n ρ->n' ρ)(h2:∀ ρ,b ρ->b' ρ)(h3:∀ ρ,k ρ->k' ρ)(h4:∀ d,r d->r' d):c.w n' b' k' r':=by
 cases q with
 | nx q=>exact .nx (h1 _ q)
 | bk q=>exact .bk (h2 _ q)
 | ct q=>exact .ct (h3 _ q)
 | rt q=>exact .rt (h4 _ q)
theorem zbh {t:Ev->Option Bool}(I:SE->Prop)(μ:SE->Nat)(step:∀ ρ,I ρ->∃ c,t (visG ρ)=some c/\(c=true->(g ρ).w (fun ρ'=>I ρ'/\μ ρ' < μ ρ) n (fun ρ'=>I ρ'/\μ ρ' < μ ρ) r)/\(c=false->n ρ)):∀ (fu:Nat) (ρ:SE),I ρ->μ ρ < fu->(Zj t g fu ρ).w n b k r
 | 0,ρ,_,hf=>by omega
 | fu+1,ρ,hI,hf=>by
  obtain⟨c,e,q1,q2⟩:=step ρ hI
  unfold Zj
  rw[e]
  cases c with
  | false=>exact .nx (q2 rfl)
  | true =>
   have q:=q1 rfl
   dsimp only
   cases hg:g ρ with
   | nx ρ'=>rw[hg]at q;exact zbh I μ step fu ρ' q.nxi.1 (by have:=q.nxi.2;omega)
   | ct ρ'=>rw[hg]at q;exact zbh I μ step fu ρ' q.cti.1 (by have:=q.cti.2;omega)
   | bk ρ'=>rw[hg]at q;exact .nx q.bki
   | rt d'=>rw[hg]at q;exact .rt q.rti
   | no=>rw[hg]at q;exact q.noi.elim
end
theorem Vu {m:Nat}{g:SE->Ctl}{ds:List D}{d:D}{ρ:SE}(e:ds.map .v++List.replicate (m - ds.length) .no=ρ)(q:(g ρ).w (λ_=>d=.non) noP noP (λd'=>d'=d)):fnD m g ds=some d:=by
 unfold fnD
 rw[e]
 cases hg:g ρ with
 | nx ρ'=>rw[hg]at q;rw[show d=.non from q.nxi]
 | rt d'=>rw[hg]at q;rw[show d'=d from q.rti]
 | bk _=>rw[hg]at q;exact q.bki.elim
 | ct _=>rw[hg]at q;exact q.cti.elim
 | no=>rw[hg]at q;exact q.noi.elim
theorem zad {m:Bool}{i:Nat}{f:Ev->Option D}{ρ:SE}{ds:List D}{d:D}(h1:vEv m f ρ=some d)(h2:ρ[i]?=some (.o ds))(h3:ds.length<=1000):vv m i f ρ=.nx (ρ.set i (.o (ds++[d]))):=by
 unfold vv
 rw[h1,h2]
 show(match (if decide (ds.length < sizeLine)=true then some (ρ.set i (.o (ds++[d])))else none)with | some ρ'=>Ctl.nx ρ' | none=>Ctl.no)=_
 rw[if_pos (decide_eq_true (We h3))]
theorem Wv {b:D->Option (List (Option D))}{t:Ev->Option Bool}{f:Ev->Option D}{ρ:Ev}{α:Type}(c:α->D)(y:α->D):∀ (xs:List α),(∀ x∈xs,∃ own,b (c x)=some own/\t (own++ρ)=some true/\f (own++ρ)=some (y x))->lcD b t f ρ (xs.map c)=some (xs.map y)
 | [],_=>rfl
 | x::xs,h=>by
  obtain⟨own,h1,h2,h3⟩:=h x List.mem_cons_self
  show lcD b t f ρ (c x::xs.map c)=_
  unfold lcD
  rw[h1]
  simp only[Option.bind_some,h2,if_true,h3,Wv c y xs λz hz=>h z (List.mem_cons_of_mem _ hz)]
  rfl
theorem Xi {b:D->Option (List (Option D))}{t:Ev->Option Bool}{f:Ev->Option D}{ρ:Ev}{α:Type}(c:α->D)(p:α->Bool)(y:α->D):∀ (xs:List α),(∀ x∈xs,∃ own,b (c x)=some own/\t (own++ρ)=some (p x)/\(p x=true->f (own++ρ)=some (y x)))->lcD b t f ρ (xs.map c)=some ((xs.filter p).map y)
 | [],_=>rfl
 | x::xs,h=>by
  obtain⟨own,h1,h2,h3⟩:=h x List.mem_cons_self
  have ih:=Xi c p y xs λz hz=>h z (List.mem_cons_of_mem _ hz)
  show lcD b t f ρ (c x::xs.map c)=_
  unfold lcD
  rw[h1]
  simp only[Option.bind_some,h2]
  cases hp:p x with
  | false =>
   rw[if_neg Bool.false_ne_true,ih,List.filter_cons,if_neg (by rw[hp];exact Bool.false_ne_true)]
  | true =>
   rw[if_pos rfl,h3 hp,ih,List.filter_cons,if_pos hp]
   rfl
mutual
noncomputable def noS:D->Bool
 | .tup ds=>zdA ds
 | .lst ds=>zdA ds
 | .scr _=>false
 | _=>true
noncomputable def zdA:List D->Bool
 | []=>true
 | d::ds=>noS d&&zdA ds
end
theorem vV:∀ {ds:List D} {i:Nat} {d:D},zdA ds=true->ds[i]?=some d->noS d=true
 | [],_,_,_,h=>by simp at h
 | d::ds,i,e,h,he=>by
  unfold zdA at h
  rw[Bool.and_eq_true]at h
  cases i with
  | zero=>simp at he;subst he;exact h.1
  | succ i=>exact vV h.2 (by simpa using he)
theorem vD {n:Nat}(h:n<=1000):lim n=true:=by
 unfold lim
 exact decide_eq_true (Nat.le_of_lt (We h))
theorem X7 (lo:Int)(n:Nat):(Xq lo n).length=n:=by unfold Xq;simp
end Dl
namespace Dl
open PySem L2
noncomputable abbrev Pr:=Int × Int
noncomputable def prD (t:Pr):D:=.tup [.int t.1,.int t.2]
noncomputable def zlk:D->Option Pr
 | .tup [.int a,.int b]=>some (a,b)
 | _=>none
noncomputable def za0:List D->Option (List Pr)
 | []=>some []
 | d::ds=>(zlk d).bind λt=>(za0 ds).map (t::·)
theorem zja {d:D}{t:Pr}(h:zlk d=some t):d=prD t:=by
 unfold zlk at h
 split at h
 .cases h;rfl
 .cases h
theorem zb2:∀ {ds:List D} {ts:List Pr},za0 ds=some ts->ds=ts.map prD
 | [],ts,h=>by cases h;rfl
 | d::ds,ts,h=>by
  unfold za0 at h
  obtain⟨t,h1,h2⟩:=Option.bind_eq_some_iff.mp h
  obtain⟨us,h3,rfl⟩:=Option.map_eq_some_iff.mp h2
  rw[zja h1,zb2 h3]
  rfl
theorem zaD (ts:List Pr):za0 (ts.map prD)=some ts:=by
 induction ts with
 | nil=>rfl
 | cons t ts ih =>
  show(zlk (prD t)).bind (λu=>(za0 (ts.map prD)).map (u::·))=_
  rw[ih]
  rfl
noncomputable def zjp (a b:Pr):Bool:=!OwnSort.bltP b a
noncomputable def V1 (ts:List Pr):List Pr:=ts.mergeSort zjp
noncomputable def leI (a b:Int):Bool:=decide (a<=b)
noncomputable def zfS (ns:List Int):List Int:=ns.mergeSort leI
theorem Ve {a b:Pr}:OwnSort.bltP b a=false↔zjp a b=true:=by unfold zjp;simp
theorem XW {a b:Pr}:zjp a b=true↔a.1 < b.1\/(a.1=b.1/\a.2<=b.2):=by
 rw[<-Ve]
 unfold OwnSort.bltP
 rw[decide_eq_false_iff_not]
 omega
theorem zde {ts us:List Pr}(p:us.Perm ts)(h:us.Pairwise λa b=>OwnSort.bltP b a=false):us=V1 ts:=by
 refine List.Perm.eq_of_pairwise (le:=λa b=>zjp a b=true) (λa b _ _ h1 h2=>?_) (h.imp λx=>Ve.mp x) ?_ (p.trans (List.mergeSort_perm _ _).symm)
 .rw[XW]at h1 h2
  exact Prod.ext (by omega) (by omega)
 .exact List.pairwise_mergeSort (λa b c h1 h2=>by rw[XW]at *;omega) (λa b=>by rw[Bool.or_eq_true,XW,XW];omega) _
theorem zcO {ts us:List Int}(p:us.Perm ts)(h:us.Pairwise (·<=·)):us=zfS ts:=by
 refine List.Perm.eq_of_pairwise (le:=λa b=>leI a b=true) (λa b _ _ h1 h2=>?_) (h.imp λx=>decide_eq_true x) ?_ (p.trans (List.mergeSort_perm _ _).symm)
 .unfold leI at h1 h2
  rw[decide_eq_true_eq]at h1 h2
  omega
 .exact List.pairwise_mergeSort (λa b c h1 h2=>by unfold leI at *;rw[decide_eq_true_eq]at *;omega) (λa b=>by unfold leI;rw[Bool.or_eq_true,decide_eq_true_eq,decide_eq_true_eq];omega) _
noncomputable def zdi:List D->Option (List D)
 | [.lst ds]=>if ds.length < 64 then match za0 ds with
  | some ts=>some ((V1 ts).map prD)
  | none=>match zdy ds with
   | some ns=>some ((zfS ns).map .int)
   | none=>none
  else none
 | _=>none
variable [KK]
section
variable {X:Cx}{e:Expr}{pos:Pos}
theorem At.pr_inv {F:Hp}{t:Pr}{v:V}(h:At F (prD t) v):∃ a,v=.ref a/\F a=some (.tup [.int t.1,.int t.2]):=by
 obtain⟨a,xs,rfl,hx,al⟩:=h.tup_inv
 obtain⟨x,r,rfl,a1,al⟩:=al.cons_inv
 obtain⟨y,r,rfl,a2,al⟩:=al.cons_inv
 cases al.nil_inv
 cases a1.int_inv
 cases a2.int_inv
 exact⟨a,rfl,hx⟩
theorem zaX (hc:X.calm=true):Yr X (.builtin "sorted") (λxs H Q=>∃ F p ys ds out,xs=[.ref p]/\yU F H/\H p=some (.lst ys)/\AtL F ds ys/\zdi [.lst ds]=some out/\∀ l zs,H l=none->AtL F out zs->Q (.ref l) (upd H l (.lst zs))):=by
 intro pins s σ H xs us Q I r h
 obtain⟨F,p,ys,ds,out,rfl,sm,hp,al,hs,q⟩:=h
 obtain⟨u,rfl,ru⟩:=Ws r
 cases ru
 obtain⟨its,rv,pl,hz⟩:=I.list (SqL.of hp)
 have hlen:its.length=ds.length:=by rw[<-rv.length,al.length]
 unfold zdi at hs
 dsimp only at hs
 split at hs <;> try cases hs
 rename_i h64
 have fin:∀ (zs:List V) (ws:List Value),zs.length < 64->yw zs ws->AtL F out zs->EP X pins σ Q (.ref (s.heap.objs.size+1)) { s with heap:=PyProof.Rows.sortedAll s.heap its ws.toArray }:=λzs ws hl rz az=>by
  have hn:H (s.heap.objs.size+1)=none:=I.hok.fresh (Nat.le_succ _)
  obtain⟨ep,he⟩:=PyProof.Rows.sortedAll_at s.heap its ws.toArray
  refine⟨.ref (s.heap.objs.size+1),upd H (s.heap.objs.size+1) (.lst zs),I.laid (t':=s.toks) (λb o z=>PyProof.Rows.sortedAll_old z) (Nat.le_succ _) ?_,rfl,q _ zs hn az⟩
  exact⟨Nat.le_of_lt (We (by omega)),ws,ep,rz,he⟩
 split at hs
 .rename_i ts hts
  cases hs
  have eds:=zb2 hts
  subst eds
  have look:∀ {v:Value},v∈its->∃ a t,v=.ref a/\t∈ts/\F a=some (.tup [.int t.1,.int t.2])/\OwnSort.TP s.heap v t:=λ{v} hv=>by
   obtain⟨j,hj,rfl⟩:=List.getElem_of_mem hv
   have hj2:j < ts.length:=by rw[List.length_map]at hlen;omega
   obtain⟨x,hx,ax⟩:=al.get (i:=j) (d:=prD ts[j]) (by rw[List.getElem?_map];simp[hj2])
   obtain⟨a,rfl,ha⟩:=ax.pr_inv
   obtain⟨v,hv,rvv⟩:=rv.get hx
   have e1:its[j]?=some its[j]:=by simp[hj]
   rw[hv]at e1
   cases e1
   have e2:its[j]=.ref a:=rvv
   refine⟨a,ts[j],e2,List.getElem_mem hj2,ha,?_⟩
   obtain⟨us,ru,⟨o,ho,hcl,n,hd⟩,_⟩:=I.tuple (SqT.of (sm _ _ ha))
   obtain⟨u1,u2,rfl,r1,r2⟩:=zdf ru
   obtain⟨t1,rfl⟩:=r1
   obtain⟨t2,rfl⟩:=r2
   exact⟨a,o,n,t1,t2,e2,ho,hcl,hd⟩
  refine OwnSort.own_sorted pl.isList (λv hv=>let ⟨a,t,_,_,_,ht⟩:=look hv;⟨t,ht⟩) (by omega) λo2 pm ri=>?_
  obtain⟨us,l1,l2,l3⟩:=ri
  have hlo:o2.toList.length=ts.length:=by rw[pm.length_eq,hlen,List.length_map]
  -- the values' addresses
  have zsOf:∀ (ws:List Value) (vs:List Pr),ws.length=vs.length->(∀ w∈ws,w∈its)->(∀ (i:Nat) v t,ws[i]?=some v->vs[i]?=some t->OwnSort.TP s.heap v t)->∃ zs:List V,yw zs ws/\AtL F (vs.map prD) zs:=by
   intro ws
   induction ws with
   | nil =>
    intro vs hl _ _
    cases vs with
    | nil=>exact⟨[],.nil,.nil⟩
    | cons _ _=>simp at hl
   | cons w ws ih =>
    intro vs hl hm ht
    cases vs with
    | nil=>simp at hl
    | cons t vs =>
     obtain⟨zs,z1,z2⟩:=ih vs (by simpa using hl) (λw' hw'=>hm w' (List.mem_cons_of_mem _ hw')) (λi v t h1 h2=>ht (i+1) v t (by simpa using h1) (by simpa using h2))
     obtain⟨a,t',rfl,_,ha,htp⟩:=look (hm w List.mem_cons_self)
     have et:t'=t:=htp.uniq (ht 0 _ t rfl rfl)
     subst et
     exact⟨.ref a::zs,.cons rfl z1,.cons (.tup ha (.cons .int (.cons .int .nil))) z2⟩
  obtain⟨zs,z1,z2⟩:=zsOf o2.toList us l1 (λw hw=>pm.mem_iff.mp hw) l2
  have keysPerm:us.Perm ts:=by
   -- by the keys of the values
   have kv:∀ (ws:List Value) (vs:List Pr),ws.length=vs.length->(∀ (i:Nat) v t,ws[i]?=some v->vs[i]?=some t->OwnSort.TP s.heap v t)->vs=ws.map λv=>(OwnSort.keyP s.heap v).getD (0,0):=by
    intro ws
    induction ws with
    | nil=>intro vs hl _;cases vs with
     | nil=>rfl
     | cons _ _=>simp at hl
    | cons w ws ih =>
     intro vs hl ht
     cases vs with
     | nil=>simp at hl
     | cons t vs =>
      rw[List.map_cons,OwnSort.keyP_of (ht 0 w t rfl rfl),<- ih vs (by simpa using hl) λi v t h1 h2=>ht (i+1) v t (by simpa using h1) (by simpa using h2)]
      rfl
   rw[kv _ _ l1 l2,kv its ts (by rw[hlen,List.length_map]) λi v t h1 h2=>?_]
   .exact pm.map _
   .obtain⟨x,hx,ax⟩:=al.get (i:=i) (d:=prD t) (by rw[List.getElem?_map,h2];rfl)
    obtain⟨a,rfl,ha⟩:=ax.pr_inv
    obtain⟨v',hv',rvv⟩:=rv.get hx
    rw[h1]at hv'
    cases hv'
    obtain⟨us',ru',⟨o,ho,hcl,n,hd⟩,_⟩:=I.tuple (SqT.of (sm _ _ ha))
    obtain⟨u1,u2,rfl,r1,r2⟩:=zdf ru'
    obtain⟨t1,rfl⟩:=r1
    obtain⟨t2,rfl⟩:=r2
    exact⟨a,o,n,t1,t2,rvv,ho,hcl,hd⟩
  have e3:=zde keysPerm l3
  rw[e3]at z2
  have:=fin zs o2.toList (by rw[z1.length];rw[List.length_map]at h64;omega) z1 z2
  simpa using this
 .split at hs <;> try cases hs
  rename_i ns hns
  have eds:=Vk hns
  subst eds
  have hI:PyProof.Rows.IntsAre its ns:=vz (by rw[<-al.of_ints];exact rv)
  refine PyProof.Rows.sorted_ints pl.isList hI (by omega) λo2 ns' h1 h2 h3=>?_
  have e3:=zcO h2 h3
  subst e3
  have z1:yw ((zfS ns).map V.int) o2.toList:=zaz h1
  have:=fin ((zfS ns).map V.int) o2.toList (by rw[List.length_map,h2.length_eq];rw[List.length_map]at h64;omega) z1 (.ints _)
  simpa using this
theorem ze5 {p:Pos} {f:Ev->Option (List D)} (hc:X.calm=true) (hgl:Gl X "sorted") (hm:X.mg "sorted"=none) (ha:AD X [e] f)
 (he:starEach [e] X.env=(false,eval e X.env)::starEach [] X.env:=by rfl) (hpl:(backTo pos (starEach [] X.env)).any (·.1)=false:=by rfl):FL X (.Call (.Name "sorted" p) [e] [] pos) (fFn zdi f):=by
 obtain⟨t,pa,ra⟩:=ha
 refine⟨_,XN (zaX hc) hgl hm zbf pa (by decide) (by decide) he hpl,fun σ ρ F H z Q s va e q=>?_⟩
 obtain⟨ds,e1,e2⟩:=Option.bind_eq_some_iff.mp e
 refine ra σ ρ F H ds _ s va e1 λF1 H1 vs g1 a1=>?_
 have e2':=e2
 unfold zdi at e2'
 split at e2'
 .obtain⟨x,r,rfl,ax,ar⟩:=a1.cons_inv
  cases ar.nil_inv
  obtain⟨p,ys,rfl,hx,bl⟩:=ax.lst_inv
  exact⟨F1,p,ys,_,z,rfl,g1.fh,g1.fh _ _ hx,bl,e2,λl zs hl az=>q _ _ _ _ (g1.trans (Gr.hide g1.fh hl _)) (zdd g1 hl) (g1.fh.free hl) zo az⟩
 .cases e2'
end
end Dl
namespace L2
open PySem PySem.Spec PyProof.Rows
section
variable {X:Cx}
noncomputable def zdS:V->List V->Hp->VK->Prop:=λx vs H Q=>∃ l xs i y,x=.ref l/\vs=[.int i,y]/\H l=some (.lst xs)/\xs.length < sizeLine/\0<=i/\i < 2 ^ 63/\Q .non (upd H l (.lst (xs.take i.toNat++y::xs.drop i.toNat)))
theorem ziG (its:List Value)(u:Value)(x:Int)(h0:0<=x) :
 (λxs:Array Value=>have k:=if x < 0 then (x+((xs.size:Nat):Int)).toNat else min x.toNat xs.size;(xs.extract 0 k).push u++xs.extract k) its.toArray=(its.take x.toNat++u::its.drop x.toNat).toArray:=by
 have hn:¬ x < 0:=by omega
 apply Array.ext'
 simp only[if_neg hn]
 by_cases c:x.toNat<=its.length
 .simp[Nat.min_eq_left c]
  exact List.take_of_length_le (by rw[List.length_drop];exact Nat.le_refl _)
 .have e:min x.toNat its.length=its.length:=by omega
  have e1:its.take x.toNat=its:=List.take_of_length_le (by omega)
  have e2:its.drop x.toNat=[]:=List.drop_eq_nil_of_le (by omega)
  simp[e,e1,e2]
theorem ze0:MtM X "list.insert" zdS:=by
 intro pins s σ H x vs v us Q I rx rv h
 obtain⟨l,xs,i,y,rfl,rfl,hH,hz,h0,h1,q⟩:=h
 cases rx
 obtain⟨u,w,rfl,ru,rw'⟩:=rv.two
 obtain⟨t,rfl⟩:=ru
 obtain⟨z,its,n,r,hl,e⟩:=I.lstM hH
 have hfit:¬(!Builtin.List.listFitsIndex i)=true:=by
  have:Builtin.List.listFitsIndex i=true:=fitsIndex_both (by omega) h1
  rw[this]
  exact Bool.false_ne_true
 refine call_meets F.slot_list_insert ⟨_,e,rfl⟩ F.entry_list_insert (F.args_list_insert_3 _ _ _) (AutoListH.list_insert_list_int_val_1 l its.toArray n i t w hfit (by rw[List.size_toArray];omega)) ⟨e,?_⟩
 refine⟨.non,_,I.lset (its':=its.take i.toNat++w::its.drop i.toNat) hH e (ziG its w i h0) ((r.take _).append (.cons rw' (r.drop _))) ?_,rfl,q⟩
 rw[List.length_append,List.length_cons,List.length_take,List.length_drop]
 omega
end
end L2
namespace Dl
open PySem L2
section
variable [KK]{X:Cx}{a e k:Expr}{pos:Pos}
noncomputable def zje (ds:List D)(i:Int)(d:D):List D:=ds.take i.toNat++d::ds.drop i.toNat
noncomputable def zkE (m:Bool)(i:Nat)(fk f:Ev->Option D):SE->Ctl:=fun ρ=>match (vEv m fk ρ).bind λkd=>(vEv m f ρ).bind λd=>match ρ[i]?,kd with
 | some (.o ds),.int j=>if (decide (ds.length < sizeLine)&&decide (0<=j/\j < 2 ^ 63))=true then some (ρ.set i (.o (zje ds j d)))else none
 | _,_=>none with
 | some ρ'=>.nx ρ'
 | none=>.no
theorem zkw {m:Bool}{i:Nat}{p pos':Pos}{fk f:Ev->Option D}(ho:PE X a (zhO i))(hk:ED X k fk)(he:ED X e f)
 (hp:∀ {ta:TE} {t:TA},PE X a ta->PA X [k,e] t->PE X (.Call (.Attribute a "insert" p) [k,e] [] pos') (tBM X.K "list" zdS ta t)) (hsw:swapsWith (.Call (.Attribute a "insert" p) [k,e] [] pos') none pos.line X.env=pure false:=by rfl)
 (hs:starEach [k,e] X.env=(false,eval k X.env)::starEach [e] X.env:=by rfl) (hs2:starEach [e] X.env=(false,eval e X.env)::starEach [] X.env:=by rfl):SD X (.Expr (.Call (.Attribute a "insert" p) [k,e] [] pos') pos) (zkE m i fk f):=by
 obtain⟨tk,pk,rk⟩:=hk
 obtain⟨t,pe,re⟩:=he
 refine⟨_,Vl (hp ho (Zt pk (Zt pe zam hs2) hs)) hsw,λFb Hb F H ρ σ E rl kk=>?_⟩
 unfold zkE at kk
 cases h:(vEv m fk ρ).bind λkd=>(vEv m f ρ).bind λd=>match ρ[i]?,kd with
  | some (.o ds),.int j=>if (decide (ds.length < sizeLine)&&decide (0<=j/\j < 2 ^ 63))=true then some (ρ.set i (.o (zje ds j d)))else none
  | _,_=>none with
 | none=>rw[h]at kk;exact kk.elim
 | some ρ' =>
  rw[h]at kk
  obtain⟨kd,e0,e2⟩:=Option.bind_eq_some_iff.mp h
  obtain⟨d,e1,e2⟩:=Option.bind_eq_some_iff.mp e2
  cases hs:ρ[i]? with
  | none=>rw[hs]at e2;cases e2
  | some sl =>
   rw[hs]at e2
   cases sl with
   | no=>cases e2
   | v _=>cases e2
   | m _ _ _=>cases e2
   | o ds =>
    cases kd with
    | int j =>
     dsimp only at e2
     split at e2 <;> cases e2
     rename_i hl
     rw[Bool.and_eq_true]at hl
     have hj:=of_decide_eq_true hl.2
     obtain⟨q,xs,f1,f2,f3,f4,f5⟩:=rl.owns i ds hs
     refine⟨_,f1,.inl ⟨rfl,xs,SqL.of f4⟩,?_⟩
     refine rk.at rl e0 λF0 H0 vk g0 ak=>?_
     have rl1:=rl.grow g0
     refine re.at rl1 e1 λF' H' v g av=>?_
     have rl2:=rl1.grow g
     obtain⟨q2,xs2,f1',_,_,f4',f5'⟩:=rl2.owns i ds hs
     rw[f1]at f1'
     cases f1'
     cases ak.int_inv
     refine⟨q,xs2,j,v,rfl,rfl,f4',by rw[f5'.length];exact of_decide_eq_true hl.1,hj.1,hj.2,?_⟩
     exact kk _ _ σ (rl2.mutate hs f1 ((f5'.take _).append (.cons av (f5'.drop _))))
    | _=>cases e2
end
noncomputable def zl5:D->Option Key
 | .int i=>some (.inl i)
 | .str x=>some (.inr x)
 | _=>none
noncomputable def zc8:List D->Option (List Key)
 | []=>some []
 | d::ds=>(zl5 d).bind λk=>(zc8 ds).map (k::·)
noncomputable def zcD:D->Option (List Key)
 | .tup ds=>zc8 ds
 | _=>none
noncomputable def zh3 (t:Bool)(d:D):Option (List Key):=if t=true then zcD d else (zl5 d).map ([·])
noncomputable def intQ:Int->Int->Bool
 | .ofNat a,.ofNat b=>Nat.beq a b
 | .negSucc a,.negSucc b=>Nat.beq a b
 | _,_=>false
theorem zcc {a b:Int}:intQ a b=true↔a=b:=by
 cases a with
 | ofNat a=>cases b with
  | ofNat b=>exact⟨λh=>(by rw[Nat.eq_of_beq_eq_true h]),λh=>(by cases h;exact Nat.beq_refl a)⟩
  | negSucc b=>exact⟨λh=>(by cases h),λh=>(by cases h)⟩
 | negSucc a=>cases b with
  | ofNat b=>exact⟨λh=>(by cases h),λh=>(by cases h)⟩
  | negSucc b=>exact⟨λh=>(by rw[Nat.eq_of_beq_eq_true h]),λh=>(by cases h;exact Nat.beq_refl a)⟩
noncomputable def zgQ:Key->Key->Bool
 | .inl i,.inl j=>intQ i j
 | .inr a,.inr b=>decide (a=b)
 | _,_=>false
noncomputable def zlu:List Key->List Key->Bool
 | [],[]=>true
 | a::r,b::s=>match zgQ a b with
  | true=>zlu r s
  | false=>false
 | _,_=>false
theorem za8 {a b:Key}:zgQ a b=true↔a=b:=by
 cases a with
 | inl i=>cases b with
  | inl j=>exact⟨λh=>(by rw[zcc.mp h]),λh=>(by cases h;exact zcc.mpr rfl)⟩
  | inr b=>exact⟨λh=>(by cases h),λh=>(by cases h)⟩
 | inr i=>cases b with
  | inl j=>exact⟨λh=>(by cases h),λh=>(by cases h)⟩
  | inr b=>exact⟨λh=>(by rw[of_decide_eq_true h]),λh=>(by cases h;exact decide_eq_true rfl)⟩
theorem zck {x y:List Key}:zlu x y=true↔x=y:=by
 induction x generalizing y with
 | nil=>cases y with
  | nil=>exact⟨λ_=>rfl,λ_=>rfl⟩
  | cons b s=>exact⟨λh=>(by cases h),λh=>(by cases h)⟩
 | cons a r ih=>cases y with
  | nil=>exact⟨λh=>(by cases h),λh=>(by cases h)⟩
  | cons b s =>
   show(match zgQ a b with | true=>zlu r s | false=>false)=true↔_
   cases h:zgQ a b with
   | true=>rw[za8.mp h];exact ih.trans ⟨λh=>(by rw[h]),λh=>(by cases h;rfl)⟩
   | false=>exact⟨λh=>(by cases h),λe=>(by cases e;rw[za8.mpr rfl]at h;cases h)⟩
noncomputable def zcF (x y:List Key):Decidable (x=y):=match h:zlu x y with
 | true=>.isTrue (zck.mp h)
 | false=>.isFalse λe=>by rw[zck.mpr e]at h;cases h
noncomputable def ZU:List (List Key)->List D->List Key->Option D
 | k'::ks,v::vs,k=>@ite _ (k'=k) (zcF k' k) (some v) (ZU ks vs k)
 | _,_,_=>none
noncomputable def zji:List (List Key)->List D->List Key->D->List D
 | k'::ks,v::vs,k,d=>(@ite _ (k'=k) (zcF k' k) d v)::zji ks vs k d
 | _,_,_,_=>[]
noncomputable def Zc (ks:List (List Key))(vs:List D)(k:List Key):List (List Key):=if (ZU ks vs k).isSome=true then ks else ks++[k]
noncomputable def Zd (ks:List (List Key))(vs:List D)(k:List Key)(d:D):List D:=if (ZU ks vs k).isSome=true then zji ks vs k d else vs++[d]
theorem ZY {k' k:List Key}{ks:List (List Key)}{v:D}{vs:List D}:ZU (k'::ks) (v::vs) k=if k'=k then some v else ZU ks vs k:=by
 show @ite _ (k'=k) (zcF k' k) (some v) (ZU ks vs k)=_
 by_cases h:k'=k
 .rw[if_pos h,if_pos h]
 .rw[if_neg h,if_neg h]
section
variable [KK]
theorem zbQ {F:Hp}{d:D}{k:Key}{y:V}(h:zl5 d=some k)(a:At F d y):y=kV k:=by
 cases d with
 | int i=>cases h;exact a.int_inv
 | str x=>cases h;exact a.str_inv
 | _=>cases h
theorem zcb {F:Hp}:∀ {ds:List D} {ks:List Key} {ys:List V},zc8 ds=some ks->AtL F ds ys->ys=ks.map kV
 | [],_,_,h,a=>by cases h;exact a.nil_inv
 | d::ds,_,_,h,a=>by
  obtain⟨k,h1,h2⟩:=Option.bind_eq_some_iff.mp h
  obtain⟨r,h3,rfl⟩:=Option.map_eq_some_iff.mp h2
  obtain⟨x,xs,rfl,a1,a2⟩:=a.cons_inv
  rw[zbQ h1 a1,zcb h3 a2]
  rfl
theorem VV {F:Hp}{d:D}{k:List Key}{y:V}(h:zcD d=some k)(a:At F d y):∃ b,y=.ref b/\F b=some (.tup (k.map kV)):=by
 cases d with
 | tup ds =>
  obtain⟨b,ys,rfl,hb,al⟩:=a.tup_inv
  rw[zcb (show zc8 ds=some k from h) al]at hb
  exact⟨b,rfl,hb⟩
 | _=>cases h
section
variable {κ:Type}[DecidableEq κ](f:κ->List Key)(hf:∀ a b,f a=f b->a=b)
include hf
theorem VH {F:Hp}{k:κ}:∀ {kvs:List (κ × V)} {vs:List D},AtL F vs (kvs.map (·.2)) ->
 (∀ d,ZU (kvs.map λp=>f p.1) vs (f k)=some d->∃ x,zcL kvs k=some x/\At F d x)/\(ZU (kvs.map λp=>f p.1) vs (f k)=none->zcL kvs k=none)
 | [],_,_=>⟨λd h=>(by cases h),λ_=>rfl⟩
 | p::kvs,[],a=>by cases a.nil_inv
 | p::kvs,v::vs,a=>by
  obtain⟨x,r,e,a1,a2⟩:=a.cons_inv
  cases e
  have ih:=VH (k:=k) a2
  by_cases h:p.1=k
  .rw[XV h]
   have e:ZU ((p::kvs).map λp=>f p.1) (v::vs) (f k)=some v:=by
    rw[List.map_cons,ZY,if_pos (by rw[h])]
   rw[e]
   exact⟨λd z=>(by cases z;exact⟨_,rfl,a1⟩),λz=>(by cases z)⟩
  .rw[XZ h]
   have e:ZU ((p::kvs).map λp=>f p.1) (v::vs) (f k)=ZU (kvs.map λp=>f p.1) vs (f k):=by
    rw[List.map_cons,ZY,if_neg (λz=>h (hf _ _ z))]
   rw[e]
   exact ih
theorem zhd {F:Hp}{k:κ}{kvs:List (κ × V)}{vs:List D}(a:AtL F vs (kvs.map (·.2))):(ZU (kvs.map λp=>f p.1) vs (f k)).isSome=(zcL kvs k).isSome:=by
 obtain⟨h1,h2⟩:=VH f hf (k:=k) a
 cases h:ZU (kvs.map λp=>f p.1) vs (f k) with
 | none=>rw[h2 h];rfl
 | some d=>obtain⟨x,e,_⟩:=h1 d h;rw[e];rfl
theorem zez {F:Hp}{k:κ}{d:D}{y:V}(ad:At F d y):∀ {kvs:List (κ × V)} {vs:List D},AtL F vs (kvs.map (·.2)) ->
 AtL F (zji (kvs.map λp=>f p.1) vs (f k) d) ((kvs.map λkv=>if kv.1=k then (kv.1,y)else kv).map (·.2))
 | [],_,_=>by unfold zji;exact .nil
 | p::kvs,[],a=>by cases a.nil_inv
 | p::kvs,v::vs,a=>by
  obtain⟨x,r,e,a1,a2⟩:=a.cons_inv
  cases e
  have ih:=zez (k:=k) ad a2
  rw[List.map_cons,List.map_cons]
  refine AtL.cons ?_ ih
  by_cases h:p.1=k
  .rw[if_pos h,if_pos (by rw[h])];exact ad
  .rw[if_neg h,if_neg (λz=>h (hf _ _ z))];exact a1
theorem zbM {F:Hp}{k:κ}{d:D}{y:V}(ad:At F d y){kvs:List (κ × V)}{vs:List D}(a:AtL F vs (kvs.map (·.2))) :
 (XM kvs k y).map (λp=>f p.1)=Zc (kvs.map λp=>f p.1) vs (f k)/\AtL F (Zd (kvs.map λp=>f p.1) vs (f k) d) ((XM kvs k y).map (·.2)):=by
 unfold XM Zc Zd
 rw[zhd f hf a,VX]
 cases h:(zcL kvs k).isSome with
 | true =>
  rw[if_pos rfl,if_pos rfl,if_pos rfl]
  refine⟨?_,zez f hf ad a⟩
  rw[List.map_map]
  refine List.map_congr_left λp _=>?_
  by_cases e:p.1=k
  .show f (if p.1=k then (p.1,y)else p).1=_;rw[if_pos e]
  .show f (if p.1=k then (p.1,y)else p).1=_;rw[if_neg e]
 | false =>
  rw[if_neg Bool.false_ne_true,if_neg Bool.false_ne_true,if_neg Bool.false_ne_true,List.map_append,List.map_append]
  exact⟨rfl,a.append (.cons ad .nil)⟩
end
theorem zdZ (a b:Key)(h:[a]=[b]):a=b:=by cases h;rfl
theorem zfA (a b:List Key)(h:a=b):a=b:=h
theorem ziJ {F H:Hp}{a:Addr}{z t:Bool}{ks:List (List Key)}{xs:List V}{vs:List D}{kd:D}{k:List Key}{y:V}(s:yU F H)(hd:VU F a z t ks xs)(al:AtL F vs xs)(hk:zh3 t kd=some k)(ak:At F kd y) :
 ∃ o,zlo H a y o/\(∀ d,ZU ks vs k=some d->∃ x,o=some x/\At F d x)/\(ZU ks vs k=none->o=none):=by
 obtain⟨u,hd,rd⟩:=(hd.mono s).rd
 unfold Vi at hd
 unfold zh3 at hk
 cases t with
 | true =>
  rw[if_pos rfl]at hd hk
  obtain⟨kvs,rfl,rfl,rfl⟩:=hd
  obtain⟨b,rfl,hb⟩:=VV hk ak
  exact⟨_,.inr ⟨kvs,k,b,rd,rfl,s _ _ hb,rfl⟩,VH (λk=>k) zfA al⟩
 | false =>
  rw[if_neg Bool.false_ne_true]at hd hk
  obtain⟨kvs,rfl,rfl,rfl⟩:=hd
  obtain⟨k0,h2,rfl⟩:=Option.map_eq_some_iff.mp hk
  rw[zbQ h2 ak]
  exact⟨_,.inl ⟨kvs,k0,rd,rfl,rfl⟩,VH (λk=>[k]) zdZ al⟩
theorem ziD {F H:Hp}{a:Addr}{o:HO}{t:Bool}{ks:List (List Key)}{xs:List V}{vs:List D}{kd d:D}{k:List Key}{y v:V}{G:Hp}(h:H a=some o)(hd:Vi o t ks xs)(al:AtL F vs xs)(hk:zh3 t kd=some k)(ak:At G kd y)(s:yU G H)(ad:At F d v)
 (hl:ks.length < sizeLine):∃ o',zgF H a y v (upd H a o')/\zcJ F o' (.m t (Zc ks vs k) (Zd ks vs k d)):=by
 unfold Vi at hd
 unfold zh3 at hk
 cases t with
 | true =>
  rw[if_pos rfl]at hd hk
  obtain⟨kvs,rfl,rfl,rfl⟩:=hd
  obtain⟨b,rfl,hb⟩:=VV hk ak
  obtain⟨q1,q2⟩:=zbM (λk=>k) zfA (k:=k) ad al
  refine⟨_,zgF.t h (s _ _ hb) (by simpa using hl),_,?_,q2⟩
  unfold Vi
  rw[if_pos rfl]
  exact⟨_,rfl,q1,rfl⟩
 | false =>
  rw[if_neg Bool.false_ne_true]at hd hk
  obtain⟨kvs,rfl,rfl,rfl⟩:=hd
  obtain⟨k0,h2,rfl⟩:=Option.map_eq_some_iff.mp hk
  rw[zbQ h2 ak]
  obtain⟨q1,q2⟩:=zbM (λk=>[k]) zdZ (k:=k0) ad al
  refine⟨_,zgF.k h (by simpa using hl),_,?_,q2⟩
  unfold Vi
  rw[if_neg Bool.false_ne_true]
  exact⟨_,rfl,q1,rfl⟩
noncomputable def dgetD:D->D->Option D
 | .dct _ t ks vs,kd=>(zh3 t kd).bind λk=>ZU ks vs k
 | _,_=>none
noncomputable def zdn (neg:Bool):D->D->Option D
 | kd,.dct _ t ks vs=>(zh3 t kd).map λk=>.bl (neg != (ZU ks vs k).isSome)
 | _,_=>none
section
variable {X:Cx}{a b c:Expr}{pos apos:Pos}
noncomputable def zma (neg:Bool):R2:=λx y H Q=>∃ a o,y=.ref a/\zlo H a x o/\Q (.bl (neg != o.isSome)) H
theorem zhz {k:Nat}(hr:YK k X.A):OpR X (compareOp .In) (zma false):=by
 intro pins s σ H x y v u Q I rx ry h
 obtain⟨a,o,rfl,g,q⟩:=h
 obtain rfl:u=Value.ref a:=ry
 exact d_in (zfZ hr) I g rx λs3 I3=>⟨.bl o.isSome,H,I3,rfl,by simpa using q⟩
theorem X6 {k:Nat}(hr:YK k X.A):OpR X (compareOp .NotIn) (zma true):=by
 intro pins s σ H x y v u Q I rx ry h
 obtain⟨a,o,rfl,g,q⟩:=h
 obtain rfl:u=Value.ref a:=ry
 exact ziL (zfZ hr) I g rx λs3 I3=>⟨.bl (!o.isSome),H,I3,rfl,by simpa using q⟩
theorem Wk {neg:Bool}:OpD (zma neg) (zdn neg):=by
 intro F H x y d e z Q s a1 a2 h q
 cases e with
 | dct z' t ks vs =>
  obtain⟨k,h1,rfl⟩:=Option.map_eq_some_iff.mp h
  obtain⟨p,xs,rfl,hd,al⟩:=a2.dct_inv
  obtain⟨o,hg,h3,h4⟩:=ziJ s hd al h1 a1
  refine⟨p,o,rfl,hg,?_⟩
  have e:(ZU ks vs k).isSome=o.isSome:=by
   cases h:ZU ks vs k with
   | none=>rw[h4 h];rfl
   | some d=>obtain⟨w,rfl,_⟩:=h3 d h;rfl
  rw[<-e]
  exact q F H _ (.refl s) .bl
 | _=>cases h
end
section
variable {X:Cx}{a e ko:Expr}{pos pos':Pos}{st:Stmt}
noncomputable def ziQ (t:Bool)(i:Nat):SE->Ctl:=fun ρ=>.nx (ρ.set i (.m t [] []))
theorem ziM {t:Bool}{i:Nat}{x:Str}(hN:X.N.Nodup)(hi:X.N[i]?=some x)(hx:Loc X.env.scope x)(hs:swapsWith (.Dict [] [] pos) (some (.Name x pos')) pos.line X.env=pure false:=by rfl)
 (hf:X.fn x=true\/X.env.scope.names.lookup x=some .local:=by first | exact .inl rfl | exact .inr rfl | assumption) {p2:Pos} (hs:swapsWith (.Dict [] [] p2) (some (.Name x pos')) pos.line X.env=pure false:=by rfl):SD X (.Assign [.Name x pos'] (.Dict [] [] p2) pos) (ziQ t i):=by
 have go:∀ (o:HO),zcJ (λ_=>none) o (.m t [] [])->∀ (Fb Hb F H:Hp) (ρ:SE) (σ:St) (E:zf6),Rl Fb Hb F H ρ σ->SOk Fb Hb E (ziQ t i ρ)->∀ p,H p=none->E.nx (σ.set i (some (.ref p))) (upd H p o):=λo ho Fb Hb F H ρ σ E rl k p hp=>by
  have g:=Gr.hide rl.gr.fh hp o
  refine k F _ _ ((rl.grow g).setW (rl.notbase hp) (rl.gr.fh.free hp) zo (ho.mono λ_ _ z=>by cases z) (rl.notown hp))
 cases t with
 | true =>
  refine⟨_,zar hN hi hx zg9 hs hf,λFb Hb F H ρ σ E rl k=>?_⟩
  refine λp hp=>go (.dT []) ⟨[],?_,.nil⟩ Fb Hb F H ρ σ E rl k p hp
  unfold Vi
  rw[if_pos rfl]
  exact⟨[],rfl,rfl,rfl⟩
 | false =>
  refine⟨_,zar hN hi hx zgO hs hf,λFb Hb F H ρ σ E rl k=>?_⟩
  refine λp hp=>go (.dK []) ⟨[],?_,.nil⟩ Fb Hb F H ρ σ E rl k p hp
  unfold Vi
  rw[if_neg Bool.false_ne_true]
  exact⟨[],rfl,rfl,rfl⟩
noncomputable def zdB (ρ:SE)(i:Nat)(kd d:D):Option SE:=match ρ[i]? with
 | some (.m t ks vs)=>(zh3 t kd).bind λk=>if decide (ks.length < sizeLine)=true then some (ρ.set i (.m t (Zc ks vs k) (Zd ks vs k d)))else none
 | _=>none
noncomputable def WT (m:Bool)(i:Nat)(fk fe:Ev->Option D):SE->Ctl:=fun ρ=>match (vEv m fe ρ).bind λd=>(fk (visG ρ)).bind λkd=>zdB ρ i kd d with
 | some ρ'=>.nx ρ'
 | none=>.no
theorem zeu {k:Nat}{m:Bool}{i:Nat}{fk fe:Ev->Option D}(hr:YK k X.A)(he:ED X e fe)(ho:PE X a (zhO i))(hk:ED X ko fk)(hs:swapsWith e (some (.Subscript a ko pos')) pos.line X.env=pure false:=by rfl):SD X (.Assign [.Subscript a ko pos'] e pos) (WT m i fk fe):=by
 obtain⟨t,p,r⟩:=he
 obtain⟨tk,pk,rk⟩:=hk
 refine⟨_,zh6 (zfZ hr) ho pk p hs,λFb Hb F H ρ σ E rl k=>?_⟩
 unfold WT at k
 cases h:(vEv m fe ρ).bind λd=>(fk (visG ρ)).bind λkd=>zdB ρ i kd d with
 | none=>rw[h]at k;exact k.elim
 | some ρ' =>
  rw[h]at k
  obtain⟨d,e1,e2⟩:=Option.bind_eq_some_iff.mp h
  obtain⟨kd,e3,e2⟩:=Option.bind_eq_some_iff.mp e2
  unfold zdB at e2
  split at e2
  .rename_i tt ks vs hs
   obtain⟨kk,e4,e5⟩:=Option.bind_eq_some_iff.mp e2
   have hl:decide (ks.length < sizeLine)=true:=by
    cases hh:decide (ks.length < sizeLine) with
    | true=>rfl
    | false=>rw[hh,if_neg Bool.false_ne_true]at e5;cases e5
   rw[if_pos hl]at e5
   cases e5
   refine r.at rl e1 λF' H' v g av=>?_
   have rl2:=rl.grow g
   obtain⟨q,o,f1,_⟩:=rl2.ows i _ hs rfl
   refine⟨_,f1,?_⟩
   refine rk σ _ _ H' _ _ rl2.gh rl2.visG e3 λF3 H3 v3 g3 av3=>?_
   obtain⟨gb,_⟩:=rl2.back g3
   have rl3:=rl2.grow gb
   obtain⟨q3,o3,f1',_,_,f4,xs,f5,f6⟩:=rl3.ows i _ hs rfl
   rw[f1]at f1'
   cases f1'
   obtain⟨o',hp,hw⟩:=ziD f4 f5 f6 e4 av3 g3.fh (av.mono gb.ff) (of_decide_eq_true hl)
   exact⟨q,_,rfl,hp,k _ _ σ (rl3.mutW hs rfl f1 hw)⟩
  .cases e2
end
end
end Dl
namespace Dl
open PySem L2
variable [KK]
section
variable {X:Cx}
noncomputable def rNeL:R2:=λx y H Q=>∃ F ds es,yU F H/\At F (.lst ds) x/\At F (.lst es) y/\okE 20 (.lst ds)=true/\okE 20 (.lst es)=true/\Q (.bl (!eqN 20 (.lst ds) (.lst es))) H
theorem zjW {k:Nat}(hr:YK k X.A):OpR X (compareOp .NotEq) rNeL:=by
 intro pins s σ H x y v u Q I rx ry h
 obtain⟨F,ds,es,sm,a1,a2,k1,k2,q⟩:=h
 have hu:X.A.units+30 < cLine:=by have:=hr.un;omega
 obtain⟨p,xs,rfl,hx,al⟩:=a1.lst_inv
 obtain⟨p2,ys,rfl,hy,bl⟩:=a2.lst_inv
 cases rx
 cases ry
 obtain⟨its,r,ht,hz⟩:=I.list (SqL.of (sm _ _ hx))
 obtain⟨its2,r2,ht2,hz2⟩:=I.list (SqL.of (sm _ _ hy))
 have hl1:its.toArray.size=ds.length:=by rw[List.size_toArray,<- r.length,al.length]
 have hl2:its2.toArray.size=es.length:=by rw[List.size_toArray,<- r2.length,bl.length]
 have e1:eqN 20 (.lst ds) (.lst es)=((List.range (min ds.length es.length)).all (λj=>eqN 19 (ds.getD j .non) (es.getD j .non))&&ds.length == es.length):=by
  show((List.zipWith (eqN 19) ds es).all id&&ds.length == es.length)=_
  rw[Wl]
 by_cases hle:ds.length=es.length
 .refine SeqAt.RcNeAt.lists (e:=λj=>eqN 19 (ds.getD j .non) (es.getD j .non)) ht.isList ht2.isList (by rw[hl1,hl2];exact hle) (Nat.lt_of_le_of_lt (Nat.le_add_right _ 30) hu) (λj g1 g2=>?_) _ _ _ _ ⟨.bl _,H,I,rfl,?_⟩
  .obtain⟨x',ax,rx⟩:=al.nth r (j:=j) (by simpa using g1)
   obtain⟨y',ay,ry⟩:=bl.nth r2 (j:=j) (by simpa using g2)
   exact WX I sm 19 (xx k1 (by rw[<-hl1];exact g1)) (xx k2 (by rw[<-hl2];exact g2)) ax ay (by simpa using rx) (by simpa using ry) (Nat.lt_of_le_of_lt (show X.A.units+20<=X.A.units+30 from Nat.add_le_add_left (by decide) _) hu)
  .rw[hl1]
   rw[e1,<- hle,Nat.min_self]at q
   simpa using q
 .refine SeqAt.RcNeAt.lists_lengths ht.isList ht2.isList (by rw[hl1,hl2];simpa using hle) (Nat.lt_of_le_of_lt (Nat.le_add_right _ 30) hu) _ _ _ _ ⟨.bl _,H,I,rfl,?_⟩
  have:(ds.length == es.length)=false:=by simpa using hle
  rw[e1,this,Bool.and_false]at q
  exact q
end
noncomputable def zjy:D->D->Option D
 | .lst ds,.lst es=>if (okE 20 (.lst ds)&&okE 20 (.lst es))=true then some (.bl (!eqN 20 (.lst ds) (.lst es)))else none
 | _,_=>none
theorem zi4:OpD rNeL zjy:=by
 intro F H x y d e z Q s ax ay ez q
 unfold zjy at ez
 split at ez
 .split at ez <;> cases ez
  rename_i hk
  rw[Bool.and_eq_true]at hk
  exact⟨F,_,_,s,ax,ay,hk.1,hk.2,q F H _ (.refl s) .bl⟩
 .cases ez
end Dl
namespace L2
open PySem PySem.Spec PyProof.Rows
section
variable {prog:Program}{w:World}{A:Around}{E:Value->Shared->Prop}{s:Shared}{d it:Addr}{o:Obj}{es:Array DictEntry}{ep i:Nat}
theorem raw_iter {Q:Value->Shared->Prop}(hs:(d == sysModules)=false)(ho:s.heap.get? d=some o)(hc:o.ExactDict)(hd:o.data=.dict es ep)
 (hQ:Q (.ref s.heap.objs.size) { s with heap:=s.heap.push { cls:=.type "dict_keyiterator",data:=.fields #[.ref d,.int 0 0,.int es.size 0,.int ep 0] } }):wpAny (model prog w) A (pyIter (.ref d)) Q E s:=by
 have hT:s.TypeIs (.ref d) "dict":=⟨o,ho,hc.1⟩
 refine wpAny_pyIter_slot hT PySem.F.slot_dict_iter (wpAny_call_entry PySem.F.slot_dict_iter hT PySem.F.entry_dict_iter ?_ (PySem.F.args_dict_iter_1 _))
 unfold Builtin.«dict.__iter__»
 refine wpAny_bind ?_
 unfold Builtin.Dict.dictSlotNone
 refine wpAny_bind (wpAny_notOrdered_dict hT ?_)
 show wpAny _ _ (pure (Value.ref d)) _ _ s
 refine wpAny_pure ?_
 show wpAny _ _ (Builtin.Dict.showsAll d>>=_) _ _ s
 unfold Builtin.Dict.showsAll
 rw[if_neg (by rw[hs];exact Bool.false_ne_true)]
 refine wpAny_bind (wpAny_pure (wpAny_bind (wpAny_dictEntries ho hd (wpAny_bind (wpAny_dictEpoch ho hd ?_)))))
 refine wpAny_bind (wpAny_newObj_type (wpAny_pure ⟨_,rfl,"dict_keyiterator",_,⟨_,Heap.get?_push_size _ rfl,rfl⟩,PySem.F.slot_dict_keyiterator_next.lookup,?_⟩))
 simpa [rawInt]using hQ
theorem raw_next {e:DictEntry}{Q:Option Value->Shared->Prop}(hit:s.heap.IsKeyIter it d i es.size ep)(ho:s.heap.get? d=some o)(hd:o.data=.dict es ep)(hx:es[i]?=some e)
 (hQ:∀ h',h'.IsKeyIter it d (i+1) es.size ep->Heap.SameBut it s.heap h'->Q (some e.key) { s with heap:=h' }):wpAny (model prog w) A (pyNext (.ref it)) Q E s:=by
 obtain⟨oi,hoi,hci,hdi⟩:=id hit
 unfold pyNext
 refine wpAny_bind (wpAny_attempt (wpAny_callSpecial?_slot (name:=Str.ofString "__next__") hit.typeIs PySem.F.slot_dict_keyiterator_next
  (wpAny_call_entry PySem.F.slot_dict_keyiterator_next hit.typeIs PySem.F.entry_dict_keyiterator_next ?_ (PySem.F.args_dict_keyiterator_next_1 _))))
 refine wpAny_bind (wpAny_pure ?_)
 refine wpAny_bind ?_
 refine wpAny_bind ?_
 first | refine wpAny_bind (wpAny_typeNameOfWhole_keyiter hit.typeIs (wpAny_pure ?_)) | refine wpAny_bind (wpAny_typeNameOf_keyiter hit.typeIs (wpAny_pure ?_))
 refine wpAny_bind (wpAny_fieldsOf hoi hdi ?_)
 have hown:Builtin.Dict_items.ownsTuple "dict_keyiterator"=false:=by decide
 simp only[hown,Bool.false_eq_true,if_false]
 show wpAny _ _ (if (Value.ref d == Value.none)=true then _ else _) _ _ s
 rw[if_neg (show ¬ ((Value.ref d == Value.none)=true)from Bool.false_ne_true)]
 refine wpAny_bind (wpAny_pure (wpAny_bind (wpAny_dictEntries ho hd ?_)))
 rw[if_neg (by simp)]
 refine wpAny_bind (wpAny_pure (wpAny_bind (wpAny_dictEpoch ho hd ?_)))
 rw[if_neg (by simp)]
 refine wpAny_pure ?_
 simp only[show ¬ ((i:Int) < 0)from by omega,if_false,Int.toNat_natCast,hx]
 refine wpAny_bind ?_
 first | refine wpAny_bind (wpAny_typeNameOfWhole_keyiter hit.typeIs (wpAny_pure ?_)) | refine wpAny_bind (wpAny_typeNameOf_keyiter hit.typeIs (wpAny_pure ?_))
 refine wpAny_bind (wpAny_isOneOf_keyiter hit.typeIs ?_)
 show wpAny _ _ (setField (.ref it) 1 (rawInt ((i:Int)+1))>>=_) _ _ s
 refine wpAny_bind (wpAny_setField hoi hdi (by simp) ?_)
 have hit':(s.heap.update it (Obj.mapFields (·.setIfInBounds 1 (rawInt ((i:Int)+1))))).IsKeyIter it d (i+1) es.size ep :=
  ⟨_,Heap.get?_update_self _ hoi (Obj.isFreed_of_fields (Obj.data_mapFields hdi _)),(Obj.cls_mapFields ..).trans hci,by rw[Obj.data_mapFields hdi];simp[rawInt]⟩
 refine wpAny_bind (wpAny_holding ?_)
 refine wpAny_bind (wpAny_isOneOf_keyiter (s:={ s with heap:=s.heap.update it (Obj.mapFields (·.setIfInBounds 1 (rawInt ((i:Int)+1)))) }) hit'.typeIs ?_)
 show wpAny _ _ (pure e.key) _ _ _
 exact wpAny_pure (wpAny_pure ⟨_,rfl,wpAny_pure (hQ _ hit' (Heap.SameBut.update ..))⟩)
theorem raw_end {Q:Option Value->Shared->Prop}(hh:A.handled=none)(hit:s.heap.IsKeyIter it d i es.size ep)(ho:s.heap.get? d=some o)(hd:o.data=.dict es ep)(hx:es.size<=i)
 (hQ:∀ h',Heap.ExtBut it s.heap h'->Q none { s with heap:=h' }):wpAny (model prog w) A (pyNext (.ref it)) Q E s:=by
 obtain⟨oi,hoi,hci,hdi⟩:=id hit
 unfold pyNext
 refine wpAny_bind (wpAny_attempt (wpAny_callSpecial?_slot (name:=Str.ofString "__next__") hit.typeIs PySem.F.slot_dict_keyiterator_next
  (wpAny_call_entry PySem.F.slot_dict_keyiterator_next hit.typeIs PySem.F.entry_dict_keyiterator_next ?_ (PySem.F.args_dict_keyiterator_next_1 _))))
 refine wpAny_bind (wpAny_pure ?_)
 refine wpAny_bind ?_
 refine wpAny_bind ?_
 first | refine wpAny_bind (wpAny_typeNameOfWhole_keyiter hit.typeIs (wpAny_pure ?_)) | refine wpAny_bind (wpAny_typeNameOf_keyiter hit.typeIs (wpAny_pure ?_))
 refine wpAny_bind (wpAny_fieldsOf hoi hdi ?_)
 have hown:Builtin.Dict_items.ownsTuple "dict_keyiterator"=false:=by decide
 simp only[hown,Bool.false_eq_true,if_false]
 show wpAny _ _ (if (Value.ref d == Value.none)=true then _ else _) _ _ s
 rw[if_neg (show ¬ ((Value.ref d == Value.none)=true)from Bool.false_ne_true)]
 refine wpAny_bind (wpAny_pure (wpAny_bind (wpAny_dictEntries ho hd ?_)))
 rw[if_neg (by simp)]
 refine wpAny_bind (wpAny_pure (wpAny_bind (wpAny_dictEpoch ho hd ?_)))
 rw[if_neg (by simp)]
 refine wpAny_pure ?_
 simp only[show ¬ ((i:Int) < 0)from by omega,if_false,Int.toNat_natCast,Array.getElem?_eq_none hx]
 refine wpAny_bind ?_
 first | refine wpAny_bind (wpAny_typeNameOfWhole_keyiter hit.typeIs (wpAny_pure ?_)) | refine wpAny_bind (wpAny_typeNameOf_keyiter hit.typeIs (wpAny_pure ?_))
 show wpAny _ _ (setField (.ref it) 0 .none>>=_) _ _ s
 refine wpAny_bind (wpAny_setField hoi hdi (by simp) ?_)
 show wpAny _ _ (newExc (.type "StopIteration") []>>=_) _ _ _
 refine wpAny_bind ?_
 simp only[newExc,newTuple]
 refine wpAny_bind (wpAny_newObj_type ?_ (by size_fits))
 refine wpAny_bind (m:=firstArgMember _ _) (wpAny_of_eq (a:=Value.none) (by first | rfl | (simp only[firstArgMember];rfl)) ?_)
 refine wpAny_newObj_type ?_ (by size_fits)
 simp only[raiseNew]
 refine wpAny_bind (wpAny_handled ?_)
 rw[show A.in1.handled=none from hh]
 refine wpAny_bind (wpAny_pure (wpAny_throw ?_))
 refine wpAny_bind (wpAny_isInstance (T:="StopIteration") (b:=true) ⟨_,Heap.get?_push_size _ rfl,rfl⟩ isSubtype_stop ?_)
 exact wpAny_pure (hQ _ (((Heap.SameBut.update ..).extBut.push _).push _))
end
noncomputable def zjF:HO->Nat
 | .dK kvs=>kvs.length
 | .dT kvs=>kvs.length
 | _=>0
noncomputable def zbE (u:HO):Prop:=(∃ kvs,u=.dK kvs)\/∃ kvs,u=.dT kvs
noncomputable def zjZ (H:Hp)(u:HO)(i:Nat)(x:V):Prop:=match u with
 | .dK kvs=>∃ p,kvs[i]?=some p/\x=kV p.1
 | .dT kvs=>∃ p b,kvs[i]?=some p/\x=.ref b/\H b=some (.tup (p.1.map kV))
 | _=>False
theorem zj1 {P:Program}{w:World}{k:Key}{v:Value}(h:(yI P w).is k v=true):yZ (kV k) v:=by
 rcases yp h with ⟨i,t,rfl,rfl⟩ | ⟨x,t,rfl,rfl⟩
 .exact⟨t,rfl⟩
 .exact⟨t,rfl⟩
structure DObj (H:Hp) (a:Addr) (ob:Obj) (u:HO) (es:Array DictEntry) (ep:Nat):Prop where
 sys:(a == sysModules)=false
 exact_:ob.ExactDict
 data:ob.data=.dict es ep
 size:es.size=zjF u
theorem zbA {P:Program}{w:World}{H:Hp}{h:Heap}{a:Addr}{ob:Obj}{u:HO}(ok:yR P w H h a (.frz ob u))(hu:zbE u):h.get? a=some ob/\∃ es ep,DObj H a ob u es ep/\∀ (i:Nat) (e:DictEntry),es[i]?=some e->∃ x,yZ x e.key/\zjZ H u i x:=by
 obtain⟨e0,ok⟩:=ok
 rcases hu with ⟨kvs,rfl⟩ | ⟨kvs,rfl⟩
 .obtain⟨_,sys,vs,kv,o,es,ep,e1,ex,dt,ko,pr,nd⟩:=ok
  rw[e0]at e1
  cases e1
  have hl:es.size=vs.length:=by rw[<-pr.length];simp
  refine⟨e0,es,ep,⟨sys,ex,dt,by rw[hl,<- kv.length];rfl⟩,λi e he=>?_⟩
  have hi:i < kvs.length:=by
   have:=(Array.getElem?_eq_some_iff.mp he).1
   rw[kv.length];omega
  have hv:i < vs.length:=by rw[<-kv.length];exact hi
  have h1:=pr.get? (i:=i) (e:=e) (k:=vs[i].1) (v:=vs[i].2) (by simpa using he) (by simp[hv])
  have hk:kvs[i].1=vs[i].1:=by
   have:=congrArg (λl=>l[i]?) kv.keys
   simp only[List.getElem?_map]at this
   rw[List.getElem?_eq_getElem hi,List.getElem?_eq_getElem hv]at this
   exact Option.some.inj this
  exact⟨kV kvs[i].1,by rw[hk];exact zj1 h1.1,kvs[i],List.getElem?_eq_getElem hi,rfl⟩
 .obtain⟨_,sys,xs,pr,o,es,ep,e1,ex,dt,he,nd⟩:=ok
  rw[e0]at e1
  cases e1
  have hl:es.size=xs.length:=by rw[<-Array.length_toList,he,List.length_map]
  have hp:=Paired.length pr
  refine⟨e0,es,ep,⟨sys,ex,dt,by rw[hl,<- hp];rfl⟩,λi e hei=>?_⟩
  have hx:i < xs.length:=by
   have:=(Array.getElem?_eq_some_iff.mp hei).1
   omega
  have hi:i < kvs.length:=by omega
  have e2:e=entryOfKey (tupleKind (yI P w)) xs[i]:=by
   have:es.toList[i]?=some e:=by simpa using hei
   rw[he,List.getElem?_map,List.getElem?_eq_getElem hx]at this
   exact(Option.some.inj this).symm
  have rel:∀ {l:List (List Key × V)} {m:List (List Key × Addr × Value)},Paired (λp q=>p.1=q.1/\H q.2.1=some (.tup (p.1.map kV))/\yZ p.2 q.2.2) l m->∀ (j:Nat) (h1:j < l.length) (h2:j < m.length),l[j].1=m[j].1/\H m[j].2.1=some (.tup (l[j].1.map kV)):=λ{l m} r=>by
   induction r with
   | nil=>intro j h1;simp at h1
   | cons h t ih =>
    intro j h1 h2
    cases j with
    | zero=>exact⟨h.1,h.2.1⟩
    | succ j=>exact ih j (by simpa using h1) (by simpa using h2)
  obtain⟨_,r2⟩:=rel pr i hi hx
  subst e2
  exact⟨.ref xs[i].2.1,rfl,kvs[i],xs[i].2.1,List.getElem?_eq_getElem hi,rfl,r2⟩
noncomputable def Itf (a:Addr)(ob:Obj)(u:HO):It :=
 ⟨λi H=>H a=some (.frz ob u)/\i < zjF u,λi H x H'=>H'=H/\zjZ H u i x,λi H=>H a=some (.frz ob u)/\zjF u<=i⟩
theorem zeN {P:Program}{w:World}{K:W.Frag}{tg:Expr}{a it:Addr}{ob:Obj}{u:HO}{es:Array DictEntry}{ep:Nat}(hu:zbE u)(hn:es.size=zjF u)(hd:ob.data=.dict es ep):zhR P w K tg (Itf a ob u) [it] it (λi h=>h.IsKeyIter it a i es.size ep) where
 mem:=by simp
 obj:=λi h st b hb=>by
  have e:b=it:=by simpa using hb
  subst e
  obtain⟨o,e,c,d⟩:=st
  exact⟨o,e,λv z=>by rw[d]at z;cases z⟩
 keep:=λi h h' st k=>by
  obtain⟨o,e,r⟩:=st
  exact⟨o,k it (by simp) o e,r⟩
 item:=by
  intro X hP hw hK hc i pins s σ H E I hf st hg
  subst hP hw hK
  obtain⟨e1,hi⟩:=hg
  obtain⟨e0,es',ep',D,ky⟩:=zbA (I.hok a _ e1) hu
  have e2:=D.data
  rw[hd]at e2
  cases e2
  obtain⟨f0,f1,f2,f3,f4,f5⟩:=hf it (by simp)
  have hlt:i < es.size:=by omega
  obtain⟨x,rx,kx⟩:=ky i es[i] (Array.getElem?_eq_getElem hlt)
  refine raw_next st e0 hd (Array.getElem?_eq_getElem hlt) λh' st' sb=>?_
  have I1:Inv X pins σ H { s with heap:=h' }:=I.turned (t':=s.toks) (λb o hb e=>(sb.2 b hb).trans e) f0 f1 f3 f4 f5
  obtain⟨o,e,c,d⟩:=id st'
  exact⟨_,rfl,zgp (s:={ s with heap:=h' }) e c d (by decide) ⟨x,H,I1,rx,⟨rfl,kx⟩,st',λb hb=>(hf b hb).1⟩⟩
 done:=by
  intro X hP hw hK hc i pins s σ H E I hf st hg
  subst hP hw hK
  obtain⟨e1,hi⟩:=hg
  obtain⟨e0,es',ep',D,ky⟩:=zbA (I.hok a _ e1) hu
  obtain⟨f0,f1,f2,f3,f4,f5⟩:=hf it (by simp)
  exact raw_end (I.ok.hd hc) st e0 hd (by omega) λh' eb=>⟨rfl,I.turned (t':=s.toks) (λb o hb e=>eb b o hb e) f0 f1 f3 f4 f5⟩
 self:=λ_ _ _ _ _ st h=>wpAny_pyIter_keyiter st h
section
variable {X:Cx}{tg:Expr}
noncomputable def zmm (tl:TE):TI:=fun σ H R=>tl σ H λx H1=>∃ a ob u,x=.ref a/\H1 a=some (.frz ob u)/\zbE u/\R (Itf a ob u) H1
theorem zi3 {l:Expr}{tl:TE}(hl:PE X l tl):PI X tg l (zmm tl):=by
 intro pins s σ H R I h
 refine thn (hl pins s σ H _ I h) λv s1 hh9=>?_
 obtain⟨x,H1,I1,r1,q1⟩:=hh9
 obtain⟨a,ob,u,e,e1,hu,q⟩:=q1
 subst e
 cases r1
 obtain⟨e0,es,ep,D,_⟩:=zbA (I1.hok a _ e1) hu
 refine raw_iter D.sys e0 D.exact_ D.data ?_
 refine⟨s1.heap.objs.size,[s1.heap.objs.size],_,_,H1,rfl,I1.kept (t':=s1.toks) λb o e=>Heap.get?_push_of_some _ e,zeN hu D.size D.data,⟨_,Heap.get?_push_size _ rfl,rfl,rfl⟩,λb hb=>?_,q⟩
 have e:b=s1.heap.objs.size:=by simpa using hb
 subst e
 exact I1.fpOk (Nat.le_refl _) (I1.hok.fresh (Nat.le_refl _))
theorem Inv.frz {pins:List (Addr × Obj)}{σ:St}{H:Hp}{s:Shared}{p:Addr}{u:HO}(I:Inv X pins σ H s)(e:H p=some u)(hu:zbE u):∃ ob,Inv X pins σ (upd H p (.frz ob u)) s:=by
 have ok:=I.hok p u e
 have mu:Mut (H p):=by
  rw[e]
  rcases hu with ⟨kvs,rfl⟩ | ⟨kvs,rfl⟩ <;> exact True.intro
 rcases hu with ⟨kvs,rfl⟩ | ⟨kvs,rfl⟩
 .obtain⟨z,sys,vs,kv,o,es,ep,e1,r⟩:=ok
  refine⟨o,I.write (h':=s.heap) (t':=s.toks) mu (.inl rfl) (λb u _ e=>e) ⟨o,e1⟩ ⟨e1,z,sys,vs,kv,o,es,ep,e1,r⟩⟩
 .obtain⟨z,sys,xs,pr,o,es,ep,e1,r⟩:=ok
  refine⟨o,I.write (h':=s.heap) (t':=s.toks) mu (.inl rfl) (λb u _ e=>e) ⟨o,e1⟩ ⟨e1,z,sys,xs,?_,o,es,ep,e1,r⟩⟩
  exact KT.keeps pr λb ys eb=>by
   rw[zq (zfU eb e (λz=>nomatch z))]
   exact eb
noncomputable def tFrz (i:Nat)(t:TS):TS:=λE σ H=>∃ p u,σ[i]?=some (some (.ref p))/\H p=some u/\zbE u/\∀ ob,t E σ (upd H p (.frz ob u))
theorem ziN {sts:List Stmt}{t:TS}(i:Nat)(h:PSs X sts t):PSs X sts (tFrz i t):=by
 intro pins s σ H E I q
 obtain⟨p,u,_,e,hu,q⟩:=q
 obtain⟨ob,I2⟩:=I.frz e hu
 exact h pins s σ _ E I2 (q ob)
noncomputable def zhJ (z:Bool)(tk tv:TE):TE:=fun σ H Q=>∀ p,H p=none->tk σ (upd H p (.dT [])) λx H1=>tv σ H1 λy H2=>H2 p=some (.dT [])/\∃ b k,x=.ref b/\H2 b=some (.tup (k.map kV)) /\
 if z=true then ∀ ob,Q (.ref p) (upd H2 p (.frz ob (.dT [(k,y)])))else Q (.ref p) (upd H2 p (.dT [(k,y)]))
theorem zgo {z:Bool}{k v:Expr}{pos:Pos}{tk tv:TE}(hu:X.A.units+1 < cLine)(hk:PE X k tk)(hv:PE X v tv):PE X (.Dict [some k] [v] pos) (zhJ z tk tv):=by
 intro pins s σ H Q I q
 have hn:=I.hok.fresh (Nat.le_refl s.heap.objs.size)
 have I1:=I.laid (a:=s.heap.objs.size) (o:=.dT []) (h':=s.heap.push { cls:=.type "dict",data:=.dict #[] }) (t':=s.toks) (λ_ _ q=>Heap.get?_push_of_some _ q) (Nat.le_refl _) (Vm s.heap I.big)
 refine wpAny_Dict_any (by rfl) rfl (by simp) (by simp) ?_
 refine pairTrees_cons_walk (thn (hk pins _ σ _ _ I1 (q _ hn)) λu s1 ⟨x,H1,I1,rx,q1⟩=>thn (hv pins s1 σ H1 _ I1 q1) λw2 s2 hh9=>?_)
 obtain⟨y,H2,I2,ry,q2⟩:=hh9
 obtain⟨e,b,kk,ex,eb,q2⟩:=q2
 subst ex
 obtain rfl:u=Value.ref b:=rx
 refine pairTrees_nil_walk ?_
 unfold storeAll
 simp only[List.forIn_cons,List.forIn_nil]
 obtain⟨zz,hd,xs,rel,dd⟩:=ziv I2.hok e
 cases rel
 refine wpAny_bind (wpAny_bind (wpAny_dictSet_heap (hsz:=Nat.zero_le _) (show(tupleKind (yI X.prog X.w)).room X.A from Nat.lt_of_succ_lt hu) (W7 I2.hok eb) dd λh' dd' hs=>wpAny_pure (wpAny_pure ?_)))
 have dd2:=dd'
 obtain⟨q,es,ep,hq,h2,h3,h4,_,h5⟩:=dd'
 have I3:=Vo (t':=s2.toks+(tupleKind (yI X.prog X.w)).draws kk) (ob:=.dT [(kk,y)]) I2 (by rw[e];exact True.intro) hs ⟨q,hq⟩ ⟨by show 1<=sizeLine;decide,hd,_,((show KT H2 [] []from .nil).put kk eb ry).keeps λc ys ec=>by
  rw[zq (zfU ec e (λz=>nomatch z))]
  exact ec,q,es,ep,hq,h2,h3,h4,h5⟩
 cases z with
 | false=>exact⟨.ref s.heap.objs.size,_,I3,rfl,by rw[if_neg Bool.false_ne_true]at q2;exact q2⟩
 | true =>
  rw[if_pos rfl]at q2
  obtain⟨ob,I4⟩:=I3.frz (p:=s.heap.objs.size) (u:=.dT [(kk,y)]) zo (.inr ⟨_,rfl⟩)
  rw[Wq]at I4
  exact⟨.ref s.heap.objs.size,_,I4,rfl,q2 ob⟩
end
end L2
namespace Dl
open PySem L2
noncomputable def k1D:Key->D
 | .inl i=>.int i
 | .inr x=>.str x
noncomputable def zcd (t:Bool)(k:List Key):D:=if t=true then .tup (k.map k1D)else match k with
 | [a]=>k1D a
 | _=>.non
noncomputable def zcp:D->Option (List D)
 | .dct true t ks _=>some (ks.map (zcd t))
 | _=>none
section
variable [KK]
theorem zhN {F:Hp}(k:Key):At F (k1D k) (kV k):=by
 cases k with
 | inl i=>exact .int
 | inr x=>exact .str
theorem zfd {F:Hp}:∀ ks:List Key,AtL F (ks.map k1D) (ks.map kV)
 | []=>.nil
 | k::ks=>.cons (zhN k) (zfd ks)
theorem zbH {u:HO}{t:Bool}{ks:List (List Key)}{xs:List V}(h:Vi u t ks xs):zbE u/\zjF u=ks.length:=by
 unfold Vi at h
 cases t with
 | true=>rw[if_pos rfl]at h;obtain⟨kvs,rfl,rfl,_⟩:=h;exact⟨.inr ⟨_,rfl⟩,by rw[List.length_map];rfl⟩
 | false=>rw[if_neg Bool.false_ne_true]at h;obtain⟨kvs,rfl,rfl,_⟩:=h;exact⟨.inl ⟨_,rfl⟩,by rw[List.length_map];rfl⟩
theorem Gr.see {F H:Hp}{b:Addr}{ys:List V}(s:yU F H)(h:H b=some (.tup ys)):∃ F',Gr F H F' H/\F' b=some (.tup ys):=by
 cases e:F b with
 | some o =>
  have:=s _ _ e
  rw[h]at this
  cases this
  exact⟨F,.refl s,e⟩
 | none =>
  refine⟨upd F b (.tup ys),⟨λp o z=>?_,λp o z=>?_,λp o z1 z2=>⟨?_,z2⟩⟩,zo⟩
  .rw[zq (zn z e)];exact z
  .by_cases hp:p=b
   .subst hp;rw[zo]at z;cases z;exact h
   .rw[zq hp]at z;exact s p o z
  .by_cases hp:p=b
   .subst hp
    rw[h]at z2
    cases z2
    exact .inr ⟨⟨_,rfl⟩,zo⟩
   .exact .inl (by rw[zq hp];exact z1)
theorem zjo {F:Hp}{a:Addr}{ob:Obj}{u:HO}{t:Bool}{ks:List (List Key)}{xs:List V}(h:F a=some (.frz ob u))(hd:Vi u t ks xs):zjc (Itf a ob u) F (ks.map (zcd t)):=by
 intro i F2 H2 s1 s2
 have e2:=s2 _ _ (s1 _ _ h)
 obtain⟨_,hl⟩:=zbH hd
 refine⟨λhi=>⟨e2,by rw[hl,hi,List.length_map];exact Nat.le_refl _⟩,λd hdi=>?_⟩
 rw[List.getElem?_map]at hdi
 obtain⟨k,hk,rfl⟩:=Option.map_eq_some_iff.mp hdi
 refine⟨⟨e2,by rw[hl];exact(List.getElem?_eq_some_iff.mp hk).1⟩,λx H3 hy=>?_⟩
 obtain⟨rfl,hy⟩:=hy
 unfold Vi at hd
 cases t with
 | true =>
  rw[if_pos rfl]at hd
  obtain⟨kvs,rfl,rfl,_⟩:=hd
  obtain⟨p,b,hp,rfl,hb⟩:=hy
  rw[List.getElem?_map,hp]at hk
  cases hk
  obtain⟨F3,g,hF⟩:=Gr.see s2 hb
  exact⟨F3,g,.tup hF (zfd _)⟩
 | false =>
  rw[if_neg Bool.false_ne_true]at hd
  obtain⟨kvs,rfl,rfl,_⟩:=hd
  obtain⟨p,hp,rfl⟩:=hy
  rw[List.getElem?_map,hp]at hk
  cases hk
  exact⟨F2,.refl s2,zhN _⟩
section
variable {X:Cx}{tg a b e k v:Expr}{pos pos':Pos}{sts:List Stmt}
noncomputable def iDct (f:Ev->Option D):Ev->Option (List D):=fun ρ=>(f ρ).bind zcp
theorem ziC {f:Ev->Option D}(ha:ED X a f):ID X tg a (iDct f):=by
 obtain⟨t,p,r⟩:=ha
 refine⟨_,zi3 p,fun σ ρ F H ds R s va e q=>?_⟩
 obtain⟨d,e1,e2⟩:=Option.bind_eq_some_iff.mp e
 refine r σ ρ F H d _ s va e1 λF1 H1 v g1 a1=>?_
 unfold zcp at e2
 split at e2
 .cases e2
  obtain⟨p,xs,rfl,⟨u,hd,hz⟩,_⟩:=a1.dct_inv
  rw[if_pos rfl]at hz
  obtain⟨ob,hz⟩:=hz
  exact⟨p,ob,u,rfl,g1.fh _ _ hz,(zbH hd).1,q F1 H1 _ g1 (zjo hz hd)⟩
 .cases e2
noncomputable def zly (i:Nat)(g:SE->Ctl):SE->Ctl:=fun ρ=>match ρ[i]? with
 | some (.m t ks vs)=>g (ρ.set i (.v (.dct true t ks vs)))
 | _=>.no
theorem Rl.fzM {Fb Hb F H:Hp}{ρ:SE}{σ:St}{i:Nat}{t:Bool}{ks:List (List Key)}{vs:List D}(r:Rl Fb Hb F H ρ σ)(h:ρ[i]?=some (.m t ks vs)) :
 ∃ p u,σ[i]?=some (some (.ref p))/\H p=some u/\zbE u/\∀ ob,Rl Fb Hb (upd F p (.frz ob u)) (upd H p (.frz ob u)) (ρ.set i (.v (.dct true t ks vs))) σ:=by
 obtain⟨p,u,e1,e2,e3,e4,xs,hd,al⟩:=r.ows i _ h rfl
 refine⟨p,u,e1,e4,(zbH hd).1,λob=>?_⟩
 have hi:i < ρ.length:=(List.getElem?_eq_some_iff.mp h).1
 have sF:yU F (upd F p (.frz ob u)):=λb o e=>by rw[zq (zn e e3)];exact e
 have nj:∀ {j:Nat} {s:Sl},(ρ.set i (.v (.dct true t ks vs)))[j]?=some s->s.isO=true->i≠j:=λ{j s} h ht e=>by
  subst e
  rw[List.getElem?_set_self hi]at h
  cases h
  cases ht
 refine⟨⟨r.gr.ff.trans sF,λb o z=>?_,λb o z1 z2=>?_⟩,λj d z=>?_,λj s z ht=>?_,λj k q s s' h1 h2 o1 o2 h3 h4=>?_,by simp[r.len]⟩
 .by_cases hb:b=p
  .subst hb;rw[zo]at z ⊢;exact z
  .rw[zq hb]at z ⊢;exact r.gr.fh b o z
 .have hb:b≠p:=zn z2 e2
  obtain⟨x,y⟩:=r.gr.kp b o z1 z2
  refine⟨?_,by rw[zq hb];exact y⟩
  unfold Hid
  rw[zq hb]
  exact x
 .by_cases hj:i=j
  .subst hj
   rw[List.getElem?_set_self hi]at z
   cases z
   refine⟨_,e1,?_⟩
   unfold At
   exact⟨p,xs,rfl,⟨u,hd,by rw[if_pos rfl];exact⟨ob,zo⟩⟩,al.mono sF⟩
  .rw[List.getElem?_set_ne hj]at z
   obtain⟨v,f1,f2⟩:=r.vals j d z
   exact⟨v,f1,f2.mono sF⟩
 .have hj:=nj z ht
  rw[List.getElem?_set_ne hj]at z
  obtain⟨q,y,f1,f2,f3,f4,f5⟩:=r.ows j s z ht
  have hq:q≠p:=λw=>hj (r.dis i j p _ s h z rfl ht e1 (by rw[<-w];exact f1))
  exact⟨q,y,f1,f2,by rw[zq hq];exact f3,by rw[zq hq];exact f4,f5.mono sF⟩
 .have a1:=nj h1 o1
  have a2:=nj h2 o2
  rw[List.getElem?_set_ne a1]at h1
  rw[List.getElem?_set_ne a2]at h2
  exact r.dis j k q s s' h1 h2 o1 o2 h3 h4
theorem zfE {g:SE->Ctl}(i:Nat)(h:SDs X sts g):SDs X sts (zly i g):=by
 obtain⟨t,p,r⟩:=h
 refine⟨_,ziN i p,λFb Hb F H ρ σ E rl k=>?_⟩
 unfold zly at k
 split at k
 .rename_i tt ks vs hs
  obtain⟨q,u,e1,e2,e3,e4⟩:=rl.fzM hs
  exact⟨q,u,e1,e2,e3,λob=>r Fb Hb _ _ _ σ E (e4 ob) k⟩
 .exact k.elim
theorem zeE {z:Bool}{tk tv:TE}{fk fv:Ev->Option D}{σ:St}{ρ:Ev}{F H:Hp}{kd d:D}{kk:List Key}{Q:VK}(rk:RE tk fk)(rv:RE tv fv)(s:yU F H)(va:VAt F ρ σ)(e1:fk ρ=some kd)(e2:fv ρ=some d)(e3:zcD kd=some kk)
 (q:∀ F2 H2 p y,Gr F H F2 H2->H p=none->F2 p=none->H2 p=some (.dT [])->At F2 d y->if z=true then ∀ ob,Q (.ref p) (upd H2 p (.frz ob (.dT [(kk,y)])))else Q (.ref p) (upd H2 p (.dT [(kk,y)]))):zhJ z tk tv σ H Q:=by
 intro p hp
 have g0:=Gr.hide s hp (.dT [])
 refine rk σ ρ F _ kd _ g0.fh va e1 λF1 H1 x g1 a1=>?_
 refine rv σ ρ F1 H1 d _ g1.fh (va.mono g1.ff) e2 λF2 H2 y g2 a2=>?_
 have g12:=g1.trans g2
 obtain⟨n2,h2⟩:=g12.kl (o:=.dT []) (λ_ e=>by cases e) (s.free hp) zo
 obtain⟨b,rfl,hb⟩:=VV e3 a1
 exact⟨h2,b,kk,rfl,g2.fh _ _ (g2.ff _ _ hb),q F2 H2 p y (g0.trans g12) hp n2 h2 a2⟩
noncomputable def zgj (i:Nat)(fk fv:Ev->Option D):SE->Ctl:=fun ρ=>match (fk (visF ρ)).bind λkd=>(fv (visF ρ)).bind λd=>(zcD kd).map λk=>Sl.m true [k] [d] with
 | some s=>.nx (ρ.set i s)
 | none=>.no
theorem zh4 {n i:Nat}{x:Str}{fk fv:Ev->Option D}(hr:YK n X.A)(hN:X.N.Nodup)(hi:X.N[i]?=some x)(hx:Loc X.env.scope x)(hk:ED X k fk)(hv:ED X v fv){p2:Pos}
 (hs:swapsWith (.Dict [some k] [v] p2) (some (.Name x pos')) pos.line X.env=pure false:=by rfl)
 (hf:X.fn x=true\/X.env.scope.names.lookup x=some .local:=by first | exact .inl rfl | exact .inr rfl | assumption):SD X (.Assign [.Name x pos'] (.Dict [some k] [v] p2) pos) (zgj i fk fv):=by
 obtain⟨tk,pk,rk⟩:=hk
 obtain⟨tv,pv,rv⟩:=hv
 refine⟨_,zar hN hi hx (zgo (z:=false) (zfZ hr) pk pv) hs hf,λFb Hb F H ρ σ E rl kk=>?_⟩
 unfold zgj at kk
 cases h:(fk (visF ρ)).bind λkd=>(fv (visF ρ)).bind λd=>(zcD kd).map λk=>Sl.m true [k] [d] with
 | none=>rw[h]at kk;exact kk.elim
 | some s =>
  rw[h]at kk
  obtain⟨kd,e1,e⟩:=Option.bind_eq_some_iff.mp h
  obtain⟨d,e2,e⟩:=Option.bind_eq_some_iff.mp e
  obtain⟨k0,e3,rfl⟩:=Option.map_eq_some_iff.mp e
  refine zeE (z:=false) rk rv rl.gr.fh rl.visF e1 e2 e3 λF2 H2 p y g hp n2 h2 ay=>?_
  rw[if_neg Bool.false_ne_true]
  have g2:Gr F H F2 (upd H2 p (.dT [(k0,y)])):=by
   refine⟨g.ff,λb o z=>?_,λb o z1 z2=>?_⟩
   .rw[zq (zn z n2)];exact g.fh b o z
   .rw[zq (zn z2 hp)];exact g.kp b o z1 z2
  refine kk F2 _ _ ((rl.grow g2).setW (rl.notbase hp) n2 zo ⟨[y],?_,.cons ay .nil⟩ (rl.notown hp))
  unfold Vi
  rw[if_pos rfl]
  exact⟨_,rfl,rfl,rfl⟩
end
end
end Dl
namespace PySem
open Sem (wp)
namespace OwnRev
theorem lri_slot_hint:Slot "list_reverseiterator" "__length_hint__" "list_reverseiterator.__length_hint__" :=
 .of (owner:="list_reverseiterator") (n:="__length_hint__") (by rw[typeLookup_type,builtinLookup_eq_fast];kernel_rfl) (by decide +kernel) (by decide +kernel) (by decide +kernel)
  (by first | exact .inl (by decide +kernel) | exact .inr (by decide +kernel)) (by rw[isSubtype_type];kernel_rfl)
theorem lri_no_len:typeLookup (.type "list_reverseiterator") "__len__"=pure none:=by rw[typeLookup_type,builtinLookup_eq_fast];kernel_rfl
theorem lri_sub_self:isSubtype (.type "list_reverseiterator") (.type "list_reverseiterator")=pure true:=by rw[isSubtype_type];kernel_rfl
end OwnRev
section
variable {prog:Program}{w:World}{A:Around}{E:Value->Shared->Prop}{s:Shared}
theorem zav {I l:Addr}{i:Int}{Q:Bool->Shared->Prop}(he:s.heap.IsRevIter I l i)(hQ:Q false s):wpAny (model prog w) A (Builtin.List.listLengthHint (.ref I)) Q E s:=by
 have hT:=he.typeIs
 unfold Builtin.List.listLengthHint
 refine wpAny_bind (wpAny_specialOf hT OwnRev.lri_no_len ?_)
 try dsimp only
 show wpAny _ _ (if false=true then _ else (if false=true then _ else _)) _ _ _
 rw[if_neg Bool.false_ne_true,if_neg Bool.false_ne_true]
 refine wpAny_bind (wpAny_specialOf hT OwnRev.lri_slot_hint.lookup ?_)
 try dsimp only
 have hsp:splitId "list_reverseiterator.__length_hint__"=some ("list_reverseiterator","__length_hint__"):=by decide +kernel
 rw[hsp]
 try dsimp only
 refine wpAny_bind (wpAny_isInstance (T:="list_reverseiterator") (b:=true) hT OwnRev.lri_sub_self ?_)
 rw[if_neg (by decide)]
 show wpAny _ _ (if true=true then _ else _) _ _ _
 rw[if_pos rfl,if_neg (by decide)]
 exact wpAny_pure hQ
theorem zaJ {I l:Addr}{items:Array Value}{Q:Value->Shared->Prop}(hh:A.handled=none)(he:s.heap.IsRevIter I l ((items.size:Int) - 1))(hl:s.heap.IsList l items)(hne:l≠I)(hsz:items.size<=sizeLine)
 (hQ:∀ (h':Heap) (c' tk:Nat),(∀ b o,b≠I->s.heap.get? b=some o->h'.get? b=some o) ->
  h'.get? s.heap.objs.size=some { cls:=.type "list",dict:=none,data:=.seq items.toList.reverse.toArray c',slots:=#[] }->Q (.ref s.heap.objs.size) { s with heap:=h',toks:=tk }) :
 wpAny (model prog w) A (call (.type "list") [.ref I]) Q E s:=by
 have hIl:I < s.heap.objs.size:=by obtain⟨o,ho,_⟩:=he;exact Heap.lt_size ho
 have hll:l < s.heap.objs.size:=by obtain⟨o,ho,_⟩:=hl;exact Heap.lt_size ho
 have hSI:s.heap.objs.size≠I:=Nat.ne_of_gt hIl
 have hSf:s.heap.objs.size∉[I,l]:=λhm=>by
  rcases List.mem_cons.mp hm with h | h
  .exact hSI h
  .exact Nat.ne_of_gt hll (List.mem_singleton.mp h)
 have W:=Walks.listRev (prog:=prog) (w:=w) (A:=A.in1.in1) hh I l hne items
 have ends:∀ acc:Array Value,ItemsOf (λi v=>items[items.size - 1 - i]?=some v) acc items.size->acc=items.toList.reverse.toArray:=λacc ha=>by
  apply Array.ext'
  apply List.ext_getElem?
  intro i
  by_cases hi:i < items.size
  .have e1:acc[i]?=some (acc[i]'(by rw[ha.1];exact hi)):=Array.getElem?_eq_getElem _
   have e2:=ha.2 i _ e1
   show acc.toList[i]?=items.toList.reverse[i]?
   rw[List.getElem?_reverse (by simpa using hi)]
   simp only[Array.getElem?_toList,Array.length_toList]
   rw[e1,e2]
  .rw[List.getElem?_eq_none (by simp[ha.1];omega),List.getElem?_eq_none (by simp;omega)]
 refine callType_codes (Q₁:=λobj s₁=>obj=.ref s.heap.objs.size/\s₁={ s with heap:=s.heap.push { cls:=.type "list",data:=.seq #[] } }) F.called_list (F.typeCall_list_1 _) F.entry_list_init
  (code_list_new _ ⟨rfl,rfl⟩) λobj s₁ h₁=>?_
 obtain⟨rfl,rfl⟩:=h₁
 have hS:(s.heap.push { cls:=.type "list",data:=.seq #[] }).get? s.heap.objs.size=some { cls:=.type "list",data:=.seq #[] }:=Heap.get?_push_size _ rfl
 refine⟨⟨_,hS,rfl⟩,F.args_list_init_2 _ _,?_⟩
 show wpAny _ A.in1.in1 (do let old<-Builtin.List.listItems (.ref s.heap.objs.size);Builtin.List.listUpdate (.ref s.heap.objs.size) (λ_=>#[]);letGo old.toList.reverse;Builtin.List.listExtendWith (.ref s.heap.objs.size) (.ref I) .none) _ _ _
 refine wpAny_bind ?_
 unfold Builtin.List.listItems
 refine wpAny_bind (wpAny_seqItems hS rfl (wpAny_pure ?_))
 show wpAny _ A.in1.in1 (updateSeq s.heap.objs.size (λ_=>#[])>>=λ_=>letGo (#[]:Array Value).toList.reverse>>=λ_=>Builtin.List.listExtendWith (.ref s.heap.objs.size) (.ref I) .none) _ _ _
 refine wpAny_bind (wpAny_updateSeq hS rfl ?_)
 have hS2:=Heap.get?_update_self (Obj.mapSeq (λ_=>(#[]:Array Value))) hS rfl
 have oth:∀ b o,b≠s.heap.objs.size->s.heap.get? b=some o->((s.heap.push { cls:=.type "list",data:=.seq #[] }).update s.heap.objs.size (Obj.mapSeq (λ_=>(#[]:Array Value)))).get? b=some o :=
  λb o hb e=>(Heap.get?_update_other _ _ (Ne.symm hb)).trans (Heap.get?_push_of_some _ e)
 refine wpAny_bind (wpAny_letGo ?_)
 have he1:=he.at (h':=(s.heap.push { cls:=.type "list",data:=.seq #[] }).update s.heap.objs.size (Obj.mapSeq (λ_=>(#[]:Array Value)))) λo e=>oth I o (Ne.symm hSI) e
 have hl1:((s.heap.push { cls:=.type "list",data:=.seq #[] }).update s.heap.objs.size (Obj.mapSeq (λ_=>(#[]:Array Value)))).IsList l items:=hl.at λo e=>oth l o (Nat.ne_of_lt hll) e
 unfold Builtin.List.listExtendWith
 refine wpAny_bind (wpAny_typeOf he1.typeIs ?_)
 have h1:Builtin.List.listSameRef (.ref s.heap.objs.size) (.ref I)=false:=by simp[Builtin.List.listSameRef,hSI]
 have h2:(Value.type "list_reverseiterator" == Value.type "list")=false:=by decide
 have h3:(Value.type "list_reverseiterator" == Value.type "tuple")=false:=by decide
 simp only[h1,h2,h3,Bool.or_false,Bool.false_eq_true,if_false]
 refine wpAny_bind (wpAny_pyIter_revIter he1 ?_)
 refine wpAny_bind (wpAny_holding (zav he1 ?_))
 show wpAny _ A.in1.in1 (if false=true then _ else _) _ _ _
 rw[if_neg Bool.false_ne_true]
 refine wpAny_pure ⟨plainId_quiet F.plain_extend_loop _,codeAny_extend_loopS W.toS hsz _ hSf _ items.size 0 _ #[] _ rfl (Nat.zero_le _) ⟨Nat.zero_le _,?_,hl1⟩ hS2 (ItemsOf.nil _) λs' acc' c' hm hS' hacc=>?_⟩
 .have:(items.size:Int) - 1 - ((0:Nat):Int)=(items.size:Int) - 1:=by omega
  rw[this]
  exact he1
 .refine⟨rfl,?_⟩
  rw[ends _ hacc]at hS'
  obtain⟨h',g',d',tk',os'⟩:=s'
  have e1:g'=s.gens:=hm.gens
  have e2:d'=s.drawn:=hm.drawn
  have e3:os'=s.os:=hm.os
  subst e1 e2 e3
  refine hQ h' c' tk' (λb o hb q=>hm.heap b o (λhmem=>?_) (oth b o (Nat.ne_of_lt (Heap.lt_size q)) q)) hS'
  rcases List.mem_cons.mp hmem with h | h
  .exact Nat.ne_of_lt (Heap.lt_size q) h
  .exact hb (List.mem_singleton.mp h)
end
end PySem
namespace L2
open PySem PySem.Spec PyProof.Rows
noncomputable def tLR (K:W.Frag)(ta:TE):TE:=fun σ H Q=>ta σ H λx H1=>∃ a xs,x=.ref a/\SqL K H1 a xs/\∀ l,H1 l=none->Q (.ref l) (upd H1 l (.lst xs.reverse))
theorem zcP {X:Cx} {a:Expr} {ta:TE} {p1 p2 pos1 pos2:Pos} (hc:X.calm=true) (hg1:Gl X "list") (hm1:X.mg "list"=none) (hb1:bootBuiltins "list"=some (.type "list")) (hg2:Gl X "reversed") (hm2:X.mg "reversed"=none) (hb2:bootBuiltins "reversed"=some (.type "reversed")) (ha:PE X a ta)
 (hs:starEach [a] X.env=[(false,eval a X.env)]:=by rfl) (hs2:starEach [.Call (.Name "reversed" p2) [a] [] pos2] X.env=[(false,eval (.Call (.Name "reversed" p2) [a] [] pos2) X.env)]:=by rfl):PE X (.Call (.Name "list" p1) [.Call (.Name "reversed" p2) [a] [] pos2] [] pos1) (tLR X.K ta):=by
 intro pins s σ H Q I h
 refine Call_ (ZJ I hg1 hm1 hb1 (PyProof.Rows.callWith_type1 (Q:=EP X pins σ Q) ?_ hs2 rfl))
 rw[hs2]
 show wpAny _ _ (spliced ((false,eval (.Call (.Name "reversed" p2) [a] [] pos2) X.env)::[])) _ _ _
 refine Calls.spliced_cons ?_
 refine Call_ (ZJ I hg2 hm2 hb2 (PyProof.Rows.callWith_type1 ?_ hs rfl))
 rw[hs]
 show wpAny _ _ (spliced ((false,eval a X.env)::[])) _ _ _
 refine Calls.spliced_cons (thn (ha pins s σ H _ I h) λv s1 hh9=>?_)
 obtain⟨x,H1,I1,r1,q1⟩:=hh9
 obtain⟨t,xs,rfl,hx,q⟩:=q1
 cases r1
 obtain⟨its,rv,pt,hz⟩:=I1.list hx
 have hlen:its.toArray.size<=sizeLine:=by rw[List.size_toArray,<- rv.length];exact hz
 have lt:t < s1.heap.objs.size:=by
  obtain⟨o,ho,_⟩:=pt.isList
  exact Heap.lt_size ho
 refine Calls.spliced_nil ?_
 refine call_reversed_list pt.isList ?_
 refine Calls.spliced_nil ?_
 refine zaJ (I:=s1.heap.objs.size) (l:=t) (items:=its.toArray) (I.ok.hd hc) ⟨_,Heap.get?_push_size _ rfl,rfl,rfl⟩ (pt.isList.at λo e=>Heap.get?_push_of_some _ e) (Nat.ne_of_lt lt) hlen λh' c' tk' hk hS=>?_
 have hS':h'.get? (s1.heap.push (revObj t (((its.toArray.size:Nat):Int) - 1))).objs.size=some { cls:=.type "list",dict:=none,data:=.seq its.reverse.toArray c',slots:=#[] }:=hS
 refine⟨.ref _,_,I1.laid (t':=tk') (a:=(s1.heap.push (revObj t (((its.toArray.size:Nat):Int) - 1))).objs.size) (λb o e=>hk b o (Nat.ne_of_lt (Heap.lt_size e)) (Heap.get?_push_of_some _ e)) ?_ (show yR X.prog X.w _ h' _ (.lst xs.reverse) from⟨by rw[List.length_reverse];exact hz,its.reverse,c',rv.reverse,hS'⟩),rfl,q _ (I1.hok.fresh ?_)⟩
 all_goals exact Nat.le_of_lt (by rw[Heap.push];simp)
end L2
namespace Dl
open PySem L2 PySem.Spec PyProof.Rows
variable [KK]{X:Cx}{e:Expr}
noncomputable def revD:D->Option (List D)
 | .lst ds=>some ds.reverse
 | _=>none
noncomputable def zjt (f:Ev->Option D):Ev->Option (List D):=fun ρ=>(f ρ).bind revD
theorem zdt {p1 p2 pos1 pos2:Pos} {f:Ev->Option D} (hc:X.calm=true) (hg1:Gl X "list") (hm1:X.mg "list"=none) (hg2:Gl X "reversed") (hm2:X.mg "reversed"=none) (ha:ED X e f)
 (hs:starEach [e] X.env=[(false,eval e X.env)]:=by rfl) (hs2:starEach [.Call (.Name "reversed" p2) [e] [] pos2] X.env=[(false,eval (.Call (.Name "reversed" p2) [e] [] pos2) X.env)]:=by rfl) :
 FL X (.Call (.Name "list" p1) [.Call (.Name "reversed" p2) [e] [] pos2] [] pos1) (zjt f):=by
 obtain⟨t,pa,ra⟩:=ha
 refine⟨_,zcP hc hg1 hm1 Xo hg2 hm2 zby pa hs hs2,fun σ ρ F H z Q s va e q=>?_⟩
 obtain⟨d,e1,e2⟩:=Option.bind_eq_some_iff.mp e
 refine ra σ ρ F H d _ s va e1 λF1 H1 v g1 a1=>?_
 unfold revD at e2
 split at e2 <;> cases e2
 obtain⟨p,xs,rfl,hx,bl⟩:=a1.lst_inv
 exact⟨p,xs,rfl,SqL.of (g1.fh _ _ hx),λl hl=>q _ _ _ _ (g1.trans (Gr.hide g1.fh hl _)) (zdd g1 hl) (g1.fh.free hl) zo bl.reverse⟩
end Dl
namespace L2
open PySem PySem.Spec PyProof.Rows
open Sem (wp)
section
variable {prog:Program}{w:World}{A:Around}{E:Value->Shared->Prop}{h:Heap}{g:Array GenState}{d:Drawn}{t:Nat}{os:OsState}
 {nm q:Str} {C N fI:Addr} {bs bm:List Value} {hdct:Bool} {sn:List Str} {sub:List Value} {ab:Bool} {col:Option Bool} {dd:Option Addr} {k0 k1 k2 k3 k5:Option Value} {mN:Str->Option Value} {us:List Value} {oI:Obj}
end
end L2
namespace L2
open PySem PySem.Spec PyProof.Rows
section
variable {prog:Program}{w:World}{A:Around}{E:Value->Shared->Prop}{s:Shared}{env:Env}
 {nm q:Str} {C N fI:Addr} {bs bm:List Value} {hdct:Bool} {sn:List Str} {sub:List Value} {ab:Bool} {col:Option Bool} {dd:Option Addr} {k0 k1 k2 k3 k5:Option Value} {mN:Str->Option Value} {oI:Obj}
end
end L2
namespace Dl
open PySem L2
variable [KK]
section
variable {X:Cx}
noncomputable def rNeT:R2:=λx y H Q=>∃ F ds es,yU F H/\At F (.tup ds) x/\At F (.tup es) y/\okE 20 (.tup ds)=true/\okE 20 (.tup es)=true/\Q (.bl (!eqN 20 (.tup ds) (.tup es))) H
theorem zjB {k:Nat}(hr:YK k X.A):OpR X (compareOp .NotEq) rNeT:=by
 intro pins s σ H x y v u Q I rx ry h
 obtain⟨F,ds,es,sm,a1,a2,k1,k2,q⟩:=h
 have hu:X.A.units+30 < cLine:=by have:=hr.un;omega
 obtain⟨p,xs,rfl,hx,al⟩:=a1.tup_inv
 obtain⟨p2,ys,rfl,hy,bl⟩:=a2.tup_inv
 cases rx
 cases ry
 obtain⟨its,r,ht,hz⟩:=I.tuple (SqT.of (sm _ _ hx))
 obtain⟨its2,r2,ht2,hz2⟩:=I.tuple (SqT.of (sm _ _ hy))
 have hl1:its.toArray.size=ds.length:=by rw[List.size_toArray,<- r.length,al.length]
 have hl2:its2.toArray.size=es.length:=by rw[List.size_toArray,<- r2.length,bl.length]
 refine SeqAt.RcNeAt.tuples (e:=λj=>eqN 19 (ds.getD j .non) (es.getD j .non)) (show s.heap.IsTuple p its.toArray from ht) (show s.heap.IsTuple p2 its2.toArray from ht2) (by omega) (λj g1 g2=>?_) _ _ _ _ ⟨.bl _,H,I,rfl,?_⟩
 .obtain⟨x',ax,rx⟩:=al.nth r (j:=j) (by simpa using g1)
  obtain⟨y',ay,ry⟩:=bl.nth r2 (j:=j) (by simpa using g2)
  exact WX I sm 19 (xx k1 (by rw[<-hl1];exact g1)) (xx k2 (by rw[<-hl2];exact g2)) ax ay (by simpa using rx) (by simpa using ry) (Nat.lt_of_le_of_lt (show X.A.units+20<=X.A.units+30 from Nat.add_le_add_left (by decide) _) hu)
 .rw[hl1,hl2,<- Wl]
  exact q
end
noncomputable def zjk:D->D->Option D
 | .tup ds,.tup es=>if (okE 20 (.tup ds)&&okE 20 (.tup es))=true then some (.bl (!eqN 20 (.tup ds) (.tup es)))else none
 | _,_=>none
theorem zig:OpD rNeT zjk:=by
 intro F H x y d e z Q s ax ay ez q
 unfold zjk at ez
 split at ez
 .split at ez <;> cases ez
  rename_i hk
  rw[Bool.and_eq_true]at hk
  exact⟨F,_,_,s,ax,ay,hk.1,hk.2,q F H _ (.refl s) .bl⟩
 .cases ez
end Dl
namespace OwnDk
open PySem
section
variable {prog:Program}{w:World}{A:Around}{E:Value->Shared->Prop}{s:Shared}
theorem zaH (hh:A.handled=none)(I a:Addr)(hne:a≠I){ob:Obj}{es:Array DictEntry}{ep:Nat}(hd:ob.data=.dict es ep) :
 Walks prog w A I [I,a] [I] es.size (λi v=>∃ e,es[i]?=some e/\v=e.key) (λi h=>h.IsKeyIter I a i es.size ep/\h.get? a=some ob) where
 sub:=λb hb=>by simp at hb;simp[hb]
 frame:=λ_ _ _ x hk=>⟨x.1.at λo e=>hk I (by simp) o e,hk a (by simp) _ x.2⟩
 item:=λi s Q E hi x hQ=>by
  have hx:es[i]?=some (es[i]'hi):=Array.getElem?_eq_getElem _
  refine L2.raw_next x.1 x.2 hd hx λh' he' hs'=>?_
  exact hQ _ h' s.toks ⟨_,hx,rfl⟩ ⟨he',(hs'.2 a hne).trans x.2⟩ λb o hb eo=>hs'.extBut b o (λh=>hb (by simp[h])) eo
 done:=λs Q E x hQ=>L2.raw_end hh x.1 x.2 hd (Nat.le_refl _) λh' he'=>hQ h' s.toks λb o hb eo=>he' b o (λh=>hb (by simp[h])) eo
 self:=λ_ _ _ _ x hQ=>wpAny_pyIter_keyiter x.1 hQ
theorem XD {a:Addr}{ob:Obj}{es:Array DictEntry}{ep:Nat}{Q:List Value->Shared->Prop}(hh:A.handled=none)(hs:(a == sysModules)=false)(hS:s.heap.get? a=some ob)(hc:ob.ExactDict)(hd:ob.data=.dict es ep)(h8:es.size<=sizeLine)
 (hQ:∀ s',(∀ b o,s.heap.get? b=some o->s'.heap.get? b=some o)->s'.gens=s.gens->s'.drawn=s.drawn->s'.os=s.os->Q (es.toList.map (·.key)) s'):wpAny (model prog w) A (collect (.ref a)) Q E s:=by
 have hlt:a < s.heap.objs.size:=Heap.lt_size hS
 have hSa:s.heap.objs.size≠a:=Nat.ne_of_gt hlt
 unfold collect
 refine wpAny_bind (wpAny_runValue (codeAny_builtin F.entry_proto_collect ?_))
 rw[Around.under_plainId F.plain_proto_collect _]
 show wpAny _ A.in1 (newList []>>=λl=>again (.builtin "list.__iadd__" ⟨[l,.ref a],[]⟩)) _ _ s
 refine wpAny_bind (wpAny_newObj_type ?_)
 refine wpAny_pure ⟨plainId_quiet F.plain_list_iadd _,codeAny_builtin F.entry_list_iadd ?_⟩
 rw[Around.under_plainId F.plain_list_iadd _]
 have hS1:(s.heap.push { cls:=.type "list",data:=.seq ([]:List Value).toArray }).get? a=some ob:=Heap.get?_push_of_some _ hS
 have hL1:(s.heap.push { cls:=.type "list",data:=.seq ([]:List Value).toArray }).get? s.heap.objs.size=some { cls:=.type "list",data:=.seq ([]:List Value).toArray }:=Heap.get?_push_size _ rfl
 generalize hh1:s.heap.push { cls:=.type "list",data:=.seq ([]:List Value).toArray }=h1 at hS1 hL1 ⊢
 have k1:∀ b o,s.heap.get? b=some o->h1.get? b=some o:=λb o e=>by rw[<-hh1];exact Heap.get?_push_of_some _ e
 have hz1:h1.objs.size=s.heap.objs.size+1:=by rw[<-hh1];exact Heap.size_push ..
 show wpAny _ A.in1 (Builtin.List.listExtendWith (.ref s.heap.objs.size) (.ref a) (.ref s.heap.objs.size)) _ _ _
 unfold Builtin.List.listExtendWith
 refine wpAny_bind (wpAny_typeOf (T:="dict") ⟨_,hS1,hc.1⟩ ?_)
 have g1:Builtin.List.listSameRef (.ref s.heap.objs.size) (.ref a)=false:=by simp[Builtin.List.listSameRef,hSa]
 have g2:(Value.type "dict" == Value.type "list")=false:=by decide
 have g3:(Value.type "dict" == Value.type "tuple")=false:=by decide
 simp only[g1,g2,g3,Bool.or_false,Bool.false_eq_true,if_false]
 refine wpAny_bind (L2.raw_iter hs hS1 hc hd ?_)
 have hI2:(h1.push { cls:=.type "dict_keyiterator",data:=.fields #[.ref a,.int 0 0,.int es.size 0,.int ep 0] }).IsKeyIter h1.objs.size a 0 es.size ep:=⟨_,Heap.get?_push_size _ rfl,rfl,rfl⟩
 have hS2:(h1.push { cls:=.type "dict_keyiterator",data:=.fields #[.ref a,.int 0 0,.int es.size 0,.int ep 0] }).get? a=some ob:=Heap.get?_push_of_some _ hS1
 have hL2:=Heap.get?_push_of_some { cls:=.type "dict_keyiterator",data:=.fields #[.ref a,.int 0 0,.int es.size 0,.int ep 0] } hL1
 generalize hh2:h1.push { cls:=.type "dict_keyiterator",data:=.fields #[.ref a,.int 0 0,.int es.size 0,.int ep 0] }=h2 at hI2 hS2 hL2 ⊢
 have k2:∀ b o,h1.get? b=some o->h2.get? b=some o:=λb o e=>by rw[<-hh2];exact Heap.get?_push_of_some _ e
 refine wpAny_bind (wpAny_holding (PySem.W.kdl_hint_dict ⟨_,hS2,hc.1⟩ ?_))
 show wpAny _ A.in1 (if true=true then _ else _) _ _ _
 rw[if_pos rfl]
 refine wpAny_bind (wpAny_rule (wpAny_bind ?_))
 show wpAny _ A.in1 (updateSeq s.heap.objs.size (·.push .none)>>=λ_=>updateSeq s.heap.objs.size (·.pop)) _ _ _
 refine wpAny_bind (wpAny_updateSeq hL2 rfl ?_)
 have hL3:=Heap.get?_update_self (Obj.mapSeq (·.push Value.none)) hL2 rfl
 refine wpAny_updateSeq (hz:=by seq_fits) hL3 rfl ?_
 have hL4:=Heap.get?_update_self (Obj.mapSeq (·.pop)) hL3 rfl
 have oth:∀ b o,b≠s.heap.objs.size->h2.get? b=some o->((h2.update s.heap.objs.size (Obj.mapSeq (·.push Value.none))).update s.heap.objs.size (Obj.mapSeq (·.pop))).get? b=some o :=
  λb o hb e=>(Heap.get?_update_other _ _ (Ne.symm hb)).trans ((Heap.get?_update_other _ _ (Ne.symm hb)).trans e)
 have hIne:h1.objs.size≠s.heap.objs.size:=by rw[hz1];exact Nat.succ_ne_self _
 have hIa:a≠h1.objs.size:=by rw[hz1];exact Nat.ne_of_lt (Nat.lt_succ_of_lt hlt)
 have W:=zaH (prog:=prog) (w:=w) (A:=A.in1) hh h1.objs.size a hIa hd
 refine wpAny_pure ⟨plainId_quiet F.plain_extend_loop _,codeAny_extend_loopS W.toS h8 _ (λhmem=>?_) _ es.size 0 _ #[] _ rfl (Nat.zero_le _) ⟨hI2.at λo e=>oth _ _ hIne e,oth _ _ (Ne.symm hSa) hS2⟩ hL4 (ItemsOf.nil _) λs' acc' c' hmv hS' hacc=>?_⟩
 .rcases List.mem_cons.mp hmem with e | e
  .exact hIne e.symm
  .exact hSa (List.mem_singleton.mp e)
 .show wpAny _ A (load s.heap.objs.size>>=_) _ _ s'
  refine wpAny_bind (wpAny_load hS' ?_)
  refine wpAny_pure ?_
  have e1:acc'.toList=es.toList.map (·.key):=by
   apply List.ext_getElem?
   intro i
   by_cases hi:i < es.size
   .have q1:acc'[i]?=some (acc'[i]'(by rw[hacc.1];exact hi)):=Array.getElem?_eq_getElem _
    obtain⟨e,q2,q3⟩:=hacc.2 i _ q1
    rw[List.getElem?_map,Array.getElem?_toList,Array.getElem?_toList,q1,q2,q3]
    rfl
   .rw[List.getElem?_eq_none (by rw[Array.length_toList,hacc.1];exact Nat.le_of_not_lt hi),List.getElem?_eq_none (by rw[List.length_map,Array.length_toList];exact Nat.le_of_not_lt hi)]
  rw[e1]
  refine hQ s' (λb o e=>hmv.heap b o (λhmem=>?_) (oth b o (Nat.ne_of_lt (Heap.lt_size e)) (k2 b o (k1 b o e)))) hmv.gens hmv.drawn hmv.os
  rcases List.mem_cons.mp hmem with z | z
  .exact Nat.ne_of_lt (Heap.lt_size e) z
  .have:=Heap.lt_size e
   rw[List.mem_singleton.mp z,hz1]at this
   exact absurd (Nat.lt_of_succ_lt this) (Nat.lt_irrefl _)
theorem own_sorted_dict {a:Addr}{ob:Obj}{es:Array DictEntry}{ep:Nat}{Q:Value->Shared->Prop}(hh:A.handled=none)(hs:(a == sysModules)=false)(hS:s.heap.get? a=some ob)(hc:ob.ExactDict)(hd:ob.data=.dict es ep)(h64:es.size < 10000000)(hT:∀ v∈es.toList.map (·.key),∃ t,OwnSortT.TT s.heap v t)
 (h:∀ (h1 h':Heap) (tk':Nat) (out:Array Value) (c:Nat),out.toList.Perm (es.toList.map (·.key))->OwnSortT.Rise s.heap out.toList->(∀ b o,s.heap.get? b=some o->h1.get? b=some o)->(∀ b o,h1.get? b=some o->h'.get? b=some o) ->
  h'.get? h1.objs.size=some { cls:=.type "list",dict:=none,data:=.seq out c,slots:=#[] }->Q (.ref h1.objs.size) { s with heap:=h',toks:=tk' }) :
 wpAny (model prog w) A (call (.builtin "sorted") [.ref a]) Q E s:=by
 refine Calls.call_function_entry PyProof.Rows.kind_sorted PyProof.Rows.plain_sorted PyProof.Rows.entry_sorted (PyProof.Rows.args_sorted1 _) ?_
 unfold Builtin.«sorted»
 refine wpAny_bind (m:=checkCount "sorted" 1 1 _) (wpAny_pure (wpAny_bind (XD hh hs hS hc hd (Nat.le_trans (Nat.le_of_lt h64) (by rw[sizeLine_eq];decide)) λs' k g1 g2 g3=>?_)))
 obtain⟨h1,g',d',tk1,os'⟩:=s'
 have e1:g'=s.gens:=g1
 have e2:d'=s.drawn:=g2
 have e3:os'=s.os:=g3
 subst e1 e2 e3
 have h64:(es.toList.map (·.key)).length < 10000000:=by rw[List.length_map,Array.length_toList];exact h64
 generalize es.toList.map (·.key)=vs at *
 refine wpAny_bind (wpAny_newList ?_)
 have hoL:(h1.push (PyProof.Rows.seqObj "list" vs.toArray 0)).get? h1.objs.size=some (PyProof.Rows.seqObj "list" vs.toArray 0):=Heap.get?_push_size _ rfl
 have up:∀ b o,s.heap.get? b=some o->(h1.push (PyProof.Rows.seqObj "list" vs.toArray 0)).get? b=some o:=λb o e=>Heap.get?_push_of_some _ (k b o e)
 refine wpAny_bind (wpAny_holding (wpAny_call_entry PyProof.Rows.slot_list_sort ⟨_,hoL,rfl⟩ PyProof.Rows.entry_list_sort (OwnSortT.ownT_list_sort hoL (λv hv=>let ⟨t,ht⟩:=hT v hv;⟨t,ht.keep up⟩) h64 λout p1 p2=>⟨_,rfl,?_⟩) (PyProof.Rows.args_list_sort _)))
 have rise:OwnSortT.Rise s.heap out.toList:=by
  obtain⟨ts,q1,q2,q3⟩:=p2
  refine⟨ts,q1,λi v t hv ht=>?_,q3⟩
  obtain⟨t0,ht0⟩:=hT v (p1.mem_iff.mp (List.mem_of_getElem? hv))
  rw[(q2 i v t hv ht).uniq (ht0.keep up)]
  exact ht0
 have hn:∀ b o,b≠h1.objs.size->(h1.push (PyProof.Rows.seqObj "list" vs.toArray 0)).get? b=some o->(PyProof.Rows.sortedHeap (h1.push (PyProof.Rows.seqObj "list" vs.toArray 0)) h1.objs.size vs out).get? b=some o:=λb o hb e=>by
  unfold PyProof.Rows.sortedHeap
  exact(Heap.get?_update_other _ _ (Ne.symm hb)).trans (Heap.get?_push_of_some _ (Heap.get?_push_of_some _ ((Heap.get?_update_other _ _ (Ne.symm hb)).trans e)))
 have hL:∃ c,(PyProof.Rows.sortedHeap (h1.push (PyProof.Rows.seqObj "list" vs.toArray 0)) h1.objs.size vs out).get? h1.objs.size=some { cls:=.type "list",dict:=none,data:=.seq out c,slots:=#[] }:=by
  unfold PyProof.Rows.sortedHeap
  have u1:=Heap.get?_update_self (Obj.mapSeq λ_=>(#[]:Array Value)) hoL rfl
  have u2:=Heap.get?_push_of_some (PyProof.Rows.seqObj "list" #[] 0) (Heap.get?_push_of_some (PyProof.Rows.seqObj "tuple" vs.toArray 0) u1)
  exact⟨_,Heap.get?_update_self (Obj.mapSeq λ_=>out) u2 rfl⟩
 obtain⟨c,hL⟩:=hL
 exact wpAny_pure ⟨_,rfl,h h1 _ _ out c p1 rise k (λb o e=>hn b o (Nat.ne_of_lt (Heap.lt_size e)) (Heap.get?_push_of_some _ e)) hL⟩
end
end OwnDk
namespace Dl
open PySem L2
noncomputable def zc3:List Key->Option (List Int)
 | []=>some []
 | .inl i::r=>(zc3 r).map (i::·)
 | _=>none
noncomputable def zaQ:List (List Key)->Option (List (List Int))
 | []=>some []
 | k::ks=>match zc3 k with
  | some (i::t)=>(zaQ ks).map ((i::t)::·)
  | _=>none
theorem zfQ:∀ {k:List Key} {t:List Int},zc3 k=some t->k=t.map Sum.inl:=by
 intro k
 induction k with
 | nil=>intro t h;cases h;rfl
 | cons a k ih =>
  intro t h
  cases a with
  | inl i =>
   obtain⟨r,e,rfl⟩:=Option.map_eq_some_iff.mp h
   rw[ih e]
   rfl
  | inr x=>cases h
theorem zfT:∀ {ks:List (List Key)} {ts:List (List Int)},zaQ ks=some ts->ks=ts.map (λt=>t.map Sum.inl)/\∀ t∈ts,t≠[]:=by
 intro ks
 induction ks with
 | nil=>intro ts h;cases h;exact⟨rfl,λt h=>by cases h⟩
 | cons k ks ih =>
  intro ts h
  unfold zaQ at h
  split at h
  .rename_i i t e
   obtain⟨r,e2,rfl⟩:=Option.map_eq_some_iff.mp h
   obtain⟨h1,h2⟩:=ih e2
   refine⟨by rw[h1,zfQ e];rfl,λu hu=>?_⟩
   rcases List.mem_cons.mp hu with rfl | hu
   .exact List.cons_ne_nil _ _
   .exact h2 u hu
  .cases h
noncomputable def zjj (t:List Int):List (List Int)->List (List Int)
 | []=>[t]
 | u::us=>if HT.lexLt u t=true then u::zjj t us else t::u::us
noncomputable def wM:List (List Int)->List (List Int)
 | []=>[]
 | t::ts=>zjj t (wM ts)
theorem V9 (t:List Int):∀ us:List (List Int),(zjj t us).Perm (t::us):=by
 intro us
 induction us with
 | nil=>exact List.Perm.refl _
 | cons u us ih =>
  unfold zjj
  split
  .exact(ih.cons u).trans (List.Perm.swap _ _ _)
  .exact List.Perm.refl _
theorem wS:∀ ts:List (List Int),(wM ts).Perm ts:=by
 intro ts
 induction ts with
 | nil=>exact List.Perm.refl _
 | cons t ts ih=>exact(V9 t _).trans (ih.cons t)
theorem zfx (t:List Int):∀ us:List (List Int),us.Pairwise (λa b=>HT.lexLt b a=false)->(zjj t us).Pairwise λa b=>HT.lexLt b a=false:=by
 intro us
 induction us with
 | nil=>intro _;exact List.pairwise_singleton _ _
 | cons u us ih =>
  intro h
  rw[List.pairwise_cons]at h
  unfold zjj
  by_cases c:HT.lexLt u t=true
  .rw[if_pos c]
   refine List.pairwise_cons.mpr ⟨λv hv=>?_,ih h.2⟩
   rcases List.mem_cons.mp ((V9 t us).mem_iff.mp hv)with rfl | hv
   .cases e:HT.lexLt v u with
    | false=>rfl
    | true =>
     have:=OwnSortT.lex_trans _ _ _ c e
     rw[OwnSortT.lex_irr]at this
     cases this
   .exact h.1 v hv
  .rw[if_neg c]
   have c:HT.lexLt u t=false:=by cases e:HT.lexLt u t with
    | false=>rfl
    | true=>exact absurd e c
   refine List.pairwise_cons.mpr ⟨λv hv=>?_,List.pairwise_cons.mpr h⟩
   rcases List.mem_cons.mp hv with rfl | hv
   .exact c
   .cases e:HT.lexLt v t with
    | false=>rfl
    | true =>
     rcases OwnSortT.lex_neg v u t e with z | z
     .rw[h.1 v hv]at z;cases z
     .rw[c]at z;cases z
theorem zbv:∀ ts:List (List Int),(wM ts).Pairwise λa b=>HT.lexLt b a=false:=by
 intro ts
 induction ts with
 | nil=>exact List.Pairwise.nil
 | cons t ts ih=>exact zfx t _ ih
theorem zbO {ts us:List (List Int)}(p:us.Perm ts)(h:us.Pairwise λa b=>HT.lexLt b a=false):us=wM ts :=
 List.Perm.eq_of_pairwise (le:=λa b=>HT.lexLt b a=false) (λa b _ _ h1 h2=>OwnSortT.lex_total _ _ h2 h1) h (zbv ts) (p.trans (wS ts).symm)
noncomputable def zlq (t:List Int):D:=.tup (t.map .int)
noncomputable def sortMD:List D->Option (List D)
 | [.dct _ true ks _]=>if ks.length < 64 then (zaQ ks).map λts=>(wM ts).map zlq else none
 | _=>none
variable [KK]
section
variable {X:Cx}{e:Expr}{pos:Pos}
theorem Gr.seeL {H:Hp}:∀ {F:Hp} (bs:List (Addr × List V)),yU F H->(∀ b∈bs,H b.1=some (.tup b.2))->∃ F',Gr F H F' H/\∀ b∈bs,F' b.1=some (.tup b.2):=by
 intro F bs
 induction bs generalizing F with
 | nil=>intro s _;exact⟨F,.refl s,λb h=>by cases h⟩
 | cons b bs ih =>
  intro s h
  obtain⟨F1,g1,e1⟩:=Gr.see s (h b List.mem_cons_self)
  obtain⟨F2,g2,e2⟩:=ih g1.fh λc hc=>h c (List.mem_cons_of_mem _ hc)
  refine⟨F2,g1.trans g2,λc hc=>?_⟩
  rcases List.mem_cons.mp hc with rfl | hc
  .exact g2.ff _ _ e1
  .exact e2 c hc
theorem zat (hc:X.calm=true):Yr X (.builtin "sorted") (λxs H Q=>∃ F a z ks ys ts,xs=[.ref a]/\yU F H/\VU F a z true ks ys/\ks.length < 10000000/\zaQ ks=some ts/\∀ l zs F',H l=none->Gr F H F' H->AtL F' ((wM ts).map zlq) zs->Q (.ref l) (upd H l (.lst zs))):=by
 intro pins s σ H xs us Q I r h
 obtain⟨F,a,z,ks,ys,ts,rfl,sm,hd,h64,hk,q⟩:=h
 obtain⟨u,rfl,ru⟩:=Ws r
 cases ru
 obtain⟨rfl,hne⟩:=zfT hk
 rw[List.length_map]at h64
 obtain⟨u,hu,hz⟩:=hd.mono sm
 unfold Vi at hu
 rw[if_pos rfl]at hu
 obtain⟨kvs,rfl,hks,-⟩:=hu
 have ok:yR X.prog X.w H s.heap a (.dT kvs):=by
  cases z with
  | true=>rw[if_pos rfl]at hz;obtain⟨ob,e⟩:=hz;exact(show yR X.prog X.w H s.heap a (.frz ob (.dT kvs))from I.hok a _ e).2
  | false=>rw[if_neg Bool.false_ne_true]at hz;exact I.hok a _ hz
 obtain⟨_,sys,xs,pr,o,es,ep,e1,ex,dt,he,nd⟩:=ok
 have hp:=Paired.length pr
 have hkl:kvs.length=ts.length:=by have:=congrArg List.length hks;rw[List.length_map,List.length_map]at this;exact this
 have hkeys:es.toList.map (·.key)=xs.map λq=>Value.ref q.2.1:=by rw[he,List.map_map];rfl
 have hsz:es.size < 10000000:=by rw[<-Array.length_toList,he,List.length_map];omega
 have rel:∀ {l:List (List Key × V)} {m:List (List Key × Addr × Value)},Paired (λp q=>p.1=q.1/\H q.2.1=some (.tup (p.1.map kV))/\yZ p.2 q.2.2) l m->∀ (j:Nat) (h1:j < l.length) (h2:j < m.length),l[j].1=m[j].1/\H m[j].2.1=some (.tup (l[j].1.map kV)):=λ{l m} r=>by
  induction r with
  | nil=>intro j h1;simp at h1
  | cons h t ih =>
   intro j h1 h2
   cases j with
   | zero=>exact⟨h.1,h.2.1⟩
   | succ j=>exact ih j (by simpa using h1) (by simpa using h2)
 have atJ:∀ (j:Nat) (h1:j < ts.length) (h2:j < xs.length),H xs[j].2.1=some (.tup (ts[j].map V.int)):=λj h1 h2=>by
  have h3:j < kvs.length:=by omega
  obtain⟨-,r2⟩:=rel pr j h3 h2
  have e3:kvs[j].1=ts[j].map Sum.inl:=by
   have:=congrArg (λl=>l[j]?) hks
   simp only[List.getElem?_map]at this
   rw[List.getElem?_eq_getElem h3,List.getElem?_eq_getElem h1]at this
   exact Option.some.inj this
  rw[r2,e3,List.map_map]
  rfl
 have look:∀ {v:Value},v∈(xs.map λq=>Value.ref q.2.1)->∃ b t,v=.ref b/\t∈ts/\H b=some (.tup (t.map V.int))/\OwnSortT.TT s.heap v t:=λ{v} hv=>by
  obtain⟨j,hj,rfl⟩:=List.getElem_of_mem hv
  rw[List.length_map]at hj
  have hj2:j < ts.length:=by omega
  have hb:=atJ j hj2 hj
  rw[List.getElem_map]
  obtain⟨us,ru,⟨o,ho,hcl,n,hd⟩,_⟩:=I.tuple (SqT.of hb)
  exact⟨xs[j].2.1,ts[j],rfl,List.getElem_mem hj2,hb,xs[j].2.1,o,n,us,rfl,ho,hcl,hd,vz ru,hne _ (List.getElem_mem hj2)⟩
 refine OwnDk.own_sorted_dict (I.ok.hd hc) sys e1 ex dt hsz (λv hv=>by rw[hkeys]at hv;obtain⟨b,t,-,-,-,ht⟩:=look hv;exact⟨t,ht⟩) λh1 h' tk out c pm ri k1 k2 hL=>?_
 rw[hkeys]at pm
 obtain⟨us,l1,l2,l3⟩:=ri
 have zsOf:∀ (ws:List Value) (vs:List (List Int)),ws.length=vs.length->(∀ w∈ws,w∈xs.map λq=>Value.ref q.2.1)->(∀ (i:Nat) v t,ws[i]?=some v->vs[i]?=some t->OwnSortT.TT s.heap v t)->∃ bs:List (Addr × List Int),bs.map (·.2)=vs/\yw (bs.map λb=>V.ref b.1) ws/\∀ b∈bs,H b.1=some (.tup (b.2.map V.int)):=by
  intro ws
  induction ws with
  | nil =>
   intro vs hl _ _
   cases vs with
   | nil=>exact⟨[],rfl,.nil,λb h=>by cases h⟩
   | cons _ _=>simp at hl
  | cons w ws ih =>
   intro vs hl hm ht
   cases vs with
   | nil=>simp at hl
   | cons t vs =>
    obtain⟨bs,z0,z1,z2⟩:=ih vs (by simpa using hl) (λw' hw'=>hm w' (List.mem_cons_of_mem _ hw')) (λi v t h1 h2=>ht (i+1) v t (by simpa using h1) (by simpa using h2))
    obtain⟨a,t',rfl,_,ha,htp⟩:=look (hm w List.mem_cons_self)
    have et:t'=t:=htp.uniq (ht 0 _ t rfl rfl)
    subst et
    exact⟨(a,t')::bs,by rw[List.map_cons,z0],.cons rfl z1,λb hb=>by
     rcases List.mem_cons.mp hb with rfl | hb
     .exact ha
     .exact z2 b hb⟩
 obtain⟨bs,z0,z1,z2⟩:=zsOf out.toList us l1 (λw hw=>pm.mem_iff.mp hw) l2
 have keysPerm:us.Perm ts:=by
  have kv:∀ (ws:List Value) (vs:List (List Int)),ws.length=vs.length->(∀ (i:Nat) v t,ws[i]?=some v->vs[i]?=some t->OwnSortT.TT s.heap v t)->vs=ws.map λv=>(OwnSortT.keyTT s.heap v).getD []:=by
   intro ws
   induction ws with
   | nil=>intro vs hl _;cases vs with
    | nil=>rfl
    | cons _ _=>simp at hl
   | cons w ws ih =>
    intro vs hl ht
    cases vs with
    | nil=>simp at hl
    | cons t vs =>
     rw[List.map_cons,OwnSortT.keyTT_of (ht 0 w t rfl rfl),<- ih vs (by simpa using hl) λi v t h1 h2=>ht (i+1) v t (by simpa using h1) (by simpa using h2)]
     rfl
  rw[kv _ _ l1 l2,kv (xs.map λq=>Value.ref q.2.1) ts (by rw[List.length_map];omega) λi v t h1 h2=>?_]
  .exact pm.map _
  .obtain⟨hi,e2⟩:=List.getElem?_eq_some_iff.mp h1
   obtain⟨hi2,e3⟩:=List.getElem?_eq_some_iff.mp h2
   rw[List.length_map]at hi
   have hb:=atJ i hi2 hi
   rw[e3]at hb
   obtain⟨us',ru',⟨o,ho,hcl,n,hd⟩,_⟩:=I.tuple (SqT.of hb)
   exact⟨xs[i].2.1,o,n,us',by rw[<-e2,List.getElem_map],ho,hcl,hd,vz ru',hne t (by rw[<-e3];exact List.getElem_mem hi2)⟩
 have e3:=zbO keysPerm l3
 subst e3
 obtain⟨F',g,hF⟩:=Gr.seeL (bs.map λb=>(b.1,b.2.map V.int)) sm λb hb=>by
  obtain⟨c,hc,rfl⟩:=List.mem_map.mp hb
  exact z2 c hc
 have az:AtL F' ((wM ts).map zlq) (bs.map λb=>V.ref b.1):=by
  rw[<-z0]
  clear z0 z1 pm l1 l2
  induction bs with
  | nil=>exact .nil
  | cons b bs ih=>exact .cons (.tup (hF (b.1,b.2.map V.int) (List.mem_map.mpr ⟨b,List.mem_cons_self,rfl⟩)) (.ints _)) (ih (λc hc=>z2 c (List.mem_cons_of_mem _ hc)) (λc hc=>by
   obtain⟨d,hd,rfl⟩:=List.mem_map.mp hc
   exact hF _ (List.mem_map.mpr ⟨d,List.mem_cons_of_mem _ hd,rfl⟩)))
 have I2:Inv X pins σ H { s with heap:=h1,toks:=tk }:=I.kept λb u e=>k1 b u e
 have hlo:(bs.map λb=>V.ref b.1).length<=sizeLine:=by
  have hh:bs.length=(wM ts).length:=by rw[<-z0,List.length_map]
  rw[List.length_map,hh,(wS ts).length_eq,sizeLine_eq]
  omega
 exact⟨.ref h1.objs.size,_,I2.laid (t':=tk) (λb o e=>k2 b o e) (Nat.le_refl _) (show yR X.prog X.w _ h' _ (.lst (bs.map λb=>V.ref b.1)) from⟨hlo,out.toList,c,z1,by simpa using hL⟩),rfl,q _ _ F' (I2.hok.fresh (Nat.le_refl _)) g az⟩
noncomputable def zcz:List D->Option (List D)
 | [.dct _ true ks _]=>if ks.length < 10000000 then (zaQ ks).map λts=>(wM ts).map zlq else none
 | _=>none
theorem zcV {p:Pos} {f:Ev->Option (List D)} (hc:X.calm=true) (hgl:Gl X "sorted") (hm:X.mg "sorted"=none) (ha:AD X [e] f)
 (he:starEach [e] X.env=(false,eval e X.env)::starEach [] X.env:=by rfl) (hpl:(backTo pos (starEach [] X.env)).any (·.1)=false:=by rfl):FL X (.Call (.Name "sorted" p) [e] [] pos) (fFn zcz f):=by
 obtain⟨t,pa,ra⟩:=ha
 refine⟨_,XN (zat hc) hgl hm zbf pa (by decide) (by decide) he hpl,fun σ ρ F H z Q s va e q=>?_⟩
 obtain⟨ds,e1,e2⟩:=Option.bind_eq_some_iff.mp e
 refine ra σ ρ F H ds _ s va e1 λF1 H1 vs g1 a1=>?_
 have e2':=e2
 unfold zcz at e2'
 split at e2'
 .rename_i z' ks ws
  split at e2' <;> try cases e2'
  rename_i h64
  obtain⟨ts,e3,rfl⟩:=Option.map_eq_some_iff.mp e2'
  obtain⟨x,r,rfl,ax,ar⟩:=a1.cons_inv
  cases ar.nil_inv
  obtain⟨p,ys,rfl,hx,bl⟩:=ax.dct_inv
  refine⟨F1,p,z',ks,ys,ts,rfl,g1.fh,hx,h64,e3,λl zs F' hl g az=>?_⟩
  have g2:=g1.trans g
  exact q _ _ _ _ (g2.trans (Gr.hide g2.fh hl _)) (zdd g2 hl) (g2.fh.free hl) zo az
 .cases e2'
end
end Dl
namespace Dl
open PySem L2
noncomputable def b3:D->Option (List (Option D))
 | .tup [x,y,z]=>some [some x,some y,some z]
 | _=>none
end Dl
namespace Dl
open PySem L2
variable [KK]
theorem edv {X:Cx} (i:Nat) {x:Str} {pos:Pos} (hN:X.N[i]?=some x:=by rfl) (hv:Vis X.env.scope x:=by first | exact Or.inl rfl | exact Or.inr (Or.inl rfl) | exact Or.inr (Or.inr rfl)) (hd:(x == ("__debug__":Str))=false:=by decide)
 (hcd:(x == ("__classdict__":Str))=false:=by decide):ED X (.Name x pos) (zc i):=zld i (pv i hN hv hd hcd)
theorem zk {X:Cx}{x:Str}{j k m:Nat}{f:Addr}{fd:FuncData}{ps:List Str}{st:Stmt}{p:List D->Option D}{e:Expr}{es:List Expr}{pp pos:Pos}{fa:Ev->Option (List D)}(F:xK X.prog X.w X.K X.mg X.base CX0 j f fd ps (spD m p))(hr:YK k X.A)(hg:Gl X x)(d:Def X.K X.mg x st ps f fd)
 (ha:AD X (e::es) fa) (hj:j<=k:=by decide) (hdb:(x == ("__debug__":Str))=false:=by decide) (he:starEach (e::es) X.env=(false,eval e X.env)::starEach es X.env:=by rfl) (hpl:(backTo pos (starEach es X.env)).any (·.1)=false:=by rfl) :
 ED X (.Call (.Name x pp) (e::es) [] pos) (zp m p fa):=zd9 (F.mono hj) hr hg d.at_ d.kp d.bd ha hdb he hpl
end Dl
namespace OwnDict
open PySem
theorem zfa:typeLookup (.type "list") "__getattr__"=pure none:=by rw[typeLookup_type,builtinLookup_eq_fast];kernel_rfl
theorem zen:typeLookup (.type "list") "keys"=pure none:=by rw[typeLookup_type,builtinLookup_eq_fast];kernel_rfl
section
variable {prog:Program}{w:World}{A:Around}{E:Value->Shared->Prop}{s:Shared}{l:Addr}{its:Array Value}{n:Nat}
theorem zeA (u:Tok) {Q:PySem.Fin->Shared->Prop} (hh:A.handled=none) (hx:s.heap.get? l=some { cls:=.type "list",data:=.seq its n })
 (h:∀ h' tk e,Heap.NewAttrErr s.heap h' e (.ref l) "keys"->E (.ref e) { s with heap:=h',toks:=tk }) :
 wpAny (model prog w) A (Builtin.«object.__getattribute__» ⟨[.ref l,.str "keys" u],[]⟩) Q E s:=by
 obtain⟨hp,g,d,tk,os⟩:=s
 have hT:(⟨hp,g,d,tk,os⟩:Shared).TypeIs (.ref l) "list":=⟨_,hx,rfl⟩
 have f1:=zen
 unfold Builtin.«object.__getattribute__»
 repeat (any_goals (first | assumption | wp_step))
 exact wpAny_raiseAttrError hh h (attrMsg_fits (by decide +kernel) (by decide +kernel))
theorem WQ (u:Tok) {Q:Value->Shared->Prop} (hh:A.handled=none) (hx:s.heap.get? l=some { cls:=.type "list",data:=.seq its n })
 (h:∀ h' tk e,Heap.NewAttrErr s.heap h' e (.ref l) "keys"->E (.ref e) { s with heap:=h',toks:=tk }):wpAny (model prog w) A (call (.builtin "list.__getattribute__") [.ref l,.str "keys" u]) Q E s:=by
 have hT:s.TypeIs (.ref l) "list":=⟨_,hx,rfl⟩
 refine wpAny_call (codeAny_call_builtin F.slot_list_getattribute.plain F.entry_list_ga (F.slot_list_getattribute.check _ _ _ _ _ _ _ _ hT (F.args_list_getattribute_2 _ _) (zeA u (by simp[hh]) hx h)))
theorem zhV {Q:Option Value->Shared->Prop} (hh:A.handled=none) (hx:s.heap.get? l=some { cls:=.type "list",data:=.seq its n })
 (h:∀ h' tk,(∀ b u,s.heap.get? b=some u->h'.get? b=some u)->Q none { s with heap:=h',toks:=tk }) :
 wpAny (model prog w) A (getAttr? (.ref l) "keys") Q E s:=by
 obtain⟨hp,g,d,tk,os⟩:=s
 have hT:(⟨hp,g,d,tk,os⟩:Shared).TypeIs (.ref l) "list":=⟨_,hx,rfl⟩
 have f1:=sub_AttributeError
 have f2:=F.slot_list_getattribute.lookup
 have f3:=F.slot_list_getattribute.bind (.ref l)
 have f4:=zfa
 unfold getAttr? getAttrBy? getAttrBy
 repeat (any_goals (first | assumption | ((with_reducible show wpAny _ _ (call (Value.builtin "list.__getattribute__") _ _) _ _ _);refine WQ _ hh hx λh' tk' e hx=>?_) | wp_step))
 obtain⟨t',u',he⟩:=hx.there
 repeat (any_goals (first | assumption | wp_step))
 exact h _ _ hx.keeps
theorem zal:entryFor table "dict.update.loop"=some Builtin.«dict.update.loop»:=entryFor_of_tree (by kernel_rfl)
theorem ZF:plainId "dict.update.loop"=true:=by decide +kernel
end
end OwnDict
namespace L2
open PySem PySem.Spec PyProof.Rows OwnDict
noncomputable def Yl:List (List Key × V)->List (List Key × V)->List (List Key × V)
 | kvs,[]=>kvs
 | kvs,p::ps=>Yl (XM kvs p.1 p.2) ps
section
variable {X:Cx}{pins:List (Addr × Obj)}{σ:St}{H:Hp}
theorem Inv.own1 {s:Shared}{b:Addr}{h':Heap}{tk:Nat}(I:Inv X pins σ H s)(f:zag X pins H b)(k:∀ c o,c∉[b]->s.heap.get? c=some o->h'.get? c=some o):Inv X pins σ H { s with heap:=h',toks:=tk }:=by
 obtain⟨f0,f1,f2,f3,f4,f5⟩:=f
 refine I.call' (s':={ s with heap:=h',toks:=tk }) (ch:=[b]) rfl ⟨λc o e _ _ hx=>k c o hx e,λc o e _ _ hx=>⟨o.slots,k c o hx e⟩,λ_ _ _ n _=>n,λc o e hx=>⟨o,k c o hx e⟩,λ_ _ q=>q,λ_ _ _ q=>q,λ_ ps q=>⟨#[],by rw[q];simp⟩⟩ ?_ I.bare λc hc=>?_
 .intro c oc e
  refine(I.hok c oc e).stay (λc' v hc q=>k c' v (λz=>?_) q) (λ_ q=>q) λ_ _ q=>q
  rw[List.mem_singleton.mp z]at hc
  rcases hc with z | z
  .rw[<-z,f0]at e;cases e
  .rw[f0]at z;cases z
 .rw[List.mem_singleton.mp hc]
  exact⟨f3,f1,f4,f5⟩
theorem zgY {it l D:Addr}{its:Array Value}{A:Around}{ps:List (List Key × V)}{R:Result->Shared->Prop}(hh:A.in1.handled=none)(hu:A.in1.units+1 < cLine)(hDl:D≠l)(hil:l≠it)
 (hps:∀ (i:Nat) (v:Value),its[i]?=some v->∃ p b k y,ps[i]?=some (k,y)/\v=.ref p/\H p=some (.tup [.ref b,y])/\H b=some (.tup (k.map kV)))
 (hln:ps.length=its.size) (hsz:its.size<=sizeLine) :
 ∀ (m i:Nat) (s:Shared) (kvs:List (List Key × V)),its.size - i=m->i<=its.size->kvs.length<=i->(s.heap.IsListIter it l i/\s.heap.IsList l its)->Inv X pins σ (upd H D (.dT kvs)) s->zag X pins (upd H D (.dT kvs)) it->H D=none ->
  (∀ s',Inv X pins σ (upd H D (.dT (Yl kvs (ps.drop i)))) s'->R (.ok (.ret .none)) s') ->
  codeAny (model X.prog X.w) A (.builtin "dict.update.loop" ⟨[.ref D,.ref it,rawInt i,.none],[]⟩) R s:=by
 have W:=Walks.list (prog:=X.prog) (w:=X.w) hh it l hil its
 intro m
 induction m with
 | zero =>
  intro i s kvs hm hi hk st I f hD hR
  obtain rfl:i=its.size:=by omega
  refine codeAny_builtin zal ?_
  rw[Around.under_plainId ZF _]
  show wpAny _ A.in1 (pyNext (.ref it)>>=_) _ _ s
  refine wpAny_bind (W.done s _ _ st λh' tk hk=>?_)
  show wpAny _ A.in1 (Builtin.Dict.addKeywords D []>>=_) _ _ _
  refine wpAny_bind (wpAny_pure (wpAny_pure ?_))
  rw[List.drop_eq_nil_of_le (Nat.le_of_eq hln)]at hR
  exact hR _ (I.own1 (tk:=tk) f hk)
 | succ m ih =>
  intro i s kvs hm hi hk st I f hD hR
  have hlt:i < its.size:=by omega
  refine codeAny_builtin zal ?_
  rw[Around.under_plainId ZF _]
  show wpAny _ A.in1 (pyNext (.ref it)>>=_) _ _ s
  refine wpAny_bind (W.item i s _ _ hlt st λv h' tk hv st' hk=>?_)
  obtain⟨p,b,k,y,ep,rfl,hp,hb⟩:=hps i v hv
  have I1:=I.own1 (tk:=tk) f hk
  have pD:p≠D:=zn hp hD
  have bD:b≠D:=zn hb hD
  have hp1:upd H D (.dT kvs) p=some (.tup [.ref b,y]):=by rw[zq pD];exact hp
  have hb1:upd H D (.dT kvs) b=some (.tup (k.map kV)):=by rw[zq bD];exact hb
  obtain⟨_,its2,r2,o2,g1,g2,n2,g3⟩:=(show yR X.prog X.w _ _ p (.tup [.ref b,y])from I1.hok p _ hp1)
  obtain⟨u1,u2,rfl,ru1,ru2⟩:=r2.two
  obtain rfl:u1=Value.ref b:=ru1
  show wpAny _ A.in1 (holding [Value.ref p] _>>=_) _ _ _
  refine wpAny_bind (wpAny_holding (wpAny_bind ?_))
  refine wpAny_tryCatch ?_
  unfold Builtin.Dict.pairItems
  refine wpAny_bind (wpAny_typeOf (T:="tuple") ⟨_,g1,g2⟩ ?_)
  rw[if_pos (by decide)]
  refine wpAny_bind (wpAny_seqItems g1 g3 (wpAny_pure ?_))
  show wpAny _ A.in1 (holding [Value.ref b,u2] (dictSet D (.ref b) u2)) _ _ _
  refine wpAny_holding ?_
  have e0:upd H D (.dT kvs) D=some (.dT kvs):=zo
  obtain⟨zz,hd,xs,rel,dd⟩:=ziv I1.hok e0
  have hxl:xs.length<=sizeLine:=by rw[<-Paired.length rel];exact zz
  refine wpAny_dictSet_heap (hsz:=hxl) (show(tupleKind (yI X.prog X.w)).room A.in1 from Nat.lt_of_succ_lt hu) (W7 I1.hok hb1) dd λh2 dd' hs=>?_
  obtain⟨q,es,ep2,hq,h3,h4,h5,_,h6⟩:=dd'
  have hpl:(XM kvs k y).length<=i+1:=by
   unfold XM
   split
   .rw[List.length_map];omega
   .rw[List.length_append];show kvs.length+1<=i+1;omega
  have I3:=Vo (t':=tk+(tupleKind (yI X.prog X.w)).draws k) (ob:=.dT (XM kvs k y)) I1 (by rw[e0];exact True.intro) hs ⟨q,hq⟩ ⟨Nat.le_trans hpl (Nat.le_trans hlt hsz),hd,_,(rel.put k hb1 ru2).keeps λc ys ec=>by
   rw[zq (zfU ec e0 (λz=>nomatch z))]
   exact ec,q,es,ep2,hq,h3,h4,h5,h6⟩
  rw[Wq]at I3
  have fD:∀ {o:HO},zag X pins (upd H D o) it:=λ{o}=>by
   obtain⟨w1,w2⟩:=f
   refine⟨?_,w2⟩
   by_cases z:it=D
   .rw[z,zo]at w1;cases w1
   .rw[zq z]at w1 ⊢;exact w1
  have niD:it≠D:=λz=>by
   have w1:=f.1
   rw[z,zo]at w1
   cases w1
  refine wpAny_pure ⟨plainId_quiet ZF _,ih (i+1) _ (XM kvs k y) (by omega) hlt hpl (W.frame _ _ _ st' λc hc o e=>?_) I3 fD hD λs' I4=>hR s' ?_⟩
  .refine(hs.2 c λz=>?_).trans e
   rcases List.mem_cons.mp hc with z2 | z2
   .exact niD (z2.symm.trans z)
   .exact hDl (z.symm.trans (List.mem_singleton.mp z2))
  .have ed:ps.drop i=(k,y)::ps.drop (i+1):=by
    have hi2:i < ps.length:=by omega
    rw[List.drop_eq_getElem_cons hi2]
    rw[List.getElem?_eq_getElem hi2]at ep
    rw[Option.some.inj ep]
   rw[ed]
   exact I4
noncomputable def zht:List V->Hp->VK->Prop:=λxs H Q=>∃ l vs ps,xs=[.ref l]/\H l=some (.lst vs)/\ps.length=vs.length /\
 (∀ (i:Nat) (v:V),vs[i]?=some v->∃ p b k y,ps[i]?=some (k,y)/\v=.ref p/\H p=some (.tup [.ref b,y])/\H b=some (.tup (k.map kV)))/\∀ D ob,H D=none->Q (.ref D) (upd H D (.frz ob (.dT (Yl [] ps))))
theorem zdl {k:Nat} (hr:YK k X.A):Yr X (.type "dict") zht:=by
 intro pins s σ H xs us Q I r h
 obtain⟨l,vs,ps,rfl,hl,hln,hps,q⟩:=h
 obtain⟨u,rfl,ru⟩:=Ws r
 cases ru
 obtain⟨z,its,n,rv,el⟩:vs.length<=sizeLine/\∃ (its:List Value) (n:Nat),yw vs its/\s.heap.get? l=some { cls:=.type "list",data:=.seq its.toArray n }:=I.hok _ _ hl
 have hD:H s.heap.objs.size=none:=I.hok.fresh (Nat.le_refl _)
 have hvl:=rv.length
 refine callType_codes (Q₁:=λobj s₁=>obj=.ref s.heap.objs.size/\s₁={ s with heap:=s.heap.push { cls:=.type "dict",data:=.dict #[] } }) F.kt_called_dict (F.kt_typeCall_dict_1 _) F.entry_dict_init (kt_code_dict_new _ ⟨rfl,rfl⟩) ?_
 rintro obj s₁ ⟨rfl,rfl⟩
 have I1:=I.laid (a:=s.heap.objs.size) (o:=.dT []) (h':=s.heap.push { cls:=.type "dict",data:=.dict #[] }) (t':=s.toks) (λ_ _ q=>Heap.get?_push_of_some _ q) (Nat.le_refl _) (Vm s.heap I.big)
 have hT:Shared.TypeIs { s with heap:=s.heap.push { cls:=.type "dict",data:=.dict #[] } } (.ref s.heap.objs.size) "dict":=⟨_,Heap.get?_push_size _ rfl,rfl⟩
 have hlD:s.heap.objs.size≠l:=λe=>by rw[e,hl]at hD;cases hD
 have el1:(s.heap.push { cls:=.type "dict",data:=.dict #[] }).get? l=some { cls:=.type "list",data:=.seq its.toArray n }:=Heap.get?_push_of_some _ el
 refine⟨hT,F.args_dict_init_2 _ _,?_⟩
 unfold Builtin.«dict.__init__»
 refine wpAny_bind ?_
 unfold Builtin.Dict.selfAndRest
 refine wpAny_bind (wpAny_notOrdered_dict hT ?_)
 show wpAny _ _ (pure (s.heap.objs.size,[Value.ref l])) _ _ _
 refine wpAny_pure ?_
 show wpAny _ _ (Builtin.Dict.updateFrom "dict.__init__" s.heap.objs.size (.ref l) [] .none) _ _ _
 unfold Builtin.Dict.updateFrom
 refine wpAny_bind (wpAny_typeOf (T:="list") ⟨_,el1,rfl⟩ ?_)
 rw[if_pos (by decide)]
 refine wpAny_bind (zhV (by simp[hr.hd]) el1 λh' tk hk=>?_)
 rw[if_pos (show(none:Option Value).isNone=true from rfl)]
 have I2:=I1.un (t':=tk) (H':=upd H s.heap.objs.size (.dT [])) (h':=h') (Un.kept hk) (I1.hok.kept hk)
 have el2:=hk _ _ el1
 refine wpAny_bind (wpAny_rule (wpAny_bind (wpAny_pyIter_list (items:=its.toArray) ⟨_,el2,rfl,n,rfl⟩ ?_)))
 have fi:=I2.hok.fresh (Nat.le_refl _)
 have I3:=I2.un (t':=tk) (h':=h'.push { cls:=.type "list_iterator",data:=.fields #[.ref l,.int 0 0] }) (Un.kept λ_ _ q=>Heap.get?_push_of_some _ q) (I2.hok.kept λ_ _ q=>Heap.get?_push_of_some _ q)
 have hil:l≠h'.objs.size:=Nat.ne_of_lt (Heap.lt_size el2)
 refine wpAny_pure ⟨plainId_quiet ZF _,?_⟩
 refine zgY (A:=X.A.in1) (H:=H) (D:=s.heap.objs.size) (it:=h'.objs.size) (l:=l) (its:=its.toArray) (ps:=ps) (by simp[hr.hd]) (by have:=hr.un;show X.A.units+1+1+1 < cLine;omega) hlD hil (λi v hv=>?_) (by rw[hln,List.size_toArray];exact hvl) (by rw[List.size_toArray,<- hvl];exact z) its.length 0 _ [] (by rw[List.size_toArray];rfl) (Nat.zero_le _) (Nat.le_refl _) ⟨⟨_,Heap.get?_push_size _ rfl,rfl,rfl⟩,⟨_,Heap.get?_push_of_some _ el2,rfl,n,rfl⟩⟩ I3 (I2.fpOk (Nat.le_refl _) fi) hD λs' I4=>?_
 .have hv':its[i]?=some v:=by simpa using hv
  have hi:i < vs.length:=by rw[hvl];exact(List.getElem?_eq_some_iff.mp hv').1
  have hx:vs[i]?=some vs[i]:=List.getElem?_eq_getElem hi
  obtain⟨u,hu,rx⟩:=rv.get hx
  rw[hv']at hu
  cases hu
  obtain⟨p,b,k,y,e1,e2,e3,e4⟩:=hps i _ hx
  rw[e2]at rx
  exact⟨p,b,k,y,e1,rx,e3,e4⟩
 .obtain⟨ob,I5⟩:=I4.frz (p:=s.heap.objs.size) (u:=.dT (Yl [] (ps.drop 0))) zo (.inr ⟨_,rfl⟩)
  rw[Wq]at I5
  exact⟨rfl,.ref s.heap.objs.size,_,I5,rfl,q _ ob hD⟩
end
end L2
namespace Dl
open PySem L2
variable [KK]
noncomputable def kv2 (ds:List D):Option (List Key × D):=match ds with
 | [kd,d]=>(zcD kd).map λk=>(k,d)
 | _=>none
noncomputable def kvD:D->Option (List Key × D)
 | .tup ds=>kv2 ds
 | _=>none
noncomputable def zjg:List D->Option (List (List Key × D))
 | []=>some []
 | d::ds=>(kvD d).bind λp=>(zjg ds).map (p::·)
noncomputable def zds (ks:List (List Key))(vs:List D):List (List Key × D)->List (List Key) × List D
 | []=>(ks,vs)
 | p::ps=>zds (Zc ks vs p.1) (Zd ks vs p.1 p.2) ps
noncomputable def zcC (xs:List D):Option D:=match xs with
 | [.lst ds]=>(zjg ds).map λps=>.dct true true (zds [] [] ps).1 (zds [] [] ps).2
 | _=>none
theorem zl4 {F:Hp}{d:D}{q:List Key × D}{v:V}(h:kvD d=some q)(a:At F d v):∃ p b y,v=.ref p/\F p=some (.tup [.ref b,y])/\F b=some (.tup (q.1.map kV))/\At F q.2 y:=by
 cases d with
 | tup ds =>
  replace h:kv2 ds=some q:=h
  unfold kv2 at h
  split at h
  .rename_i kd d
   obtain⟨k,e,rfl⟩:=Option.map_eq_some_iff.mp h
   obtain⟨p,ys,rfl,hp,al⟩:=a.tup_inv
   obtain⟨x,r,rfl,a1,al⟩:=al.cons_inv
   obtain⟨y,r,rfl,a2,al⟩:=al.cons_inv
   cases al.nil_inv
   obtain⟨b,rfl,hb⟩:=VV e a1
   exact⟨p,b,y,rfl,hp,hb,a2⟩
  .cases h
 | _=>cases h
theorem zjw {F:Hp}:∀ {ds:List D} {ps:List (List Key × D)} {vs:List V},zjg ds=some ps->AtL F ds vs ->
 ∃ qs:List (List Key × V),qs.length=vs.length/\qs.map (·.1)=ps.map (·.1)/\AtL F (ps.map (·.2)) (qs.map (·.2))/\∀ (i:Nat) (v:V),vs[i]?=some v->∃ p b k y,qs[i]?=some (k,y)/\v=.ref p/\F p=some (.tup [.ref b,y])/\F b=some (.tup (k.map kV)):=by
 intro ds
 induction ds with
 | nil =>
  intro ps vs h a
  cases h
  cases a.nil_inv
  exact⟨[],rfl,rfl,.nil,λi v h=>by simp at h⟩
 | cons d ds ih =>
  intro ps vs h a
  obtain⟨q,e1,h⟩:=Option.bind_eq_some_iff.mp h
  obtain⟨qs0,e2,rfl⟩:=Option.map_eq_some_iff.mp h
  obtain⟨x,r,rfl,a1,a2⟩:=a.cons_inv
  obtain⟨p,b,y,rfl,hp,hb,ay⟩:=zl4 e1 a1
  obtain⟨qs,l1,l2,l3,l4⟩:=ih e2 a2
  refine⟨(q.1,y)::qs,by rw[List.length_cons,List.length_cons,l1],by rw[List.map_cons,List.map_cons,l2],by rw[List.map_cons,List.map_cons];exact .cons ay l3,λi v h=>?_⟩
  cases i with
  | zero=>cases h;exact⟨p,b,q.1,y,rfl,rfl,hp,hb⟩
  | succ i=>exact l4 i v h
theorem ziH {F:Hp}:∀ {ps:List (List Key × D)} {qs kvs:List (List Key × V)} {vs:List D},AtL F vs (kvs.map (·.2))->qs.map (·.1)=ps.map (·.1)->AtL F (ps.map (·.2)) (qs.map (·.2)) ->
 (Yl kvs qs).map (·.1)=(zds (kvs.map (·.1)) vs ps).1/\AtL F (zds (kvs.map (·.1)) vs ps).2 ((Yl kvs qs).map (·.2)):=by
 intro ps
 induction ps with
 | nil =>
  intro qs kvs vs a e _
  cases qs with
  | nil=>exact⟨rfl,a⟩
  | cons _ _=>cases e
 | cons p ps ih =>
  intro qs kvs vs a e l
  cases qs with
  | nil=>cases e
  | cons q qs =>
   rw[List.map_cons,List.map_cons]at e l
   obtain⟨e1,e2⟩:=List.cons.inj e
   obtain⟨x,r,ex,l1,l2⟩:=l.cons_inv
   cases ex
   obtain⟨q1,q2⟩:=zbM (λk=>k) zfA (k:=q.1) l1 a
   have:=ih (kvs:=XM kvs q.1 q.2) (vs:=Zd (kvs.map (·.1)) vs q.1 p.2) q2 e2 l2
   rw[show(XM kvs q.1 q.2).map (·.1)=Zc (kvs.map (·.1)) vs q.1 from q1]at this
   show(Yl (XM kvs q.1 q.2) qs).map (·.1)=(zds (Zc (kvs.map (·.1)) vs p.1) (Zd (kvs.map (·.1)) vs p.1 p.2) ps).1/\AtL F (zds (Zc (kvs.map (·.1)) vs p.1) (Zd (kvs.map (·.1)) vs p.1 p.2) ps).2 ((Yl (XM kvs q.1 q.2) qs).map (·.2))
   rw[<-e1]
   exact this
theorem zdH:CaD zht zcC:=by
 intro F H vs ds z Q s al e q
 unfold zcC at e
 split at e
 .rename_i ds
  obtain⟨ps,e1,rfl⟩:=Option.map_eq_some_iff.mp e
  obtain⟨x,r,rfl,ax,ar⟩:=al.cons_inv
  cases ar.nil_inv
  obtain⟨l,xs,rfl,hl,bl⟩:=ax.lst_inv
  obtain⟨qs,l1,l2,l3,l4⟩:=zjw e1 bl
  refine⟨l,xs,qs,rfl,s _ _ hl,l1,λi v h=>?_,λD ob hD=>?_⟩
  .obtain⟨p,b,k,y,w1,w2,w3,w4⟩:=l4 i v h
   exact⟨p,b,k,y,w1,w2,s _ _ w3,s _ _ w4⟩
  .have kk:=ziH (kvs:=[]) (vs:=[]) .nil l2 l3
   rw[List.map_nil]at kk
   obtain⟨k1,k2⟩:=kk
   have fD:=s.free hD
   have sF:yU F (upd F D (.frz ob (.dT (Yl [] qs)))):=λb o e=>by rw[zq (zn e fD)];exact e
   refine q (upd F D (.frz ob (.dT (Yl [] qs)))) _ _ ⟨sF,λb o z=>?_,λb o z1 z2=>?_⟩ ?_
   .by_cases hb:b=D
    .subst hb;rw[zo]at z ⊢;exact z
    .rw[zq hb]at z ⊢;exact s b o z
   .have hb:b≠D:=zn z2 hD
    rw[zq hb]
    refine⟨?_,z2⟩
    unfold Hid
    rw[zq hb]
    exact .inl z1
   .unfold At
    refine⟨D,(Yl [] qs).map (·.2),rfl,⟨.dT (Yl [] qs),?_,by rw[if_pos rfl];exact⟨ob,zo⟩⟩,k2.mono sF⟩
    unfold Vi
    rw[if_pos rfl]
    exact⟨_,rfl,k1,rfl⟩
 .cases e
theorem ziu:bootBuiltins "dict"=some (.type "dict"):=by decide +kernel
end Dl
namespace Mz
open PySem Dl
noncomputable abbrev Tie:=Int × Int
noncomputable def ltP (s t:Tie):Prop:=s.1 < t.1\/(s.1=t.1/\s.2 < t.2)
noncomputable instance (s t:Tie):Decidable (ltP s t):=by unfold ltP;infer_instance
theorem zdV {a b c:Tie}(h:ltP a b)(k:ltP b c):ltP a c:=by
 unfold ltP at *
 omega
noncomputable def zi (t:Tie):D:=.tup [.int t.1,.int t.2]
theorem zeb {s t:Tie}(h:zi s=zi t):s=t:=by
 unfold zi at h
 injection h with h
 injection h with h1 h2
 injection h2 with h2 _
 injection h1 with h1
 injection h2 with h2
 exact Prod.ext h1 h2
noncomputable def yb (many:Int)(ties:List Tie):D:=.tup [.int many,.tup (ties.map zi)]
structure xL (many:Int) (ties:List Tie):Prop where
 lo:1<=many
 hi:many<=8
 rng:∀ t∈ties,0<=t.1/\t.1 < t.2/\t.2 < many
 srt:ties.Pairwise ltP
noncomputable def leP (s t:Tie):Bool:=if s.1=t.1 then (if s.2=t.2 then true else decide (s.2<=t.2))else decide (s.1<=t.1)
theorem V8 {s t:Tie}:leP s t=false↔ltP t s:=by
 unfold leP ltP
 by_cases h:s.1=t.1
 .rw[if_pos h]
  by_cases k:s.2=t.2
  .rw[if_pos k];simp;omega
  .rw[if_neg k,decide_eq_false_iff_not];omega
 .rw[if_neg h,decide_eq_false_iff_not];omega
noncomputable def Zh:D->Option Tie
 | .tup [.int a,.int b]=>some (a,b)
 | _=>none
theorem Yx (t:Tie):Zh (zi t)=some t:=rfl
theorem Wc {d:D}{t:Tie}(h:Zh d=some t):d=zi t:=by
 unfold Zh at h
 split at h
 .cases h;rfl
 .cases h
noncomputable def inR (m a:Int):Bool:=decide (0<=a)&&decide (a<=m - 1)
noncomputable def wn (m:Int)(d:D):Bool:=match Zh d with
 | some t=>inR m t.1&&inR m t.2&&!decide (t.1=t.2)
 | none=>false
noncomputable def zaS (p:Option Tie)(t:Tie):Bool:=match p with
 | some q=>!leP t q
 | none=>true
noncomputable def yE (m:Int):Option Tie->List D->Bool
 | _,[]=>true
 | p,d::r=>match Zh d with
  | some t=>wn m d&&!decide (t.2 < t.1)&&zaS p t&&yE m (some t) r
  | none=>false
noncomputable def YY (m:Int):D->Bool
 | .tup ts=>yE m none ts
 | _=>false
noncomputable def Ym:D->Bool
 | .tup [.int m,t]=>decide (1<=m)&&decide (m<=8)&&YY m t
 | _=>false
theorem XA (m:Int):∀ (ts:List D) (p:Option Tie),yE m p ts=true↔∃ l:List Tie,ts=l.map zi/\(∀ t∈l,0<=t.1/\t.1 < t.2/\t.2 < m)/\(∀ q,p=some q->∀ t∈l,ltP q t)/\l.Pairwise ltP:=by
 intro ts
 induction ts with
 | nil =>
  intro p
  refine⟨λ_=>⟨[],rfl,by simp,by simp,.nil⟩,λ_=>rfl⟩
 | cons d r ih =>
  intro p
  unfold yE
  cases e:Zh d with
  | none =>
   refine Iff.intro (λh=>nomatch h) (λhh=>?_)
   obtain⟨l,h,_⟩:=hh
   cases l with
   | nil=>cases h
   | cons t l' =>
    rw[List.map_cons]at h
    injection h with h1 _
    rw[h1,Yx]at e
    cases e
  | some t =>
   have ed:=Wc e
   subst ed
   simp only[wn,Yx,Bool.and_eq_true,Bool.not_eq_true',decide_eq_false_iff_not,inR,decide_eq_true_eq]
   rw[ih (some t)]
   constructor
   .rintro⟨⟨⟨⟨⟨h1,h2⟩,h3⟩,h4⟩,h5⟩,l,rfl,hr,hq,hs⟩
    refine⟨t::l,rfl,?_,?_,List.pairwise_cons.mpr ⟨hq t rfl,hs⟩⟩
    .intro u hu
     rcases List.mem_cons.mp hu with rfl | hu
     .omega
     .exact hr u hu
    .rintro q rfl u hu
     have hqt:ltP q t:=V8.mp (by simpa [zaS]using h5)
     rcases List.mem_cons.mp hu with rfl | hu
     .exact hqt
     .exact zdV hqt (hq t rfl u hu)
   .rintro⟨l,h,hr,hq,hs⟩
    cases l with
    | nil=>cases h
    | cons u l' =>
     rw[List.map_cons]at h
     injection h with h1 h2
     have hu:=zeb h1
     subst hu
     have hb:=hr t (by simp)
     refine⟨⟨⟨⟨⟨by omega,by omega⟩,by omega⟩,by omega⟩,?_⟩,l',h2,λv hv=>hr v (by simp[hv]),λq hqe v hv=>?_,(List.pairwise_cons.mp hs).2⟩
     .cases p with
      | none=>rfl
      | some q =>
       have:=V8.mpr (hq q rfl t (by simp))
       simp[zaS,this]
     .cases hqe
      exact(List.pairwise_cons.mp hs).1 v hv
theorem wH (d:D):Ym d=true↔∃ m ties,d=yb m ties/\xL m ties:=by
 constructor
 .intro h
  unfold Ym at h
  split at h
  .rename_i m t
   simp only[Bool.and_eq_true,decide_eq_true_eq]at h
   obtain⟨⟨h1,h2⟩,h3⟩:=h
   unfold YY at h3
   split at h3
   .rename_i ts
    obtain⟨l,rfl,hr,_,hs⟩:=(XA m ts none).mp h3
    exact⟨m,l,rfl,h1,h2,hr,hs⟩
   .cases h3
  .cases h
 .rintro⟨m,ties,rfl,w⟩
  unfold yb Ym YY
  simp only[Bool.and_eq_true,decide_eq_true_eq]
  exact⟨⟨w.lo,w.hi⟩,(XA m _ none).mpr ⟨ties,rfl,w.rng,by simp,w.srt⟩⟩
theorem ziq {d:D}(h:∀ m ties,d=yb m ties->¬ xL m ties):Ym d=false:=by
 cases e:Ym d with
 | false=>rfl
 | true =>
  obtain⟨m,ties,rfl,w⟩:=(wH d).mp e
  exact absurd w (h m ties rfl)
noncomputable def wu (n:Nat):List Tie:=(List.range n).flatMap λa=>(List.range (n - (a+1))).map λ(j:Nat)=>((a:Int),(a:Int)+1+(j:Int))
theorem WC:∀ n:Nat,n<=8->(wu n).Pairwise ltP/\(∀ t∈wu n,0<=t.1/\t.1 < t.2/\t.2 < (n:Int))/\(wu n).length<=28:=by
 have h:∀ n:_root_.Fin 9,(wu n.val).Pairwise ltP/\(∀ t∈wu n.val,0<=t.1/\t.1 < t.2/\t.2 < (n.val:Int))/\(wu n.val).length<=28:=by decide +kernel
 exact λn hn=>h ⟨n,by omega⟩
end Mz
namespace Mz
open Dl
noncomputable def zbC (i j:Nat):List Tie:=(List.range j).map λ(k:Nat)=>((i:Int),(i:Int)+1+(k:Int))
noncomputable def xN (n i:Nat):List Tie:=(List.range i).flatMap λa=>zbC a (n - (a+1))
theorem zfI (n:Nat):wu n=xN n n:=rfl
theorem Xx (n i:Nat):xN n (i+1)=xN n i++zbC i (n - (i+1)):=by
 unfold xN
 rw[List.range_succ,List.flatMap_append]
 simp
theorem Xv (i j:Nat):(zbC i j).length=j:=by unfold zbC;simp
theorem zdc (n:Nat)(hn:n<=8):∀ i:Nat,(xN n i).length<=8*i:=by
 intro i
 induction i with
 | zero=>simp[xN]
 | succ i ih =>
  rw[Xx,List.length_append,Xv]
  omega
noncomputable def Wi (c k:Int):Int :=
 let a:=(c % 2147483647+977*k+1)*48271 % 2147483647
 let b:=a*a % 2147483629
 (b+40692*(k+3))*69621 % 2147483647 / 8
theorem XF {P:Nat->Prop}:∀ k,P k->∃ j,P j/\∀ i,P i->j<=i:=by
 intro k
 induction k using Nat.strongRecOn with
 | _ k ih =>
  intro h
  by_cases c:∃ i,i < k/\P i
  .obtain⟨i,hi,h2⟩:=c
   exact ih i hi h2
  .exact⟨k,h,λi hi=>Nat.le_of_not_lt λz=>c ⟨i,z,hi⟩⟩
theorem zhM {n:Nat}{i:Int}(h0:0<=i)(h1:i < n):L2.ixN n i=some i.toNat:=by
 unfold L2.ixN
 rw[if_pos h0,if_pos h1]
theorem zhK {α:Type}{xs:List α}{i:Int}{x:α}(h0:0<=i)(h:xs[i.toNat]?=some x):L2.atI xs i=some x:=by
 have:=(List.getElem?_eq_some_iff.mp h).1
 unfold L2.atI
 rw[zhM h0 (by omega)]
 exact h
theorem zk7 {m:Bool}{i:Nat}{fk fe:Ev->Option D}{ρ:SE}{ds:List D}{d:D}{k:Int}(h1:vEv m fe ρ=some d)(h2:fk (visG ρ)=some (.int k))(h3:ρ[i]?=some (.o ds))(h4:0<=k)(h5:k < ds.length) :
 vL m i fk fe ρ=.nx (ρ.set i (.o (ds.set k.toNat d))):=by
 unfold vL
 rw[h1,h2,h3]
 show(match ((L2.ixN ds.length k).map λj=>ρ.set i (Sl.o (ds.set j d)))with | some ρ'=>Ctl.nx ρ' | none=>Ctl.no)=_
 rw[zhM h4 h5]
 rfl
theorem zfz:∀ {ns:List Int} {k:Nat} {x:Int} (h:k < ns.length),(ns.set k x).sum=ns.sum - ns[k]+x
 | [],_,_,h=>by simp at h
 | n::ns,0,x,_=>by simp;omega
 | n::ns,k+1,x,h=>by
  have:=zfz (ns:=ns) (k:=k) (x:=x) (by simpa using h)
  simp only[List.set_cons_succ,List.sum_cons,List.getElem_cons_succ,this]
  omega
noncomputable def zlv (b n:Nat):List Tie:=(List.range n).map λ(k:Nat)=>((k:Int),(b:Int))
theorem W6 (ts:List Tie):(V1 ts).Perm ts:=List.mergeSort_perm _ _
theorem zfY {m:Bool}{i:Nat}{fk fe:Ev->Option D}{ρ:SE}{n b kk:SE->Prop}{r:D->Prop}(ds:List D)(d:D)(k:Int)(h1:vEv m fe ρ=some d)(h2:fk (visG ρ)=some (.int k))(h3:ρ[i]?=some (.o ds))(h4:0<=k)(h5:k < ds.length)(q:n (ρ.set i (.o (ds.set k.toNat d)))) :
 (vL m i fk fe ρ).w n b kk r:=Y4 (zk7 h1 h2 h3 h4 h5) q
theorem V2 {α:Type}(xs:List α)(lo hi:Option Int):(X1 xs lo hi).length<=xs.length:=by
 unfold X1
 rw[List.length_take,List.length_drop]
 omega
theorem zfR {a b:List D}(h:a.length+b.length<=1000):y8 (.lst a) (.lst b)=some (.lst (a++b)):=by
 show(if lim (a.length+b.length)=true then _ else none)=_
 rw[if_pos (vD h)]
theorem zlC {g h:SE->Ctl}{ρ:SE}{n b k:SE->Prop}{r:D->Prop}(J:SE->Prop)(h1:(g ρ).w J b k r)(h2:∀ ρ',J ρ'->(h ρ').w n b k r):(zS g h ρ).w n b k r :=
 yX (zeJ h1 h2 (λ_ h=>h) (λ_ h=>h) λ_ h=>h)
theorem W3:∀ {ns:List Int},(∀ x∈ns,0<=x)->0<=ns.sum
 | [],_=>by simp
 | n::ns,h=>by
  have:=W3 (ns:=ns) λx hx=>h x (List.mem_cons_of_mem _ hx)
  have:=h n List.mem_cons_self
  rw[List.sum_cons]
  omega
theorem Xe:∀ {ns:List Int} {y:Int},(∀ x∈ns,0<=x)->y∈ns->y<=ns.sum
 | [],_,_,h=>by simp at h
 | n::ns,y,h,hy=>by
  have h2:∀ x∈ns,0<=x:=λx hx=>h x (List.mem_cons_of_mem _ hx)
  have:=W3 h2
  have:=h n List.mem_cons_self
  rw[List.sum_cons]
  rcases List.mem_cons.mp hy with rfl | hy
  .omega
  .have:=Xe h2 hy
   omega
theorem wq {m:Bool}{i:Nat}{f:Ev->Option D}{ρ ρ':SE}{d:D}(h:vEv m f ρ=some d)(h2:ρ.set i (.v d)=ρ':=by rfl):y4 m i f ρ=.nx ρ':=by
 unfold y4
 rw[h,<- h2]
theorem Xl {f:Ev->Option D}{ρ:SE}{d:D}(h:f (visG ρ)=some d):vM f ρ=.nx ρ:=by
 unfold vM
 rw[h]
theorem vS {f:Ev->Option D}{ρ:SE}{d:D}(h:f (visG ρ)=some d):yq f ρ=.rt d:=by
 unfold yq
 rw[h]
theorem zN {a b:Int}:neD (.int a) (.int b)=some (.bl (!decide (a=b))):=rfl
theorem wE {a m x:Int}(h:0 < m)(hx:a % m=x):0<=x/\x < m:=by
 subst hx
 exact⟨Int.emod_nonneg _ (by omega),Int.emod_lt_of_pos _ h⟩
theorem zjP {m:Int}(h1:1<=m)(h8:m<=8):wB [.int m]=some (Xq 0 m.toNat):=by
 show(if zfO m=true then some (Xq 0 m.toNat)else none)=_
 rw[if_pos (y6.mpr ⟨by omega,by omega⟩)]
theorem zA {a b:Int}:Vs (.int a) (.int b)=some (.bl (decide (a=b))):=rfl
theorem zK {a b:Bool}:Vs (.bl a) (.bl b)=some (.bl (decide (a=b))):=rfl
theorem zy {a b:PySem.Str}:Vs (.str a) (.str b)=some (.bl (decide (a=b))):=rfl
theorem zx {a b:Int}:y8 (.int a) (.int b)=some (.int (a+b)):=rfl
theorem zhe {a b:List D}(h:a.length+b.length<=1000):y8 (.tup a) (.tup b)=some (.tup (a++b)):=by
 show(if lim (a.length+b.length)=true then some (D.tup (a++b))else none)=_
 rw[if_pos (vD h)]
section
variable {ρ:Ev}{f g h:Ev->Option D}{a:Ev->Option (List D)}{t u:Ev->Option Bool}{d e x y z:D}{ds es:List D}{b c:Bool}
theorem xM:zr ρ=some []:=rfl
theorem zt (h1:f ρ=some d)(h2:a ρ=some ds):zb f a ρ=some (d::ds):=by unfold zb;rw[h1,h2];rfl
theorem yJ {n:Nat}{p:List D->Option D}(h1:a ρ=some ds)(h2:p ds=some d)(hl:ds.length=n:=by rfl):zp n p a ρ=some d:=by
 unfold zp
 rw[h1,Option.bind_some,if_pos hl,h2]
theorem vB {i n:Nat}{p:List D->Option D}{σ σ':SE}(h1:a (visF σ)=some ds)(h2:p ds=some d)(hl:ds.length=n:=by rfl)(h3:σ.set i (.v d)=σ':=by rfl):y4 false i (zp n p a) σ=.nx σ':=wq (show zp n p a (visF σ)=some d from yJ h1 h2 hl) h3
theorem WN {i:Nat}{f:Ev->Option D}{σ σ':SE}(h:f (visF σ)=some d)(h3:σ.set i (.v d)=σ':=by rfl):y4 false i f σ=.nx σ':=wq (show f (visF σ)=some d from h) h3
theorem zD {k:D->D->Option D}(h1:f ρ=some x)(h2:g ρ=some y)(h3:k x y=some z):zj k f g ρ=some z:=by unfold zj;rw[h1,h2];exact h3
theorem zkD {k:D->Option D}(h1:f ρ=some x)(h3:k x=some z):eUn k f ρ=some z:=by unfold eUn;rw[h1];exact h3
theorem vd (h1:a ρ=some ds):yK a ρ=some (.lst ds):=by unfold yK;rw[h1];rfl
theorem zdo {k:List D->Option D}(h1:a ρ=some ds)(h2:k ds=some d):eFn k a ρ=some d:=by unfold eFn;rw[h1];exact h2
theorem zhy {k:List D->Option (List D)}(h1:a ρ=some ds)(h2:k ds=some es):fFn k a ρ=some es:=by unfold fFn;rw[h1];exact h2
theorem Xn (h1:a ρ=some ds)(hl:ds.length<=1000):zI a ρ=some ds:=by unfold zI;rw[h1,Option.bind_some,if_pos (vD hl)]
theorem zhC (h1:a ρ=some ds)(hl:ds.length<=1000):ww a ρ=some (.tup ds):=by unfold ww;rw[h1,Option.bind_some,if_pos (vD hl)]
theorem Wu (h1:f ρ=some d)(h2:yu d=some ds):iOf f ρ=some ds:=by unfold iOf;rw[h1];exact h2
theorem zko (h1:f ρ=some (.bl b))(h2:g ρ=some (.bl c)):wj f g ρ=some (.bl (b&&c)):=by unfold wj;rw[h1,h2];cases b <;> rfl
theorem Ys (h1:f ρ=some (.bl b)):tOf f ρ=some b:=by unfold tOf;rw[h1];rfl
theorem Ze (h1:t ρ=some b):zT t ρ=some (!b):=by unfold zT;rw[h1];rfl
theorem zkB (h1:t ρ=some b)(h2:u ρ=some c):yr t u ρ=some (b&&c):=by unfold yr;rw[h1,h2];cases b <;> rfl
theorem zjJ (h1:t ρ=some b)(h2:u ρ=some c):xW t u ρ=some (b||c):=by unfold xW;rw[h1,h2];cases b <;> rfl
theorem Vc (h1:t ρ=some true):xW t u ρ=some true:=by unfold xW;rw[h1];rfl
theorem WY (h1:t ρ=some false)(h2:u ρ=some c):xW t u ρ=some c:=by unfold xW;rw[h1];exact h2
end
end Mz
namespace Mz
open PySem L2 Dl
noncomputable def top (i:Nat):Stmt:=PySem.Challenge.pw_twoforone_k42_closed_lists_looked_at.main.body.getD i (.Pass ⟨0,0,0,0⟩)
noncomputable abbrev Zx:Stmt:=top 9
noncomputable abbrev xF:Stmt:=top 10
noncomputable abbrev xQ:Stmt:=top 11
noncomputable abbrev xR:Stmt:=top 12
noncomputable abbrev Zz:Stmt:=top 13
noncomputable abbrev vW:Stmt:=top 14
noncomputable abbrev Xm:Stmt:=top 16
noncomputable abbrev Zp:Stmt:=top 17
noncomputable abbrev Wg:Stmt:=top 18
noncomputable abbrev vn:Stmt:=top 19
noncomputable abbrev we:Stmt:=top 20
noncomputable abbrev vm:Stmt:=top 21
noncomputable abbrev vN:Stmt:=top 22
noncomputable abbrev Yf:Stmt:=top 24
noncomputable abbrev wR:Stmt:=top 25
noncomputable abbrev YH:Stmt:=top 26
noncomputable abbrev Xk:Stmt:=top 27
noncomputable abbrev wg:Stmt:=top 29
noncomputable abbrev Yy:Stmt:=top 30
noncomputable abbrev wT:Stmt:=top 31
noncomputable abbrev Yj:Stmt:=top 33
noncomputable abbrev Zw:Stmt:=top 34
noncomputable abbrev vP:Stmt:=top 35
noncomputable abbrev YW:Stmt:=top 36
noncomputable abbrev wN:Stmt:=top 37
noncomputable abbrev wO:Stmt:=top 38
noncomputable abbrev vt:Stmt:=top 39
noncomputable abbrev v9:Stmt:=top 40
noncomputable abbrev vp:Stmt:=top 41
noncomputable abbrev YV:Stmt:=top 42
noncomputable abbrev YG:Stmt:=top 43
noncomputable abbrev xO:Stmt:=top 44
noncomputable abbrev zeF:Stmt:=top 45
theorem zbn:zB ["thing"] ["thing"] (zm Zx):=⟨rfl,rfl,rfl,by decide +kernel,rfl,by decide +kernel,by decide +kernel⟩
theorem ZP:zB ["thing","least","most"] ["thing","least","most"] (zm xF):=⟨rfl,rfl,rfl,by decide +kernel,rfl,by decide +kernel,by decide +kernel⟩
theorem Xd:zB ["thing","least","most"] ["thing","least","most"] (zm xQ):=⟨rfl,rfl,rfl,by decide +kernel,rfl,by decide +kernel,by decide +kernel⟩
theorem Xc:zB ["thing"] ["thing"] (zm xR):=⟨rfl,rfl,rfl,by decide +kernel,rfl,by decide +kernel,by decide +kernel⟩
theorem zbG:zB ["many","thing"] ["many","thing"] (zm Zz):=⟨rfl,rfl,rfl,by decide +kernel,rfl,by decide +kernel,by decide +kernel⟩
theorem VI:zB ["many","thing"] ["many","thing"] (zm vW):=⟨rfl,rfl,rfl,by decide +kernel,rfl,by decide +kernel,by decide +kernel⟩
theorem zdj:zB ["many","thing"] ["many","thing"] (zm Xm):=⟨rfl,rfl,rfl,by decide +kernel,rfl,by decide +kernel,by decide +kernel⟩
theorem ZA:zB ["many","thing","at","tie"] ["many","thing"] (zm Zp):=⟨rfl,rfl,rfl,by decide +kernel,rfl,by decide +kernel,by decide +kernel⟩
theorem zef:zB ["thing"] ["thing"] (zm Wg):=⟨rfl,rfl,rfl,by decide +kernel,rfl,by decide +kernel,by decide +kernel⟩
theorem WV:zB ["thing"] ["thing"] (zm vn):=⟨rfl,rfl,rfl,by decide +kernel,rfl,by decide +kernel,by decide +kernel⟩
theorem XG:zB ["web","thing"] ["web","thing"] (zm we):=⟨rfl,rfl,rfl,by decide +kernel,rfl,by decide +kernel,by decide +kernel⟩
theorem WR:zB ["one","other"] ["one","other"] (zm vm):=⟨rfl,rfl,rfl,by decide +kernel,rfl,by decide +kernel,by decide +kernel⟩
theorem VC:zB ["web","place"] ["web","place"] (zm vN):=⟨rfl,rfl,rfl,by decide +kernel,rfl,by decide +kernel,by decide +kernel⟩
theorem VJ:zB ["web","thing"] ["web","thing"] (zm Yf):=⟨rfl,rfl,rfl,by decide +kernel,rfl,by decide +kernel,by decide +kernel⟩
theorem Wp:zB ["web","thing"] ["web","thing"] (zm wR):=⟨rfl,rfl,rfl,by decide +kernel,rfl,by decide +kernel,by decide +kernel⟩
theorem YU:zB ["web","found","place"] ["web"] (zm YH):=⟨rfl,rfl,rfl,by decide +kernel,rfl,by decide +kernel,by decide +kernel⟩
theorem Va:zB ["heap","step","stones"] ["heap","step"] (zm Xk):=⟨rfl,rfl,rfl,by decide +kernel,rfl,by decide +kernel,by decide +kernel⟩
theorem XH:zB ["web","heap","place","many"] ["web","heap","place","many"] (zm wg):=⟨rfl,rfl,rfl,by decide +kernel,rfl,by decide +kernel,by decide +kernel⟩
theorem wZ:zB ["web","held","steps","heap","step"] ["web","held"] (zm Yy):=⟨rfl,rfl,rfl,by decide +kernel,rfl,by decide +kernel,by decide +kernel⟩
theorem wU:zB ["web","heap","place","many","thing","held","other"] ["web","heap","place","many","thing"] (zm wT):=⟨rfl,rfl,rfl,by decide +kernel,rfl,by decide +kernel,by decide +kernel⟩
theorem V3:zB ["found"] ["found"] (zm Yj):=⟨rfl,rfl,rfl,by decide +kernel,rfl,by decide +kernel,by decide +kernel⟩
theorem Ya:zB ["web","heap","found","a","b"] ["web","heap"] (zm Zw):=⟨rfl,rfl,rfl,by decide +kernel,rfl,by decide +kernel,by decide +kernel⟩
theorem ZN:zB ["heap","step","found"] ["heap","step"] (zm vP):=⟨rfl,rfl,rfl,by decide +kernel,rfl,by decide +kernel,by decide +kernel⟩
theorem w8:zB ["cell","k","number"] ["cell","k"] (zm YW):=⟨rfl,rfl,rfl,by decide +kernel,rfl,by decide +kernel,by decide +kernel⟩
theorem zQ:zB ["many","cell","most","left","heap","digits","k","stones"] ["many","cell","most"] (zm wN):=⟨rfl,rfl,rfl,by decide +kernel,rfl,by decide +kernel,by decide +kernel⟩
theorem YT:zB ["heap","number","some"] ["heap","number"] (zm wO):=⟨rfl,rfl,rfl,by decide +kernel,rfl,by decide +kernel,by decide +kernel⟩
theorem ye:zB ["web","heap","found","row","more","here","step","other"] ["web","heap"] (zm vt):=⟨rfl,rfl,rfl,by decide +kernel,rfl,by decide +kernel,by decide +kernel⟩
theorem wy:zB ["many","found","a"] ["many"] (zm v9):=⟨rfl,rfl,rfl,by decide +kernel,rfl,by decide +kernel,by decide +kernel⟩
theorem xU:zB ["many","cell","ties","k","tie"] ["many","cell"] (zm vp):=⟨rfl,rfl,rfl,by decide +kernel,rfl,by decide +kernel,by decide +kernel⟩
theorem YM:zB ["found","due","one","other"] ["found","due"] (zm YV):=⟨rfl,rfl,rfl,by decide +kernel,rfl,by decide +kernel,by decide +kernel⟩
theorem vg:zB ["web","heap","place","stones","thing","other","known"] ["web","heap","place","stones","thing"] (zm YG):=⟨rfl,rfl,rfl,by decide +kernel,rfl,by decide +kernel,by decide +kernel⟩
theorem zO:zB ["web","heap","rows","cell","at","more","bad","two","some"] ["web","heap","rows","cell"] (zm xO):=⟨rfl,rfl,rfl,by decide +kernel,rfl,by decide +kernel,by decide +kernel⟩
theorem vJ:zB ["script","cell","many","web","heap","rows","k","other","turn","place","stones","thing","due"] ["script"] (zm zeF):=⟨rfl,rfl,rfl,by decide +kernel,rfl,by decide +kernel,by decide +kernel⟩
structure Adr where
 f_is_whole:Addr
 e_is_whole:FuncData
 f_is_whole_within:Addr
 e_is_whole_within:FuncData
 f_must_be_within:Addr
 e_must_be_within:FuncData
 f_is_place_count:Addr
 e_is_place_count:FuncData
 f_is_place:Addr
 e_is_place:FuncData
 f_are_counts:Addr
 e_are_counts:FuncData
 f_is_pair:Addr
 e_is_pair:FuncData
 f_are_ties:Addr
 e_are_ties:FuncData
 f_is_web:Addr
 e_is_web:FuncData
 f_must_be_web:Addr
 e_must_be_web:FuncData
 f_must_be_place:Addr
 e_must_be_place:FuncData
 f_tie_between:Addr
 e_tie_between:FuncData
 f_neighbours:Addr
 e_neighbours:FuncData
 f_are_stones:Addr
 e_are_stones:FuncData
 f_must_be_heap:Addr
 e_must_be_heap:FuncData
 f_all_steps:Addr
 e_all_steps:FuncData
 f_stepped:Addr
 e_stepped:FuncData
 f_must_be_asked:Addr
 e_must_be_asked:FuncData
 f_is_closed:Addr
 e_is_closed:FuncData
 f_closed_holds:Addr
 e_closed_holds:FuncData
 f__law_whole:Addr
 e__law_whole:FuncData
 f__law_may:Addr
 e__law_may:FuncData
 f__law_moved:Addr
 e__law_moved:FuncData
 f__law_stir:Addr
 e__law_stir:FuncData
 f__law_heap_by:Addr
 e__law_heap_by:FuncData
 f__law_no_heap:Addr
 e__law_no_heap:FuncData
 f__law_behind:Addr
 e__law_behind:FuncData
 f__law_pairs:Addr
 e__law_pairs:FuncData
 f__law_web_by:Addr
 e__law_web_by:FuncData
 f__law_same:Addr
 e__law_same:FuncData
 f__law_good:Addr
 e__law_good:FuncData
 f__law_otherwise:Addr
 e__law_otherwise:FuncData
 f_law:Addr
 e_law:FuncData
 t_MOST_PLACES:Tok
 t_MOST_STONES:Tok
structure Txt (K:W.Frag) (mg:Str->Option Value) (ad:Adr):Prop where
 d_is_whole:Def K mg "is_whole" Zx ["thing"] ad.f_is_whole ad.e_is_whole
 d_is_whole_within:Def K mg "is_whole_within" xF ["thing","least","most"] ad.f_is_whole_within ad.e_is_whole_within
 d_must_be_within:Def K mg "must_be_within" xQ ["thing","least","most"] ad.f_must_be_within ad.e_must_be_within
 d_is_place_count:Def K mg "is_place_count" xR ["thing"] ad.f_is_place_count ad.e_is_place_count
 d_is_place:Def K mg "is_place" Zz ["many","thing"] ad.f_is_place ad.e_is_place
 d_are_counts:Def K mg "are_counts" vW ["many","thing"] ad.f_are_counts ad.e_are_counts
 d_is_pair:Def K mg "is_pair" Xm ["many","thing"] ad.f_is_pair ad.e_is_pair
 d_are_ties:Def K mg "are_ties" Zp ["many","thing"] ad.f_are_ties ad.e_are_ties
 d_is_web:Def K mg "is_web" Wg ["thing"] ad.f_is_web ad.e_is_web
 d_must_be_web:Def K mg "must_be_web" vn ["thing"] ad.f_must_be_web ad.e_must_be_web
 d_must_be_place:Def K mg "must_be_place" we ["web","thing"] ad.f_must_be_place ad.e_must_be_place
 d_tie_between:Def K mg "tie_between" vm ["one","other"] ad.f_tie_between ad.e_tie_between
 d_neighbours:Def K mg "neighbours" vN ["web","place"] ad.f_neighbours ad.e_neighbours
 d_are_stones:Def K mg "are_stones" Yf ["web","thing"] ad.f_are_stones ad.e_are_stones
 d_must_be_heap:Def K mg "must_be_heap" wR ["web","thing"] ad.f_must_be_heap ad.e_must_be_heap
 d_all_steps:Def K mg "all_steps" YH ["web"] ad.f_all_steps ad.e_all_steps
 d_stepped:Def K mg "stepped" Xk ["heap","step"] ad.f_stepped ad.e_stepped
 d_must_be_asked:Def K mg "must_be_asked" wg ["web","heap","place","many"] ad.f_must_be_asked ad.e_must_be_asked
 d_is_closed:Def K mg "is_closed" Yy ["web","held"] ad.f_is_closed ad.e_is_closed
 d_closed_holds:Def K mg "closed_holds" wT ["web","heap","place","many","thing"] ad.f_closed_holds ad.e_closed_holds
 d__law_whole:Def K mg "_law_whole" Yj ["found"] ad.f__law_whole ad.e__law_whole
 d__law_may:Def K mg "_law_may" Zw ["web","heap"] ad.f__law_may ad.e__law_may
 d__law_moved:Def K mg "_law_moved" vP ["heap","step"] ad.f__law_moved ad.e__law_moved
 d__law_stir:Def K mg "_law_stir" YW ["cell","k"] ad.f__law_stir ad.e__law_stir
 d__law_heap_by:Def K mg "_law_heap_by" wN ["many","cell","most"] ad.f__law_heap_by ad.e__law_heap_by
 d__law_no_heap:Def K mg "_law_no_heap" wO ["heap","number"] ad.f__law_no_heap ad.e__law_no_heap
 d__law_behind:Def K mg "_law_behind" vt ["web","heap"] ad.f__law_behind ad.e__law_behind
 d__law_pairs:Def K mg "_law_pairs" v9 ["many"] ad.f__law_pairs ad.e__law_pairs
 d__law_web_by:Def K mg "_law_web_by" vp ["many","cell"] ad.f__law_web_by ad.e__law_web_by
 d__law_same:Def K mg "_law_same" YV ["found","due"] ad.f__law_same ad.e__law_same
 d__law_good:Def K mg "_law_good" YG ["web","heap","place","stones","thing"] ad.f__law_good ad.e__law_good
 d__law_otherwise:Def K mg "_law_otherwise" xO ["web","heap","rows","cell"] ad.f__law_otherwise ad.e__law_otherwise
 d_law:Def K mg "law" zeF ["script"] ad.f_law ad.e_law
 g_MOST_PLACES:mg "MOST_PLACES"=some (Value.int 8 ad.t_MOST_PLACES)
 g_MOST_STONES:mg "MOST_STONES"=some (Value.int 300 ad.t_MOST_STONES)
 z_all:mg "all"=none
 z_bool:mg "bool"=none
 z_dict:mg "dict"=none
 z_enumerate:mg "enumerate"=none
 z_int:mg "int"=none
 z_isinstance:mg "isinstance"=none
 z_len:mg "len"=none
 z_list:mg "list"=none
 z_max:mg "max"=none
 z_min:mg "min"=none
 z_range:mg "range"=none
 z_reversed:mg "reversed"=none
 z_sorted:mg "sorted"=none
 z_str:mg "str"=none
 z_sum:mg "sum"=none
 z_tuple:mg "tuple"=none
 z_zip:mg "zip"=none
theorem zlD:(["part","many","thing"]:List Str).Nodup:=by decide +kernel
theorem zmi:(["other","web","place"]:List Str).Nodup:=by decide +kernel
theorem zmk:(["other","web","found","place"]:List Str).Nodup:=by decide +kernel
theorem zlO:(["b","many","found","a"]:List Str).Nodup:=by decide +kernel
theorem zmp:(["step","web","heap","place","stones","thing","other","known"]:List Str).Nodup:=by decide +kernel
theorem zlH:(["other","web","heap","place","stones","thing","·other","known"]:List Str).Nodup:=by decide +kernel
theorem zlZ:(["part","web","heap","place","stones","thing","other","known"]:List Str).Nodup:=by decide +kernel
theorem zkJ:(["other","web","heap","rows","cell","at","more","bad","two","some"]:List Str).Nodup:=by decide +kernel
noncomputable def ZI:D->Bool
 | .int _=>true
 | _=>false
noncomputable def yz (d:D)(lo hi:Int):Bool:=match d with
 | .int i=>decide (lo<=i)&&decide (i<=hi)
 | _=>false
section
variable {P:Program}{w:World}{K:W.Frag}{mg:Str->Option Value}{base:Heap}{ad:Adr}
noncomputable def ym:List D->Option D
 | [d]=>if noS d=true then some (.bl (ZI d))else none
 | _=>none
noncomputable def Xh:SE->Ctl :=
 (yq (wj (eUn (zP .int) (zc 0)) (YD (eUn (zP .bool) (zc 0)))))
noncomputable def zc6:List D->Option D:=fnD 1 Xh
theorem zjl {α:Type}{ds:List α}(h:ds.length=1):∃ a,ds=[a]:=by match ds,h with | [a],_=>exact⟨a,rfl⟩
theorem zdw {α:Type}{ds:List α}(h:ds.length=2):∃ a b,ds=[a,b]:=by match ds,h with | [a,b],_=>exact⟨a,b,rfl⟩
theorem len3 {α:Type}{ds:List α}(h:ds.length=3):∃ a b c,ds=[a,b,c]:=by match ds,h with | [a,b,c],_=>exact⟨a,b,c,rfl⟩
theorem ifS {c:Bool}{x y:D}(h:(if c=true then some x else none)=some y):c=true/\x=y:=by
 split at h
 .cases h
  exact⟨by assumption,rfl⟩
 .cases h
theorem zbu:∀ ds d,ds.length=1->ym ds=some d->zc6 ds=some d:=by
 intro ds d hl h
 obtain⟨a,rfl⟩:=zjl hl
 obtain⟨hn,rfl⟩:=ifS h
 cases a <;> first | rfl | cases hn
theorem Wf (T:Txt K mg ad):xK P w K mg base CX0 1 ad.f_is_whole ad.e_is_whole ["thing"] (@spD ⟨K⟩ 1 ym):=by
 letI:KK:=⟨K⟩
 refine x6 (xa (N:=["thing"]) (ps:=["thing"]) T.d_is_whole.fn zbn (g:=Xh) λcdv A outer s H E hr=>?_) zbu
 unfold Xh
 exact(zh (zC (vA (zF .int rfl T.z_isinstance (edv 0) (yl (v:=.ty "int") rfl T.z_int zcG rfl)) (YQ (zeC (zF .bool rfl T.z_isinstance (edv 0) (yl (v:=.ty "bool") rfl T.z_bool Wx rfl)))))))
noncomputable def yA:SE->Ctl :=
 (yq (wj (zp 1 ym (zb (zc 0) zr)) (ya leD leD (zc 1) (zc 0) (zc 2))))
noncomputable def vK:List D->Option D:=fnD 3 yA
noncomputable def zE:List D->Option D
 | [d,.int lo,.int hi]=>if noS d=true then some (.bl (yz d lo hi))else none
 | _=>none
theorem Vq {a:D}{lo hi:Int}(hn:noS a=true)(hw:ZI a=false):vK [a,.int lo,.int hi]=some (.bl false):=by
 have e:ym [a]=some (.bl false):=by
  show(if noS a=true then some (D.bl (ZI a))else none)=_
  rw[if_pos hn,hw]
 refine Vu (ρ:=[.v a,.v (.int lo),.v (.int hi)]) rfl ?_
 unfold yA
 refine Y7 (vS ?_) rfl
 show(((ym [a]).bind asB).bind λc=>if c=true then _ else some (D.bl false))=_
 rw[e]
 rfl
theorem ZH:∀ ds d,ds.length=3->zE ds=some d->vK ds=some d:=by
 intro ds d hl h
 obtain⟨a,b,c,rfl⟩:=len3 hl
 cases b <;> try cases h
 cases c <;> try cases h
 rename_i lo hi
 obtain⟨hn,rfl⟩:=ifS h
 cases a with
 | scr _=>cases hn
 | int i =>
  refine Vu (ρ:=[.v (.int i),.v (.int lo),.v (.int hi)]) rfl ?_
  unfold yA
  refine Y7 (vS ?_) rfl
  show(if decide (lo<=i)=true then some (D.bl (decide (i<=hi)))else some (.bl false))=some (.bl (decide (lo<=i)&&decide (i<=hi)))
  cases decide (lo<=i) <;> rfl
 | tup es=>exact Vq hn rfl
 | lst es=>exact Vq hn rfl
 | dct z t ks vs=>exact Vq hn rfl
 | non=>rfl
 | bl _=>rfl
 | str _=>rfl
theorem xy (T:Txt K mg ad):xK P w K mg base CX0 2 ad.f_is_whole_within ad.e_is_whole_within ["thing","least","most"] (@spD ⟨K⟩ 3 zE):=by
 letI:KK:=⟨K⟩
 have G_is_whole:=Wf (P:=P) (w:=w) (base:=base) T
 refine x6 (xa (N:=["thing","least","most"]) (ps:=["thing","least","most"]) T.d_is_whole_within.fn ZP (g:=yA) λcdv A outer s H E hr=>?_) ZH
 unfold yA
 exact(zh (zC (vA (zk G_is_whole hr rfl T.d_is_whole (za (edv 0) ze)) (YQ (zgw zev zev yF yF (edv 1) (edv 0) (edv 2) (λa b c=>zgE zev zev a b c))))))
noncomputable def xj:SE->Ctl :=
 (yq (zp 3 zE (zb (zc 0) (zb (eC (.int 1)) (zb (eC (.int 8)) zr)))))
noncomputable def wo:List D->Option D:=fnD 1 xj
noncomputable def yL:List D->Option D
 | [d]=>if noS d=true then some (.bl (yz d 1 8))else none
 | _=>none
theorem Xb:∀ ds d,ds.length=1->yL ds=some d->wo ds=some d:=by
 intro ds d hl h
 obtain⟨a,rfl⟩:=zjl hl
 have e:wo [a]=zE [a,.int 1,.int 8]:=by
  cases h2:zE [a,.int 1,.int 8] <;> simp[wo,xj,fnD,zS,yq,xn,sIf,y4,vM,sNo,zH,Zq,vx,vv,YX,vL,vEv,visF,visG,Sl.f,Sl.g,zc,eC,zj,wj,eOr,YD,eIf,eUn,Yp,ww,yK,zI,zb,zr,zp,eFn,fFn,tOf,yr,xW,zT,asB,asI,zx,vQ,wx,yd,yP,Yq,yT,ltD,leD,gtD,geD,Yt,zA,zK,zy,zN,YL,zM,ixD,wY,zP,isT,eSl,yn,yf,ya,yu,iOf,wG,yG,vX,wB,v8,zY,y9,fLC,yg,zR,yS,zX,Yk,yt,Yo,b1,b2,h2]
 rw[e]
 exact h
theorem Xa (T:Txt K mg ad):xK P w K mg base CX0 3 ad.f_is_place_count ad.e_is_place_count ["thing"] (@spD ⟨K⟩ 1 yL):=by
 letI:KK:=⟨K⟩
 have G_is_whole_within:=xy (P:=P) (w:=w) (base:=base) T
 refine x6 (xa (N:=["thing"]) (ps:=["thing"]) T.d_is_place_count.fn Xc (g:=xj) λcdv A outer s H E hr=>?_) Xb
 unfold xj
 exact(zh (zC (zk G_is_whole_within hr rfl T.d_is_whole_within (za (edv 0) (za (zf zg) (za (zf (zbN (v:=.int 8) rfl T.g_MOST_PLACES ⟨_,rfl⟩)) ze))))))
noncomputable def Y5:SE->Ctl :=
 (yq (zp 3 zE (zb (zc 1) (zb (eC (.int 0)) (zb (zj vQ (zc 0) (eC (.int 1))) zr)))))
noncomputable def Xf:List D->Option D:=fnD 2 Y5
noncomputable def yO:List D->Option D
 | [.int m,d]=>if noS d=true then some (.bl (yz d 0 (m - 1)))else none
 | _=>none
theorem zbj:∀ ds d,ds.length=2->yO ds=some d->Xf ds=some d:=by
 intro ds d hl h
 obtain⟨a,b,rfl⟩:=zdw hl
 cases a <;> try cases h
 rename_i m
 have e:Xf [.int m,b]=zE [b,.int 0,.int (m - 1)]:=by
  cases h2:zE [b,.int 0,.int (m - 1)] <;> simp[Xf,Y5,fnD,zS,yq,xn,sIf,y4,vM,sNo,zH,Zq,vx,vv,YX,vL,vEv,visF,visG,Sl.f,Sl.g,zc,eC,zj,wj,eOr,YD,eIf,eUn,Yp,ww,yK,zI,zb,zr,zp,eFn,fFn,tOf,yr,xW,zT,asB,asI,zx,vQ,wx,yd,yP,Yq,yT,ltD,leD,gtD,geD,Yt,zA,zK,zy,zN,YL,zM,ixD,wY,zP,isT,eSl,yn,yf,ya,yu,iOf,wG,yG,vX,wB,v8,zY,y9,fLC,yg,zR,yS,zX,Yk,yt,Yo,b1,b2,h2]
 rw[e]
 exact h
theorem WA (T:Txt K mg ad):xK P w K mg base CX0 3 ad.f_is_place ad.e_is_place ["many","thing"] (@spD ⟨K⟩ 2 yO):=by
 letI:KK:=⟨K⟩
 have G_is_whole_within:=xy (P:=P) (w:=w) (base:=base) T
 refine x6 (xa (N:=["many","thing"]) (ps:=["many","thing"]) T.d_is_place.fn zbG (g:=Y5) λcdv A outer s H E hr=>?_) zbj
 unfold Y5
 exact(zh (zC (zk G_is_whole_within hr rfl T.d_is_whole_within (za (edv 1) (za (zf zg) (za (zaR (edv 0) (zf zg)) ze))))))
theorem zbm {m i:Int}:yz (.int i) 0 (m - 1)=inR m i:=rfl
theorem zh2 {d:D}{lo hi:Int}(h:∀ i,d≠.int i):yz d lo hi=false:=by
 cases d <;> first | rfl | exact absurd rfl (h _)
theorem za9 {d:D}{lo hi:Int}(h:yz d lo hi=true):∃ i,d=.int i:=by
 cases d with
 | int i=>exact⟨i,rfl⟩
 | _=>cases h
noncomputable def ZB:SE->Ctl :=
 (zS (sIf (xW (zT (tOf (eUn (zP .tuple) (zc 1)))) (tOf (zj neD (eFn wY (zb (zc 1) zr)) (eC (.int 2))))) (yq (eC (.bl false))) zH)
  (yq (wj (zp 2 yO (zb (zc 0) (zb (zj ixD (zc 1) (eC (.int 0))) zr))) (wj (zp 2 yO (zb (zc 0) (zb (zj ixD (zc 1) (eC (.int 1))) zr))) (zj neD (zj ixD (zc 1) (eC (.int 0))) (zj ixD (zc 1) (eC (.int 1))))))))
noncomputable def zd4:List D->Option D:=fnD 2 ZB
noncomputable def wI:List D->Option D
 | [.int m,d]=>if noS d=true then some (.bl (wn m d))else none
 | _=>none
theorem zgR {m:Int}{x y:D}(h:yz x 0 (m - 1)=false):wn m (.tup [x,y])=false:=by
 cases x with
 | int i =>
  cases y with
  | int j =>
   show(inR m i&&inR m j&&!decide (i=j))=false
   rw[show inR m i=false from h]
   rfl
  | _=>rfl
 | _=>rfl
theorem zgv {m:Int}{x y:D}(h:yz y 0 (m - 1)=false):wn m (.tup [x,y])=false:=by
 cases x with
 | int i =>
  cases y with
  | int j =>
   show(inR m i&&inR m j&&!decide (i=j))=false
   rw[show inR m j=false from h,Bool.and_false]
   rfl
  | _=>rfl
 | _=>rfl
theorem zdu:∀ ds d,ds.length=2->wI ds=some d->zd4 ds=some d:=by
 intro ds d hl h
 obtain⟨a,b,rfl⟩:=zdw hl
 cases a <;> try cases h
 rename_i m
 obtain⟨hn,rfl⟩:=ifS h
 clear h
 cases b with
 | tup es =>
  refine Vu (ρ:=[.v (.int m),.v (.tup es)]) rfl ?_
  unfold ZB
  by_cases hl:es.length=2
  .obtain⟨x,y,rfl⟩:=zdw hl
   have hx:noS x=true:=vV (ds:=[x,y]) (i:=0) hn rfl
   have hy:noS y=true:=vV (ds:=[x,y]) (i:=1) hn rfl
   have e0:yO [.int m,x]=some (.bl (yz x 0 (m - 1))):=by
    show(if noS x=true then some (D.bl (yz x 0 (m - 1)))else none)=_
    rw[if_pos hx]
   have e1:yO [.int m,y]=some (.bl (yz y 0 (m - 1))):=by
    show(if noS y=true then some (D.bl (yz y 0 (m - 1)))else none)=_
    rw[if_pos hy]
   refine zw (ρ':=[.v (.int m),.v (.tup [x,y])]) rfl (Y7 (vS ?_) rfl)
   show(((yO [.int m,x]).bind asB).bind λc=>if c=true then (((yO [.int m,y]).bind asB).bind λc=>if c=true then neD x y else some (D.bl false))else some (D.bl false))=_
   rw[e0,e1]
   cases h1:yz x 0 (m - 1) with
   | false=>rw[zgR h1];rfl
   | true =>
    cases h2:yz y 0 (m - 1) with
    | false=>rw[zgv h2];rfl
    | true =>
     obtain⟨i,rfl⟩:=za9 h1
     obtain⟨j,rfl⟩:=za9 h2
     show some (D.bl (!decide (i=j)))=some (.bl (inR m i&&inR m j&&!decide (i=j)))
     rw[show inR m i=true from h1,show inR m j=true from h2]
     rfl
  .have e:wn m (.tup es)=false:=by
    unfold wn Zh
    split
    .rename_i t ht
     split at ht
     .rename_i e'
      injection e' with e'
      rw[e']at hl
      exact absurd rfl hl
     .cases ht
    .rfl
   rw[e]
   refine yX (Xz (c:=true) ?_ (λ_=>Y7 rfl rfl) λz=>by cases z)
   show some (!decide ((es.length:Int)=2))=_
   rw[decide_eq_false (show ¬ (es.length:Int)=2 from λh=>hl (Int.ofNat.inj h))]
   rfl
 | scr _=>cases hn
 | _=>rfl
theorem zc1 (T:Txt K mg ad):xK P w K mg base CX0 4 ad.f_is_pair ad.e_is_pair ["many","thing"] (@spD ⟨K⟩ 2 wI):=by
 letI:KK:=⟨K⟩
 have G_is_place:=WA (P:=P) (w:=w) (base:=base) T
 refine x6 (xa (N:=["many","thing"]) (ps:=["many","thing"]) T.d_is_pair.fn zdj (g:=ZB) λcdv A outer s H E hr=>?_) zdu
 unfold ZB
 exact(zd (xm (zdx (WM (wv (xJ (zF .tuple rfl T.z_isinstance (edv 1) (yl (v:=.ty "tuple") rfl T.z_tuple xh rfl)))) (Xp (yj zaC Xr (yc _) (yx yB YI rfl T.z_len Xy (za (edv 1) ze)) (zf zg))))) (zh (zC (x9 wc))) zJ)
  (zh (zC (vA (zk G_is_place hr rfl T.d_is_place (za (edv 0) (za (yD (edv 1) (zf zg) (λ_ _=>rfl)) ze))) (vA (zk G_is_place hr rfl T.d_is_place (za (edv 0) (za (yD (edv 1) (zf zg) (λ_ _=>rfl)) ze))) (YQ (ZK zaC Xr (yc _) (yD (edv 1) (zf zg) (λ_ _=>rfl)) (yD (edv 1) (zf zg) (λ_ _=>rfl)))))))))
noncomputable def za3 (ds:List D):Nat->Option Tie
 | 0=>none
 | k+1=>(ds[k]?).bind Zh
noncomputable def YB:SE->Ctl :=
 (zS (sIf (xW (zT (tOf (zp 2 wI (zb (zc 0) (zb (zc 3) zr))))) (tOf (zj gtD (zj ixD (zc 3) (eC (.int 0))) (zj ixD (zc 3) (eC (.int 1)))))) (yq (eC (.bl false))) zH)
  (sIf (yr (tOf (zj gtD (zc 2) (eC (.int 0)))) (tOf (zj leT (zc 3) (zj ixD (zc 1) (zj vQ (zc 2) (eC (.int 1))))))) (yq (eC (.bl false))) zH))
noncomputable def vy:SE->Ctl :=
 (zS (sIf (zT (tOf (eUn (zP .tuple) (zc 1)))) (yq (eC (.bl false))) zH)
  (zS (wG (zY (zb (zc 1) zr)) (Yk 2 (yt (zX 2) (yt (zX 3) Yo))) YB)
  (yq (eC (.bl true)))))
noncomputable def zcX:List D->Option D:=fnD 4 vy
noncomputable def vH:List D->Option D
 | [.int m,d]=>if noS d=true then some (.bl (YY m d))else none
 | _=>none
theorem WH {m:Int}{d:D}(h:wn m d=true):∃ t,d=zi t:=by
 unfold wn at h
 split at h
 .rename_i t ht
  exact⟨t,Wc ht⟩
 .cases h
theorem zbL:∀ ds d,ds.length=2->vH ds=some d->zcX ds=some d:=by
 intro ds d hl h
 obtain⟨a,b,rfl⟩:=zdw hl
 cases a <;> try cases h
 rename_i m
 obtain⟨hn,rfl⟩:=ifS h
 clear h hl
 cases b with
 | scr _=>cases hn
 | tup es =>
  refine Vu (g:=vy) rfl ?_
  unfold vy
  refine zw rfl ?_
  refine yX (ZW (ds:=Wy 0 es) (λi ρ=>∃ o1 o2,ρ=[.v (.int m),.v (.tup es),o1,o2]/\yE m none es=yE m (za3 es i) (es.drop i)/\∀ k,i=k+1->∃ p,es[k]?=some (zi p)) rfl
   ⟨.no,.no,rfl,rfl,λk e=>by cases e⟩ ?_ ?_)
  .rintro i d ρ hd ⟨o1,o2,rfl,hp,hk⟩
   rw[YO]at hd
   obtain⟨dx,hdx,rfl⟩:=Option.map_eq_some_iff.mp hd
   rw[Nat.zero_add]
   refine⟨_,rfl,?_⟩
   have hdrop:es.drop i=dx::es.drop (i+1):=by
    obtain⟨h1,h2⟩:=List.getElem?_eq_some_iff.mp hdx
    rw[List.drop_eq_getElem_cons h1,h2]
   have hnx:noS dx=true:=vV hn hdx
   unfold YB
   cases hpr:wn m dx with
   | false =>
    have e1:wI [.int m,dx]=some (.bl false):=by
     show(if noS dx=true then some (D.bl (wn m dx))else none)=_
     rw[if_pos hnx,hpr]
    refine yX (Xz (c:=true) (show(((wI [.int m,dx]).bind asB).map (!·)).bind (λc=>if c=true then some true else _)=_ by rw[e1];rfl) (λ_=>Y7 rfl ?_) (λz=>by cases z))
    have e:yE m none es=false:=by
     rw[hp,hdrop]
     unfold yE
     split
     .rw[hpr];rfl
     .rfl
    show D.bl false=.bl (yE m none es)
    rw[e]
   | true =>
    obtain⟨t,rfl⟩:=WH hpr
    have e1:wI [.int m,zi t]=some (.bl true):=by
     show(if noS (zi t)=true then some (D.bl (wn m (zi t)))else none)=_
     rw[if_pos hnx,hpr]
    have step:yE m none es=(!decide (t.2 < t.1)&&zaS (za3 es i) t&&yE m (some t) (es.drop (i+1))):=by
     rw[hp,hdrop]
     conv=>lhs;unfold yE
     rw[Yx,hpr]
     rfl
    have prevS:za3 es (i+1)=some t:=by
     show(es[i]?).bind Zh=some t
     rw[hdx]
     rfl
    refine yX (Xz (c:=decide (t.2 < t.1)) (show(((wI [.int m,zi t]).bind asB).map (!·)).bind (λc=>if c=true then some true else some (decide (t.2 < t.1)))=_ by rw[e1];rfl) (λc=>Y7 rfl ?_) (λc=>Y4 rfl ?_))
    .show D.bl false=.bl (yE m none es)
     rw[step,c]
     rfl
    .cases i with
     | zero =>
      refine Xz (c:=false) rfl (λz=>by cases z) (λ_=>Y4 rfl ?_)
      refine⟨_,_,rfl,?_,λk e=>?_⟩
      .rw[prevS,step,c]
       rfl
      .cases e
       exact⟨t,hdx⟩
     | succ j =>
      obtain⟨p,hpk⟩:=hk j rfl
      have prevK:za3 es (j+1)=some p:=by
       show(es[j]?).bind Zh=some p
       rw[hpk]
       rfl
      rw[prevK]at step
      have ea:atI es ((((j+1:Nat):Int)) - 1)=some (zi p):=by
       rw[show(((j+1:Nat):Int)) - 1=(j:Nat)from Int.add_sub_cancel (j:Int) 1]
       exact zdF hpk
      have okP:zaS (some p) t=!leP t p:=rfl
      refine Xz (c:=leP t p) ?_ (λc2=>Y7 rfl ?_) (λc2=>Y4 rfl ?_)
      .have z:decide ((0:Int) < ((j+1:Nat):Int))=true:=decide_eq_true (Int.natCast_pos.mpr (Nat.succ_pos j))
       show((some (decide ((0:Int) < ((j+1:Nat):Int)))).bind λc=>if c=true then (((atI es (((j+1:Nat):Int) - 1)).bind λy=>leT (zi t) y).bind asB)else some false)=_
       rw[z,ea]
       rfl
      .show D.bl false=.bl (yE m none es)
       rw[step,okP,c2,c]
       rfl
      .refine⟨_,_,rfl,?_,λk' e=>?_⟩
       .rw[prevS,step,okP,c2,c]
        rfl
       .cases e
        exact⟨t,hdx⟩
  .rintro ρ ⟨o1,o2,rfl,hp,hk⟩
   refine Y7 rfl ?_
   show D.bl true=.bl (yE m none es)
   rw[hp,vc,List.drop_length]
   cases za3 es es.length <;> rfl
 | _=>rfl
theorem zbr (T:Txt K mg ad):xK P w K mg base CX0 5 ad.f_are_ties ad.e_are_ties ["many","thing"] (@spD ⟨K⟩ 2 vH):=by
 letI:KK:=⟨K⟩
 have G_is_pair:=zc1 (P:=P) (w:=w) (base:=base) T
 refine x6 (xa (N:=["many","thing","at","tie"]) (ps:=["many","thing"]) T.d_are_ties.fn ZA (g:=vy) λcdv A outer s H E hr=>?_) zbL
 unfold vy YB
 exact(zd (xm (wv (xJ (zF .tuple rfl T.z_isinstance (edv 1) (yl (v:=.ty "tuple") rfl T.z_tuple xh rfl)))) (zh (zC (x9 wc))) zJ)
  (zd (vG PassesOwn.never rfl (zbP rfl T.z_enumerate YR (za (edv 1) ze)) (zaj rfl (xV (yk (zL (i:=2) ZA.nd rfl (Or.inl rfl))) (xV (yk (zL (i:=3) ZA.nd rfl (Or.inl rfl))) WB))) (zd (xm (zdx (WM (wv (xJ (zk G_is_pair hr rfl T.d_is_pair (za (edv 0) (za (edv 3) ze))))) (Xp (yj zcN yF (yc _) (yD (edv 3) (zf zg) (λ_ _=>rfl)) (yD (edv 3) (zf zg) (λ_ _=>rfl)))))) (zh (zC (x9 wc))) zJ)
  (zh (xm (zdx (zcI (yj zcN yF (yc _) (edv 2) (zf zg)) (V4 (yj (zkQ hr.units0) zi6 (yc _) (edv 3) (yD (edv 1) (zaR (edv 2) (zf zg)) (λ_ _=>rfl)))))) (zh (zC (x9 wc))) zJ))))
  (zh (zC (x9 wc)))))
noncomputable def Y0:SE->Ctl :=
 (zS (sIf (xW (zT (tOf (eUn (zP .tuple) (zc 0)))) (tOf (zj neD (eFn wY (zb (zc 0) zr)) (eC (.int 2))))) (yq (eC (.bl false))) zH)
  (yq (wj (zp 1 yL (zb (zj ixD (zc 0) (eC (.int 0))) zr)) (zp 2 vH (zb (zj ixD (zc 0) (eC (.int 0))) (zb (zj ixD (zc 0) (eC (.int 1))) zr))))))
noncomputable def XU:List D->Option D:=fnD 1 Y0
noncomputable def ZL:List D->Option D
 | [d]=>if noS d=true then some (.bl (Ym d))else none
 | _=>none
theorem zew {x y:D}:Ym (.tup [x,y])=(yz x 1 8&&match x with | .int m=>YY m y | _=>false):=by
 cases x <;> rfl
theorem zdY:∀ ds d,ds.length=1->ZL ds=some d->XU ds=some d:=by
 intro ds d hl h
 obtain⟨a,rfl⟩:=zjl hl
 obtain⟨hn,rfl⟩:=ifS h
 clear h hl
 cases a with
 | scr _=>cases hn
 | tup es =>
  by_cases hl:es.length=2
  .obtain⟨x,y,rfl⟩:=zdw hl
   have hx:noS x=true:=vV (ds:=[x,y]) (i:=0) hn rfl
   have hy:noS y=true:=vV (ds:=[x,y]) (i:=1) hn rfl
   have ec:yL [x]=some (.bl (yz x 1 8)):=by simp[yL,hx]
   rw[zew]
   by_cases ix:∃ i,x=.int i
   .obtain⟨i,rfl⟩:=ix
    have et:vH [.int i,y]=some (.bl (YY i y)):=by simp[vH,hy]
    cases hc:yz (.int i) 1 8 <;> rw[hc]at ec <;> simp[XU,Y0,fnD,zS,yq,xn,sIf,y4,vM,sNo,zH,Zq,vx,vv,YX,vL,vEv,visF,visG,Sl.f,Sl.g,zc,eC,zj,wj,eOr,YD,eIf,eUn,Yp,ww,yK,zI,zb,zr,zp,eFn,fFn,tOf,yr,xW,zT,asB,asI,zx,vQ,wx,yd,yP,Yq,yT,ltD,leD,gtD,geD,Yt,zA,zK,zy,zN,YL,zM,ixD,wY,zP,isT,eSl,yn,yf,ya,yu,iOf,wG,yG,vX,wB,v8,zY,y9,fLC,yg,zR,yS,zX,Yk,yt,Yo,b1,b2,ec,et,atI,ixN]
   .have n2:yz x 1 8=false:=zh2 λj hj=>ix ⟨j,hj⟩
    rw[n2]at ec ⊢
    simp[XU,Y0,fnD,zS,yq,xn,sIf,y4,vM,sNo,zH,Zq,vx,vv,YX,vL,vEv,visF,visG,Sl.f,Sl.g,zc,eC,zj,wj,eOr,YD,eIf,eUn,Yp,ww,yK,zI,zb,zr,zp,eFn,fFn,tOf,yr,xW,zT,asB,asI,zx,vQ,wx,yd,yP,Yq,yT,ltD,leD,gtD,geD,Yt,zA,zK,zy,zN,YL,zM,ixD,wY,zP,isT,eSl,yn,yf,ya,yu,iOf,wG,yG,vX,wB,v8,zY,y9,fLC,yg,zR,yS,zX,Yk,yt,Yo,b1,b2,ec,atI,ixN]
  .have e:Ym (.tup es)=false:=ziq λm ties h _=>by
    unfold yb at h
    injection h with h
    rw[h]at hl
    exact hl rfl
   rw[e]
   have:¬ (es.length:Int)=2:=by omega
   simp[XU,Y0,fnD,zS,yq,xn,sIf,y4,vM,sNo,zH,Zq,vx,vv,YX,vL,vEv,visF,visG,Sl.f,Sl.g,zc,eC,zj,wj,eOr,YD,eIf,eUn,Yp,ww,yK,zI,zb,zr,zp,eFn,fFn,tOf,yr,xW,zT,asB,asI,zx,vQ,wx,yd,yP,Yq,yT,ltD,leD,gtD,geD,Yt,zA,zK,zy,zN,YL,zM,ixD,wY,zP,isT,eSl,yn,yf,ya,yu,iOf,wG,yG,vX,wB,v8,zY,y9,fLC,yg,zR,yS,zX,Yk,yt,Yo,b1,b2,this]
 | _=>rfl
theorem zei (T:Txt K mg ad):xK P w K mg base CX0 6 ad.f_is_web ad.e_is_web ["thing"] (@spD ⟨K⟩ 1 ZL):=by
 letI:KK:=⟨K⟩
 have G_is_place_count:=Xa (P:=P) (w:=w) (base:=base) T
 have G_are_ties:=zbr (P:=P) (w:=w) (base:=base) T
 refine x6 (xa (N:=["thing"]) (ps:=["thing"]) T.d_is_web.fn zef (g:=Y0) λcdv A outer s H E hr=>?_) zdY
 unfold Y0
 exact(zd (xm (zdx (WM (wv (xJ (zF .tuple rfl T.z_isinstance (edv 0) (yl (v:=.ty "tuple") rfl T.z_tuple xh rfl)))) (Xp (yj zaC Xr (yc _) (yx yB YI rfl T.z_len Xy (za (edv 0) ze)) (zf zg))))) (zh (zC (x9 wc))) zJ)
  (zh (zC (vA (zk G_is_place_count hr rfl T.d_is_place_count (za (yD (edv 0) (zf zg) (λ_ _=>rfl)) ze)) (YQ (zk G_are_ties hr rfl T.d_are_ties (za (yD (edv 0) (zf zg) (λ_ _=>rfl)) (za (yD (edv 0) (zf zg) (λ_ _=>rfl)) ze))))))))
theorem ziw (m:Int)(ts:List Tie):noS (yb m ts)=true:=by
 have:∀ ts:List Tie,zdA (ts.map zi)=true:=by
  intro ts
  induction ts with
  | nil=>rfl
  | cons t ts ih=>show(noS (zi t)&&zdA (ts.map zi))=true;rw[ih];rfl
 show(noS (.int m)&&(noS (.tup (ts.map zi))&&true))=true
 rw[show noS (.tup (ts.map zi))=zdA (ts.map zi)from rfl,this ts]
 rfl
noncomputable def wz:SE->Ctl :=
 (sIf (zT (tOf (zp 1 ZL (zb (zc 0) zr)))) sNo zH)
noncomputable def ZS:List D->Option D:=fnD 1 wz
noncomputable def xz:List D->Option D
 | [d]=>if Ym d=true then some .non else none
 | _=>none
theorem WW:∀ ds d,ds.length=1->xz ds=some d->ZS ds=some d:=by
 intro ds d hl h
 obtain⟨a,rfl⟩:=zjl hl
 obtain⟨hw,rfl⟩:=ifS h
 obtain⟨m,ts,rfl,_⟩:=(wH a).mp hw
 have e:ZL [yb m ts]=some (.bl true):=by simp[ZL,ziw m ts,hw]
 simp[ZS,wz,fnD,zS,yq,xn,sIf,y4,vM,sNo,zH,Zq,vx,vv,YX,vL,vEv,visF,visG,Sl.f,Sl.g,zc,eC,zj,wj,eOr,YD,eIf,eUn,Yp,ww,yK,zI,zb,zr,zp,eFn,fFn,tOf,yr,xW,zT,asB,asI,zx,vQ,wx,yd,yP,Yq,yT,ltD,leD,gtD,geD,Yt,zA,zK,zy,zN,YL,zM,ixD,wY,zP,isT,eSl,yn,yf,ya,yu,iOf,wG,yG,vX,wB,v8,zY,y9,fLC,yg,zR,yS,zX,Yk,yt,Yo,b1,b2,e]
theorem WS (T:Txt K mg ad):xK P w K mg base CX0 7 ad.f_must_be_web ad.e_must_be_web ["thing"] (@spD ⟨K⟩ 1 xz):=by
 letI:KK:=⟨K⟩
 have G_is_web:=zei (P:=P) (w:=w) (base:=base) T
 refine x6 (xa (N:=["thing"]) (ps:=["thing"]) T.d_must_be_web.fn WV (g:=wz) λcdv A outer s H E hr=>?_) WW
 unfold wz
 exact(zh (xm (wv (xJ (zk G_is_web hr rfl T.d_is_web (za (edv 0) ze)))) (zh XQ) zJ))
noncomputable def yQ:D->Bool
 | .int i=>decide (0<=i)
 | _=>false
noncomputable def zim:D->Int
 | .int i=>i
 | _=>0
noncomputable def xA (m:Int):D->Bool
 | .tup ds=>decide ((ds.length:Int)=m)&&ds.all yQ
 | _=>false
theorem zbY {α:Type}(f:α->Bool)(l:List α):zhE [.lst (l.map λx=>.bl (f x))]=some (.bl (l.all f)):=by
 have:zh0 (l.map λx=>D.bl (f x))=some (l.map f):=by
  have:=zhc (l.map f)
  rwa[List.map_map]at this
 show((zh0 (l.map λx=>D.bl (f x))).bind λbs=>some (D.bl (bs.all id)))=_
 rw[this]
 show some (D.bl ((l.map f).all id))=_
 rw[List.all_map]
 rfl
theorem zbp {ds:List D}(h:ds.all yQ=true):∃ ns:List Int,ds=ns.map .int/\∀ n∈ns,0<=n:=by
 induction ds with
 | nil=>exact⟨[],rfl,by simp⟩
 | cons d ds ih =>
  rw[List.all_cons,Bool.and_eq_true]at h
  obtain⟨ns,rfl,hn⟩:=ih h.2
  cases d with
  | int i=>exact⟨i::ns,rfl,λn hm=>by
   rcases List.mem_cons.mp hm with rfl | hm
   .exact of_decide_eq_true h.1
   .exact hn n hm⟩
  | _=>exact absurd h.1 Bool.false_ne_true
theorem zfg {ns:List Int}(h:∀ n∈ns,0<=n):(ns.map D.int).all yQ=true:=by
 rw[List.all_map,List.all_eq_true]
 exact λn hn=>decide_eq_true (h n hn)
theorem zeH (ns:List Int):zjd [.tup (ns.map .int)]=some (.int ns.sum):=by
 show((zdy (ns.map .int)).bind λns=>some (D.int ns.sum))=_
 rw[X3]
 rfl
noncomputable def xp:SE->Ctl :=
 (zS (sIf (xW (zT (tOf (eUn (zP .tuple) (zc 1)))) (tOf (zj neD (eFn wY (zb (zc 1) zr)) (zc 0)))) (yq (eC (.bl false))) zH)
  (yq (eFn zhE (zb (yK (fLC (iOf (zc 1)) b1 yg (wj (zp 1 ym (zb (zc 0) zr)) (zj geD (zc 0) (eC (.int 0)))))) zr))))
noncomputable def XB:List D->Option D:=fnD 2 xp
noncomputable def x8:List D->Option D
 | [.int m,d]=>if (noS d&&decide (m<=1000))=true then some (.bl (xA m d))else none
 | _=>none
theorem zjr {d:D}(hn:noS d=true):((ym [d]).bind asB).bind (λc=>if c=true then geD d (.int 0)else some (.bl false))=some (.bl (yQ d)):=by
 cases d with
 | scr _=>cases hn
 | tup _=>simp[ym,hn,ZI,asB,yQ]
 | lst _=>simp[ym,hn,ZI,asB,yQ]
 | _=>rfl
theorem VR:∀ ds d,ds.length=2->x8 ds=some d->XB ds=some d:=by
 intro ds d hl h
 obtain⟨a,b,rfl⟩:=zdw hl
 cases a <;> try cases h
 rename_i m
 obtain⟨hn,rfl⟩:=ifS h
 clear h hl
 rw[Bool.and_eq_true,decide_eq_true_eq]at hn
 obtain⟨hn,hm⟩:=hn
 cases b with
 | scr _=>cases hn
 | tup es =>
  by_cases hl:(es.length:Int)=m
  .have e:fLC (iOf (zc 1)) b1 yg (wj (zp 1 ym (zb (zc 0) zr)) (zj geD (zc 0) (eC (.int 0)))) [some (.int m),some (.tup es)]=some (es.map λd=>.bl (yQ d)):=by
    unfold fLC
    show(if lim es.length=true then _ else none)=_
    rw[if_pos (vD (by omega))]
    have:=Wv (b:=b1) (t:=yg) (f:=wj (zp 1 ym (zb (zc 0) zr)) (zj geD (zc 0) (eC (.int 0)))) (ρ:=[some (.int m),some (.tup es)]) id (λd=>.bl (yQ d)) es
     (λd hd=>⟨[some d],rfl,rfl,zjr (by obtain⟨j,hj,rfl⟩:=List.getElem_of_mem hd;exact vV (i:=j) hn (by simp[hj]))⟩)
    rwa[List.map_id]at this
   show fnD 2 xp _=_
   refine Vu rfl ?_
   unfold xp
   refine yX (Xz (c:=false) (by simp[fnD,zS,yq,xn,sIf,y4,vM,sNo,zH,Zq,vx,vv,YX,vL,vEv,visF,visG,Sl.f,Sl.g,zc,eC,zj,wj,eOr,YD,eIf,eUn,Yp,ww,yK,zI,zb,zr,zp,eFn,fFn,tOf,yr,xW,zT,asB,asI,zx,vQ,wx,yd,yP,Yq,yT,ltD,leD,gtD,geD,Yt,zA,zK,zy,zN,YL,zM,ixD,wY,zP,isT,eSl,yn,yf,ya,yu,iOf,wG,yG,vX,wB,v8,zY,y9,fLC,yg,zR,yS,zX,Yk,yt,Yo,b1,b2,hl]) (λz=>by cases z) λ_=>Y4 rfl (Y7 (d:=.bl (es.all yQ)) ?_ ?_))
   .show(match (((fLC (iOf (zc 1)) b1 yg (wj (zp 1 ym (zb (zc 0) zr)) (zj geD (zc 0) (eC (.int 0)))) [some (.int m),some (.tup es)]).map D.lst).bind λd=>(some []:Option (List D)).map (d::·)).bind zhE with | some d=>Ctl.rt d | none=>Ctl.no)=_
    rw[e]
    show(match zhE [.lst (es.map λd=>.bl (yQ d))]with | some d=>Ctl.rt d | none=>Ctl.no)=_
    rw[zbY]
   .show D.bl (es.all yQ)=.bl (decide ((es.length:Int)=m)&&es.all yQ)
    rw[decide_eq_true hl,Bool.true_and]
  .have e:xA m (.tup es)=false:=by
    show(decide ((es.length:Int)=m)&&es.all yQ)=false
    rw[decide_eq_false hl,Bool.false_and]
   rw[e]
   simp[XB,xp,fnD,zS,yq,xn,sIf,y4,vM,sNo,zH,Zq,vx,vv,YX,vL,vEv,visF,visG,Sl.f,Sl.g,zc,eC,zj,wj,eOr,YD,eIf,eUn,Yp,ww,yK,zI,zb,zr,zp,eFn,fFn,tOf,yr,xW,zT,asB,asI,zx,vQ,wx,yd,yP,Yq,yT,ltD,leD,gtD,geD,Yt,zA,zK,zy,zN,YL,zM,ixD,wY,zP,isT,eSl,yn,yf,ya,yu,iOf,wG,yG,vX,wB,v8,zY,y9,fLC,yg,zR,yS,zX,Yk,yt,Yo,b1,b2,hl]
 | _=>rfl
theorem VB (T:Txt K mg ad):xK P w K mg base CX0 2 ad.f_are_counts ad.e_are_counts ["many","thing"] (@spD ⟨K⟩ 2 x8):=by
 letI:KK:=⟨K⟩
 have G_is_whole:=Wf (P:=P) (w:=w) (base:=base) T
 refine x6 (xa (N:=["many","thing"]) (ps:=["many","thing"]) T.d_are_counts.fn VI (g:=xp) λcdv A outer s H E hr=>?_) VR
 unfold xp
 exact(zd (xm (zdx (WM (wv (xJ (zF .tuple rfl T.z_isinstance (edv 1) (yl (v:=.ty "tuple") rfl T.z_tuple xh rfl)))) (Xp (yj zaC Xr (yc _) (yx yB YI rfl T.z_len Xy (za (edv 1) ze)) (edv 0))))) (zh (zC (x9 wc))) zJ)
  (zh (zC (yx (zac rfl) zeZ rfl T.z_all zhL (za (x5 (zaA (L:=["part"]) (M:=["many","thing"]) rfl (ZE (by rfl) (by rfl) (by rfl) (by with_unfolding_all rfl) (by rfl) (by rfl) (by kernel_rfl) vY) (wL (edv 1)) gs1 rb1 (λ_ _ _ _=>(zL (i:=0) zlD rfl (Or.inl rfl) (.inr rfl))) (λ_ _ _ _=>(vA (zk G_is_whole hr rfl T.d_is_whole (za (edv 0) ze)) (YQ (ZK zge yF (yc _) (edv 0) (zf zg))))))) ze)))))
noncomputable def xl (m:Int):D->Bool
 | .tup ds=>xA m (.tup ds)&&decide ((ds.map zim).sum<=300)
 | _=>false
theorem wF (ns:List Int):(ns.map D.int).map zim=ns:=by rw[List.map_map];exact(List.map_congr_left λ_ _=>rfl).trans (List.map_id _)
noncomputable def wd:SE->Ctl :=
 (yq (wj (zp 2 x8 (zb (zj ixD (zc 0) (eC (.int 0))) (zb (zc 1) zr))) (zj leD (eFn zjd (zb (zc 1) zr)) (eC (.int 300)))))
noncomputable def YE:List D->Option D:=fnD 2 wd
noncomputable def zZ:List D->Option D
 | [.tup [.int m,_],d]=>if (noS d&&decide (m<=1000))=true then some (.bl (xl m d))else none
 | _=>none
theorem VT:∀ ds d,ds.length=2->zZ ds=some d->YE ds=some d:=by
 intro ds d hl h
 obtain⟨a,b,rfl⟩:=zdw hl
 unfold zZ at h
 split at h
 .rename_i m t b' e
  injection e with e1 e2
  injection e2 with e2 _
  subst e1 e2
  obtain⟨hn,rfl⟩:=ifS h
  have ec:x8 [.int m,b]=some (.bl (xA m b)):=by simp only[x8];rw[if_pos hn]
  cases hc:xA m b with
  | false =>
   rw[hc]at ec
   have e3:xl m b=false:=by
    cases b <;> try rfl
    show(xA m _&&_)=false
    rw[hc]
    rfl
   rw[e3]
   simp[YE,wd,fnD,zS,yq,xn,sIf,y4,vM,sNo,zH,Zq,vx,vv,YX,vL,vEv,visF,visG,Sl.f,Sl.g,zc,eC,zj,wj,eOr,YD,eIf,eUn,Yp,ww,yK,zI,zb,zr,zp,eFn,fFn,tOf,yr,xW,zT,asB,asI,zx,vQ,wx,yd,yP,Yq,yT,ltD,leD,gtD,geD,Yt,zA,zK,zy,zN,YL,zM,ixD,wY,zP,isT,eSl,yn,yf,ya,yu,iOf,wG,yG,vX,wB,v8,zY,y9,fLC,yg,zR,yS,zX,Yk,yt,Yo,b1,b2,ec,atI,ixN]
  | true =>
   rw[hc]at ec
   cases b with
   | tup es =>
    have h2:es.all yQ=true:=by
     unfold xA at hc
     rw[Bool.and_eq_true]at hc
     exact hc.2
    obtain⟨ns,rfl,hns⟩:=zbp h2
    have e3:xl m (.tup (ns.map .int))=decide (ns.sum<=300):=by
     show(xA m _&&decide (((ns.map D.int).map zim).sum<=300))=_
     rw[hc,wF,Bool.true_and]
    rw[e3]
    simp[YE,wd,fnD,zS,yq,xn,sIf,y4,vM,sNo,zH,Zq,vx,vv,YX,vL,vEv,visF,visG,Sl.f,Sl.g,zc,eC,zj,wj,eOr,YD,eIf,eUn,Yp,ww,yK,zI,zb,zr,zp,eFn,fFn,tOf,yr,xW,zT,asB,asI,zx,vQ,wx,yd,yP,Yq,yT,ltD,leD,gtD,geD,Yt,zA,zK,zy,zN,YL,zM,ixD,wY,zP,isT,eSl,yn,yf,ya,yu,iOf,wG,yG,vX,wB,v8,zY,y9,fLC,yg,zR,yS,zX,Yk,yt,Yo,b1,b2,ec,zeH,atI,ixN]
   | _=>cases hc
 .cases h
theorem ZM (T:Txt K mg ad):xK P w K mg base CX0 3 ad.f_are_stones ad.e_are_stones ["web","thing"] (@spD ⟨K⟩ 2 zZ):=by
 letI:KK:=⟨K⟩
 have G_are_counts:=VB (P:=P) (w:=w) (base:=base) T
 refine x6 (xa (N:=["web","thing"]) (ps:=["web","thing"]) T.d_are_stones.fn VJ (g:=wd) λcdv A outer s H E hr=>?_) VT
 unfold wd
 exact(zh (zC (vA (zk G_are_counts hr rfl T.d_are_counts (za (yD (edv 0) (zf zg) (λ_ _=>rfl)) (za (edv 1) ze))) (YQ (ZK zev yF (yc _) (yx (zae rfl) zek rfl T.z_sum zhq (za (edv 1) ze)) (zf (zbN (v:=.int 300) rfl T.g_MOST_STONES ⟨_,rfl⟩)))))))
theorem zct {m:Int}{ts:List Tie}(h:xL m ts):wB [.int m]=some (Xq 0 m.toNat):=by
 have:=h.lo
 have:=h.hi
 show(if zfO m=true then some (Xq 0 m.toNat)else none)=_
 rw[if_pos (y6.mpr ⟨by omega,by omega⟩)]
noncomputable def xY:SE->Ctl :=
 (sIf (zT (tOf (zp 2 zZ (zb (zc 0) (zb (zc 1) zr))))) sNo zH)
noncomputable def Zi:List D->Option D:=fnD 2 xY
noncomputable def xb:List D->Option D
 | [.tup [.int m,_],d]=>if (noS d&&decide (m<=1000)&&xl m d)=true then some .non else none
 | _=>none
theorem Wh:∀ ds d,ds.length=2->xb ds=some d->Zi ds=some d:=by
 intro ds d hl h
 obtain⟨a,b,rfl⟩:=zdw hl
 unfold xb at h
 split at h
 .rename_i m t b' e
  injection e with e1 e2
  injection e2 with e2 _
  subst e1 e2
  obtain⟨hn,rfl⟩:=ifS h
  rw[Bool.and_eq_true]at hn
  have ec:zZ [.tup [.int m,t],b]=some (.bl true):=by simp only[zZ];rw[if_pos hn.1,hn.2]
  simp[Zi,xY,fnD,zS,yq,xn,sIf,y4,vM,sNo,zH,Zq,vx,vv,YX,vL,vEv,visF,visG,Sl.f,Sl.g,zc,eC,zj,wj,eOr,YD,eIf,eUn,Yp,ww,yK,zI,zb,zr,zp,eFn,fFn,tOf,yr,xW,zT,asB,asI,zx,vQ,wx,yd,yP,Yq,yT,ltD,leD,gtD,geD,Yt,zA,zK,zy,zN,YL,zM,ixD,wY,zP,isT,eSl,yn,yf,ya,yu,iOf,wG,yG,vX,wB,v8,zY,y9,fLC,yg,zR,yS,zX,Yk,yt,Yo,b1,b2,ec]
 .cases h
theorem Wj (T:Txt K mg ad):xK P w K mg base CX0 4 ad.f_must_be_heap ad.e_must_be_heap ["web","thing"] (@spD ⟨K⟩ 2 xb):=by
 letI:KK:=⟨K⟩
 have G_are_stones:=ZM (P:=P) (w:=w) (base:=base) T
 refine x6 (xa (N:=["web","thing"]) (ps:=["web","thing"]) T.d_must_be_heap.fn Wp (g:=xY) λcdv A outer s H E hr=>?_) Wh
 unfold xY
 exact(zh (xm (wv (xJ (zk G_are_stones hr rfl T.d_are_stones (za (edv 0) (za (edv 1) ze))))) (zh XQ) zJ))
theorem zah {m:Int}{ts:List Tie}(h:xL m ts):decide (m<=1000)=true:=decide_eq_true (by have:=h.hi;omega)
noncomputable def zh8:D->Int
 | .tup [.int m,_]=>m
 | _=>0
noncomputable def ziz:D->List Tie
 | .tup [_,.tup l]=>(za0 l).getD []
 | _=>[]
theorem ZC (m:Int)(ts:List Tie):zh8 (yb m ts)=m:=rfl
theorem zem (ts:List Tie):ts.map zi=ts.map prD:=rfl
theorem ZO (m:Int)(ts:List Tie):ziz (yb m ts)=ts:=by
 show(za0 (ts.map zi)).getD []=ts
 rw[zem,zaD]
 rfl
noncomputable def Xw (a b:Int):Tie:=(if b < a then b else a,if b > a then b else a)
noncomputable def xv:SE->Ctl :=
 (sIf (zT (tOf (zp 2 yO (zb (zj ixD (zc 0) (eC (.int 0))) (zb (zc 1) zr))))) sNo zH)
noncomputable def Yu:List D->Option D:=fnD 2 xv
noncomputable def yY:List D->Option D
 | [.tup [.int m,_],.int p]=>if (decide (0<=p)&&decide (p<=m - 1))=true then some .non else none
 | _=>none
theorem XC:∀ ds d,ds.length=2->yY ds=some d->Yu ds=some d:=by
 intro ds d hl h
 obtain⟨a,b,rfl⟩:=zdw hl
 unfold yY at h
 split at h
 .rename_i m t p' e
  injection e with e1 e2
  injection e2 with e2 _
  subst e1 e2
  obtain⟨hn,rfl⟩:=ifS h
  have ec:yO [.int m,.int p']=some (.bl true):=by
   show(if noS (.int p')=true then some (D.bl (yz (.int p') 0 (m - 1)))else none)=_
   rw[if_pos (show noS (.int p')=true from rfl),zbm]
   unfold inR
   rw[hn]
  simp[Yu,xv,fnD,zS,yq,xn,sIf,y4,vM,sNo,zH,Zq,vx,vv,YX,vL,vEv,visF,visG,Sl.f,Sl.g,zc,eC,zj,wj,eOr,YD,eIf,eUn,Yp,ww,yK,zI,zb,zr,zp,eFn,fFn,tOf,yr,xW,zT,asB,asI,zx,vQ,wx,yd,yP,Yq,yT,ltD,leD,gtD,geD,Yt,zA,zK,zy,zN,YL,zM,ixD,wY,zP,isT,eSl,yn,yf,ya,yu,iOf,wG,yG,vX,wB,v8,zY,y9,fLC,yg,zR,yS,zX,Yk,yt,Yo,b1,b2,ec,atI,ixN]
 .cases h
theorem XI (T:Txt K mg ad):xK P w K mg base CX0 4 ad.f_must_be_place ad.e_must_be_place ["web","thing"] (@spD ⟨K⟩ 2 yY):=by
 letI:KK:=⟨K⟩
 have G_is_place:=WA (P:=P) (w:=w) (base:=base) T
 refine x6 (xa (N:=["web","thing"]) (ps:=["web","thing"]) T.d_must_be_place.fn XG (g:=xv) λcdv A outer s H E hr=>?_) XC
 unfold xv
 exact(zh (xm (wv (xJ (zk G_is_place hr rfl T.d_is_place (za (yD (edv 0) (zf zg) (λ_ _=>rfl)) (za (edv 1) ze))))) (zh XQ) zJ))
theorem zdh {m:Int}{ts:List Tie}{p:Int}(hp:0<=p/\p < m):yY [yb m ts,.int p]=some .non:=by
 show(if (decide (0<=p)&&decide (p<=m - 1))=true then some D.non else none)=_
 rw[decide_eq_true hp.1,decide_eq_true (by omega)]
 rfl
noncomputable def vR:SE->Ctl :=
 (yq (ww (zb (eFn zgy (zb (zc 0) (zb (zc 1) zr))) (zb (eFn zkk (zb (zc 0) (zb (zc 1) zr))) zr))))
noncomputable def Vx:List D->Option D:=fnD 2 vR
noncomputable def xE:List D->Option D
 | [.int a,.int b]=>some (zi (Xw a b))
 | _=>none
theorem WP:∀ ds d,ds.length=2->xE ds=some d->Vx ds=some d:=by
 intro ds d hl h
 obtain⟨a,b,rfl⟩:=zdw hl
 cases a <;> try cases h
 cases b <;> try cases h
 rfl
theorem WU (T:Txt K mg ad):xK P w K mg base CX0 1 ad.f_tie_between ad.e_tie_between ["one","other"] (@spD ⟨K⟩ 2 xE):=by
 letI:KK:=⟨K⟩
 refine x6 (xa (N:=["one","other"]) (ps:=["one","other"]) T.d_tie_between.fn WR (g:=vR) λcdv A outer s H E hr=>?_) WP
 unfold vR
 exact(zh (zC (Yv (za (yx (za5 rfl) zb8 rfl T.z_min zfH (za (edv 0) (za (edv 1) ze))) (za (yx (zea rfl) zf9 rfl T.z_max zkO (za (edv 0) (za (edv 1) ze))) ze)))))
theorem zfp (ts:List Tie):(ts.map zi).all (okE 20)=true:=by
 rw[List.all_map,List.all_eq_true]
 exact λt _=>rfl
theorem zbW (s t:Tie):eqN 20 (zi s) (zi t)=decide (s=t):=by
 have:eqN 20 (zi s) (zi t)=((s.1 == t.1)&&((s.2 == t.2)&&true)&&true):=rfl
 rw[this,Bool.and_true,Bool.and_true]
 by_cases h:s=t
 .subst h
  simp
 .rw[decide_eq_false h,Bool.and_eq_false_iff]
  by_cases h1:s.1=t.1
  .exact .inr (beq_eq_false_iff_ne.mpr λh2=>h (Prod.ext h1 h2))
  .exact .inl (beq_eq_false_iff_ne.mpr h1)
theorem zhk (t:Tie)(ts:List Tie):inD (zi t) (.tup (ts.map zi))=some (.bl (decide (t∈ts))):=by
 show(zgf (zi t) (ts.map zi)).map D.bl=_
 unfold zgf
 rw[if_pos ⟨rfl,zfp ts⟩]
 show some (D.bl ((ts.map zi).any λe=>eqN 20 e (zi t)))=_
 rw[List.any_map]
 congr 2
 rw[Bool.eq_iff_iff,List.any_eq_true,decide_eq_true_eq]
 constructor
 .rintro⟨s,hs,h⟩
  have h:eqN 20 (zi s) (zi t)=true:=h
  rw[zbW,decide_eq_true_eq]at h
  subst h
  exact hs
 .exact λh=>⟨t,h,by show eqN 20 (zi t) (zi t)=true;rw[zbW];exact decide_eq_true rfl⟩
noncomputable def nbN (m:Int)(ts:List Tie)(p:Int):List Nat:=(List.range m.toNat).filter λk:Nat=>decide (Xw p k∈ts)
noncomputable def zfP (k:Nat):D:=.int ((0:Int)+(k:Int))
noncomputable def vh:SE->Ctl :=
 (yq (yK (fLC (vX wB (zb (zj ixD (zc 0) (eC (.int 0))) zr)) b1 (tOf (zj inD (zp 2 xE (zb (zc 2) (zb (zc 0) zr))) (zj ixD (zc 1) (eC (.int 1))))) (zc 0))))
noncomputable def za2:List D->Option D:=fnD 2 vh
noncomputable def yC:List D->Option D
 | [w,.int p]=>if Ym w=true then some (.lst ((nbN (zh8 w) (ziz w) p).map zfP))else none
 | _=>none
theorem VS:∀ ds d,ds.length=2->yC ds=some d->za2 ds=some d:=by
 intro ds d hl h
 obtain⟨a,b,rfl⟩:=zdw hl
 cases b <;> try cases h
 rename_i p
 obtain⟨hw,rfl⟩:=ifS h
 obtain⟨m,ts,rfl,ok⟩:=(wH a).mp hw
 rw[ZC,ZO]
 refine Vu rfl ?_
 unfold vh
 refine Y7 (d:=.lst ((nbN m ts p).map zfP)) ?_ rfl
 have e:fLC (vX wB (zb (zj ixD (zc 0) (eC (.int 0))) zr)) b1 (tOf (zj inD (zp 2 xE (zb (zc 2) (zb (zc 0) zr))) (zj ixD (zc 1) (eC (.int 1))))) (zc 0) [some (yb m ts),some (.int p)]=some ((nbN m ts p).map zfP):=by
  unfold fLC
  show((wB [.int m]).bind λds=>if lim ds.length=true then _ else none)=_
  rw[zct ok]
  show(if lim (Xq 0 m.toNat).length=true then _ else none)=_
  rw[if_pos (vD (by rw[X7];have:=ok.hi;omega))]
  refine Xi (c:=zfP) (p:=λk=>decide (Xw p k∈ts)) (y:=zfP) (List.range m.toNat) λk hk=>⟨[some (zfP k)],rfl,?_,λ_=>rfl⟩
  show((inD (zi (Xw p (0+(k:Int)))) (.tup (ts.map zi))).bind asB)=_
  rw[Int.zero_add,zhk]
  rfl
 show(match ((fLC (vX wB (zb (zj ixD (zc 0) (eC (.int 0))) zr)) b1 (tOf (zj inD (zp 2 xE (zb (zc 2) (zb (zc 0) zr))) (zj ixD (zc 1) (eC (.int 1))))) (zc 0) [some (yb m ts),some (.int p)]).map D.lst)with | some d=>Ctl.rt d | none=>Ctl.no)=_
 rw[e]
 rfl
theorem VY (T:Txt K mg ad):xK P w K mg base CX0 2 ad.f_neighbours ad.e_neighbours ["web","place"] (@spD ⟨K⟩ 2 yC):=by
 letI:KK:=⟨K⟩
 have G_tie_between:=WU (P:=P) (w:=w) (base:=base) T
 refine x6 (xa (N:=["web","place"]) (ps:=["web","place"]) T.d_neighbours.fn VC (g:=vh) λcdv A outer s H E hr=>?_) VS
 unfold vh
 exact(zh (zC (x5 (zcE (L:=["other"]) (M:=["web","place"]) rfl (ZE (by rfl) (by rfl) (by rfl) (by with_unfolding_all rfl) (by rfl) (by rfl) (by kernel_rfl) (all_cons rfl (all_cons rfl vY))) (zfe rfl T.z_range (za (yD (edv 0) (zf zg) (λ_ _=>rfl)) ze)) gs1 rb1 (λ_ _ _ _=>(zL (i:=0) zmi rfl (Or.inl rfl) (.inr rfl))) (λ_ _ _ _=>(yj (zkt hr) zkx (by with_unfolding_all rfl) (zk G_tie_between hr rfl T.d_tie_between (za (edv 2) (za (edv 0) ze))) (yD (edv 1) (zf zg) (λ_ _=>rfl)))) (λ_ _ _ _=>(edv 0))))))
noncomputable def xS (m:Int)(ts:List Tie)(i:Nat):List Tie:=(List.range i).flatMap λk:Nat=>(nbN m ts k).map λo:Nat=>((0:Int)+(k:Int),(0:Int)+(o:Int))
noncomputable def zV (m:Int)(ts:List Tie):List Tie:=xS m ts m.toNat
theorem Xt (m:Int)(ts:List Tie)(i:Nat):xS m ts (i+1)=xS m ts i++(nbN m ts i).map λo:Nat=>((0:Int)+(i:Int),(0:Int)+(o:Int)):=by
 unfold xS
 rw[List.range_succ,List.flatMap_append]
 simp
theorem Z7 {m:Int}{ts:List Tie}{p:Int}(h:xL m ts):(nbN m ts p).length<=8:=by
 refine Nat.le_trans (List.length_filter_le _ _) ?_
 rw[List.length_range]
 have:=h.hi
 omega
theorem WJ {m:Int}{ts:List Tie}(h:xL m ts)(i:Nat):(xS m ts i).length<=8*i:=by
 induction i with
 | zero=>simp[xS]
 | succ i ih =>
  rw[Xt,List.length_append,List.length_map]
  have:=Z7 (p:=(i:Int)) h
  omega
noncomputable def Yi:SE->Ctl :=
 (YX 1 (yK (fLC (iOf (zp 2 yC (zb (zc 0) (zb (zc 2) zr)))) b1 yg (ww (zb (zc 3) (zb (zc 0) zr))))))
noncomputable def Yg:SE->Ctl :=
 (zS (vx 1 (zI zr))
  (zS (yG wB (zb (zj ixD (zc 0) (eC (.int 0))) zr) (zX 2) Yi)
  (sFz 1 (yq (zc 1)))))
noncomputable def zbB:List D->Option D:=fnD 3 Yg
noncomputable def wQ:List D->Option D
 | [w]=>if Ym w=true then some (.lst ((zV (zh8 w) (ziz w)).map zi))else none
 | _=>none
theorem zaT:∀ ds d,ds.length=1->wQ ds=some d->zbB ds=some d:=by
 intro ds d hl h
 obtain⟨a,rfl⟩:=zjl hl
 obtain⟨hw,rfl⟩:=ifS h
 obtain⟨m,ts,rfl,ok⟩:=(wH a).mp hw
 rw[ZC,ZO]
 refine Vu rfl ?_
 unfold Yg
 refine zw rfl ?_
 refine yX (zci (lo:=0) (c:=m.toNat) (λi ρ=>∃ o2,ρ=[.v (yb m ts),.o ((xS m ts i).map zi),o2]) (zct ok) ⟨.no,rfl⟩ ?_ ?_)
 .rintro i ρ hi ⟨o2,rfl⟩
  refine⟨_,rfl,?_⟩
  unfold Yi
  refine Y4 (ρ':=[.v (yb m ts),.o ((xS m ts (i+1)).map zi),.v (.int (0+(i:Int)))]) ?_ ⟨_,rfl⟩
  have e:fLC (iOf (zp 2 yC (zb (zc 0) (zb (zc 2) zr)))) b1 yg (ww (zb (zc 3) (zb (zc 0) zr))) [some (yb m ts),none,some (.int (0+(i:Int)))]=some (((nbN m ts i).map λo:Nat=>((0:Int)+(i:Int),(0:Int)+(o:Int))).map zi):=by
   unfold fLC
   have e1:yC [yb m ts,.int (0+(i:Int))]=some (.lst ((nbN m ts i).map zfP)):=by
    simp only[yC]
    rw[if_pos hw,ZC,ZO,Int.zero_add]
   show((yC [yb m ts,.int (0+(i:Int))]).bind yu).bind _=_
   rw[e1]
   show(if lim ((nbN m ts i).map zfP).length=true then _ else none)=_
   rw[if_pos (vD (by rw[List.length_map];have:=Z7 (p:=(i:Int)) ok;omega)),List.map_map]
   refine Wv zfP _ (nbN m ts i) λo _=>⟨[some (zfP o)],rfl,rfl,?_⟩
   rfl
  have hl:lim (((xS m ts i).map zi).length+(((nbN m ts i).map λo:Nat=>((0:Int)+(i:Int),(0:Int)+(o:Int))).map zi).length)=true:=by
   refine vD ?_
   simp only[List.length_map]
   have:=WJ ok i
   have:=Z7 (p:=(i:Int)) ok
   have:=ok.hi
   omega
  show(match (((fLC (iOf (zp 2 yC (zb (zc 0) (zb (zc 2) zr)))) b1 yg (ww (zb (zc 3) (zb (zc 0) zr))) [some (yb m ts),none,some (.int (0+(i:Int)))]).map D.lst).bind λd=>match (some (Sl.o ((xS m ts i).map zi))),d with
   | some (.o ds),.lst es=>if lim (ds.length+es.length)=true then some ([.v (yb m ts),.o (ds++es),.v (.int (0+(i:Int)))]:SE)else none
   | _,_=>none)with | some ρ'=>Ctl.nx ρ' | none=>Ctl.no)=_
  rw[e]
  show(match (if lim (((xS m ts i).map zi).length+(((nbN m ts i).map λo:Nat=>((0:Int)+(i:Int),(0:Int)+(o:Int))).map zi).length)=true then some ([.v (yb m ts),.o ((xS m ts i).map zi++((nbN m ts i).map λo:Nat=>((0:Int)+(i:Int),(0:Int)+(o:Int))).map zi),.v (.int (0+(i:Int)))]:SE)else none)with | some ρ'=>Ctl.nx ρ' | none=>Ctl.no)=_
  rw[if_pos hl,Xt,List.map_append]
 .rintro ρ ⟨o2,rfl⟩
  exact zhI rfl (Y7 rfl rfl)
theorem zaq (T:Txt K mg ad):xK P w K mg base CX0 3 ad.f_all_steps ad.e_all_steps ["web"] (@spD ⟨K⟩ 1 wQ):=by
 letI:KK:=⟨K⟩
 have G_neighbours:=VY (P:=P) (w:=w) (base:=base) T
 refine x6 (xa (N:=["web","found","place"]) (ps:=["web"]) T.d_all_steps.fn YU (g:=Yg) λcdv A outer s H E hr=>?_) zaT
 unfold Yg Yi
 exact(zd (Xs (i:=1) YU.nd rfl (Or.inl rfl) (xH ze))
  (zd (XX PassesOwn.never rfl rfl T.z_range (za (yD (edv 0) (zf zg) (λ_ _=>rfl)) ze) (yk (zL (i:=2) YU.nd rfl (Or.inr rfl))) (zh (zkI (pv 1) (x5 (zaA (L:=["other"]) (M:=["web","found","place"]) rfl (ZE (by rfl) (by rfl) (by rfl) (by with_unfolding_all rfl) (by rfl) (by rfl) (by kernel_rfl) (all_cons rfl vY)) (wL (zk G_neighbours hr rfl T.d_neighbours (za (edv 0) (za (edv 2) ze)))) gs1 rb1 (λ_ _ _ _=>(zL (i:=0) zmk rfl (Or.inl rfl) (.inr rfl))) (λ_ _ _ _=>(Yv (za (edv 3) (za (edv 0) ze)))))) (λa b=>zao PySem.F.plainAttrs_list PySem.F.slot_list_extend PySem.F.type_list_extend zeY a b))))
  (Xu 1 (zh (zC (edv 1))))))
theorem zda {m:Int}{ns:List Int}(h1:(ns.length:Int)=m)(h2:∀ n∈ns,0<=n)(h3:ns.sum<=300):xl m (.tup (ns.map .int))=true:=by
 unfold xl xA
 rw[Bool.and_eq_true,Bool.and_eq_true,decide_eq_true_eq,decide_eq_true_eq,wF,List.length_map]
 exact⟨⟨h1,zfg h2⟩,h3⟩
theorem zcf (ns:List Int):noS (.tup (ns.map .int))=true:=by
 show zdA (ns.map .int)=true
 induction ns with
 | nil=>rfl
 | cons n ns ih=>show(noS (.int n)&&zdA (ns.map .int))=true;rw[ih];rfl
noncomputable def vAt (ns:List Int)(i:Int):Int:=ns.getD i.toNat 0
theorem wD {ns:List Int}{i:Int}(h0:0<=i)(h1:i < ns.length):atI (ns.map D.int) i=some (.int (vAt ns i)):=by
 unfold vAt
 obtain⟨k,hk⟩:∃ k:Nat,i=k:=⟨i.toNat,by omega⟩
 subst hk
 refine zdF ?_
 rw[Int.toNat_natCast,List.getElem?_map,List.getElem?_eq_getElem (by omega),List.getD_eq_getElem?_getD,List.getElem?_eq_getElem (by omega)]
 rfl
theorem WZ {m:Int}{ts:List Tie}{s:Tie}:s∈zV m ts↔(0<=s.1/\s.1 < m)/\(0<=s.2/\s.2 < m)/\Xw s.1 s.2∈ts:=by
 unfold zV xS nbN
 rw[List.mem_flatMap]
 constructor
 .rintro⟨k,hk,h⟩
  obtain⟨o,ho,rfl⟩:=List.mem_map.mp h
  rw[List.mem_filter,List.mem_range,decide_eq_true_eq]at ho
  rw[List.mem_range]at hk
  simp only[Int.zero_add]
  exact⟨⟨by(clear h ho hk;omega),by(clear h ho;omega)⟩,⟨by(clear h ho hk;omega),by omega⟩,ho.2⟩
 .rintro⟨⟨a1,a2⟩,⟨b1,b2⟩,h⟩
  refine⟨s.1.toNat,List.mem_range.mpr (by(clear b2 b1 h;omega)),List.mem_map.mpr ⟨s.2.toNat,?_,?_⟩⟩
  .rw[List.mem_filter,List.mem_range,decide_eq_true_eq]
   refine⟨by omega,?_⟩
   rw[show((s.1.toNat:Nat):Int)=s.1 by(clear b2 b1 h a2;omega),show((s.2.toNat:Nat):Int)=s.2 by omega]
   exact h
  .exact Prod.ext (by show(0:Int)+(s.1.toNat:Int)=s.1;(clear b2 b1 h a2;omega)) (by show(0:Int)+(s.2.toNat:Int)=s.2;omega)
end
theorem zaZ {m:Nat}{g:SE->Ctl}{ds:List D}{R:D->Prop}{ρ:SE}(e:ds.map .v++List.replicate (m - ds.length) .no=ρ)(q:(g ρ).w (λ_=>R .non) noP noP R):∃ d,fnD m g ds=some d/\R d:=by
 unfold fnD
 rw[e]
 cases hg:g ρ with
 | nx ρ'=>rw[hg]at q;exact⟨_,rfl,q.nxi⟩
 | rt d'=>rw[hg]at q;exact⟨_,rfl,q.rti⟩
 | bk _=>rw[hg]at q;exact q.bki.elim
 | ct _=>rw[hg]at q;exact q.cti.elim
 | no=>rw[hg]at q;exact q.noi.elim
section
variable {P:Program}{w:World}{K:W.Frag}{mg:Str->Option Value}{base:Heap}{ad:Adr}
noncomputable def Yh:SE->Ctl :=
 (zS (y4 false 2 (zj yP (zj wx (zj y8 (zj y8 (zj yP (zc 0) (eC (.int 2147483647))) (zj wx (eC (.int 977)) (zc 1))) (eC (.int 1))) (eC (.int 48271))) (eC (.int 2147483647))))
  (zS (y4 false 2 (zj yP (zj wx (zc 2) (zc 2)) (eC (.int 2147483629))))
  (zS (y4 false 2 (zj yP (zj wx (zj y8 (zc 2) (zj wx (eC (.int 40692)) (zj y8 (zc 1) (eC (.int 3))))) (eC (.int 69621))) (eC (.int 2147483647))))
  (yq (zj yd (zc 2) (eC (.int 8)))))))
noncomputable def zbi:List D->Option D:=fnD 3 Yh
noncomputable def zG:List D->Option D
 | [.int c,.int k]=>some (.int (Wi c k))
 | _=>none
theorem VE {i j:Int}(h1:-(2 ^ 64) < i)(h2:i < 2 ^ 64):Wd i j=true:=decide_eq_true (.inl ⟨h1,h2⟩)
theorem zbk {i j:Int}(h1:-(2 ^ 64) < j)(h2:j < 2 ^ 64):Wd i j=true:=decide_eq_true (.inr ⟨h1,h2⟩)
theorem Zr {i j:Int}(h:Wd i j=true):wx (.int i) (.int j)=some (.int (i*j)):=by
 show(if Wd i j=true then _ else none)=_
 rw[if_pos h]
theorem yH {i j:Int}(h:0 < j):yP (.int i) (.int j)=some (.int (i % j)):=by
 show(if decide (0 < j)=true then _ else none)=_
 rw[if_pos (decide_eq_true h)]
theorem Y6 {i j:Int}(h:0 < j)(h2:j < 1606938044258990275541962092341162602522202993782792835301376):yd (.int i) (.int j)=some (.int (i / j)):=by
 show(if decide (0 < j/\j < 1606938044258990275541962092341162602522202993782792835301376)=true then _ else none)=_
 rw[if_pos (decide_eq_true ⟨h,h2⟩)]
theorem zax:∀ ds d,ds.length=2->zG ds=some d->zbi ds=some d:=by
 intro ds d hl h
 obtain⟨a,b,rfl⟩:=zdw hl
 cases a <;> try cases h
 cases b <;> try cases h
 rename_i c k
 have h1:=Int.emod_nonneg ((c % 2147483647+977*k+1)*48271) (show(2147483647:Int)≠0 by decide)
 have h2:=Int.emod_lt_of_pos ((c % 2147483647+977*k+1)*48271) (show(0:Int) < 2147483647 by decide)
 have m1:Wd 977 k=true:=VE (by decide) (by decide)
 have m2:Wd (c % 2147483647+977*k+1) 48271=true:=zbk (by decide) (by decide)
 obtain⟨x,hx⟩:∃ x,(c % 2147483647+977*k+1)*48271 % 2147483647=x:=⟨_,rfl⟩
 rw[hx]at h1 h2
 have m3:Wd x x=true:=VE (Int.lt_of_lt_of_le (by decide) h1) (Int.lt_trans h2 (by decide))
 have m4:Wd 40692 (k+3)=true:=VE (by decide) (by decide)
 have m5:∀ x,Wd x 69621=true:=λx=>zbk (by decide) (by decide)
 obtain⟨y,hy⟩:∃ y,x*x % 2147483629=y:=⟨_,rfl⟩
 obtain⟨z,hz⟩:∃ z,(y+40692*(k+3))*69621 % 2147483647=z:=⟨_,rfl⟩
 have hst:Wi c k=z / 8:=by
  show((((c % 2147483647+977*k+1)*48271 % 2147483647)*((c % 2147483647+977*k+1)*48271 % 2147483647) % 2147483629+40692*(k+3))*69621 % 2147483647 / 8)=_
  rw[hx,hy,hz]
 rw[hst]
 refine Vu (ρ:=[.v (.int c),.v (.int k),.no]) rfl ?_
 unfold Yh
 refine zw (ρ':=[.v (.int c),.v (.int k),.v (.int x)]) (wq ?_) ?_
 .show(((((yP (.int c) (.int 2147483647)).bind λa=>(wx (.int 977) (.int k)).bind λb=>y8 a b).bind λa=>y8 a (.int 1)).bind λa=>wx a (.int 48271)).bind λa=>yP a (.int 2147483647))=_
  rw[yH (by decide),Zr m1]
  show((wx (.int (c % 2147483647+977*k+1)) (.int 48271)).bind λa=>yP a (.int 2147483647))=_
  rw[Zr m2,<- hx]
  exact yH (by decide)
 refine zw (ρ':=[.v (.int c),.v (.int k),.v (.int y)]) (wq ?_) ?_
 .show((wx (.int x) (.int x)).bind λa=>yP a (.int 2147483629))=_
  rw[Zr m3,<- hy]
  exact yH (by decide)
 refine zw (ρ':=[.v (.int c),.v (.int k),.v (.int z)]) (wq ?_) ?_
 .show((((wx (.int 40692) (.int (k+3))).bind λb=>y8 (.int y) b).bind λa=>wx a (.int 69621)).bind λa=>yP a (.int 2147483647))=_
  rw[Zr m4]
  show((wx (.int (y+40692*(k+3))) (.int 69621)).bind λa=>yP a (.int 2147483647))=_
  rw[Zr (m5 _),<- hz]
  exact yH (by decide)
 exact Y7 (vS (show yd (.int z) (.int 8)=_ from Y6 (by decide) (by decide))) rfl
theorem vf (T:Txt K mg ad):xK P w K mg base CX0 1 ad.f__law_stir ad.e__law_stir ["cell","k"] (@spD ⟨K⟩ 2 zG):=by
 letI:KK:=⟨K⟩
 refine x6 (xa (N:=["cell","k","number"]) (ps:=["cell","k"]) T.d__law_stir.fn w8 (g:=Yh) λcdv A outer s H E hr=>?_) zax
 unfold Yh
 exact(zd (yi (m:=false) (i:=2) w8.nd rfl (Or.inl rfl) (xo (WE (zW (zW (xo (edv 0) (zf zg)) (WE (zf zg) (edv 1))) (zf zg)) (zf zg)) (zf zg)))
  (zd (yi (m:=false) (i:=2) w8.nd rfl (Or.inl rfl) (xo (WE (edv 2) (edv 2)) (zf zg)))
  (zd (yi (m:=false) (i:=2) w8.nd rfl (Or.inl rfl) (xo (WE (zW (edv 2) (WE (zf zg) (zW (edv 1) (zf zg)))) (zf zg)) (zf zg)))
  (zh (zC (Zs (edv 2) (zf zg)))))))
theorem zcZ {i j:Int}(h1:0<=i)(h2:i<=1000)(h3:0<=j)(h4:j<=1000):v8 [.int i,.int j]=some (Xq i (j - i).toNat):=by
 show(if zfO i=true/\zfO j=true then some (Xq i (j - i).toNat)else none)=_
 rw[if_pos ⟨y6.mpr ⟨by(clear h4 h3 h2;omega),by(clear h4 h3;omega)⟩,y6.mpr ⟨by omega,by omega⟩⟩]
theorem W1 {j:Int}(h3:0<=j)(h4:j<=1000000):wB [.int j]=some (Xq 0 j.toNat):=by
 show(if zfO j=true then some (Xq 0 j.toNat)else none)=_
 rw[if_pos (y6.mpr ⟨by omega,by omega⟩)]
noncomputable def vq:SE->Ctl :=
 (y4 false 1 (zj y8 (zc 1) (yK (fLC (vX v8 (zb (zj y8 (zc 2) (eC (.int 1))) (zb (zc 0) zr))) b1 yg (ww (zb (zc 3) (zb (zc 0) zr)))))))
noncomputable def vb:SE->Ctl :=
 (zS (y4 false 1 (yK (zI zr)))
  (zS (yG wB (zb (zc 0) zr) (zX 2) vq)
  (yq (zc 1))))
noncomputable def zaK:List D->Option D:=fnD 3 vb
noncomputable def xZ:List D->Option D
 | [.int n]=>if decide (0<=n/\n<=8)=true then some (.lst ((wu n.toNat).map zi))else none
 | _=>none
theorem VQ:∀ ds d,ds.length=1->xZ ds=some d->zaK ds=some d:=by
 intro ds d hl h
 obtain⟨a,rfl⟩:=zjl hl
 cases a <;> try cases h
 rename_i n
 obtain⟨hn,rfl⟩:=ifS h
 have hn:0<=n/\n<=8:=of_decide_eq_true hn
 clear h hl
 obtain⟨k,hk⟩:∃ k:Nat,n.toNat=k:=⟨_,rfl⟩
 have hk8:k<=8:=by omega
 have hkn:n=(k:Int):=by omega
 rw[hk]
 have hr:wB [.int n]=some (Xq 0 k):=by rw[W1 hn.1 (by omega),hk]
 clear hk
 refine Vu (ρ:=[.v (.int n),.no,.no]) rfl ?_
 unfold vb
 have e0:y4 false 1 (yK (zI zr)) [.v (.int n),.no,.no]=.nx [.v (.int n),.v (.lst []),.no]:=rfl
 refine zw e0 (yX (zci (lo:=0) (c:=k) (λi ρ=>∃ o2,ρ=[.v (.int n),.v (.lst ((xN k i).map zi)),o2]) hr ⟨.no,rfl⟩ ?_ ?_))
 .rintro i ρ hi ⟨o2,rfl⟩
  refine⟨_,rfl,?_⟩
  obtain⟨x,hx⟩:∃ x:Int,(0:Int)+(i:Int)=x:=⟨_,rfl⟩
  rw[hx]
  unfold vq
  refine Y4 (ρ':=[.v (.int n),.v (.lst ((xN k (i+1)).map zi)),.v (.int x)]) (wq (d:=.lst ((xN k (i+1)).map zi)) ?_) ⟨_,rfl⟩
  have e:fLC (vX v8 (zb (zj y8 (zc 2) (eC (.int 1))) (zb (zc 0) zr))) b1 yg (ww (zb (zc 3) (zb (zc 0) zr))) [some (.int n),some (.lst ((xN k i).map zi)),some (.int x)]=some ((zbC i (k - (i+1))).map zi):=by
   have e1:v8 [.int (x+1),.int n]=some (Xq (x+1) (k - (i+1))):=by
    rw[zcZ (by omega) (by omega) (by omega) (by omega)]
    have et:(n - (x+1)).toNat=k - (i+1):=by omega
    rw[et]
   unfold fLC
   show(v8 [.int (x+1),.int n]).bind _=_
   rw[e1]
   show(if lim (Xq (x+1) (k - (i+1))).length=true then _ else none)=_
   rw[if_pos (vD (by rw[X7];omega))]
   unfold zbC
   rw[List.map_map]
   refine Wv (λj:Nat=>D.int (x+1+(j:Int))) _ (List.range (k - (i+1))) λj _=>⟨[some (.int (x+1+(j:Int)))],rfl,rfl,?_⟩
   show some (D.tup [.int x,.int (x+1+(j:Int))])=some (D.tup [.int (i:Int),.int ((i:Int)+1+(j:Int))])
   rw[<-hx,Int.zero_add]
  show(((fLC (vX v8 (zb (zj y8 (zc 2) (eC (.int 1))) (zb (zc 0) zr))) b1 yg (ww (zb (zc 3) (zb (zc 0) zr))) [some (.int n),some (.lst ((xN k i).map zi)),some (.int x)]).map D.lst).bind λy=>y8 (.lst ((xN k i).map zi)) y)=_
  rw[e]
  show y8 (.lst ((xN k i).map zi)) (.lst ((zbC i (k - (i+1))).map zi))=_
  rw[zfR (by rw[List.length_map,List.length_map,Xv];have:=zdc k hk8 i;omega),Xx,List.map_append]
 .rintro ρ ⟨o2,rfl⟩
  refine Y7 rfl ?_
  rw[zfI]
theorem VO (T:Txt K mg ad):xK P w K mg base CX0 1 ad.f__law_pairs ad.e__law_pairs ["many"] (@spD ⟨K⟩ 1 xZ):=by
 letI:KK:=⟨K⟩
 refine x6 (xa (N:=["many","found","a"]) (ps:=["many"]) T.d__law_pairs.fn wy (g:=vb) λcdv A outer s H E hr=>?_) VQ
 unfold vb vq
 exact(zd (yi (m:=false) (i:=1) wy.nd rfl (Or.inl rfl) (x5 (xH ze)))
  (zd (XX PassesOwn.never rfl rfl T.z_range (za (edv 0) ze) (yk (zL (i:=2) wy.nd rfl (Or.inr rfl))) (zh (yi (m:=false) (i:=1) wy.nd rfl (Or.inl rfl) (zW (edv 1) (x5 (zaA (L:=["b"]) (M:=["many","found","a"]) rfl (ZE (by rfl) (by rfl) (by rfl) (by with_unfolding_all rfl) (by rfl) (by rfl) (by kernel_rfl) (all_cons rfl vY)) (zfB rfl T.z_range (za (zW (edv 2) (zf zg)) (za (edv 0) ze))) gs1 rb1 (λ_ _ _ _=>(zL (i:=0) zlO rfl (Or.inl rfl) (.inr rfl))) (λ_ _ _ _=>(Yv (za (edv 3) (za (edv 0) ze))))))))))
  (zh (zC (edv 1)))))
noncomputable def xC:SE->Ctl :=
 (zS (sIf (yr (tOf (zj Vs (zj yP (zc 1) (eC (.int 2))) (eC (.int 0)))) (tOf (zj Vs (zj yP (zj zjh (zj yd (zc 1) (eC (.int 2))) (zc 3)) (eC (.int 2))) (eC (.int 1))))) (vv false 2 (zc 4)) zH)
  (sIf (yr (tOf (zj Vs (zj yP (zc 1) (eC (.int 2))) (eC (.int 1)))) (tOf (zj ltD (zj yP (zp 2 zG (zb (zc 1) (zb (zc 3) zr))) (eC (.int 5))) (zj y8 (eC (.int 2)) (zj yP (zj yd (zc 1) (eC (.int 2))) (eC (.int 2))))))) (vv false 2 (zc 4)) zH))
noncomputable def xI:SE->Ctl :=
 (zS (vx 2 (zI zr))
  (zS (wG (zY (zb (zp 1 xZ (zb (zc 0) zr)) zr)) (Yk 2 (yt (zX 3) (yt (zX 4) Yo))) xC)
  (sFz 2 (yq (ww (zb (zc 0) (zb (eFn zR (zb (zc 2) zr)) zr)))))))
noncomputable def Yd:List D->Option D:=fnD 5 xI
theorem zii {a k:Int}(h:0<=k):zjh (.int a) (.int k)=some (.int (a / 2 ^ k.toNat)):=by
 show(if decide (0<=k)=true then some (D.int (a / 2 ^ k.toNat))else none)=_
 rw[if_pos (decide_eq_true h)]
theorem zkp {ρ:Ev}{c x:Int}(h1:ρ[1]?=some (some (.int c)))(h3:ρ[3]?=some (some (.int x)))(hx:0<=x) :
 (∃ b,yr (tOf (zj Vs (zj yP (zc 1) (eC (.int 2))) (eC (.int 0)))) (tOf (zj Vs (zj yP (zj zjh (zj yd (zc 1) (eC (.int 2))) (zc 3)) (eC (.int 2))) (eC (.int 1)))) ρ=some (decide (c % 2=0)&&b)) /\
 ∃ b,yr (tOf (zj Vs (zj yP (zc 1) (eC (.int 2))) (eC (.int 1)))) (tOf (zj ltD (zj yP (zp 2 zG (zb (zc 1) (zb (zc 3) zr))) (eC (.int 5))) (zj y8 (eC (.int 2)) (zj yP (zj yd (zc 1) (eC (.int 2))) (eC (.int 2)))))) ρ=some (decide (c % 2=1)&&b):=by
 have v1:zc 1 ρ=some (.int c):=by unfold zc;rw[h1];rfl
 have v3:zc 3 ρ=some (.int x):=by unfold zc;rw[h3];rfl
 have f2:yd (.int c) (.int 2)=some (.int (c / 2)):=Y6 (by decide) (by decide)
 have m0:∀ k:Int,tOf (zj Vs (zj yP (zc 1) (eC (.int 2))) (eC (.int k))) ρ=some (decide (c % 2=k)):=λk=>by
  show(((zc 1 ρ).bind λa=>yP a (.int 2)).bind λy=>Vs y (.int k)).bind asB=_
  rw[v1,Option.bind_some,yH (by decide)]
  rfl
 constructor
 .refine⟨decide (c / 2 / 2 ^ x.toNat % 2=1),?_⟩
  have m2:tOf (zj Vs (zj yP (zj zjh (zj yd (zc 1) (eC (.int 2))) (zc 3)) (eC (.int 2))) (eC (.int 1))) ρ=some (decide (c / 2 / 2 ^ x.toNat % 2=1)):=by
   show(((((zc 1 ρ).bind λa=>yd a (.int 2)).bind λa=>(zc 3 ρ).bind λb=>zjh a b).bind λa=>yP a (.int 2)).bind λy=>Vs y (.int 1)).bind asB=_
   rw[v1,v3,Option.bind_some,f2,Option.bind_some,Option.bind_some,zii hx,Option.bind_some,yH (by decide)]
   rfl
  unfold yr
  rw[m0,Option.bind_some,m2]
  cases decide (c % 2=0) <;> rfl
 .refine⟨decide (Wi c x % 5 < 2+c / 2 % 2),?_⟩
  have es:zp 2 zG (zb (zc 1) (zb (zc 3) zr)) ρ=some (.int (Wi c x)):=by
   unfold zp zb
   rw[v1,v3]
   rfl
  have m2:tOf (zj ltD (zj yP (zp 2 zG (zb (zc 1) (zb (zc 3) zr))) (eC (.int 5))) (zj y8 (eC (.int 2)) (zj yP (zj yd (zc 1) (eC (.int 2))) (eC (.int 2))))) ρ=some (decide (Wi c x % 5 < 2+c / 2 % 2)):=by
   show((((zp 2 zG (zb (zc 1) (zb (zc 3) zr)) ρ).bind λa=>yP a (.int 5)).bind λa=>((((zc 1 ρ).bind λa=>yd a (.int 2)).bind λa=>yP a (.int 2)).bind λy=>y8 (.int 2) y).bind λb=>ltD a b)).bind asB=_
   rw[es,v1,Option.bind_some,Option.bind_some,yH (by decide),f2,Option.bind_some,Option.bind_some,yH (by decide)]
   rfl
  unfold yr
  rw[m0,Option.bind_some,m2]
  cases decide (c % 2=1) <;> rfl
theorem zl0 {n c x:Int}{ts:List Tie}{t:Tie}{N B C:SE->Prop}{R:D->Prop}(hx:0<=x)(hl:(ts.map zi).length<=1000)
 (q1:N [.v (.int n),.v (.int c),.o (ts.map zi),.v (.int x),.v (zi t)]) (q2:N [.v (.int n),.v (.int c),.o ((ts++[t]).map zi),.v (.int x),.v (zi t)]) :
 (xC [.v (.int n),.v (.int c),.o (ts.map zi),.v (.int x),.v (zi t)]).w N B C R:=by
 rw[List.map_append]at q2
 unfold xC
 obtain⟨⟨b1,e1⟩,b2,e2⟩:=zkp (ρ:=visG [.v (.int n),.v (.int c),.o (ts.map zi),.v (.int x),.v (zi t)]) (c:=c) (x:=x) rfl rfl hx
 obtain⟨_,b3,e3⟩:=zkp (ρ:=visG [.v (.int n),.v (.int c),.o (ts.map zi++[zi t]),.v (.int x),.v (zi t)]) (c:=c) (x:=x) rfl rfl hx
 have ap:=zad (m:=false) (i:=2) (f:=zc 4) (ρ:=[.v (.int n),.v (.int c),.o (ts.map zi),.v (.int x),.v (zi t)]) (ds:=ts.map zi) (d:=zi t) rfl rfl hl
 refine yX (Xz e1 (λk=>Y4 ap ?_) (λ_=>Y4 rfl (Xz e2 (λ_=>Y4 ap q2) (λ_=>Y4 rfl q1))))
 refine Xz e3 (λk3=>?_) (λ_=>Y4 rfl q2)
 have h0:c % 2=0:=of_decide_eq_true (Bool.and_eq_true_iff.mp k).1
 have h1:c % 2=1:=of_decide_eq_true (Bool.and_eq_true_iff.mp k3).1
 exact absurd (h0.symm.trans h1) (by decide)
theorem zeT {n c:Int}(h1:1<=n)(h8:n<=8):∃ ts,Yd [.int n,.int c]=some (yb n ts)/\ts.Sublist (wu n.toNat):=by
 have key:=zaZ (m:=5) (g:=xI) (ds:=[.int n,.int c]) (R:=λd=>∃ ts:List Tie,d=yb n ts/\ts.Sublist (wu n.toNat)) rfl ?_
 .obtain⟨d,e,ts,rfl,hs⟩:=key
  exact⟨ts,e,hs⟩
 unfold xI
 refine zw rfl ?_
 have ep:xZ [.int n]=some (.lst ((wu n.toNat).map zi)):=by
  show(if decide (0<=n/\n<=8)=true then some (D.lst ((wu n.toNat).map zi))else none)=_
  rw[if_pos (decide_eq_true ⟨by omega,by omega⟩)]
 have h28:=(WC n.toNat (by omega)).2.2
 refine yX (ZW (ds:=Wy 0 ((wu n.toNat).map zi)) (λi ρ=>∃ ts o3 o4,ρ=[.v (.int n),.v (.int c),.o (ts.map zi),o3,o4]/\ts.Sublist ((wu n.toNat).take i)) ?_ ⟨[],.no,.no,rfl,List.nil_sublist _⟩ ?_ ?_)
 .show((xZ [.int n]).bind λd=>(some []:Option (List D)).map (d::·)).bind _=_
  rw[ep]
  rfl
 .rintro i d ρ hd ⟨ts,o3,o4,rfl,hs⟩
  rw[YO]at hd
  obtain⟨dx,hdx,rfl⟩:=Option.map_eq_some_iff.mp hd
  rw[List.getElem?_map]at hdx
  obtain⟨t,ht,rfl⟩:=Option.map_eq_some_iff.mp hdx
  rw[Nat.zero_add]
  have htake:(wu n.toNat).take (i+1)=(wu n.toNat).take i++[t]:=by rw[List.take_succ,ht];rfl
  have hlen:ts.length<=28:=Nat.le_trans hs.length_le (Nat.le_trans (List.length_take_le _ _) (by have:=(List.getElem?_eq_some_iff.mp ht).1;omega))
  refine⟨_,rfl,zl0 (Int.natCast_nonneg i) (by rw[List.length_map];omega) ⟨ts,_,_,rfl,?_⟩ ⟨ts++[t],_,_,rfl,?_⟩⟩
  .rw[htake];exact hs.trans (List.sublist_append_left _ _)
  .rw[htake];exact hs.append (List.Sublist.refl _)
 .rintro ρ ⟨ts,o3,o4,rfl,hs⟩
  exact zhI rfl (Y7 rfl ⟨ts,rfl,hs.trans (List.take_sublist _ _)⟩)
theorem WK (T:Txt K mg ad):xK P w K mg base CX0 2 ad.f__law_web_by ad.e__law_web_by ["many","cell"] (@spD ⟨K⟩ 2 Yd):=by
 letI:KK:=⟨K⟩
 have G__law_stir:=vf (P:=P) (w:=w) (base:=base) T
 have G__law_pairs:=VO (P:=P) (w:=w) (base:=base) T
 refine xa (N:=["many","cell","ties","k","tie"]) (ps:=["many","cell"]) T.d__law_web_by.fn xU (g:=xI) λcdv A outer s H E hr=>?_
 unfold xI xC
 exact(zd (Xs (i:=2) xU.nd rfl (Or.inl rfl) (xH ze))
  (zd (vG PassesOwn.never rfl (zbP rfl T.z_enumerate YR (za (zk G__law_pairs hr rfl T.d__law_pairs (za (edv 0) ze)) ze)) (zaj rfl (xV (yk (zL (i:=3) xU.nd rfl (Or.inl rfl))) (xV (yk (zL (i:=4) xU.nd rfl (Or.inl rfl))) WB))) (zd (xm (zdx (zcI (yj (Wr hr) Zu (yc _) (xo (edv 1) (zf zg)) (zf zg)) (V4 (yj (Wr hr) Zu (yc _) (xo (zjU (Zs (edv 1) (zf zg)) (edv 3)) (zf zg)) (zf zg))))) (zh (W4 (m:=false) (pv 2) (edv 4) (λa b=>zao PySem.F.plainAttrs_list PySem.F.slot_list_append PySem.F.type_list_append vE a b))) zJ)
  (zh (xm (zdx (zcI (yj (Wr hr) Zu (yc _) (xo (edv 1) (zf zg)) (zf zg)) (V4 (yj zk1 yF (yc _) (xo (zk G__law_stir hr rfl T.d__law_stir (za (edv 1) (za (edv 3) ze))) (zf zg)) (zW (zf zg) (xo (Zs (edv 1) (zf zg)) (zf zg))))))) (zh (W4 (m:=false) (pv 2) (edv 4) (λa b=>zao PySem.F.plainAttrs_list PySem.F.slot_list_append PySem.F.type_list_append vE a b))) zJ))))
  (Xu 2 (zh (zC (Yv (za (edv 0) (za (vC xD Yw rfl T.z_tuple xh (za (edv 2) ze)) ze))))))))
noncomputable def wA (r:List D->Option D):SE->Ctl :=
 (sIf (zT (tOf (zp 2 r (zb (zc 2) (zb (zc 3) zr))))) (yq (eC (.bl false))) zH)
noncomputable def yo (r:List D->Option D):SE->Ctl :=
 (zS (sIf (tOf (zj YL (zc 1) (eC .non))) (yq (zj YL (zc 0) (eC .non))) zH)
  (zS (sIf (tOf (eUn (zP .bool) (zc 1))) (yq (wj (eUn (zP .bool) (zc 0)) (zj Vs (zc 0) (zc 1)))) zH)
  (zS (sIf (tOf (eUn (zP .int) (zc 1))) (yq (wj (eUn (zP .int) (zc 0)) (wj (YD (eUn (zP .bool) (zc 0))) (zj Vs (zc 0) (zc 1))))) zH)
  (zS (sIf (tOf (eUn (zP .str) (zc 1))) (yq (wj (eUn (zP .str) (zc 0)) (zj Vs (zc 0) (zc 1)))) zH)
  (zS (sIf (xW (tOf (zj neD (eUn (zP .list) (zc 1)) (eUn (zP .list) (zc 0)))) (tOf (zj neD (eUn (zP .tuple) (zc 1)) (eUn (zP .tuple) (zc 0))))) (yq (eC (.bl false))) zH)
  (zS (sIf (tOf (zj neD (eFn wY (zb (zc 0) zr)) (eFn wY (zb (zc 1) zr)))) (yq (eC (.bl false))) zH)
  (zS (wG (y9 (zb (zc 0) (zb (zc 1) zr))) (Yk 2 (yt (zX 2) (yt (zX 3) Yo))) (wA r))
  (yq (eC (.bl true))))))))))
noncomputable def Zl:List D->Option D:=zkZ 4 yo 6
theorem zaN (ds:List D):zca ds ds=ds.map λd=>.tup [d,d]:=by
 induction ds with
 | nil=>rfl
 | cons d ds ih=>show D.tup [d,d]::zca ds ds=_;rw[ih];rfl
theorem zak {r:List D->Option D}{d:D}(hr:∀ es,(d=.tup es\/d=.lst es)->∀ e∈es,r [e,e]=some (.bl true))(hn:∀ ns,d≠.scr ns)(hd:∀ z t ks vs,d≠.dct z t ks vs):fnD 4 (yo r) [d,d]=some (.bl true):=by
 cases d with
 | scr ns=>exact absurd rfl (hn ns)
 | dct z t ks vs=>exact absurd rfl (hd z t ks vs)
 | non=>rfl
 | bl b=>cases b <;> rfl
 | int i=>simp[yo,fnD,zS,yq,xn,sIf,y4,vM,sNo,zH,Zq,vx,vv,YX,vL,vEv,visF,visG,Sl.f,Sl.g,zc,eC,zj,wj,eOr,YD,eIf,eUn,Yp,ww,yK,zI,zb,zr,zp,eFn,fFn,tOf,yr,xW,zT,asB,asI,zx,vQ,wx,yd,yP,Yq,yT,ltD,leD,gtD,geD,Yt,zA,zK,zy,zN,YL,zM,ixD,wY,zP,isT,eSl,yn,yf,ya,yu,iOf,wG,yG,vX,wB,v8,zY,y9,fLC,yg,zR,yS,zX,Yk,yt,Yo,b1,b2]
 | str x=>simp[yo,fnD,zS,yq,xn,sIf,y4,vM,sNo,zH,Zq,vx,vv,YX,vL,vEv,visF,visG,Sl.f,Sl.g,zc,eC,zj,wj,eOr,YD,eIf,eUn,Yp,ww,yK,zI,zb,zr,zp,eFn,fFn,tOf,yr,xW,zT,asB,asI,zx,vQ,wx,yd,yP,Yq,yT,ltD,leD,gtD,geD,Yt,zA,zK,zy,zN,YL,zM,ixD,wY,zP,isT,eSl,yn,yf,ya,yu,iOf,wG,yG,vX,wB,v8,zY,y9,fLC,yg,zR,yS,zX,Yk,yt,Yo,b1,b2]
 | tup es =>
  refine Vu (ρ:=[.v (.tup es),.v (.tup es),.no,.no]) rfl ?_
  unfold yo
  refine zw rfl (zw rfl (zw rfl (zw rfl (zw rfl (yX (Xz (c:=false) (by simp[fnD,zS,yq,xn,sIf,y4,vM,sNo,zH,Zq,vx,vv,YX,vL,vEv,visF,visG,Sl.f,Sl.g,zc,eC,zj,wj,eOr,YD,eIf,eUn,Yp,ww,yK,zI,zb,zr,zp,eFn,fFn,tOf,yr,xW,zT,asB,asI,zx,vQ,wx,yd,yP,Yq,yT,ltD,leD,gtD,geD,Yt,zA,zK,zy,zN,YL,zM,ixD,wY,zP,isT,eSl,yn,yf,ya,yu,iOf,wG,yG,vX,wB,v8,zY,y9,fLC,yg,zR,yS,zX,Yk,yt,Yo,b1,b2]) (λz=>by cases z) λ_=>Y4 rfl ?_))))))
  refine yX (ZW (ds:=zca es es) (λi ρ=>∃ o1 o2,ρ=[.v (.tup es),.v (.tup es),o1,o2]) (by simp[fnD,zS,yq,xn,sIf,y4,vM,sNo,zH,Zq,vx,vv,YX,vL,vEv,visF,visG,Sl.f,Sl.g,zc,eC,zj,wj,eOr,YD,eIf,eUn,Yp,ww,yK,zI,zb,zr,zp,eFn,fFn,tOf,yr,xW,zT,asB,asI,zx,vQ,wx,yd,yP,Yq,yT,ltD,leD,gtD,geD,Yt,zA,zK,zy,zN,YL,zM,ixD,wY,zP,isT,eSl,yn,yf,ya,yu,iOf,wG,yG,vX,wB,v8,zY,y9,fLC,yg,zR,yS,zX,Yk,yt,Yo,b1,b2]) ⟨_,_,rfl⟩ ?_ ?_)
  .rintro i d ρ hd ⟨o1,o2,rfl⟩
   rw[zaN,List.getElem?_map]at hd
   obtain⟨e,he,rfl⟩:=Option.map_eq_some_iff.mp hd
   have hre:=hr es (.inl rfl) e (List.mem_of_getElem? he)
   refine⟨_,rfl,?_⟩
   unfold wA
   refine Xz (c:=false) (by simp[fnD,zS,yq,xn,sIf,y4,vM,sNo,zH,Zq,vx,vv,YX,vL,vEv,visF,visG,Sl.f,Sl.g,zc,eC,zj,wj,eOr,YD,eIf,eUn,Yp,ww,yK,zI,zb,zr,zp,eFn,fFn,tOf,yr,xW,zT,asB,asI,zx,vQ,wx,yd,yP,Yq,yT,ltD,leD,gtD,geD,Yt,zA,zK,zy,zN,YL,zM,ixD,wY,zP,isT,eSl,yn,yf,ya,yu,iOf,wG,yG,vX,wB,v8,zY,y9,fLC,yg,zR,yS,zX,Yk,yt,Yo,b1,b2,hre]) (λz=>by cases z) λ_=>Y4 rfl ⟨_,_,rfl⟩
  .rintro ρ ⟨o1,o2,rfl⟩
   exact Y7 rfl rfl
 | lst es =>
  refine Vu (ρ:=[.v (.lst es),.v (.lst es),.no,.no]) rfl ?_
  unfold yo
  refine zw rfl (zw rfl (zw rfl (zw rfl (zw rfl (yX (Xz (c:=false) (by simp[fnD,zS,yq,xn,sIf,y4,vM,sNo,zH,Zq,vx,vv,YX,vL,vEv,visF,visG,Sl.f,Sl.g,zc,eC,zj,wj,eOr,YD,eIf,eUn,Yp,ww,yK,zI,zb,zr,zp,eFn,fFn,tOf,yr,xW,zT,asB,asI,zx,vQ,wx,yd,yP,Yq,yT,ltD,leD,gtD,geD,Yt,zA,zK,zy,zN,YL,zM,ixD,wY,zP,isT,eSl,yn,yf,ya,yu,iOf,wG,yG,vX,wB,v8,zY,y9,fLC,yg,zR,yS,zX,Yk,yt,Yo,b1,b2]) (λz=>by cases z) λ_=>Y4 rfl ?_))))))
  refine yX (ZW (ds:=zca es es) (λi ρ=>∃ o1 o2,ρ=[.v (.lst es),.v (.lst es),o1,o2]) (by simp[fnD,zS,yq,xn,sIf,y4,vM,sNo,zH,Zq,vx,vv,YX,vL,vEv,visF,visG,Sl.f,Sl.g,zc,eC,zj,wj,eOr,YD,eIf,eUn,Yp,ww,yK,zI,zb,zr,zp,eFn,fFn,tOf,yr,xW,zT,asB,asI,zx,vQ,wx,yd,yP,Yq,yT,ltD,leD,gtD,geD,Yt,zA,zK,zy,zN,YL,zM,ixD,wY,zP,isT,eSl,yn,yf,ya,yu,iOf,wG,yG,vX,wB,v8,zY,y9,fLC,yg,zR,yS,zX,Yk,yt,Yo,b1,b2]) ⟨_,_,rfl⟩ ?_ ?_)
  .rintro i d ρ hd ⟨o1,o2,rfl⟩
   rw[zaN,List.getElem?_map]at hd
   obtain⟨e,he,rfl⟩:=Option.map_eq_some_iff.mp hd
   have hre:=hr es (.inr rfl) e (List.mem_of_getElem? he)
   refine⟨_,rfl,?_⟩
   unfold wA
   refine Xz (c:=false) (by simp[fnD,zS,yq,xn,sIf,y4,vM,sNo,zH,Zq,vx,vv,YX,vL,vEv,visF,visG,Sl.f,Sl.g,zc,eC,zj,wj,eOr,YD,eIf,eUn,Yp,ww,yK,zI,zb,zr,zp,eFn,fFn,tOf,yr,xW,zT,asB,asI,zx,vQ,wx,yd,yP,Yq,yT,ltD,leD,gtD,geD,Yt,zA,zK,zy,zN,YL,zM,ixD,wY,zP,isT,eSl,yn,yf,ya,yu,iOf,wG,yG,vX,wB,v8,zY,y9,fLC,yg,zR,yS,zX,Yk,yt,Yo,b1,b2,hre]) (λz=>by cases z) λ_=>Y4 rfl ⟨_,_,rfl⟩
  .rintro ρ ⟨o1,o2,rfl⟩
   exact Y7 rfl rfl
theorem zdX:∀ (n:Nat) {d:D},okE n d=true->zkZ 4 yo (n+1) [d,d]=some (.bl true):=by
 intro n
 induction n with
 | zero =>
  intro d h
  refine zak (λes he=>?_) (λns e=>by subst e;cases h) (λ_ _ _ _ e=>by subst e;cases h)
  rcases he with rfl | rfl <;> cases h
 | succ n ih =>
  intro d h
  refine zak (λes he e hm=>?_) (λns e=>by subst e;cases h) (λ_ _ _ _ e=>by subst e;cases h)
  rcases he with rfl | rfl
  .exact ih (List.all_eq_true.mp h e hm)
  .exact ih (List.all_eq_true.mp h e hm)
theorem zlb {d:D}(h:okE 5 d=true):Zl [d,d]=some (.bl true):=zdX 5 h
theorem zaU (T:Txt K mg ad):xK P w K mg base CX0 7 ad.f__law_same ad.e__law_same ["found","due"] (@spD ⟨K⟩ 2 Zl):=by
 letI:KK:=⟨K⟩
 have R:∀ n,xK P w K mg base CX0 (1+n) ad.f__law_same ad.e__law_same ["found","due"] (spD 2 (zkZ 4 yo n)):=by
  refine zjS (P:=P) (w:=w) (mg:=mg) (base:=base) (k0:=1) (g:=yo) T.d__law_same.fn YM λk r hrec cdv A outer s H E hr=>?_
  unfold yo wA
  exact(zd (xm (yj zhw zec (yc _) (edv 1) (zb6 zb9)) (zh (zC (ZK zhw zec (yc _) (edv 0) (zb6 zb9)))) zJ)
   (zd (xm (xJ (zF .bool rfl T.z_isinstance (edv 1) (yl (v:=.ty "bool") rfl T.z_bool Wx rfl))) (zh (zC (vA (zF .bool rfl T.z_isinstance (edv 0) (yl (v:=.ty "bool") rfl T.z_bool Wx rfl)) (YQ (ZK (Wr hr) Zu (yc _) (edv 0) (edv 1)))))) zJ)
   (zd (xm (xJ (zF .int rfl T.z_isinstance (edv 1) (yl (v:=.ty "int") rfl T.z_int zcG rfl))) (zh (zC (vA (zF .int rfl T.z_isinstance (edv 0) (yl (v:=.ty "int") rfl T.z_int zcG rfl)) (vA (zeC (zF .bool rfl T.z_isinstance (edv 0) (yl (v:=.ty "bool") rfl T.z_bool Wx rfl))) (YQ (ZK (Wr hr) Zu (yc _) (edv 0) (edv 1))))))) zJ)
   (zd (xm (xJ (zF .str rfl T.z_isinstance (edv 1) (yl (v:=.ty "str") rfl T.z_str zhA rfl))) (zh (zC (vA (zF .str rfl T.z_isinstance (edv 0) (yl (v:=.ty "str") rfl T.z_str zhA rfl)) (YQ (ZK (Wr hr) Zu (yc _) (edv 0) (edv 1)))))) zJ)
   (zd (xm (zdx (WM (yj zaC Xr (yc _) (zF .list rfl T.z_isinstance (edv 1) (yl (v:=.ty "list") rfl T.z_list Xo rfl)) (zF .list rfl T.z_isinstance (edv 0) (yl (v:=.ty "list") rfl T.z_list Xo rfl))) (Xp (yj zaC Xr (yc _) (zF .tuple rfl T.z_isinstance (edv 1) (yl (v:=.ty "tuple") rfl T.z_tuple xh rfl)) (zF .tuple rfl T.z_isinstance (edv 0) (yl (v:=.ty "tuple") rfl T.z_tuple xh rfl)))))) (zh (zC (x9 wc))) zJ)
   (zd (xm (yj zaC Xr (yc _) (yx yB YI rfl T.z_len Xy (za (edv 0) ze)) (yx yB YI rfl T.z_len Xy (za (edv 1) ze))) (zh (zC (x9 wc))) zJ)
   (zd (vG PassesOwn.never rfl (zk0 rfl T.z_zip (za (edv 0) (za (edv 1) ze))) (zaj rfl (xV (yk (zL (i:=2) YM.nd rfl (Or.inl rfl))) (xV (yk (zL (i:=3) YM.nd rfl (Or.inl rfl))) WB))) (zh (xm (wv (xJ (zd9 hrec hr rfl T.d__law_same.at_ T.d__law_same.kp T.d__law_same.bd (za (edv 2) (za (edv 3) ze))))) (zh (zC (x9 wc))) zJ)))
   (zh (zC (x9 wc))))))))))
 exact R 6
noncomputable def xi:SE->Ctl :=
 (zS (y4 false 7 (zj yP (zp 2 zG (zb (zc 1) (zb (zj y8 (eC (.int 60)) (zc 6)) zr))) (zj y8 (zc 3) (eC (.int 1)))))
  (zS (sIf (tOf (zj Vs (zj yP (zc 1) (eC (.int 2))) (eC (.int 0)))) (zS (y4 false 7 (eFn zgy (zb (zc 3) (zb (zj yP (zc 5) (zj y8 (zc 2) (eC (.int 1)))) zr))))
  (y4 false 5 (zj yd (zc 5) (zj y8 (zc 2) (eC (.int 1)))))) zH)
  (zS (vv false 4 (zc 7))
  (y4 false 3 (zj vQ (zc 3) (zc 7))))))
noncomputable def xf:SE->Ctl :=
 (zS (y4 false 3 (zc 2))
  (zS (vx 4 (zI zr))
  (zS (y4 false 5 (zj yd (zc 1) (eC (.int 2))))
  (zS (yG wB (zb (zc 0) zr) (zX 6) xi)
  (sFz 4 (yq (eFn zR (zb (zc 4) zr))))))))
noncomputable def xX:List D->Option D:=fnD 8 xf
theorem zlR {n c mo le dg x:Int}{ns:List Int}{o7:Sl}{N B C:SE->Prop}{R:D->Prop}(h0:0<=mo)(hm:mo<=1000)(hle:0<=le)(hl:(ns.map D.int).length<=1000)
 (q:∀ s2 dg2,0<=s2->s2<=le->N [.v (.int n),.v (.int c),.v (.int mo),.v (.int (le - s2)),.o ((ns++[s2]).map .int),.v (.int dg2),.v (.int x),.v (.int s2)]) :
 (xi [.v (.int n),.v (.int c),.v (.int mo),.v (.int le),.o (ns.map .int),.v (.int dg),.v (.int x),o7]).w N B C R:=by
 unfold xi
 have hm1:(0:Int) < le+1:=Int.lt_add_one_of_le hle
 have hm2:(0:Int) < mo+1:=Int.lt_add_one_of_le h0
 obtain⟨a0,a1⟩:=wE (a:=Wi c (60+x)) hm1 rfl
 obtain⟨b0,b1⟩:=wE (a:=dg) hm2 rfl
 refine zw (ρ':=[.v (.int n),.v (.int c),.v (.int mo),.v (.int le),.o (ns.map .int),.v (.int dg),.v (.int x),.v (.int (Wi c (60+x) % (le+1)))]) (wq (show yP (.int (Wi c (60+x))) (.int (le+1))=_ from yH hm1)) ?_
 refine zlC (fun ρ=>∃ s2 dg2,ρ=[.v (.int n),.v (.int c),.v (.int mo),.v (.int le),.o (ns.map .int),.v (.int dg2),.v (.int x),.v (.int s2)]/\0<=s2/\s2<=le) ?_ ?_
 .refine Xz (c:=decide (c % 2=0)) ?_ (λ_=>?_) (λ_=>Y4 rfl ⟨_,_,rfl,a0,Int.le_of_lt_add_one a1⟩)
  .show((yP (.int c) (.int 2)).bind λy=>Vs y (.int 0)).bind asB=_
   rw[yH (by decide)]
   rfl
  .refine zw (ρ':=[.v (.int n),.v (.int c),.v (.int mo),.v (.int le),.o (ns.map .int),.v (.int dg),.v (.int x),.v (.int (if dg % (mo+1) < le then dg % (mo+1)else le))]) (wq (d:=.int (if dg % (mo+1) < le then dg % (mo+1)else le)) ?_) ?_
   .show(((yP (.int dg) (.int (mo+1))).bind λd=>(some []).map (d::·)).map (D.int le::·)).bind zgy=_
    rw[yH hm2]
    rfl
   .refine Y4 (ρ':=[.v (.int n),.v (.int c),.v (.int mo),.v (.int le),.o (ns.map .int),.v (.int (dg / (mo+1))),.v (.int x),.v (.int (if dg % (mo+1) < le then dg % (mo+1)else le))]) (wq (show yd (.int dg) (.int (mo+1))=_ from Y6 hm2 (by omega))) ⟨_,_,rfl,?_,?_⟩
    .split
     .exact b0
     .exact hle
    .split
     .rename_i h;exact Int.le_of_lt h
     .exact Int.le_refl _
 .rintro ρ ⟨s2,dg2,rfl,k0,k1⟩
  have:=q s2 dg2 k0 k1
  rw[List.map_append]at this
  exact zw (zad (ds:=ns.map .int) (d:=.int s2) rfl rfl hl) (Y4 rfl this)
theorem Vd {n c mo:Int}(h0:0<=n)(h8:n<=8)(hm0:0<=mo)(hm:mo<=1000):∃ ns:List Int,xX [.int n,.int c,.int mo]=some (.tup (ns.map .int))/\(ns.length:Int)=n/\(∀ x∈ns,0<=x)/\ns.sum<=mo:=by
 have key:=zaZ (m:=8) (g:=xf) (ds:=[.int n,.int c,.int mo]) (R:=λd=>∃ ns:List Int,d=.tup (ns.map .int)/\(ns.length:Int)=n/\(∀ x∈ns,0<=x)/\ns.sum<=mo) (ρ:=[.v (.int n),.v (.int c),.v (.int mo),.no,.no,.no,.no,.no]) rfl ?_
 .obtain⟨d,e,ns,rfl,h⟩:=key
  exact⟨ns,e,h⟩
 unfold xf
 refine zw (ρ':=[.v (.int n),.v (.int c),.v (.int mo),.v (.int mo),.no,.no,.no,.no]) rfl ?_
 refine zw (ρ':=[.v (.int n),.v (.int c),.v (.int mo),.v (.int mo),.o (([]:List Int).map .int),.no,.no,.no]) rfl ?_
 refine zw (ρ':=[.v (.int n),.v (.int c),.v (.int mo),.v (.int mo),.o (([]:List Int).map .int),.v (.int (c / 2)),.no,.no]) (wq (show yd (.int c) (.int 2)=_ from Y6 (by decide) (by decide))) ?_
 refine yX (zci (lo:=0) (c:=n.toNat) (λi ρ=>∃ (le dg:Int) (ns:List Int) (o1 o2:Sl),ρ=[.v (.int n),.v (.int c),.v (.int mo),.v (.int le),.o (ns.map .int),.v (.int dg),o1,o2]/\ns.length=i/\(∀ x∈ns,0<=x)/\0<=le/\ns.sum+le=mo) (W1 h0 (by omega)) ⟨mo,c / 2,[],.no,.no,rfl,rfl,(λx hx=>by cases hx),hm0,Int.zero_add _⟩ ?_ ?_)
 .rintro i ρ hi ⟨le,dg,ns,o1,o2,rfl,hl,hnn,hle,hs⟩
  refine⟨[.v (.int n),.v (.int c),.v (.int mo),.v (.int le),.o (ns.map .int),.v (.int dg),.v (.int (0+(i:Int))),o2],rfl,zlR hm0 hm hle (by rw[List.length_map];omega) λs2 dg2 k0 k1=>⟨le - s2,dg2,ns++[s2],_,_,rfl,by rw[List.length_append,hl];rfl,λy hy=>?_,by omega,?_⟩⟩
  .rcases List.mem_append.mp hy with hy | hy
   .exact hnn y hy
   .rw[List.mem_singleton.mp hy];exact k0
  .rw[List.sum_append,List.sum_cons,List.sum_nil]
   omega
 .rintro ρ ⟨le,dg,ns,o1,o2,rfl,hl,hnn,hle,hs⟩
  exact zhI rfl (Y7 rfl ⟨ns,rfl,by omega,hnn,by omega⟩)
theorem YN (T:Txt K mg ad):xK P w K mg base CX0 2 ad.f__law_heap_by ad.e__law_heap_by ["many","cell","most"] (@spD ⟨K⟩ 3 xX):=by
 letI:KK:=⟨K⟩
 have G__law_stir:=vf (P:=P) (w:=w) (base:=base) T
 refine xa (N:=["many","cell","most","left","heap","digits","k","stones"]) (ps:=["many","cell","most"]) T.d__law_heap_by.fn zQ (g:=xf) λcdv A outer s H E hr=>?_
 unfold xf xi
 exact(zd (yi (m:=false) (i:=3) zQ.nd rfl (Or.inl rfl) (edv 2))
  (zd (Xs (i:=4) zQ.nd rfl (Or.inl rfl) (xH ze))
  (zd (yi (m:=false) (i:=5) zQ.nd rfl (Or.inl rfl) (Zs (edv 1) (zf zg)))
  (zd (XX PassesOwn.never rfl rfl T.z_range (za (edv 0) ze) (yk (zL (i:=6) zQ.nd rfl (Or.inl rfl))) (zd (yi (m:=false) (i:=7) zQ.nd rfl (Or.inl rfl) (xo (zk G__law_stir hr rfl T.d__law_stir (za (edv 1) (za (zW (zf zg) (edv 6)) ze))) (zW (edv 3) (zf zg))))
  (zd (xm (yj (Wr hr) Zu (yc _) (xo (edv 1) (zf zg)) (zf zg)) (zd (yi (m:=false) (i:=7) zQ.nd rfl (Or.inl rfl) (yx (za5 rfl) zb8 rfl T.z_min zfH (za (edv 3) (za (xo (edv 5) (zW (edv 2) (zf zg))) ze))))
  (zh (yi (m:=false) (i:=5) zQ.nd rfl (Or.inl rfl) (Zs (edv 5) (zW (edv 2) (zf zg)))))) zJ)
  (zd (W4 (m:=false) (pv 4) (edv 7) (λa b=>zao PySem.F.plainAttrs_list PySem.F.slot_list_append PySem.F.type_list_append vE a b))
  (zh (yi (m:=false) (i:=3) zQ.nd rfl (Or.inl rfl) (zaR (edv 3) (edv 7))))))))
  (Xu 4 (zh (zC (vC xD Yw rfl T.z_tuple xh (za (edv 4) ze)))))))))
theorem zdg {ts:List Tie}(h:ts.length < 64):zdi [.lst (ts.map zi)]=some ((V1 ts).map zi):=by
 show(if (ts.map zi).length < 64 then _ else none)=_
 rw[if_pos (by rw[List.length_map];exact h),show ts.map zi=ts.map prD from rfl,zaD]
 rfl
theorem Vj:∀ (N:Nat) (l:List Nat),l.Nodup->(∀ x∈l,x < N)->l.length<=N
 | 0,l,_,h=>by
  cases l with
  | nil=>exact Nat.le_refl _
  | cons a r=>exact absurd (h a (.head _)) (Nat.not_lt_zero _)
 | N+1,l,hn,h=>by
  by_cases hm:N∈l
  .have h1:=Vj N (l.erase N) (hn.erase N) λx hx=>by
    have h2:=(hn.mem_erase_iff).mp hx
    exact Nat.lt_of_le_of_ne (Nat.le_of_lt_succ (h x h2.2)) h2.1
   rw[List.length_erase_of_mem hm]at h1
   omega
  .exact Nat.le_succ_of_le (Vj N l hn λx hx=>Nat.lt_of_le_of_ne (Nat.le_of_lt_succ (h x hx)) λe=>hm (e ▸ hx))
noncomputable def zdL (B:Nat):List Int->Nat
 | []=>0
 | v::r=>v.toNat+B*zdL B r
theorem zeh {B:Nat}:∀ {x:List Int},(∀ v∈x,0<=v/\v < (B:Int))->zdL B x < B ^ x.length
 | [],_=>Nat.one_pos
 | v::r,h=>by
  have h1:=zeh (x:=r) λw hw=>h w (.tail _ hw)
  have h2:=h v (.head _)
  show v.toNat+B*zdL B r < B ^ (r.length+1)
  have h3:v.toNat < B:=by omega
  have h4:B*(zdL B r+1)<=B*B ^ r.length:=Nat.mul_le_mul_left B h1
  rw[Nat.mul_succ]at h4
  rw[Nat.pow_succ,Nat.mul_comm (B ^ r.length) B]
  exact Nat.lt_of_lt_of_le (by rw[Nat.add_comm];exact Nat.add_lt_add_left h3 _) h4
theorem zbU {B:Nat}:∀ {x y:List Int},x.length=y.length->(∀ v∈x,0<=v/\v < (B:Int))->(∀ v∈y,0<=v/\v < (B:Int))->zdL B x=zdL B y->x=y
 | [],[],_,_,_,_=>rfl
 | [],_::_,h,_,_,_=>by cases h
 | _::_,[],h,_,_,_=>by cases h
 | v::r,w::q,hl,hx,hy,e=>by
  have h1:=hx v (.head _)
  have h2:=hy w (.head _)
  have e:v.toNat+B*zdL B r=w.toNat+B*zdL B q:=e
  have hB:0 < B:=by omega
  have e1:v.toNat=w.toNat:=by
   have:=congrArg (· % B) e
   simp only[Nat.add_mul_mod_self_left]at this
   rwa[Nat.mod_eq_of_lt (by omega),Nat.mod_eq_of_lt (by omega)]at this
  have e2:zdL B r=zdL B q:=by
   rw[e1]at e
   exact Nat.eq_of_mul_eq_mul_left hB (Nat.add_left_cancel e)
  rw[zbU (by simpa using hl) (λz hz=>hx z (.tail _ hz)) (λz hz=>hy z (.tail _ hz)) e2]
  congr 1
  omega
theorem zcu {B m:Nat}{l:List (List Int)}(hn:l.Nodup)(h:∀ x∈l,x.length=m/\∀ v∈x,0<=v/\v < (B:Int)):l.length<=B ^ m:=by
 have h1:=Vj (B ^ m) (l.map (zdL B)) ?_ ?_
 .rwa[List.length_map]at h1
 .unfold List.Nodup at hn ⊢
  rw[List.pairwise_map]
  refine List.Pairwise.imp_of_mem (λ{a b} ha hb hab e=>hab ?_) hn
  exact zbU (by rw[(h a ha).1,(h b hb).1]) (h a ha).2 (h b hb).2 e
 .intro x hx
  obtain⟨y,hy,rfl⟩:=List.mem_map.mp hx
  have:=zeh (h y hy).2
  rwa[(h y hy).1]at this
noncomputable abbrev Hl:=List Int
noncomputable def hD (h:Hl):D:=.tup (h.map .int)
noncomputable def hK (h:Hl):List Key:=h.map Sum.inl
theorem zfj:∀ {a b:Hl},hK a=hK b->a=b
 | [],[],_=>rfl
 | [],_::_,h=>by cases h
 | _::_,[],h=>by cases h
 | a::r,b::q,h=>by
  injection h with h1 h2
  injection h1 with h1
  rw[h1,zfj h2]
theorem Zo (h:Hl):zcD (hD h)=some (hK h):=by
 show zc8 (h.map .int)=some (h.map Sum.inl)
 induction h with
 | nil=>rfl
 | cons a r ih =>
  show(some (Sum.inl a)).bind (λk=>(zc8 (r.map .int)).map (k::·))=_
  rw[ih]
  rfl
theorem zdD (h:Hl):zcd true (hK h)=hD h:=by
 show D.tup ((h.map Sum.inl).map k1D)=_
 rw[List.map_map]
 rfl
noncomputable def WF (h:Hl)(i x:Int):Hl:=h.set i.toNat x
noncomputable def moved (h:Hl)(s:Tie):Hl:=WF (WF h s.1 (vAt h s.1 - 2)) s.2 (vAt (WF h s.1 (vAt h s.1 - 2)) s.2+1)
theorem ZV (h:Hl)(i x:Int):(WF h i x).length=h.length:=by unfold WF;exact List.length_set
theorem zdI (h:Hl)(s:Tie):(moved h s).length=h.length:=by unfold moved;rw[ZV,ZV]
theorem zgl {h:Hl}{i j x:Int}(hi:0<=i)(hl:i < h.length)(hj:0<=j):vAt (WF h i x) j=if j=i then x else vAt h j:=by
 unfold vAt WF
 rw[List.getD_eq_getElem?_getD,List.getElem?_set,List.getD_eq_getElem?_getD]
 by_cases e:j=i
 .subst e
  rw[if_pos rfl,if_pos (by omega),if_pos rfl]
  rfl
 .rw[if_neg (by omega),if_neg e]
theorem zco {h:Hl}{i x:Int}(hi:0<=i)(hl:i < h.length):(WF h i x).sum=h.sum - vAt h i+x:=by
 unfold WF
 rw[zfz (h:=by omega)]
 unfold vAt
 rw[Dl.getD_at (by omega)]
theorem zb1 {h:Hl}{i x v:Int}(hv:v∈WF h i x):v=x\/v∈h:=by
 unfold WF at hv
 rcases List.mem_or_eq_of_mem_set hv with e | e
 .exact .inr e
 .exact .inl e
structure Z6 (n:Nat) (s:Tie):Prop where
 a0:0<=s.1
 a1:s.1 < (n:Int)
 b0:0<=s.2
 b1:s.2 < (n:Int)
 ne:s.1≠s.2
theorem zan {h:Hl}{s:Tie}(hs:Z6 h.length s):(moved h s).sum=h.sum - 1:=by
 unfold moved
 rw[zco hs.b0 (by rw[ZV];exact hs.b1),zco hs.a0 hs.a1]
 omega
theorem ziK {h:Hl}{i:Int}(hi:0<=i)(hl:i < h.length):vAt h i∈h:=by
 unfold vAt
 exact Dl.getD_mem (by omega)
theorem zgX {h:Hl}{s:Tie}(hs:Z6 h.length s)(hn:∀ v∈h,0<=v)(h2:2<=vAt h s.1):∀ v∈moved h s,0<=v:=by
 intro v hv
 unfold moved at hv
 have e:vAt (WF h s.1 (vAt h s.1 - 2)) s.2=vAt h s.2:=by
  rw[zgl hs.a0 hs.a1 hs.b0,if_neg (λe=>hs.ne e.symm)]
 rcases zb1 hv with rfl | hv
 .rw[e]
  have:=hn _ (ziK hs.b0 hs.b1)
  omega
 .rcases zb1 hv with rfl | hv
  .omega
  .exact hn v hv
noncomputable def Z5:SE->Ctl :=
 (zS (vx 2 (fFn yS (zb (zc 0) zr)))
  (zS (vL true 2 (zj ixD (zc 1) (eC (.int 0))) (zj vQ (zj ixD (zc 2) (zj ixD (zc 1) (eC (.int 0)))) (eC (.int 2))))
  (zS (vL true 2 (zj ixD (zc 1) (eC (.int 1))) (zj y8 (zj ixD (zc 2) (zj ixD (zc 1) (eC (.int 1)))) (eC (.int 1))))
  (sFz 2 (yq (eFn zR (zb (zc 2) zr)))))))
noncomputable def ZG:List D->Option D:=fnD 3 Z5
theorem zdv {h:Hl}{s:Tie}(hs:Z6 h.length s):ZG [hD h,zi s]=some (hD (moved h s)):=by
 obtain⟨a,b⟩:=s
 obtain⟨a0,a1,b0,b1,ne⟩:=hs
 dsimp only at a0 a1 b0 b1 ne
 refine Vu (ρ:=[.v (hD h),.v (zi (a,b)),.no]) rfl ?_
 unfold Z5
 refine zw (ρ':=[.v (hD h),.v (zi (a,b)),.o (h.map .int)]) rfl ?_
 have ea:=wD (ns:=h) a0 a1
 obtain⟨g,hg⟩:∃ g,WF h a (vAt h a - 2)=g:=⟨_,rfl⟩
 have gl:g.length=h.length:=by rw[<-hg,ZV]
 have eb:=wD (ns:=g) b0 (by rw[gl];exact b1)
 have hm:moved h (a,b)=WF g b (vAt g b+1):=by unfold moved;rw[hg]
 rw[hm]
 refine yX (zfY (h.map .int) (.int (vAt h a - 2)) a ?_ rfl rfl a0 (by rw[List.length_map];exact a1) ?_)
 .show(Option.bind ((atI (h.map D.int) a).bind λx=>vQ x (.int 2)) λd=>if noL d=true then some d else none)=_
  rw[ea]
  rfl
 rw[show(h.map D.int).set a.toNat (.int (vAt h a - 2))=g.map .int by rw[<-hg];unfold WF;rw[List.map_set]]
 refine yX (zfY (g.map .int) (.int (vAt g b+1)) b ?_ rfl rfl b0 (by rw[List.length_map,gl];exact b1) ?_)
 .show(Option.bind ((atI (g.map D.int) b).bind λx=>y8 x (.int 1)) λd=>if noL d=true then some d else none)=_
  rw[eb]
  rfl
 rw[show(g.map D.int).set b.toNat (.int (vAt g b+1))=(WF g b (vAt g b+1)).map .int by unfold WF;rw[List.map_set]]
 exact zhI rfl (Y7 rfl rfl)
theorem zc7 (T:Txt K mg ad):xK P w K mg base CX0 1 ad.f_stepped ad.e_stepped ["heap","step"] (@spD ⟨K⟩ 2 ZG):=by
 letI:KK:=⟨K⟩
 refine xa (N:=["heap","step","stones"]) (ps:=["heap","step"]) T.d_stepped.fn Va (g:=Z5) λcdv A outer s H E hr=>?_
 unfold Z5
 exact(zd (Xs (i:=2) Va.nd rfl (Or.inl rfl) (zbo rfl T.z_list (za (edv 0) ze)))
  (zd (zcw (m:=true) (zaR (yD (edv 2) (yD (edv 1) (zf zg) (λ_ _=>rfl)) (λ_ _=>rfl)) (zf zg)) (pv 2) (yD (edv 1) (zf zg) (λ_ _=>rfl)))
  (zd (zcw (m:=true) (zW (yD (edv 2) (yD (edv 1) (zf zg) (λ_ _=>rfl)) (λ_ _=>rfl)) (zf zg)) (pv 2) (yD (edv 1) (zf zg) (λ_ _=>rfl)))
  (Xu 2 (zh (zC (vC xD Yw rfl T.z_tuple xh (za (edv 2) ze))))))))
inductive Beh (ss:List Tie) (h0:Hl):Hl->Prop
 | zero:Beh ss h0 h0
 | step {g:Hl} {s:Tie}:Beh ss h0 g->s∈ss->2<=vAt g s.1->Beh ss h0 (moved g s)
noncomputable abbrev Fd:=List (Hl × Option (Hl × Tie))
noncomputable def zhr:Option (Hl × Tie)->D
 | none=>.non
 | some p=>.tup [hD p.1,zi p.2]
noncomputable def fdK (f:Fd):List (List Key):=f.map λe=>hK e.1
noncomputable def fdV (f:Fd):List D:=f.map λe=>zhr e.2
noncomputable def YJ:Fd->Hl->Option (Option (Hl × Tie))
 | [],_=>none
 | e::f,g=>if e.1=g then some e.2 else YJ f g
theorem ze6 (g:Hl):∀ f:Fd,ZU (fdK f) (fdV f) (hK g)=(YJ f g).map zhr
 | []=>rfl
 | e::f=>by
  refine ZY.trans ?_
  show(if hK e.1=hK g then some (zhr e.2)else ZU (fdK f) (fdV f) (hK g))=(if e.1=g then some e.2 else YJ f g).map zhr
  by_cases h:e.1=g
  .rw[if_pos h,if_pos (by rw[h])];rfl
  .rw[if_neg h,if_neg (λz=>h (zfj z)),ze6 g f]
noncomputable def InF (f:Fd)(g:Hl):Prop:=(YJ f g).isSome=true
theorem yy {g:Hl}:∀ {f:Fd},InF f g↔∃ e∈f,e.1=g
 | []=>⟨λh=>(by cases h),λ⟨_,h,_⟩=>(by cases h)⟩
 | e::f=>by
  have ih:=yy (g:=g) (f:=f)
  unfold InF at ih ⊢
  show(if e.1=g then some e.2 else YJ f g).isSome=true↔_
  by_cases h:e.1=g
  .rw[if_pos h]
   exact⟨λ_=>⟨e,.head _,h⟩,λ_=>rfl⟩
  .rw[if_neg h,ih]
   constructor
   .rintro⟨x,hx,he⟩
    exact⟨x,.tail _ hx,he⟩
   .rintro⟨x,hx,he⟩
    rcases List.mem_cons.mp hx with rfl | hx
    .exact absurd he h
    .exact⟨x,hx,he⟩
theorem zcx {e:Hl × Option (Hl × Tie)}{g:Hl}:∀ {f:Fd},YJ (f++[e]) g=if (YJ f g).isSome=true then YJ f g else if e.1=g then some e.2 else none
 | []=>rfl
 | x::f=>by
  have ih:=zcx (e:=e) (g:=g) (f:=f)
  show(if x.1=g then some x.2 else YJ (f++[e]) g)=if (if x.1=g then some x.2 else YJ f g).isSome=true then (if x.1=g then some x.2 else YJ f g)else _
  by_cases h:x.1=g
  .rw[if_pos h,if_pos h];rfl
  .rw[if_neg h,if_neg h,ih]
theorem InF.app {f:Fd}{g:Hl}(h:InF f g)(e:Hl × Option (Hl × Tie)):InF (f++[e]) g:=by
 obtain⟨x,hx,he⟩:=yy.mp h
 exact yy.mpr ⟨x,List.mem_append.mpr (.inl hx),he⟩
theorem zfL (f:Fd)(e:Hl × Option (Hl × Tie)):InF (f++[e]) e.1:=yy.mpr ⟨e,List.mem_append.mpr (.inr (.head _)),rfl⟩
theorem zbx {f:Fd}{e:Hl × Option (Hl × Tie)}{g:Hl}(h:InF (f++[e]) g):InF f g\/g=e.1:=by
 obtain⟨x,hx,he⟩:=yy.mp h
 rcases List.mem_append.mp hx with hx | hx
 .exact .inl (yy.mpr ⟨x,hx,he⟩)
 .cases List.mem_singleton.mp hx
  exact .inr he.symm
structure zdG (ss:List Tie) (h0:Hl) (f:Fd):Prop where
 nd:(f.map (·.1)).Nodup
 beh:∀ e∈f,Beh ss h0 e.1
 prv:∀ e∈f,(e.2=none/\e.1=h0)\/∃ p s,e.2=some (p,s)/\s∈ss/\2<=vAt p s.1/\e.1=moved p s/\InF f p
 root:YJ f h0=some none
theorem zdG.start (ss:List Tie)(h0:Hl):zdG ss h0 [(h0,none)]:=by
 refine⟨by simp,λe he=>?_,λe he=>?_,?_⟩
 .cases List.mem_singleton.mp he;exact .zero
 .cases List.mem_singleton.mp he;exact .inl ⟨rfl,rfl⟩
 .show(if h0=h0 then _ else _)=_
  rw[if_pos rfl]
theorem zdG.add {ss:List Tie}{h0 p:Hl}{f:Fd}{s:Tie}(h:zdG ss h0 f)(hp:InF f p)(hs:s∈ss)(h2:2<=vAt p s.1)(hn:¬ InF f (moved p s)):zdG ss h0 (f++[(moved p s,some (p,s))]):=by
 refine⟨?_,λe he=>?_,λe he=>?_,?_⟩
 .rw[List.map_append]
  refine List.nodup_append.mpr ⟨h.nd,by simp,λa ha b hb e=>?_⟩
  cases List.mem_singleton.mp hb
  obtain⟨x,hx,he⟩:=List.mem_map.mp ha
  exact hn (yy.mpr ⟨x,hx,he.trans e⟩)
 .rcases List.mem_append.mp he with he | he
  .exact h.beh e he
  .cases List.mem_singleton.mp he
   obtain⟨x,hx,rfl⟩:=yy.mp hp
   exact .step (h.beh x hx) hs h2
 .rcases List.mem_append.mp he with he | he
  .rcases h.prv e he with z | ⟨q,t,z1,z2,z3,z4,z5⟩
   .exact .inl z
   .exact .inr ⟨q,t,z1,z2,z3,z4,z5.app _⟩
  .cases List.mem_singleton.mp he
   exact .inr ⟨p,s,rfl,hs,h2,rfl,hp.app _⟩
 .rw[zcx,h.root]
  rfl
structure HOk (n:Nat) (S:Int) (g:Hl):Prop where
 len:g.length=n
 nn:∀ v∈g,0<=v
 sum:g.sum<=S
theorem Beh.ok {n:Nat}{ss:List Tie}{h0 g:Hl}(hs:∀ s∈ss,Z6 n s)(h:HOk n h0.sum h0)(b:Beh ss h0 g):HOk n h0.sum g:=by
 induction b with
 | zero=>exact h
 | step b hs' h2 ih =>
  have e:=hs _ hs'
  rw[<-ih.len]at e
  refine⟨by rw[zdI];exact ih.len,zgX e ih.nn h2,?_⟩
  rw[zan e]
  have:=ih.sum
  omega
theorem zdG.count {n:Nat}{ss:List Tie}{h0:Hl}{f:Fd}(hs:∀ s∈ss,Z6 n s)(h:HOk n h0.sum h0)(ok:zdG ss h0 f):f.length<=(h0.sum.toNat+1) ^ n:=by
 have e:=zcu (B:=h0.sum.toNat+1) (m:=n) ok.nd λx hx=>by
  obtain⟨y,hy,rfl⟩:=List.mem_map.mp hx
  have b:=(ok.beh y hy).ok hs h
  refine⟨b.len,λv hv=>⟨b.nn v hv,?_⟩⟩
  have h1:=Xe b.nn hv
  have h2:=b.sum
  omega
 rwa[List.length_map]at e
noncomputable def zkN (ss:List Tie)(f:Fd)(g:Hl):Prop:=∀ s∈ss,2<=vAt g s.1->InF f (moved g s)
structure WG (ss:List Tie) (h0:Hl) (L:Int) (f:Fd) (fu todo:List Hl):Prop where
 ok:zdG ss h0 f
 fur:∀ g∈fu,InF f g/\g.sum=L - 1
 rim:∀ g∈todo,InF f g/\g.sum=L
 all:∀ g,InF f g->zkN ss f g\/g∈todo\/g∈fu
 len:fu.length < f.length
theorem WG.start (ss:List Tie)(h0:Hl):WG ss h0 h0.sum [(h0,none)] [] [h0]:=by
 refine⟨zdG.start ss h0,λg hg=>(by cases hg),λg hg=>?_,λg hg=>.inr (.inl ?_),Nat.one_pos⟩
 .cases List.mem_singleton.mp hg
  exact⟨yy.mpr ⟨_,.head _,rfl⟩,rfl⟩
 .obtain⟨x,hx,rfl⟩:=yy.mp hg
  cases List.mem_singleton.mp hx
  exact .head _
theorem WG.add {n:Nat}{ss:List Tie}{h0 p:Hl}{L:Int}{f:Fd}{fu todo:List Hl}{s:Tie}(hS:∀ s∈ss,Z6 n s)(h0k:HOk n h0.sum h0)(h:WG ss h0 L f fu todo)(hp:InF f p)(hL:p.sum=L)(hs:s∈ss)(h2:2<=vAt p s.1)(hn:¬ InF f (moved p s)) :
 WG ss h0 L (f++[(moved p s,some (p,s))]) (fu++[moved p s]) todo:=by
 refine⟨h.ok.add hp hs h2 hn,λg hg=>?_,λg hg=>⟨(h.rim g hg).1.app _,(h.rim g hg).2⟩,λg hg=>?_,by rw[List.length_append,List.length_append];exact Nat.succ_lt_succ h.len⟩
 .rcases List.mem_append.mp hg with hg | hg
  .exact⟨(h.fur g hg).1.app _,(h.fur g hg).2⟩
  .cases List.mem_singleton.mp hg
   obtain⟨x,hx,rfl⟩:=yy.mp hp
   have e:=hS s hs
   rw[<-((h.ok.beh x hx).ok hS h0k).len]at e
   exact⟨zfL f (moved x.1 s,some (x.1,s)),by rw[zan e,hL]⟩
 .rcases zbx hg with hg | rfl
  .rcases h.all g hg with z | z | z
   .exact .inl λt ht ht2=>(z t ht ht2).app _
   .exact .inr (.inl z)
   .exact .inr (.inr (List.mem_append.mpr (.inl z)))
  .exact .inr (.inr (List.mem_append.mpr (.inr (.head _))))
theorem WG.done {ss:List Tie}{h0 p:Hl}{L:Int}{f:Fd}{fu todo:List Hl}(h:WG ss h0 L f fu (p::todo))(hd:zkN ss f p):WG ss h0 L f fu todo:=by
 refine⟨h.ok,h.fur,λg hg=>h.rim g (.tail _ hg),λg hg=>?_,h.len⟩
 rcases h.all g hg with z | z | z
 .exact .inl z
 .rcases List.mem_cons.mp z with rfl | z
  .exact .inl hd
  .exact .inr (.inl z)
 .exact .inr (.inr z)
theorem WG.turn {ss:List Tie}{h0:Hl}{L:Int}{f:Fd}{fu:List Hl}(h:WG ss h0 L f fu []):WG ss h0 (L - 1) f [] fu:=by
 refine⟨h.ok,λg hg=>(by cases hg),h.fur,λg hg=>?_,Nat.lt_of_le_of_lt (Nat.zero_le _) h.len⟩
 rcases h.all g hg with z | z | z
 .exact .inl z
 .cases z
 .exact .inr (.inl z)
structure AllF (ss:List Tie) (h0:Hl) (f:Fd):Prop where
 ok:zdG ss h0 f
 iff:∀ g,InF f g↔Beh ss h0 g
theorem WG.fin {ss:List Tie}{h0:Hl}{L:Int}{f:Fd}(h:WG ss h0 L f [] []):AllF ss h0 f:=by
 refine⟨h.ok,λg=>⟨λhg=>?_,λhg=>?_⟩⟩
 .obtain⟨x,hx,rfl⟩:=yy.mp hg
  exact h.ok.beh x hx
 .induction hg with
  | zero=>unfold InF;rw[h.ok.root];rfl
  | step b hs h2 ih =>
   rcases h.all _ ih with z | z | z
   .exact z _ hs h2
   .cases z
   .cases z
theorem zia {m:Bool}{i:Nat}{f:Ev->Option D}{ρ ρ':SE}{ds:List D}{d:D}(h1:vEv m f ρ=some d)(h2:ρ[i]?=some (.o ds))(h3:ds.length < sizeLine)(h4:ρ.set i (.o (ds++[d]))=ρ'):vv m i f ρ=.nx ρ':=by
 unfold vv
 rw[h1,h2]
 show(match (if decide (ds.length < sizeLine)=true then some (ρ.set i (.o (ds++[d])))else none)with | some ρ'=>Ctl.nx ρ' | none=>Ctl.no)=_
 rw[if_pos (decide_eq_true h3),h4]
theorem zlj {m:Bool}{i:Nat}{fk fe:Ev->Option D}{ρ ρ':SE}{f:Fd}{g:Hl}{o:Option (Hl × Tie)}(h1:vEv m fe ρ=some (zhr o))(h2:fk (visG ρ)=some (hD g))(h3:ρ[i]?=some (.m true (fdK f) (fdV f)))(h4:(YJ f g).isSome=false)(h5:f.length < sizeLine)
 (h6:ρ.set i (.m true (fdK (f++[(g,o)])) (fdV (f++[(g,o)])))=ρ'):WT m i fk fe ρ=.nx ρ':=by
 have e:zdB ρ i (hD g) (zhr o)=some ρ':=by
  unfold zdB
  rw[h3]
  show(zcD (hD g)).bind (λk=>if decide ((fdK f).length < sizeLine)=true then some (ρ.set i (.m true (Zc (fdK f) (fdV f) k) (Zd (fdK f) (fdV f) k (zhr o))))else none)=_
  have hd:(ZU (fdK f) (fdV f) (hK g)).isSome=false:=by rw[ze6,Option.isSome_map];exact h4
  rw[Zo,Option.bind_some,if_pos (decide_eq_true (by unfold fdK;rw[List.length_map];exact h5))]
  unfold Zc Zd
  rw[hd,if_neg Bool.false_ne_true,if_neg Bool.false_ne_true,<- h6]
  unfold fdK fdV
  rw[List.map_append,List.map_append]
  rfl
 unfold WT
 rw[h1,h2]
 show(match zdB ρ i (hD g) (zhr o)with | some ρ'=>Ctl.nx ρ' | none=>Ctl.no)=_
 rw[e]
theorem wP {m:Int}{ts:List Tie}(ok:xL m ts):∀ s∈zV m ts,Z6 m.toNat s:=λs hs=>by
 obtain⟨⟨a0,a1⟩,⟨b0,b1⟩,ht⟩:=WZ.mp hs
 refine⟨a0,by omega,b0,by omega,λe=>?_⟩
 have h3:=(ok.rng _ ht).2.1
 rw[show Xw s.1 s.2=(s.2,s.2) by unfold Xw;rw[e,if_neg (Int.lt_irrefl _)]]at h3
 exact absurd h3 (Int.lt_irrefl _)
noncomputable def zdC (ns:List Int)(t:Tie):List Tie:=(if decide (1 < vAt ns t.1)=true then [t]else [])++(if decide (1 < vAt ns t.2)=true then [(t.2,t.1)]else [])
noncomputable def zbe (ns:List Int)(ts:List Tie):List Tie:=ts.flatMap (zdC ns)
theorem zcq {ns:List Int}{t s:Tie}:s∈zdC ns t↔(s=t/\1 < vAt ns t.1)\/(s=(t.2,t.1)/\1 < vAt ns t.2):=by
 unfold zdC
 rw[List.mem_append]
 by_cases h1:1 < vAt ns t.1 <;> by_cases h2:1 < vAt ns t.2 <;> simp[h1,h2,and_comm]
theorem vU (ns:List Int):∀ ts:List Tie,(zbe ns ts).length<=2*ts.length
 | []=>by simp[zbe]
 | t::ts=>by
  have ih:=vU ns ts
  show(zdC ns t++zbe ns ts).length<=_
  have:(zdC ns t).length<=2:=by
   unfold zdC
   rw[List.length_append]
   split <;> split <;> simp
  rw[List.length_append,List.length_cons]
  omega
theorem zdK (ns:List Int)(ts:List Tie)(t:Tie):zbe ns (ts++[t])=zbe ns ts++zdC ns t:=by
 unfold zbe
 rw[List.flatMap_append]
 simp
noncomputable def Yz:SE->Ctl :=
 (zS (sIf (tOf (zj gtD (zj ixD (zc 1) (zc 3)) (eC (.int 1)))) (vv false 2 (ww (zb (zc 3) (zb (zc 4) zr)))) zH)
  (sIf (tOf (zj gtD (zj ixD (zc 1) (zc 4)) (eC (.int 1)))) (vv false 2 (ww (zb (zc 4) (zb (zc 3) zr)))) zH))
noncomputable def YZ:SE->Ctl :=
 (zS (vx 2 (zI zr))
  (zS (wG (iOf (zj ixD (zc 0) (eC (.int 1)))) (Yk 2 (yt (zX 3) (yt (zX 4) Yo))) Yz)
  (sFz 2 (yq (yK (fFn zdi (zb (zc 2) zr)))))))
noncomputable def vI:List D->Option D:=fnD 5 YZ
theorem W9 {m:Int}{ts:List Tie}{ns:List Int}(ok:xL m ts)(h28:ts.length<=28)(hl:(ns.length:Int)=m):vI [yb m ts,.tup (ns.map .int)]=some (.lst ((V1 (zbe ns ts)).map zi)):=by
 refine Vu (ρ:=[.v (yb m ts),.v (.tup (ns.map .int)),.no,.no,.no]) rfl ?_
 unfold YZ
 refine zw (ρ':=[.v (yb m ts),.v (.tup (ns.map .int)),.o [],.no,.no]) (by simp[fnD,zS,yq,xn,sIf,y4,vM,sNo,zH,Zq,vx,vv,YX,vL,vEv,visF,visG,Sl.f,Sl.g,zc,eC,zj,wj,eOr,YD,eIf,eUn,Yp,ww,yK,zI,zb,zr,zp,eFn,fFn,tOf,yr,xW,zT,asB,asI,zx,vQ,wx,yd,yP,Yq,yT,ltD,leD,gtD,geD,Yt,zA,zK,zy,zN,YL,zM,ixD,wY,zP,isT,eSl,yn,yf,ya,yu,iOf,wG,yG,vX,wB,v8,zY,y9,fLC,yg,zR,yS,zX,Yk,yt,Yo,b1,b2,vD]) ?_
 refine yX (ZW (ds:=ts.map zi) (λi ρ=>∃ o1 o2,ρ=[.v (yb m ts),.v (.tup (ns.map .int)),.o ((zbe ns (ts.take i)).map zi),o1,o2]) rfl ⟨_,_,rfl⟩ ?_ ?_)
 .rintro i d ρ hd ⟨o1,o2,rfl⟩
  rw[List.getElem?_map]at hd
  obtain⟨t,ht,rfl⟩:=Option.map_eq_some_iff.mp hd
  have hr:=ok.rng t (List.mem_of_getElem? ht)
  refine⟨_,rfl,?_⟩
  have htake:ts.take (i+1)=ts.take i++[t]:=by rw[List.take_succ,ht];rfl
  have ea:=wD (ns:=ns) (i:=t.1) hr.1 (by omega)
  have eb:=wD (ns:=ns) (i:=t.2) (by omega) (by omega)
  have hlen:∀ X:List Tie,X.length<=2->((zbe ns (ts.take i)++X).map zi).length<=1000:=λX hX=>by
   rw[List.length_map,List.length_append]
   have:=vU ns (ts.take i)
   rw[List.length_take]at this
   omega
  obtain⟨A,hA⟩:∃ A,zbe ns (ts.take i)=A:=⟨_,rfl⟩
  rw[hA]at hlen ⊢
  have l0:=hlen [] (by simp)
  have l1:=hlen [t] (by simp)
  rw[List.append_nil]at l0
  unfold Yz
  have stepE:∀ (B:List Tie),A++zdC ns t=B->∃ o1 o2,([.v (yb m ts),.v (.tup (ns.map .int)),.o (B.map zi),.v (.int t.1),.v (.int t.2)]:SE)=[.v (yb m ts),.v (.tup (ns.map .int)),.o ((zbe ns (ts.take (i+1))).map zi),o1,o2]:=λB hB=>by
   rw[htake,zdK,hA,hB]
   exact⟨_,_,rfl⟩
  by_cases c1:1 < vAt ns t.1
  .refine yX (Xz (c:=true) (by simp[fnD,zS,yq,xn,sIf,y4,vM,sNo,zH,Zq,vx,vv,YX,vL,vEv,visF,visG,Sl.f,Sl.g,zc,eC,zj,wj,eOr,YD,eIf,eUn,Yp,ww,yK,zI,zb,zr,zp,eFn,fFn,tOf,yr,xW,zT,asB,asI,zx,vQ,wx,yd,yP,Yq,yT,ltD,leD,gtD,geD,Yt,zA,zK,zy,zN,YL,zM,ixD,wY,zP,isT,eSl,yn,yf,ya,yu,iOf,wG,yG,vX,wB,v8,zY,y9,fLC,yg,zR,yS,zX,Yk,yt,Yo,b1,b2,ea,c1]) (λ_=>Y4 (ρ':=[.v (yb m ts),.v (.tup (ns.map .int)),.o ((A++[t]).map zi),.v (.int t.1),.v (.int t.2)]) ?_ ?_) (λz=>by cases z))
   .rw[zad (ds:=A.map zi) (d:=zi t) (by simp[fnD,zS,yq,xn,sIf,y4,vM,sNo,zH,Zq,vx,vv,YX,vL,vEv,visF,visG,Sl.f,Sl.g,zc,eC,zj,wj,eOr,YD,eIf,eUn,Yp,ww,yK,zI,zb,zr,zp,eFn,fFn,tOf,yr,xW,zT,asB,asI,zx,vQ,wx,yd,yP,Yq,yT,ltD,leD,gtD,geD,Yt,zA,zK,zy,zN,YL,zM,ixD,wY,zP,isT,eSl,yn,yf,ya,yu,iOf,wG,yG,vX,wB,v8,zY,y9,fLC,yg,zR,yS,zX,Yk,yt,Yo,b1,b2,vD,zi]) rfl l0]
    simp[zi]
   .by_cases c2:1 < vAt ns t.2
    .refine Xz (c:=true) (by simp[fnD,zS,yq,xn,sIf,y4,vM,sNo,zH,Zq,vx,vv,YX,vL,vEv,visF,visG,Sl.f,Sl.g,zc,eC,zj,wj,eOr,YD,eIf,eUn,Yp,ww,yK,zI,zb,zr,zp,eFn,fFn,tOf,yr,xW,zT,asB,asI,zx,vQ,wx,yd,yP,Yq,yT,ltD,leD,gtD,geD,Yt,zA,zK,zy,zN,YL,zM,ixD,wY,zP,isT,eSl,yn,yf,ya,yu,iOf,wG,yG,vX,wB,v8,zY,y9,fLC,yg,zR,yS,zX,Yk,yt,Yo,b1,b2,eb,c2]) (λ_=>Y4 (ρ':=[.v (yb m ts),.v (.tup (ns.map .int)),.o ((A++[t]++[(t.2,t.1)]).map zi),.v (.int t.1),.v (.int t.2)]) ?_ (stepE _ ?_)) (λz=>by cases z)
     .rw[zad (ds:=(A++[t]).map zi) (d:=zi (t.2,t.1)) (by simp[fnD,zS,yq,xn,sIf,y4,vM,sNo,zH,Zq,vx,vv,YX,vL,vEv,visF,visG,Sl.f,Sl.g,zc,eC,zj,wj,eOr,YD,eIf,eUn,Yp,ww,yK,zI,zb,zr,zp,eFn,fFn,tOf,yr,xW,zT,asB,asI,zx,vQ,wx,yd,yP,Yq,yT,ltD,leD,gtD,geD,Yt,zA,zK,zy,zN,YL,zM,ixD,wY,zP,isT,eSl,yn,yf,ya,yu,iOf,wG,yG,vX,wB,v8,zY,y9,fLC,yg,zR,yS,zX,Yk,yt,Yo,b1,b2,vD,zi]) rfl l1]
      simp[zi]
     .unfold zdC
      rw[if_pos (decide_eq_true c1),if_pos (decide_eq_true c2),List.append_assoc]
    .refine Xz (c:=false) (by simp[fnD,zS,yq,xn,sIf,y4,vM,sNo,zH,Zq,vx,vv,YX,vL,vEv,visF,visG,Sl.f,Sl.g,zc,eC,zj,wj,eOr,YD,eIf,eUn,Yp,ww,yK,zI,zb,zr,zp,eFn,fFn,tOf,yr,xW,zT,asB,asI,zx,vQ,wx,yd,yP,Yq,yT,ltD,leD,gtD,geD,Yt,zA,zK,zy,zN,YL,zM,ixD,wY,zP,isT,eSl,yn,yf,ya,yu,iOf,wG,yG,vX,wB,v8,zY,y9,fLC,yg,zR,yS,zX,Yk,yt,Yo,b1,b2,eb,c2]) (λz=>by cases z) (λ_=>Y4 rfl (stepE _ ?_))
     unfold zdC
     rw[if_pos (decide_eq_true c1),if_neg (by simpa using c2),List.append_nil]
  .refine yX (Xz (c:=false) (by simp[fnD,zS,yq,xn,sIf,y4,vM,sNo,zH,Zq,vx,vv,YX,vL,vEv,visF,visG,Sl.f,Sl.g,zc,eC,zj,wj,eOr,YD,eIf,eUn,Yp,ww,yK,zI,zb,zr,zp,eFn,fFn,tOf,yr,xW,zT,asB,asI,zx,vQ,wx,yd,yP,Yq,yT,ltD,leD,gtD,geD,Yt,zA,zK,zy,zN,YL,zM,ixD,wY,zP,isT,eSl,yn,yf,ya,yu,iOf,wG,yG,vX,wB,v8,zY,y9,fLC,yg,zR,yS,zX,Yk,yt,Yo,b1,b2,ea,c1]) (λz=>by cases z) (λ_=>Y4 rfl ?_))
   by_cases c2:1 < vAt ns t.2
   .refine Xz (c:=true) (by simp[fnD,zS,yq,xn,sIf,y4,vM,sNo,zH,Zq,vx,vv,YX,vL,vEv,visF,visG,Sl.f,Sl.g,zc,eC,zj,wj,eOr,YD,eIf,eUn,Yp,ww,yK,zI,zb,zr,zp,eFn,fFn,tOf,yr,xW,zT,asB,asI,zx,vQ,wx,yd,yP,Yq,yT,ltD,leD,gtD,geD,Yt,zA,zK,zy,zN,YL,zM,ixD,wY,zP,isT,eSl,yn,yf,ya,yu,iOf,wG,yG,vX,wB,v8,zY,y9,fLC,yg,zR,yS,zX,Yk,yt,Yo,b1,b2,eb,c2]) (λ_=>Y4 (ρ':=[.v (yb m ts),.v (.tup (ns.map .int)),.o ((A++[(t.2,t.1)]).map zi),.v (.int t.1),.v (.int t.2)]) ?_ (stepE _ ?_)) (λz=>by cases z)
    .rw[zad (ds:=A.map zi) (d:=zi (t.2,t.1)) (by simp[fnD,zS,yq,xn,sIf,y4,vM,sNo,zH,Zq,vx,vv,YX,vL,vEv,visF,visG,Sl.f,Sl.g,zc,eC,zj,wj,eOr,YD,eIf,eUn,Yp,ww,yK,zI,zb,zr,zp,eFn,fFn,tOf,yr,xW,zT,asB,asI,zx,vQ,wx,yd,yP,Yq,yT,ltD,leD,gtD,geD,Yt,zA,zK,zy,zN,YL,zM,ixD,wY,zP,isT,eSl,yn,yf,ya,yu,iOf,wG,yG,vX,wB,v8,zY,y9,fLC,yg,zR,yS,zX,Yk,yt,Yo,b1,b2,vD,zi]) rfl l0]
     simp[zi]
    .unfold zdC
     rw[if_neg (by simpa using c1),if_pos (decide_eq_true c2),List.nil_append]
   .refine Xz (c:=false) (by simp[fnD,zS,yq,xn,sIf,y4,vM,sNo,zH,Zq,vx,vv,YX,vL,vEv,visF,visG,Sl.f,Sl.g,zc,eC,zj,wj,eOr,YD,eIf,eUn,Yp,ww,yK,zI,zb,zr,zp,eFn,fFn,tOf,yr,xW,zT,asB,asI,zx,vQ,wx,yd,yP,Yq,yT,ltD,leD,gtD,geD,Yt,zA,zK,zy,zN,YL,zM,ixD,wY,zP,isT,eSl,yn,yf,ya,yu,iOf,wG,yG,vX,wB,v8,zY,y9,fLC,yg,zR,yS,zX,Yk,yt,Yo,b1,b2,eb,c2]) (λz=>by cases z) (λ_=>Y4 rfl (stepE _ ?_))
    unfold zdC
    rw[if_neg (by simpa using c1),if_neg (by simpa using c2),List.append_nil,List.append_nil]
 .rintro ρ ⟨o1,o2,rfl⟩
  rw[List.length_map,List.take_length]
  refine zhI rfl (Y7 (d:=.lst ((V1 (zbe ns ts)).map zi)) ?_ rfl)
  have es:=zdg (ts:=zbe ns ts) (by have:=vU ns ts;omega)
  simp[fnD,zS,yq,xn,sIf,y4,vM,sNo,zH,Zq,vx,vv,YX,vL,vEv,visF,visG,Sl.f,Sl.g,zc,eC,zj,wj,eOr,YD,eIf,eUn,Yp,ww,yK,zI,zb,zr,zp,eFn,fFn,tOf,yr,xW,zT,asB,asI,zx,vQ,wx,yd,yP,Yq,yT,ltD,leD,gtD,geD,Yt,zA,zK,zy,zN,YL,zM,ixD,wY,zP,isT,eSl,yn,yf,ya,yu,iOf,wG,yG,vX,wB,v8,zY,y9,fLC,yg,zR,yS,zX,Yk,yt,Yo,b1,b2,zjs,Sl.fz,es]
theorem Wt (T:Txt K mg ad):xK P w K mg base CX0 1 ad.f__law_may ad.e__law_may ["web","heap"] (@spD ⟨K⟩ 2 vI):=by
 letI:KK:=⟨K⟩
 refine xa (N:=["web","heap","found","a","b"]) (ps:=["web","heap"]) T.d__law_may.fn Ya (g:=YZ) λcdv A outer s H E hr=>?_
 unfold YZ Yz
 exact(zd (Xs (i:=2) Ya.nd rfl (Or.inl rfl) (xH ze))
  (zd (vG PassesOwn.never rfl (wL (yD (edv 0) (zf zg) (λ_ _=>rfl))) (zaj rfl (xV (yk (zL (i:=3) Ya.nd rfl (Or.inl rfl))) (xV (yk (zL (i:=4) Ya.nd rfl (Or.inl rfl))) WB))) (zd (xm (yj zcN yF (yc _) (yD (edv 1) (edv 3) (λ_ _=>rfl)) (zf zg)) (zh (W4 (m:=false) (pv 2) (Yv (za (edv 3) (za (edv 4) ze))) (λa b=>zao PySem.F.plainAttrs_list PySem.F.slot_list_append PySem.F.type_list_append vE a b))) zJ)
  (zh (xm (yj zcN yF (yc _) (yD (edv 1) (edv 4) (λ_ _=>rfl)) (zf zg)) (zh (W4 (m:=false) (pv 2) (Yv (za (edv 4) (za (edv 3) ze))) (λa b=>zao PySem.F.plainAttrs_list PySem.F.slot_list_append PySem.F.type_list_append vE a b))) zJ))))
  (Xu 2 (zh (zC (x5 (ze5 rfl rfl T.z_sorted (za (edv 2) ze))))))))
noncomputable def w6:SE->Ctl :=
 (zS (vx 2 (fFn yS (zb (zc 0) zr)))
  (zS (vL true 2 (zj ixD (zc 1) (eC (.int 0))) (zj vQ (zj ixD (zc 2) (zj ixD (zc 1) (eC (.int 0)))) (eC (.int 2))))
  (zS (vL true 2 (zj ixD (zc 1) (eC (.int 1))) (zj y8 (zj ixD (zc 2) (zj ixD (zc 1) (eC (.int 1)))) (eC (.int 1))))
  (sFz 2 (yq (eFn zR (zb (zc 2) zr)))))))
noncomputable def wb:List D->Option D:=fnD 3 w6
theorem zas {h:Hl}{s:Tie}(hs:Z6 h.length s):wb [hD h,zi s]=some (hD (moved h s)):=by
 obtain⟨a,b⟩:=s
 obtain⟨a0,a1,b0,b1,ne⟩:=hs
 dsimp only at a0 a1 b0 b1 ne
 refine Vu (ρ:=[.v (hD h),.v (zi (a,b)),.no]) rfl ?_
 unfold w6
 refine zw (ρ':=[.v (hD h),.v (zi (a,b)),.o (h.map .int)]) rfl ?_
 have ea:=wD (ns:=h) a0 a1
 obtain⟨g,hg⟩:∃ g,WF h a (vAt h a - 2)=g:=⟨_,rfl⟩
 have gl:g.length=h.length:=by rw[<-hg,ZV]
 have eb:=wD (ns:=g) b0 (by rw[gl];exact b1)
 have hm:moved h (a,b)=WF g b (vAt g b+1):=by unfold moved;rw[hg]
 rw[hm]
 refine yX (zfY (h.map .int) (.int (vAt h a - 2)) a ?_ rfl rfl a0 (by rw[List.length_map];exact a1) ?_)
 .show(Option.bind ((atI (h.map D.int) a).bind λx=>vQ x (.int 2)) λd=>if noL d=true then some d else none)=_
  rw[ea]
  rfl
 rw[show(h.map D.int).set a.toNat (.int (vAt h a - 2))=g.map .int by rw[<-hg];unfold WF;rw[List.map_set]]
 refine yX (zfY (g.map .int) (.int (vAt g b+1)) b ?_ rfl rfl b0 (by rw[List.length_map,gl];exact b1) ?_)
 .show(Option.bind ((atI (g.map D.int) b).bind λx=>y8 x (.int 1)) λd=>if noL d=true then some d else none)=_
  rw[eb]
  rfl
 rw[show(g.map D.int).set b.toNat (.int (vAt g b+1))=(WF g b (vAt g b+1)).map .int by unfold WF;rw[List.map_set]]
 exact zhI rfl (Y7 rfl rfl)
theorem ZX (T:Txt K mg ad):xK P w K mg base CX0 1 ad.f__law_moved ad.e__law_moved ["heap","step"] (@spD ⟨K⟩ 2 wb):=by
 letI:KK:=⟨K⟩
 refine xa (N:=["heap","step","found"]) (ps:=["heap","step"]) T.d__law_moved.fn ZN (g:=w6) λcdv A outer s H E hr=>?_
 unfold w6
 exact(zd (Xs (i:=2) ZN.nd rfl (Or.inl rfl) (zbo rfl T.z_list (za (edv 0) ze)))
  (zd (zcw (m:=true) (zaR (yD (edv 2) (yD (edv 1) (zf zg) (λ_ _=>rfl)) (λ_ _=>rfl)) (zf zg)) (pv 2) (yD (edv 1) (zf zg) (λ_ _=>rfl)))
  (zd (zcw (m:=true) (zW (yD (edv 2) (yD (edv 1) (zf zg) (λ_ _=>rfl)) (λ_ _=>rfl)) (zf zg)) (pv 2) (yD (edv 1) (zf zg) (λ_ _=>rfl)))
  (Xu 2 (zh (zC (vC xD Yw rfl T.z_tuple xh (za (edv 2) ze))))))))
theorem zfi {m:Int}{ts:List Tie}{g:Hl}{s:Tie}(ok:xL m ts):s∈V1 (zbe g ts)↔s∈zV m ts/\2<=vAt g s.1:=by
 rw[(W6 _).mem_iff]
 unfold zbe
 rw[List.mem_flatMap,WZ]
 constructor
 .rintro⟨⟨x,y⟩,ht,hs⟩
  have r:=ok.rng _ ht
  dsimp only at r
  rcases zcq.mp hs with ⟨rfl,hv⟩ | ⟨rfl,hv⟩
  .refine⟨⟨by dsimp only;omega,by dsimp only;omega,?_⟩,by dsimp only at hv ⊢;omega⟩
   have:Xw x y=(x,y):=by unfold Xw;rw[if_neg (by omega),if_pos (by omega)]
   rw[this];exact ht
  .refine⟨⟨by dsimp only;omega,by dsimp only;omega,?_⟩,by dsimp only at hv ⊢;omega⟩
   have:Xw y x=(x,y):=by unfold Xw;rw[if_pos (by omega),if_neg (by omega)]
   rw[this];exact ht
 .rintro⟨⟨_,_,ht⟩,hv⟩
  refine⟨_,ht,zcq.mpr ?_⟩
  obtain⟨a,b⟩:=s
  have r:=ok.rng _ ht
  by_cases c:a < b
  .have e:Xw a b=(a,b):=by unfold Xw;rw[if_neg (by omega),if_pos c]
   left
   show(a,b)=Xw a b/\1 < vAt g (Xw a b).1
   rw[e]
   exact⟨rfl,show(1:Int) < vAt g a by have:2<=vAt g a:=hv;omega⟩
  .by_cases c2:b < a
   .have e:Xw a b=(b,a):=by unfold Xw;rw[if_pos c2,if_neg (by omega)]
    right
    show(a,b)=((Xw a b).2,(Xw a b).1)/\1 < vAt g (Xw a b).2
    rw[e]
    exact⟨rfl,show(1:Int) < vAt g a by have:2<=vAt g a:=hv;omega⟩
   .exfalso
    obtain rfl:a=b:=by omega
    have e:Xw a a=(a,a):=by unfold Xw;rw[if_neg (Int.lt_irrefl _)]
    have r':0<=(Xw a a).1/\(Xw a a).1 < (Xw a a).2/\(Xw a a).2 < m:=r
    rw[e]at r'
    exact absurd r'.2.1 (Int.lt_irrefl _)
noncomputable def fdT (f:Fd):List D:=f.map λ_=>D.bl true
theorem Wa (g:Hl):∀ f:Fd,ZU (fdK f) (fdT f) (hK g)=(YJ f g).map λ_=>D.bl true
 | []=>rfl
 | e::f=>by
  refine ZY.trans ?_
  show(if hK e.1=hK g then some (D.bl true)else ZU (fdK f) (fdT f) (hK g))=(if e.1=g then some e.2 else YJ f g).map λ_=>D.bl true
  by_cases h:e.1=g
  .rw[if_pos h,if_pos (by rw[h])];rfl
  .rw[if_neg h,if_neg (λz=>h (zfj z)),Wa g f]
theorem zg0 {m:Bool}{i:Nat}{fk fe:Ev->Option D}{ρ ρ':SE}{f:Fd}{g:Hl}{o:Option (Hl × Tie)}(h1:vEv m fe ρ=some (.bl true))(h2:fk (visG ρ)=some (hD g))(h3:ρ[i]?=some (.m true (fdK f) (fdT f)))(h4:(YJ f g).isSome=false)(h5:f.length < sizeLine)
 (h6:ρ.set i (.m true (fdK (f++[(g,o)])) (fdT (f++[(g,o)])))=ρ'):WT m i fk fe ρ=.nx ρ':=by
 have e:zdB ρ i (hD g) (D.bl true)=some ρ':=by
  unfold zdB
  rw[h3]
  show(zcD (hD g)).bind (λk=>if decide ((fdK f).length < sizeLine)=true then some (ρ.set i (.m true (Zc (fdK f) (fdT f) k) (Zd (fdK f) (fdT f) k (D.bl true))))else none)=_
  have hd:(ZU (fdK f) (fdT f) (hK g)).isSome=false:=by rw[Wa,Option.isSome_map];exact h4
  rw[Zo,Option.bind_some,if_pos (decide_eq_true (by unfold fdK;rw[List.length_map];exact h5))]
  unfold Zc Zd
  rw[hd,if_neg Bool.false_ne_true,if_neg Bool.false_ne_true,<- h6]
  unfold fdK fdT
  rw[List.map_append,List.map_append]
  rfl
 unfold WT
 rw[h1,h2]
 show(match zdB ρ i (hD g) (D.bl true)with | some ρ'=>Ctl.nx ρ' | none=>Ctl.no)=_
 rw[e]
theorem zdP {f:Fd}{g:Hl}{z:Bool}:zdn true (hD g) (.dct z true (fdK f) (fdT f))=some (.bl (!(YJ f g).isSome)):=by
 show(zcD (hD g)).map (λk=>D.bl (true != (ZU (fdK f) (fdT f) k).isSome))=_
 rw[Zo]
 show some (D.bl (true != (ZU (fdK f) (fdT f) (hK g)).isSome))=_
 rw[Wa,Option.isSome_map]
 cases (YJ f g).isSome <;> rfl
noncomputable def xt:SE->Ctl :=
 (zS (y4 false 7 (zp 2 wb (zb (zc 5) (zb (zc 6) zr))))
  (sIf (tOf (zj (zdn true) (zc 7) (zc 2))) (zS (WT false 2 (zc 7) (eC (.bl true)))
  (vv false 4 (zc 7))) zH))
noncomputable def xu:SE->Ctl :=
 (wG (iOf (zp 2 vI (zb (zc 0) (zb (zc 5) zr)))) (zX 6) xt)
noncomputable def yW:SE->Ctl :=
 (zS (vx 4 (zI zr))
  (zS (wG (iOf (zc 3)) (zX 5) xu)
  (sFz 4 (y4 false 3 (zc 4)))))
noncomputable def xG:SE->Ctl :=
 (zS (zgj 2 (zc 1) (eC (.bl true)))
  (zS (y4 false 3 (yK (zI (zb (zc 1) zr))))
  (zS (Zj (tOf (zj zjy (zc 3) (yK (zI zr)))) yW 20)
  (zly 2 (yq (yK (fFn zcz (zb (zc 2) zr))))))))
noncomputable def xB:List D->Option D:=fnD 8 xG
section
variable {N B C:SE->Prop}{R:D->Prop}{m:Int}{ts:List Tie}{rm:D}{h0:Hl}{L:Int}
noncomputable abbrev lSt (m:Int)(ts:List Tie)(h0:Hl)(f:Fd)(rm:D)(fu:List Hl)(o5 o6 o7:Sl):SE:=[.v (yb m ts),.v (hD h0),.m true (fdK f) (fdT f),.v rm,.o (fu.map hD),o5,o6,o7]
theorem zlG {now:Hl}{s:Tie}{f:Fd}{fu:List Hl}{o7:Sl}(hs:Z6 now.length s)(hl:f.length < sizeLine)(hfu:fu.length < sizeLine)
 (q1:InF f (moved now s)->N (lSt m ts h0 f rm fu (.v (hD now)) (.v (zi s)) (.v (hD (moved now s)))))
 (q2:¬ InF f (moved now s)->N (lSt m ts h0 (f++[(moved now s,some (now,s))]) rm (fu++[moved now s]) (.v (hD now)) (.v (zi s)) (.v (hD (moved now s))))) :
 (xt (lSt m ts h0 f rm fu (.v (hD now)) (.v (zi s)) o7)).w N B C R:=by
 unfold xt
 refine zw (wq (d:=hD (moved now s)) (zas hs)) ?_
 refine Xz (c:=!(YJ f (moved now s)).isSome) ?_ (λe=>?_) (λe=>?_)
 .show((zdn true (hD (moved now s)) (.dct false true (fdK f) (fdT f))).bind asB)=_
  rw[zdP]
  rfl
 .have e:(YJ f (moved now s)).isSome=false:=by simpa using e
  refine zw (zg0 (f:=f) (g:=moved now s) (o:=some (now,s)) rfl rfl rfl e hl rfl) ?_
  refine Y4 (zia (ds:=fu.map hD) (d:=hD (moved now s)) rfl rfl (by rw[List.length_map];exact hfu) rfl) ?_
  have q:=q2 (λz=>by unfold InF at z;rw[e]at z;cases z)
  rw[lSt,List.map_append]at q
  exact q
 .have e:(YJ f (moved now s)).isSome=true:=by simpa using e
  exact Y4 rfl (q1 e)
theorem zl6 {now:Hl}{f:Fd}{fu rest:List Hl}{o6 o7:Sl}(ok:xL m ts)(h28:ts.length<=28)(h0k:HOk m.toNat h0.sum h0)(hc:(h0.sum.toNat+1) ^ m.toNat < sizeLine)(h:WG (zV m ts) h0 L f fu (now::rest)) :
 (xu (lSt m ts h0 f rm fu (.v (hD now)) o6 o7)).w (fun ρ'=>∃ f' fu' o5 o6 o7,ρ'=lSt m ts h0 f' rm fu' o5 o6 o7/\WG (zV m ts) h0 L f' fu' rest) B C R:=by
 unfold xu
 have hS:=wP ok
 have hnow:=h.rim now (.head _)
 have hnl:now.length=m.toNat:=by
  obtain⟨x,hx,rfl⟩:=yy.mp hnow.1
  exact((h.ok.beh x hx).ok hS h0k).len
 have hm1:=ok.lo
 have em:=W9 (ns:=now) ok h28 (by omega)
 obtain⟨M,hM⟩:∃ M,V1 (zbe now ts)=M:=⟨_,rfl⟩
 have hmem:∀ s,s∈M↔s∈zV m ts/\2<=vAt now s.1:=λs=>by rw[<-hM];exact zfi ok
 rw[hM]at em
 refine ZW (ds:=M.map zi) (λj ρ=>∃ f fu o6 o7,ρ=lSt m ts h0 f rm fu (.v (hD now)) o6 o7/\WG (zV m ts) h0 L f fu (now::rest)/\∀ s∈M.take j,InF f (moved now s)) (Wu (yJ (ds:=[yb m ts,hD now]) rfl em) rfl) ⟨f,fu,o6,o7,rfl,h,λs hs=>(by rw[List.take_zero]at hs;cases hs)⟩ ?_ ?_
 .rintro i d ρ hd ⟨f,fu,o6,o7,rfl,hm,ha⟩
  rw[List.getElem?_map]at hd
  obtain⟨s,hs,rfl⟩:=Option.map_eq_some_iff.mp hd
  obtain⟨hs1,h2⟩:=(hmem s).mp (List.mem_of_getElem? hs)
  refine⟨lSt m ts h0 f rm fu (.v (hD now)) (.v (zi s)) o7,rfl,?_⟩
  have hi:=hS s hs1
  rw[<-hnl]at hi
  have hcnt:=Nat.lt_of_le_of_lt (hm.ok.count hS h0k) hc
  have ht:∀ f':Fd,(∀ g,InF f g->InF f' g)->InF f' (moved now s)->∀ t∈M.take (i+1),InF f' (moved now t):=λf' up hin t ht=>by
   rw[List.take_add_one,hs]at ht
   rcases List.mem_append.mp ht with ht | ht
   .exact up _ (ha t ht)
   .cases List.mem_singleton.mp ht
    exact hin
  exact zlG hi hcnt (Nat.lt_trans hm.len hcnt) (λq=>⟨f,fu,_,_,rfl,hm,ht f (λg hg=>hg) q⟩) λq=>⟨_,_,_,_,rfl,hm.add hS h0k (hm.rim now (.head _)).1 (hm.rim now (.head _)).2 hs1 h2 q,ht _ (λg hg=>hg.app _) (zfL f (moved now s,some (now,s)))⟩
 .rintro ρ ⟨f,fu,o6,o7,rfl,hm,ha⟩
  rw[List.length_map,List.take_length]at ha
  exact⟨f,fu,_,o6,o7,rfl,hm.done λs hs h2=>ha s ((hmem s).mpr ⟨hs,h2⟩)⟩
noncomputable abbrev lWt (m:Int)(ts:List Tie)(h0:Hl)(f:Fd)(rim:List Hl)(o4 o5 o6 o7:Sl):SE:=[.v (yb m ts),.v (hD h0),.m true (fdK f) (fdT f),.v (.lst (rim.map hD)),o4,o5,o6,o7]
theorem zlY {f:Fd}{rim:List Hl}{o4 o5 o6 o7:Sl}(ok:xL m ts)(h28:ts.length<=28)(h0k:HOk m.toNat h0.sum h0)(hc:(h0.sum.toNat+1) ^ m.toNat < sizeLine)(h:WG (zV m ts) h0 L f [] rim) :
 (yW (lWt m ts h0 f rim o4 o5 o6 o7)).w (fun ρ'=>∃ f' rim' o4 o5 o6 o7,ρ'=lWt m ts h0 f' rim' o4 o5 o6 o7/\WG (zV m ts) h0 (L - 1) f' [] rim') B C R:=by
 unfold yW
 refine zw (ρ':=lSt m ts h0 f (.lst (rim.map hD)) [] o5 o6 o7) rfl ?_
 refine yX (ZW (ds:=rim.map hD) (λi ρ=>∃ f fu o5 o6 o7,ρ=lSt m ts h0 f (.lst (rim.map hD)) fu o5 o6 o7/\WG (zV m ts) h0 L f fu (rim.drop i)) rfl ⟨f,[],o5,o6,o7,rfl,h⟩ ?_ ?_)
 .rintro i d ρ hd ⟨f,fu,o5,o6,o7,rfl,hm⟩
  rw[List.getElem?_map]at hd
  obtain⟨now,hnow,rfl⟩:=Option.map_eq_some_iff.mp hd
  refine⟨lSt m ts h0 f (.lst (rim.map hD)) fu (.v (hD now)) o6 o7,rfl,?_⟩
  obtain⟨hi,he⟩:=List.getElem?_eq_some_iff.mp hnow
  rw[List.drop_eq_getElem_cons hi,he]at hm
  exact zl6 ok h28 h0k hc hm
 .rintro ρ ⟨f,fu,o5,o6,o7,rfl,hm⟩
  rw[List.length_map,List.drop_length]at hm
  refine zhI (ρ':=[.v (yb m ts),.v (hD h0),.m true (fdK f) (fdT f),.v (.lst (rim.map hD)),.v (.lst (fu.map hD)),o5,o6,o7]) rfl ?_
  exact Y4 (ρ':=lWt m ts h0 f fu (.v (.lst (fu.map hD))) o5 o6 o7) rfl ⟨f,fu,_,_,_,_,rfl,hm.turn⟩
noncomputable def zi9:SE->Nat
 | [_,_,_,.v (.lst (.tup ds::_)),_,_,_,_]=>(((zdy ds).getD []).sum+1).toNat
 | _=>0
theorem Xg {f:Fd}{g:Hl}{rim:List Hl}{o5 o6 o7 o8:Sl}:zi9 (lWt m ts h0 f (g::rim) o5 o6 o7 o8)=(g.sum+1).toNat:=by
 show(((zdy (g.map .int)).getD []).sum+1).toNat=_
 rw[X3]
 rfl
theorem V5 {f:Fd}{o5 o6 o7 o8:Sl}:zi9 (lWt m ts h0 f [] o5 o6 o7 o8)=0:=rfl
theorem zlP (l:List Hl):zjy (.lst (l.map hD)) (.lst [])=some (.bl (!decide (l=[]))):=by
 have hk:okE 20 (.lst (l.map hD))=true:=by
  show(l.map hD).all (okE 19)=true
  rw[List.all_map,List.all_eq_true]
  intro h _
  show(h.map D.int).all (okE 18)=true
  rw[List.all_map,List.all_eq_true]
  exact λt _=>rfl
 show(if (okE 20 (.lst (l.map hD))&&true)=true then _ else none)=_
 rw[hk,if_pos (show(true&&true)=true from rfl)]
 cases l <;> rfl
theorem zlJ {f:Fd}{rim:List Hl}{o5 o6 o7 o8:Sl}(ok:xL m ts)(h28:ts.length<=28)(h0k:HOk m.toNat h0.sum h0)(hc:(h0.sum.toNat+1) ^ m.toNat < sizeLine)(hr:h0.sum<=18)(h:WG (zV m ts) h0 h0.sum f [] rim) :
 (Zj (tOf (zj zjy (zc 3) (yK (zI zr)))) yW 20 (lWt m ts h0 f rim o5 o6 o7 o8)).w (fun ρ'=>∃ f' o5 o6 o7 o8,ρ'=lWt m ts h0 f' [] o5 o6 o7 o8/\AllF (zV m ts) h0 f') B C R:=by
 have hS:=wP ok
 have nn:∀ {f:Fd} {g:Hl},zdG (zV m ts) h0 f->InF f g->0<=g.sum/\g.sum<=h0.sum:=λ{f g} ok hg=>by
  obtain⟨x,hx,rfl⟩:=yy.mp hg
  have b:=(ok.beh x hx).ok hS h0k
  exact⟨W3 b.nn,b.sum⟩
 refine zbh (fun ρ=>∃ L f rim o5 o6 o7 o8,ρ=lWt m ts h0 f rim o5 o6 o7 o8/\WG (zV m ts) h0 L f [] rim) zi9 ?_ 20 _ ⟨_,f,rim,o5,o6,o7,o8,rfl,h⟩ ?_
 .rintro ρ ⟨L,f,rim,o5,o6,o7,o8,rfl,hm⟩
  refine⟨!decide (rim=[]),Ys (zD (x:=.lst (rim.map hD)) (y:=.lst []) rfl rfl (zlP rim)),λc=>?_,λc=>?_⟩
  .cases rim with
   | nil=>cases c
   | cons g rim =>
    have hg:=hm.rim g (.head _)
    refine zeJ (zlY ok h28 h0k hc hm) ?_ (λ_ h=>h) (λ_ h=>h) (λ_ h=>h)
    .rintro ρ ⟨f',rim',o5,o6,o7,o8,rfl,hm'⟩
     refine⟨⟨_,f',rim',o5,o6,o7,o8,rfl,hm'⟩,?_⟩
     rw[Xg,hg.2]
     have h3:=(nn hm.ok hg.1).1
     rw[hg.2]at h3
     cases rim' with
     | nil=>rw[V5];omega
     | cons g' rim' =>
      rw[Xg,(hm'.rim g' (.head _)).2]
      omega
  .cases rim with
   | nil=>exact⟨f,o5,o6,o7,o8,rfl,hm.fin⟩
   | cons g rim=>cases c
 .cases rim with
  | nil=>rw[V5];decide
  | cons g rim =>
   rw[Xg]
   have:=(nn h.ok (h.rim g (.head _)).1).2
   omega
end
theorem zbZ:∀ g:Hl,zc3 (hK g)=some g
 | []=>rfl
 | x::g=>by
  show(zc3 (hK g)).map (x::·)=_
  rw[zbZ g]
  rfl
theorem zcK:∀ f:Fd,(∀ e∈f,e.1≠[])->zaQ (fdK f)=some (f.map (·.1))
 | [],_=>rfl
 | e::f,h=>by
  have ih:=zcK f λx hx=>h x (.tail _ hx)
  show(match zc3 (hK e.1)with | some (i::t)=>(zaQ (fdK f)).map ((i::t)::·) | _=>none)=_
  rw[zbZ,ih]
  cases he:e.1 with
  | nil=>exact absurd he (h e (.head _))
  | cons i t=>show some ((i::t)::f.map (·.1))=some (e.1::f.map (·.1));rw[he]
theorem Zf {m:Int}{ts:List Tie}{h0:Hl}(ok:xL m ts)(h28:ts.length<=28)(hl:(h0.length:Int)=m)(hn:∀ v∈h0,0<=v)(hr:h0.sum<=18)(hc:(h0.sum.toNat+1) ^ m.toNat < 10000000) :
 ∃ E:List Hl,xB [yb m ts,hD h0]=some (.lst (E.map hD))/\(∀ g,g∈E↔Beh (zV m ts) h0 g)/\E.length < 10000000/\∃ l:List Hl,l.Nodup/\E=wM l:=by
 have hc2:(h0.sum.toNat+1) ^ m.toNat < sizeLine:=Nat.lt_trans hc (by decide)
 have hm1:=ok.lo
 have hS:=wP ok
 have h0k:HOk m.toNat h0.sum h0:=⟨by omega,hn,Int.le_refl _⟩
 obtain⟨d,e,E,rfl,hE⟩:=zaZ (m:=8) (g:=xG) (ds:=[yb m ts,hD h0]) (R:=λd=>∃ E:List Hl,d=.lst (E.map hD)/\(∀ g,g∈E↔Beh (zV m ts) h0 g)/\E.length < 10000000/\∃ l:List Hl,l.Nodup/\E=wM l) rfl (by
  unfold xG
  refine zw (ρ':=[.v (yb m ts),.v (hD h0),.m true (fdK [(h0,none)]) (fdT [(h0,none)]),.no,.no,.no,.no,.no]) ?_ ?_
  .unfold zgj
   show(match ((zcD (hD h0)).map λk=>Sl.m true [k] [D.bl true])with | some s=>Ctl.nx _ | none=>Ctl.no)=_
   rw[Zo]
   rfl
  refine zw (ρ':=lWt m ts h0 [(h0,none)] [h0] .no .no .no .no) rfl ?_
  refine yX (zeJ (zlJ ok h28 h0k hc2 hr (WG.start (zV m ts) h0)) ?_ (λ_ h=>h) (λ_ h=>h) (λ_ h=>h))
  rintro ρ ⟨f,o5,o6,o7,o8,rfl,hf⟩
  have hcount:=hf.ok.count hS h0k
  have hne:∀ e∈f,e.1≠[]:=λe he z=>by
   have:=((hf.ok.beh e he).ok hS h0k).len
   rw[z]at this
   have h0':0=m.toNat:=this
   omega
  have es:zcz [.dct true true (fdK f) (fdT f)]=some ((wM (f.map (·.1))).map hD):=by
   show(if (fdK f).length < 10000000 then _ else none)=_
   rw[if_pos (by unfold fdK;rw[List.length_map];omega),zcK f hne]
   rfl
  refine Y7 (d:=.lst ((wM (f.map (·.1))).map hD)) ?_ ⟨_,rfl,λg=>?_,?_,_,hf.ok.nd,rfl⟩
  .show yq _ [.v (yb m ts),.v (hD h0),.v (.dct true true (fdK f) (fdT f)),.v (.lst []),o5,o6,o7,o8]=_
   exact vS (vd (zhy (ds:=[_]) rfl es))
  .rw[(wS _).mem_iff,<- hf.iff,yy,List.mem_map]
  .rw[(wS _).length_eq,List.length_map];omega)
 exact⟨E,e,hE⟩
theorem Zg (T:Txt K mg ad):xK P w K mg base CX0 2 ad.f__law_behind ad.e__law_behind ["web","heap"] (@spD ⟨K⟩ 2 xB):=by
 letI:KK:=⟨K⟩
 have G__law_may:=Wt (P:=P) (w:=w) (base:=base) T
 have G__law_moved:=ZX (P:=P) (w:=w) (base:=base) T
 refine xa (N:=["web","heap","found","row","more","here","step","other"]) (ps:=["web","heap"]) T.d__law_behind.fn ye (g:=xG) λcdv A outer s H E hr=>?_
 unfold xG yW xu xt
 exact(zd (zh4 (i:=2) hr ye.nd rfl (Or.inl rfl) (edv 1) (x9 wc))
  (zd (yi (m:=false) (i:=3) ye.nd rfl (Or.inl rfl) (x5 (xH (za (edv 1) ze))))
  (zd (zf1 20 PassesOwn.never (yj (zjW hr) zi4 (yc _) (edv 3) (x5 (xH ze))) (zd (Xs (i:=4) ye.nd rfl (Or.inl rfl) (xH ze))
  (zd (vG PassesOwn.never rfl (wL (edv 3)) (yk (zL (i:=5) ye.nd rfl (Or.inl rfl))) (zh (vG PassesOwn.never rfl (wL (zk G__law_may hr rfl T.d__law_may (za (edv 0) (za (edv 5) ze)))) (yk (zL (i:=6) ye.nd rfl (Or.inl rfl))) (zd (yi (m:=false) (i:=7) ye.nd rfl (Or.inl rfl) (zk G__law_moved hr rfl T.d__law_moved (za (edv 5) (za (edv 6) ze))))
  (zh (xm (yj (X6 hr) Wk (by with_unfolding_all rfl) (edv 7) (edv 2)) (zd (zeu (m:=false) hr (x9 wc) (pv 2) (edv 7))
  (zh (W4 (m:=false) (pv 4) (edv 7) (λa b=>zao PySem.F.plainAttrs_list PySem.F.slot_list_append PySem.F.type_list_append vE a b)))) zJ))))))
  (Xu 4 (zh (yi (m:=false) (i:=3) ye.nd rfl (Or.inl rfl) (edv 4)))))))
  (zfE 2 (zh (zC (x5 (zcV rfl rfl T.z_sorted (za (edv 2) ze)))))))))
theorem zho {t:Ev->Option Bool}{g:SE->Ctl}{ρ:SE}(e:t (visG ρ)=some false):sIf t g zH ρ=.nx ρ:=by
 unfold sIf
 rw[e]
 rfl
theorem zd1 (ns:List Int):zjd [.tup (ns.map .int)]=some (.int ns.sum):=by
 show((zdy (ns.map .int)).bind λns=>some (D.int ns.sum))=_
 rw[X3]
 rfl
theorem zgk {m:Int}{ts:List Tie}(ok:xL m ts):xz [yb m ts]=some .non:=by
 have hw:Ym (yb m ts)=true:=(wH _).mpr ⟨_,_,rfl,ok⟩
 simp only[xz]
 rw[if_pos hw]
theorem ze3 {m:Int}{ts:List Tie}{h:Hl}(ok:xL m ts)(hl:(h.length:Int)=m)(hn:∀ v∈h,0<=v)(hr:h.sum<=300):xb [yb m ts,hD h]=some .non:=by
 show(if (noS (.tup (h.map .int))&&decide (m<=1000)&&xl m (.tup (h.map .int)))=true then some D.non else none)=_
 rw[zcf,zah ok,zda hl hn hr]
 rfl
noncomputable def xk:SE->Ctl :=
 (sIf (zT (tOf (zp 3 zE (zb (zc 0) (zb (zc 1) (zb (zc 2) zr)))))) sNo zH)
noncomputable def wf:List D->Option D:=fnD 3 xk
theorem zex {x a b:Int}(h1:a<=x)(h2:x<=b):wf [.int x,.int a,.int b]=some .non:=by
 refine Vu (ρ:=[.v (.int x),.v (.int a),.v (.int b)]) rfl ?_
 unfold xk
 refine Xz (c:=false) ?_ (λz=>by cases z) (λ_=>Y4 rfl rfl)
 show(((if noS (.int x)=true then some (D.bl (yz (.int x) a b))else none).bind asB).map λc=>!c)=_
 rw[if_pos (show noS (.int x)=true from rfl)]
 show some (!(decide (a<=x)&&decide (x<=b)))=_
 rw[decide_eq_true h1,decide_eq_true h2]
 rfl
theorem Xj (T:Txt K mg ad):xK P w K mg base CX0 3 ad.f_must_be_within ad.e_must_be_within ["thing","least","most"] (@spD ⟨K⟩ 3 wf):=by
 letI:KK:=⟨K⟩
 have G_is_whole_within:=xy (P:=P) (w:=w) (base:=base) T
 refine xa (N:=["thing","least","most"]) (ps:=["thing","least","most"]) T.d_must_be_within.fn Xd (g:=xk) λcdv A outer s H E hr=>?_
 unfold xk
 exact(zh (xm (wv (xJ (zk G_is_whole_within hr rfl T.d_is_whole_within (za (edv 0) (za (edv 1) (za (edv 2) ze)))))) (zh XQ) zJ))
noncomputable def xw:SE->Ctl :=
 (zS (vM (zp 1 xz (zb (zc 0) zr)))
  (zS (vM (zp 2 xb (zb (zc 0) (zb (zc 1) zr))))
  (zS (vM (zp 2 yY (zb (zc 0) (zb (zc 2) zr))))
  (vM (zp 3 wf (zb (zc 3) (zb (eC (.int 1)) (zb (eC (.int 300)) zr))))))))
noncomputable def wJ:List D->Option D:=fnD 4 xw
theorem zb4 {m:Int}{ts:List Tie}{h:Hl}{p n:Int}(ok:xL m ts)(hl:(h.length:Int)=m)(hn:∀ v∈h,0<=v)(hr:h.sum<=300)(hp:0<=p/\p < m)(n1:1<=n)(n3:n<=300):wJ [yb m ts,hD h,.int p,.int n]=some .non:=by
 refine Vu (ρ:=[.v (yb m ts),.v (hD h),.v (.int p),.v (.int n)]) rfl ?_
 unfold xw
 refine zw (Xl (zgk ok)) ?_
 refine zw (Xl (ze3 ok hl hn hr)) ?_
 refine zw (Xl (zdh (ts:=ts) hp)) ?_
 exact Y4 (Xl (zex n1 n3)) rfl
theorem XJ (T:Txt K mg ad):xK P w K mg base CX0 8 ad.f_must_be_asked ad.e_must_be_asked ["web","heap","place","many"] (@spD ⟨K⟩ 4 wJ):=by
 letI:KK:=⟨K⟩
 have G_must_be_within:=Xj (P:=P) (w:=w) (base:=base) T
 have G_must_be_web:=WS (P:=P) (w:=w) (base:=base) T
 have G_must_be_place:=XI (P:=P) (w:=w) (base:=base) T
 have G_must_be_heap:=Wj (P:=P) (w:=w) (base:=base) T
 refine xa (N:=["web","heap","place","many"]) (ps:=["web","heap","place","many"]) T.d_must_be_asked.fn XH (g:=xw) λcdv A outer s H E hr=>?_
 unfold xw
 exact(zd (X9 (zk G_must_be_web hr rfl T.d_must_be_web (za (edv 0) ze)))
  (zd (X9 (zk G_must_be_heap hr rfl T.d_must_be_heap (za (edv 0) (za (edv 1) ze))))
  (zd (X9 (zk G_must_be_place hr rfl T.d_must_be_place (za (edv 0) (za (edv 2) ze))))
  (zh (X9 (zk G_must_be_within hr rfl T.d_must_be_within (za (edv 3) (za (zf zg) (za (zf (zbN (v:=.int 300) rfl T.g_MOST_STONES ⟨_,rfl⟩)) ze)))))))))
theorem zhQ {f:Fd}{g:Hl}{z:Bool}:zdn false (hD g) (.dct z true (fdK f) (fdT f))=some (.bl (YJ f g).isSome):=by
 show(zcD (hD g)).map (λk=>D.bl (false != (ZU (fdK f) (fdT f) k).isSome))=_
 rw[Zo]
 show some (D.bl (false != (ZU (fdK f) (fdT f) (hK g)).isSome))=_
 rw[Wa,Option.isSome_map]
 cases (YJ f g).isSome <;> rfl
theorem zfq (f:Fd):zcp (.dct true true (fdK f) (fdT f))=some (f.map λe=>hD e.1):=by
 show some ((fdK f).map (zcd true))=_
 unfold fdK
 rw[List.map_map]
 congr 1
 exact List.map_congr_left λe _=>zdD e.1
theorem zc4 {m:Int}{ts:List Tie}(ok:xL m ts):wQ [yb m ts]=some (.lst ((zV m ts).map zi)):=by
 simp only[wQ]
 rw[if_pos ((wH _).mpr ⟨_,_,rfl,ok⟩),ZC,ZO]
noncomputable def vZ:SE->Ctl :=
 (sIf (yr (tOf (zj geD (zj ixD (zc 3) (zj ixD (zc 4) (eC (.int 0)))) (eC (.int 2)))) (tOf (zj (zdn true) (zp 2 ZG (zb (zc 3) (zb (zc 4) zr))) (zc 1)))) (yq (eC (.bl false))) zH)
noncomputable def vO:SE->Ctl :=
 (wG (iOf (zc 2)) (zX 4) vZ)
noncomputable def wV:SE->Ctl :=
 (zS (y4 false 2 (zp 1 wQ (zb (zc 0) zr)))
  (zS (wG (iDct (zc 1)) (zX 3) vO)
  (yq (eC (.bl true)))))
noncomputable def wW:List D->Option D:=fnD 5 wV
theorem zaF (T:Txt K mg ad):xK P w K mg base CX0 4 ad.f_is_closed ad.e_is_closed ["web","held"] (@spD ⟨K⟩ 2 wW):=by
 letI:KK:=⟨K⟩
 have G_all_steps:=zaq (P:=P) (w:=w) (base:=base) T
 have G_stepped:=zc7 (P:=P) (w:=w) (base:=base) T
 refine xa (N:=["web","held","steps","heap","step"]) (ps:=["web","held"]) T.d_is_closed.fn wZ (g:=wV) λcdv A outer s H E hr=>?_
 unfold wV vO vZ
 exact(zd (yi (m:=false) (i:=2) wZ.nd rfl (Or.inl rfl) (zk G_all_steps hr rfl T.d_all_steps (za (edv 0) ze)))
  (zd (vG PassesOwn.never rfl (ziC (edv 1)) (yk (zL (i:=3) wZ.nd rfl (Or.inl rfl))) (zh (vG PassesOwn.never rfl (wL (edv 2)) (yk (zL (i:=4) wZ.nd rfl (Or.inl rfl))) (zh (xm (zdx (zcI (yj zge yF (yc _) (yD (edv 3) (yD (edv 4) (zf zg) (λ_ _=>rfl)) (λ_ _=>rfl)) (zf zg)) (V4 (yj (X6 hr) Wk (by with_unfolding_all rfl) (zk G_stepped hr rfl T.d_stepped (za (edv 3) (za (edv 4) ze))) (edv 1))))) (zh (zC (x9 wc))) zJ)))))
  (zh (zC (x9 wc)))))
noncomputable def wk:SE->Ctl :=
 (zS (sIf (xW (zT (tOf (zp 2 zZ (zb (zc 0) (zb (zc 6) zr))))) (tOf (zj geD (zj ixD (zc 6) (zc 2)) (zc 3)))) (yq (eC (.bl false))) zH)
  (WT false 5 (zc 6) (eC (.bl true))))
noncomputable def yN:SE->Ctl :=
 (zS (vM (zp 4 wJ (zb (zc 0) (zb (zc 1) (zb (zc 2) (zb (zc 3) zr))))))
  (zS (sIf (zT (tOf (eUn (zP .list) (zc 4)))) (yq (eC (.bl false))) zH)
  (zS (ziQ true 5)
  (zS (wG (iOf (zc 4)) (zX 6) wk)
  (zly 5 (yq (wj (zj (zdn false) (zc 1) (zc 5)) (zp 2 wW (zb (zc 0) (zb (zc 5) zr))))))))))
noncomputable def xc:List D->Option D:=fnD 7 yN
theorem Wz (T:Txt K mg ad):xK P w K mg base CX0 9 ad.f_closed_holds ad.e_closed_holds ["web","heap","place","many","thing"] (@spD ⟨K⟩ 5 xc):=by
 letI:KK:=⟨K⟩
 have G_are_stones:=ZM (P:=P) (w:=w) (base:=base) T
 have G_must_be_asked:=XJ (P:=P) (w:=w) (base:=base) T
 have G_is_closed:=zaF (P:=P) (w:=w) (base:=base) T
 refine xa (N:=["web","heap","place","many","thing","held","other"]) (ps:=["web","heap","place","many","thing"]) T.d_closed_holds.fn wU (g:=yN) λcdv A outer s H E hr=>?_
 unfold yN wk
 exact(zd (X9 (zk G_must_be_asked hr rfl T.d_must_be_asked (za (edv 0) (za (edv 1) (za (edv 2) (za (edv 3) ze))))))
  (zd (xm (wv (xJ (zF .list rfl T.z_isinstance (edv 4) (yl (v:=.ty "list") rfl T.z_list Xo rfl)))) (zh (zC (x9 wc))) zJ)
  (zd (ziM (t:=true) (i:=5) wU.nd rfl (Or.inl rfl))
  (zd (vG PassesOwn.never rfl (wL (edv 4)) (yk (zL (i:=6) wU.nd rfl (Or.inl rfl))) (zd (xm (zdx (WM (wv (xJ (zk G_are_stones hr rfl T.d_are_stones (za (edv 0) (za (edv 6) ze))))) (Xp (yj zge yF (yc _) (yD (edv 6) (edv 2) (λ_ _=>rfl)) (edv 3))))) (zh (zC (x9 wc))) zJ)
  (zh (zeu (m:=false) hr (x9 wc) (pv 5) (edv 6)))))
  (zfE 5 (zh (zC (vA (ZK (zhz hr) Wk (by with_unfolding_all rfl) (edv 1) (edv 5)) (YQ (zk G_is_closed hr rfl T.d_is_closed (za (edv 0) (za (edv 5) ze))))))))))))
theorem zme {n:Nat}(h:n<=20000):lim n=true:=decide_eq_true (Nat.le_trans h (by decide))
theorem zk5 {a b:List D}(h:a.length+b.length<=20000):y8 (.lst a) (.lst b)=some (.lst (a++b)):=by
 show(if lim (a.length+b.length)=true then _ else none)=_
 rw[if_pos (zme h)]
theorem zep {it:Ev->Option (List D)}{b:D->Option (List (Option D))}{t:Ev->Option Bool}{f:Ev->Option D}{ρ:Ev}{α:Type}{c:α->D}{p:α->Bool}{y:α->D}{xs:List α}(h1:it ρ=some (xs.map c))(hl:xs.length<=20000)(h:∀ x∈xs,∃ own,b (c x)=some own/\t (own++ρ)=some (p x)/\(p x=true->f (own++ρ)=some (y x))):fLC it b t f ρ=some ((xs.filter p).map y):=by
 unfold fLC
 rw[h1,Option.bind_some,if_pos (zme (by rw[List.length_map];exact hl))]
 exact Xi c p y xs h
theorem zdJ {it:Ev->Option (List D)}{b:D->Option (List (Option D))}{t:Ev->Option Bool}{f:Ev->Option D}{ρ:Ev}{α:Type}{c:α->D}{y:α->D}{xs:List α}(h1:it ρ=some (xs.map c))(hl:xs.length<=20000)(h:∀ x∈xs,∃ own,b (c x)=some own/\t (own++ρ)=some true/\f (own++ρ)=some (y x)):fLC it b t f ρ=some (xs.map y):=by
 unfold fLC
 rw[h1,Option.bind_some,if_pos (zme (by rw[List.length_map];exact hl))]
 exact Wv c y xs h
inductive Ent:D->Prop
 | h (g:Hl):Ent (hD g)
 | l (g:Hl):Ent (.lst (g.map .int))
 | t (g:Hl):Ent (.tup (g.map .int++[.bl true]))
 | n:Ent .non
 | s:Ent (.str "0")
structure Gd (m p n:Int) (g:Hl):Prop where
 len:(g.length:Int)=m
 nn:∀ v∈g,0<=v
 sum:g.sum<=300
 few:vAt g p < n
noncomputable def GdD (m p n:Int)(d:D):Prop:=∃ g,d=hD g/\Gd m p n g
theorem zcj {g g':Hl}(h:hD g=hD g'):g=g':=by
 have h:D.tup (g.map .int)=.tup (g'.map .int):=h
 injection h with h
 have e:=congrArg (List.map zim) h
 rw[wF,wF]at e
 exact e
theorem zjD {g g':Hl}(h:D.tup (g.map .int++[.bl true])=hD g'):False:=by
 have h:D.tup (g.map .int++[.bl true])=.tup (g'.map .int):=h
 injection h with h
 have:D.bl true∈g'.map D.int:=h ▸ List.mem_append_right _ (List.mem_singleton.mpr rfl)
 obtain⟨x,_,hx⟩:=List.mem_map.mp this
 cases hx
theorem zkF (g:Hl):(g.map D.int).all yQ=decide (∀ v∈g,0<=v):=by
 rw[List.all_map,Bool.eq_iff_iff,List.all_eq_true,decide_eq_true_eq]
 constructor
 .exact λh v hv=>of_decide_eq_true (h v hv)
 .exact λh v hv=>decide_eq_true (h v hv)
theorem zfM (m:Int)(g:Hl):xl m (hD g)=(decide ((g.length:Int)=m)&&decide (∀ v∈g,0<=v)&&decide (g.sum<=300)):=by
 show((decide (((g.map D.int).length:Int)=m)&&(g.map D.int).all yQ)&&decide (((g.map D.int).map zim).sum<=300))=_
 rw[List.length_map,zkF,wF]
theorem zix (m:Int)(g:Hl):xl m (.tup (g.map .int++[.bl true]))=false:=by
 show((decide (_=m)&&(g.map D.int++[D.bl true]).all yQ)&&_)=false
 rw[List.all_append,show [D.bl true].all yQ=false from rfl,Bool.and_false,Bool.and_false,Bool.false_and]
theorem zlN (g:Hl):noS (.tup (g.map .int++[.bl true]))=true:=by
 show zdA (g.map D.int++[D.bl true])=true
 induction g with
 | nil=>rfl
 | cons x g ih=>exact ih
theorem zmv (g:Hl):noS (.lst (g.map .int))=true:=by
 show zdA (g.map D.int)=true
 induction g with
 | nil=>rfl
 | cons x g ih=>exact ih
section
variable {m p n:Int}{ts:List Tie}{d:D}{ρ:Ev}
theorem zdb (ok:xL m ts)(he:Ent d):zZ [yb m ts,d]=some (.bl (xl m d)):=by
 show(if (noS d&&decide (m<=1000))=true then some (D.bl (xl m d))else none)=_
 have:noS d=true:=by
  cases he with
  | h g=>exact zcf g
  | l g=>exact zmv g
  | t g=>exact zlN g
  | n=>rfl
  | s=>rfl
 rw[this,zah ok]
 rfl
theorem zl2 (ok:xL m ts)(hp:0<=p/\p < m)(he:Ent d)(h0:zc 0 ρ=some (yb m ts))(h6:zc 6 ρ=some d)(h2:zc 2 ρ=some (.int p))(h3:zc 3 ρ=some (.int n)) :
 ∃ b,xW (zT (tOf (zp 2 zZ (zb (zc 0) (zb (zc 6) zr))))) (tOf (zj geD (zj ixD (zc 6) (zc 2)) (zc 3))) ρ=some b/\(b=false↔GdD m p n d):=by
 have e1:zT (tOf (zp 2 zZ (zb (zc 0) (zb (zc 6) zr)))) ρ=some (!xl m d):=Ze (Ys (yJ (ds:=[yb m ts,d]) (zt h0 (zt h6 xM)) (zdb ok he)))
 have no:xl m d=false->(∀ g,d=hD g->Gd m p n g->xl m d=true)->∃ b,xW (zT (tOf (zp 2 zZ (zb (zc 0) (zb (zc 6) zr))))) (tOf (zj geD (zj ixD (zc 6) (zc 2)) (zc 3))) ρ=some b/\(b=false↔GdD m p n d):=λhf q=>by
  rw[hf]at e1
  refine⟨true,Vc e1,λz=>(by cases z),?_⟩
  rintro⟨g,e,hg⟩
  have:=q g e hg
  rw[hf]at this
  cases this
 cases he with
 | l g=>exact no rfl λg' e=>by cases e
 | n=>exact no rfl λg' e=>by cases e
 | s=>exact no rfl λg' e=>by cases e
 | t g=>exact no (zix m g) λg' e=>(zjD e).elim
 | h g =>
  cases hb:xl m (hD g) with
  | false =>
   refine no hb λg' e hg=>?_
   cases zcj e
   rw[zfM,decide_eq_true hg.len,decide_eq_true hg.nn,decide_eq_true hg.sum]
   rfl
  | true =>
   rw[hb]at e1
   rw[zfM,Bool.and_eq_true,Bool.and_eq_true,decide_eq_true_eq,decide_eq_true_eq,decide_eq_true_eq]at hb
   obtain⟨⟨l1,l2⟩,l3⟩:=hb
   refine⟨decide (n<=vAt g p),WY e1 (Ys (zD (x:=.int (vAt g p)) (y:=.int n) (zD (x:=hD g) (y:=.int p) h6 h2 (wD hp.1 (by omega))) h3 rfl)),?_⟩
   rw[decide_eq_false_iff_not]
   constructor
   .exact λh=>⟨g,rfl,l1,l2,l3,by omega⟩
   .rintro⟨g',e,hg⟩
    cases zcj e
    have:=hg.few
    omega
end
noncomputable def Spec (m p n:Int)(ts:List Tie)(h0:Hl)(T:List D):Prop:=∃ E:List Hl,T=E.map hD/\(∀ g∈E,Gd m p n g)/\h0∈E/\∀ g∈E,∀ s∈zV m ts,2<=vAt g s.1->moved g s∈E
noncomputable def W8 (f:Fd)(g:Hl):Fd:=if (YJ f g).isSome=true then f else f++[(g,none)]
noncomputable def wX (E:List Hl):Fd:=E.foldl W8 []
theorem zfV {f:Fd}{g x:Hl}:InF (W8 f g) x↔InF f x\/x=g:=by
 unfold W8
 split
 .rename_i h
  constructor
  .exact .inl
  .rintro(h | rfl)
   .exact h
   .assumption
 .rw[yy,yy]
  constructor
  .rintro⟨e,he,rfl⟩
   rcases List.mem_append.mp he with he | he
   .exact .inl ⟨e,he,rfl⟩
   .rw[List.mem_singleton.mp he];exact .inr rfl
  .rintro(⟨e,he,rfl⟩ | rfl)
   .exact⟨e,List.mem_append_left _ he,rfl⟩
   .exact⟨(_,none),List.mem_append_right _ (List.mem_singleton.mpr rfl),rfl⟩
theorem zgn (f:Fd)(g:Hl):(W8 f g).length<=f.length+1:=by
 unfold W8
 split
 .omega
 .rw[List.length_append];exact Nat.le_refl _
theorem zba:∀ (E:List Hl) (f:Fd),(E.foldl W8 f).length<=f.length+E.length
 | [],_=>Nat.le_refl _
 | g::E,f=>by
  have h1:=zba E (W8 f g)
  have h2:=zgn f g
  show(E.foldl W8 (W8 f g)).length<=f.length+(E.length+1)
  omega
theorem zha (E:List Hl):(wX E).length<=E.length:=by
 have:=zba E []
 rwa[List.length_nil,Nat.zero_add]at this
theorem zb0 {x:Hl}:∀ (E:List Hl) (f:Fd),InF (E.foldl W8 f) x↔InF f x\/x∈E
 | [],f=>⟨.inl,λh=>h.elim id λh=>by cases h⟩
 | g::E,f=>by
  show InF (E.foldl W8 (W8 f g)) x↔_
  rw[zb0 E,zfV,List.mem_cons,or_assoc]
theorem ziP {x:Hl}:¬ InF ([]:Fd) x:=λh=>by cases h
theorem xT {E:List Hl}{x:Hl}:InF (wX E) x↔x∈E:=(zb0 E []).trans ⟨λh=>h.elim (λh=>(ziP h).elim) id,.inr⟩
theorem zeV (E:List Hl)(g:Hl):wX (E++[g])=W8 (wX E) g:=by
 unfold wX
 rw[List.foldl_append]
 rfl
theorem zd5 (g:Hl):∀ f:Fd,zji (fdK f) (fdT f) (hK g) (.bl true)=fdT f
 | []=>rfl
 | e::f=>by
  show(@ite _ (hK e.1=hK g) (zcF _ _) (D.bl true) (D.bl true))::zji (fdK f) (fdT f) (hK g) (.bl true)=_
  rw[zd5 g f,ite_self]
  rfl
theorem Vt (f:Fd)(g:Hl):Zc (fdK f) (fdT f) (hK g)=fdK (W8 f g)/\Zd (fdK f) (fdT f) (hK g) (.bl true)=fdT (W8 f g):=by
 unfold Zc Zd W8
 rw[Wa,Option.isSome_map]
 cases h:(YJ f g).isSome with
 | true =>
  rw[if_pos rfl,if_pos rfl,if_pos rfl]
  exact⟨rfl,zd5 g f⟩
 | false =>
  rw[if_neg Bool.false_ne_true,if_neg Bool.false_ne_true,if_neg Bool.false_ne_true]
  unfold fdK fdT
  rw[List.map_append,List.map_append]
  exact⟨rfl,rfl⟩
theorem zgJ {m:Bool}{i:Nat}{fk fe:Ev->Option D}{ρ ρ':SE}{f:Fd}{g:Hl}(h1:vEv m fe ρ=some (.bl true))(h2:fk (visG ρ)=some (hD g))(h3:ρ[i]?=some (.m true (fdK f) (fdT f)))(h5:f.length < sizeLine)
 (h6:ρ.set i (.m true (fdK (W8 f g)) (fdT (W8 f g)))=ρ'):WT m i fk fe ρ=.nx ρ':=by
 have e:zdB ρ i (hD g) (D.bl true)=some ρ':=by
  unfold zdB
  rw[h3]
  show(zcD (hD g)).bind (λk=>if decide ((fdK f).length < sizeLine)=true then some (ρ.set i (.m true (Zc (fdK f) (fdT f) k) (Zd (fdK f) (fdT f) k (D.bl true))))else none)=_
  rw[Zo,Option.bind_some,if_pos (decide_eq_true (by unfold fdK;rw[List.length_map];exact h5)),(Vt f g).1,(Vt f g).2,h6]
 unfold WT
 rw[h1,h2]
 show(match zdB ρ i (hD g) (D.bl true)with | some ρ'=>Ctl.nx ρ' | none=>Ctl.no)=_
 rw[e]
theorem YF {α:Type}{l:List α}{i:Nat}{x:α}(h:l[i]?=some x):l.take (i+1)=l.take i++[x]:=by rw[List.take_add_one,h];rfl
theorem zfo {t:Ev->Option Bool}{g:SE->Ctl}{ρ:SE}{n b k:SE->Prop}{r:D->Prop}{c:Bool}(h:t (visG ρ)=some c)(h1:c=true->(g ρ).w n b k r)(h2:c=false->n ρ):(sIf t g zH ρ).w n b k r :=
 Xz h h1 λe=>Y4 rfl (h2 e)
theorem zbq {m:Int}{ts:List Tie}{f:Fd}(ok:xL m ts)(hl:∀ e∈f,e.1.length=m.toNat):∃ b,wW [yb m ts,.dct true true (fdK f) (fdT f)]=some (.bl b)/\(b=true↔∀ e∈f,∀ s∈zV m ts,2<=vAt e.1 s.1->InF f (moved e.1 s)):=by
 have hS:=wP ok
 obtain⟨d,e,b,rfl,hb⟩:=zaZ (m:=5) (g:=wV) (ds:=[yb m ts,.dct true true (fdK f) (fdT f)]) (R:=λd=>∃ b,d=.bl b/\(b=true↔∀ e∈f,∀ s∈zV m ts,2<=vAt e.1 s.1->InF f (moved e.1 s))) (ρ:=[.v (yb m ts),.v (.dct true true (fdK f) (fdT f)),.no,.no,.no]) rfl (by
  unfold wV
  refine zw (ρ':=[.v (yb m ts),.v (.dct true true (fdK f) (fdT f)),.v (.lst ((zV m ts).map zi)),.no,.no]) (wq (zc4 ok)) ?_
  refine yX (ZW (ds:=f.map λe:Hl × Option (Hl × Tie)=>hD e.1) (λi ρ=>∃ o3 o4,ρ=[.v (yb m ts),.v (.dct true true (fdK f) (fdT f)),.v (.lst ((zV m ts).map zi)),o3,o4]/\∀ e∈f.take i,∀ s∈zV m ts,2<=vAt e.1 s.1->InF f (moved e.1 s)) (show zcp _=_ from zfq f) ⟨_,_,rfl,λe he=>by rw[List.take_zero]at he;cases he⟩ ?_ ?_)
  .rintro i d ρ hd ⟨o3,o4,rfl,hi⟩
   rw[List.getElem?_map]at hd
   obtain⟨x,hx,rfl⟩:=Option.map_eq_some_iff.mp hd
   have hm:=List.mem_of_getElem? hx
   have hxl:=hl x hm
   refine⟨[.v (yb m ts),.v (.dct true true (fdK f) (fdT f)),.v (.lst ((zV m ts).map zi)),.v (hD x.1),o4],rfl,?_⟩
   unfold vO
   refine ZW (ds:=(zV m ts).map zi) (λj ρ=>∃ o4,ρ=[.v (yb m ts),.v (.dct true true (fdK f) (fdT f)),.v (.lst ((zV m ts).map zi)),.v (hD x.1),o4]/\∀ s∈(zV m ts).take j,2<=vAt x.1 s.1->InF f (moved x.1 s)) rfl ⟨_,rfl,λs hs=>by rw[List.take_zero]at hs;cases hs⟩ ?_ ?_
   .rintro j d ρ hd ⟨o4,rfl,hj⟩
    rw[List.getElem?_map]at hd
    obtain⟨s,hs0,rfl⟩:=Option.map_eq_some_iff.mp hd
    have hs:=List.mem_of_getElem? hs0
    have hin:=hS s hs
    rw[<-hxl]at hin
    refine⟨[.v (yb m ts),.v (.dct true true (fdK f) (fdT f)),.v (.lst ((zV m ts).map zi)),.v (hD x.1),.v (zi s)],rfl,?_⟩
    unfold vZ
    have e1:tOf (zj geD (zj ixD (zc 3) (zj ixD (zc 4) (eC (.int 0)))) (eC (.int 2))) (visG [.v (yb m ts),.v (.dct true true (fdK f) (fdT f)),.v (.lst ((zV m ts).map zi)),.v (hD x.1),.v (zi s)])=some (decide (2<=vAt x.1 s.1)) :=
     Ys (zD (x:=.int (vAt x.1 s.1)) (y:=.int 2) (zD (x:=hD x.1) (y:=.int s.1) rfl rfl (wD hin.a0 hin.a1)) rfl rfl)
    have e2:tOf (zj (zdn true) (zp 2 ZG (zb (zc 3) (zb (zc 4) zr))) (zc 1)) (visG [.v (yb m ts),.v (.dct true true (fdK f) (fdT f)),.v (.lst ((zV m ts).map zi)),.v (hD x.1),.v (zi s)])=some (!(YJ f (moved x.1 s)).isSome) :=
     Ys (zD (x:=hD (moved x.1 s)) (y:=.dct true true (fdK f) (fdT f)) (yJ (ds:=[hD x.1,zi s]) rfl (zdv hin)) rfl zdP)
    refine zfo (zkB e1 e2) (λc=>Y7 rfl ⟨false,rfl,λz=>(by cases z),λz=>?_⟩) λc=>⟨_,rfl,λt ht h2=>?_⟩
    .rw[Bool.and_eq_true,decide_eq_true_eq]at c
     have hin2:(YJ f (moved x.1 s)).isSome=true:=z x hm s hs c.1
     rw[hin2]at c
     exact c.2
    .rw[YF hs0]at ht
     rcases List.mem_append.mp ht with ht | ht
     .exact hj t ht h2
     .cases List.mem_singleton.mp ht
      rw[decide_eq_true h2,Bool.true_and]at c
      show(YJ f (moved x.1 s)).isSome=true
      cases q:(YJ f (moved x.1 s)).isSome with
      | true=>rfl
      | false=>rw[q]at c;cases c
   .rintro ρ ⟨o4,rfl,hj⟩
    rw[List.length_map,List.take_length]at hj
    refine⟨_,_,rfl,λe he=>?_⟩
    rw[YF hx]at he
    rcases List.mem_append.mp he with he | he
    .exact hi e he
    .cases List.mem_singleton.mp he
     exact hj
  .rintro ρ ⟨o3,o4,rfl,hi⟩
   rw[List.length_map,List.take_length]at hi
   exact Y7 rfl ⟨true,rfl,λ_=>hi,λ_=>rfl⟩)
 exact⟨b,e,hb⟩
theorem VA {m p n:Int}{ts:List Tie}{h0:Hl}{T:List D}{d:D}(hd:d∈T)(hb:¬ GdD m p n d):¬ Spec m p n ts h0 T:=by
 rintro⟨E,rfl,h1,_⟩
 obtain⟨g,hg,rfl⟩:=List.mem_map.mp hd
 exact hb ⟨g,rfl,h1 g hg⟩
theorem Vw {m p n:Int}{ts:List Tie}{h0:Hl}{E:List Hl}(hE:∀ g∈E,Gd m p n g):Spec m p n ts h0 (E.map hD)↔h0∈E/\∀ g∈E,∀ s∈zV m ts,2<=vAt g s.1->moved g s∈E:=by
 constructor
 .rintro⟨E',e,_,h2⟩
  have:E=E':=by
   have q:=congrArg (List.map λd=>match d with | D.tup ds=>ds.map zim | _=>[]) e
   rw[List.map_map,List.map_map]at q
   have v:∀ l:List Hl,l.map ((λd=>match d with | D.tup ds=>ds.map zim | _=>[]) ∘ hD)=l:=λl=>(List.map_congr_left λg _=>wF g).trans (List.map_id _)
   rw[v,v]at q
   exact q
  rw[this]
  exact h2
 .exact λh=>⟨E,rfl,hE,h⟩
theorem zfs {m p n:Int}{T:List D}(h:∀ d∈T,GdD m p n d):∃ E:List Hl,T=E.map hD/\∀ g∈E,Gd m p n g:=by
 induction T with
 | nil=>exact⟨[],rfl,λg hg=>by cases hg⟩
 | cons d T ih =>
  obtain⟨g,rfl,hg⟩:=h d (.head _)
  obtain⟨E,rfl,hE⟩:=ih λx hx=>h x (.tail _ hx)
  exact⟨g::E,rfl,λx hx=>(List.mem_cons.mp hx).elim (λe=>e ▸ hg) (hE x)⟩
theorem WO {m p n:Int}{ts:List Tie}{h0:Hl}{T:List D}(ok:xL m ts)(hl:(h0.length:Int)=m)(hn:∀ v∈h0,0<=v)(hr:h0.sum<=300)(hp:0<=p/\p < m)(n1:1<=n)(n3:n<=300)(hT:∀ d∈T,Ent d)(hTl:T.length<=20000) :
 ∃ b,xc [yb m ts,hD h0,.int p,.int n,.lst T]=some (.bl b)/\(b=true↔Spec m p n ts h0 T):=by
 obtain⟨d,e,b,rfl,hb⟩:=zaZ (m:=7) (g:=yN) (ds:=[yb m ts,hD h0,.int p,.int n,.lst T]) (R:=λd=>∃ b,d=.bl b/\(b=true↔Spec m p n ts h0 T)) (ρ:=[.v (yb m ts),.v (hD h0),.v (.int p),.v (.int n),.v (.lst T),.no,.no]) rfl (by
  unfold yN
  refine zw (Xl (zb4 ok hl hn hr hp n1 n3)) ?_
  refine zw (zho rfl) ?_
  refine zw (ρ':=[.v (yb m ts),.v (hD h0),.v (.int p),.v (.int n),.v (.lst T),.m true (fdK (wX [])) (fdT (wX [])),.no]) rfl ?_
  refine yX (ZW (ds:=T) (λi ρ=>∃ E o6,ρ=[.v (yb m ts),.v (hD h0),.v (.int p),.v (.int n),.v (.lst T),.m true (fdK (wX E)) (fdT (wX E)),o6]/\T.take i=E.map hD/\∀ g∈E,Gd m p n g) rfl ⟨[],_,rfl,rfl,λg hg=>by cases hg⟩ ?_ ?_)
  .rintro i d ρ hd ⟨E,o6,rfl,hE,hG⟩
   have hm:=List.mem_of_getElem? hd
   refine⟨[.v (yb m ts),.v (hD h0),.v (.int p),.v (.int n),.v (.lst T),.m true (fdK (wX E)) (fdT (wX E)),.v d],rfl,?_⟩
   unfold wk
   obtain⟨b,eb,hb⟩:=zl2 (n:=n) (ρ:=visG [.v (yb m ts),.v (hD h0),.v (.int p),.v (.int n),.v (.lst T),.m true (fdK (wX E)) (fdT (wX E)),.v d]) ok hp (hT d hm) rfl rfl rfl rfl
   refine yX (zfo eb (λc=>Y7 rfl ⟨false,rfl,λz=>(by cases z),λz=>(VA hm (λg=>?_) z).elim⟩) λc=>?_)
   .rw[hb.mpr g]at c;cases c
   .obtain⟨g,rfl,hg⟩:=hb.mp c
    have hlen:E.length<=20000:=by
     have:=congrArg List.length hE
     rw[List.length_take,List.length_map]at this
     omega
    refine Y4 (zgJ (f:=wX E) (g:=g) rfl rfl rfl (Nat.lt_of_le_of_lt (Nat.le_trans (zha E) hlen) (by decide)) rfl) ⟨E++[g],.v (hD g),?_,?_,λx hx=>?_⟩
    .rw[zeV];rfl
    .rw[YF hd,hE,List.map_append];rfl
    .rcases List.mem_append.mp hx with hx | hx
     .exact hG x hx
     .rw[List.mem_singleton.mp hx];exact hg
  .rintro ρ ⟨E,o6,rfl,hE,hG⟩
   rw[List.take_length]at hE
   subst hE
   show(yq (wj (zj (zdn false) (zc 1) (zc 5)) (zp 2 wW (zb (zc 0) (zb (zc 5) zr)))) [.v (yb m ts),.v (hD h0),.v (.int p),.v (.int n),.v (.lst (E.map hD)),.v (.dct true true (fdK (wX E)) (fdT (wX E))),o6]).w _ _ _ _
   have e1:zj (zdn false) (zc 1) (zc 5) (visG [.v (yb m ts),.v (hD h0),.v (.int p),.v (.int n),.v (.lst (E.map hD)),.v (.dct true true (fdK (wX E)) (fdT (wX E))),o6])=some (.bl (YJ (wX E) h0).isSome):=zD (x:=hD h0) (y:=.dct true true (fdK (wX E)) (fdT (wX E))) rfl rfl zhQ
   obtain⟨b,e2,hb⟩:=zbq (f:=wX E) ok λe he=>by
    have hin:e.1∈E:=xT.mp (yy.mpr ⟨e,he,rfl⟩)
    have:=(hG _ hin).len
    omega
   have e3:zp 2 wW (zb (zc 0) (zb (zc 5) zr)) (visG [.v (yb m ts),.v (hD h0),.v (.int p),.v (.int n),.v (.lst (E.map hD)),.v (.dct true true (fdK (wX E)) (fdT (wX E))),o6])=some (.bl b):=yJ (ds:=[yb m ts,.dct true true (fdK (wX E)) (fdT (wX E))]) rfl e2
   refine Y7 (vS (zko e1 e3)) ⟨_,rfl,?_⟩
   rw[Bool.and_eq_true,hb,Vw hG]
   refine and_congr xT ⟨λh g hg s hs h2=>?_,λh e he s hs h2=>?_⟩
   .obtain⟨x,hx,rfl⟩:=yy.mp (xT.mpr hg)
    exact xT.mp (h x hx s hs h2)
   .exact xT.mpr (h e.1 (xT.mp (yy.mpr ⟨e,he,rfl⟩)) s hs h2))
 exact⟨b,e,hb⟩
noncomputable def YC:SE->Ctl :=
 (yq (wj (eUn (zP .int) (zc 0)) (YD (eUn (zP .bool) (zc 0)))))
noncomputable def yV:List D->Option D:=fnD 1 YC
theorem Vz (T:Txt K mg ad):xK P w K mg base CX0 1 ad.f__law_whole ad.e__law_whole ["found"] (@spD ⟨K⟩ 1 yV):=by
 letI:KK:=⟨K⟩
 refine xa (N:=["found"]) (ps:=["found"]) T.d__law_whole.fn V3 (g:=YC) λcdv A outer s H E hr=>?_
 unfold YC
 exact(zh (zC (vA (zF .int rfl T.z_isinstance (edv 0) (yl (v:=.ty "int") rfl T.z_int zcG rfl)) (YQ (zeC (zF .bool rfl T.z_isinstance (edv 0) (yl (v:=.ty "bool") rfl T.z_bool Wx rfl)))))))
noncomputable def Yb:SE->Ctl :=
 (sIf (tOf (zj gtD (eFn wY (zb (yK (fLC (iOf (zp 2 vI (zb (zc 0) (zb (zc 5) zr)))) b1 (tOf (zj (zdn true) (zp 2 wb (zb (zc 6) (zb (zc 0) zr))) (zc 7))) (zc 0))) zr)) (eC (.int 0)))) (yq (eC (.bl false))) zH)
noncomputable def Ye:SE->Ctl :=
 (zS (sIf (xW (zT (tOf (eUn (zP .tuple) (zc 5)))) (xW (tOf (zj neD (eFn wY (zb (zc 5) zr)) (zj ixD (zc 0) (eC (.int 0))))) (zT (tOf (eFn zhE (zb (yK (fLC (iOf (zc 5)) b1 yg (zp 1 yV (zb (zc 0) zr)))) zr)))))) (yq (eC (.bl false))) zH)
  (sIf (xW (tOf (zj ltD (eFn zgH (zb (zc 5) zr)) (eC (.int 0)))) (xW (tOf (zj gtD (eFn zjd (zb (zc 5) zr)) (eC (.int 300)))) (tOf (zj geD (zj ixD (zc 5) (zc 2)) (zc 3))))) (yq (eC (.bl false))) zH))
noncomputable def xP:SE->Ctl :=
 (zS (sIf (zT (tOf (eUn (zP .list) (zc 4)))) (yq (eC (.bl false))) zH)
  (zS (wG (iOf (zc 4)) (zX 5) Ye)
  (zS (y4 false 6 (eFn zcC (zb (yK (fLC (iOf (zc 4)) b1 yg (ww (zb (zc 0) (zb (eC (.bl true)) zr))))) zr)))
  (zS (wG (iOf (zc 4)) (zX 5) Yb)
  (yq (zj (zdn false) (zc 1) (zc 6)))))))
noncomputable def wK:List D->Option D:=fnD 7 xP
theorem zil {ns:List Int}{x:Int}(h:x∈ns):zcB ns<=x:=by
 unfold zcB
 cases e:ns.min? with
 | none=>rw[List.min?_eq_none_iff.mp e]at h;cases h
 | some a=>exact(List.min?_eq_some_iff.mp e).2 x h
theorem zg2 {ns:List Int}(h:ns≠[]):zcB ns∈ns:=by
 unfold zcB
 cases e:ns.min? with
 | none=>exact absurd (List.min?_eq_none_iff.mp e) h
 | some a=>exact(List.min?_eq_some_iff.mp e).1
theorem zgI {ns:List Int}(h:ns≠[]):zgH [.tup (ns.map .int)]=some (.int (zcB ns)):=by
 show(zdy (ns.map .int)).bind (λns=>if ns=[]then none else some (D.int (zcB ns)))=_
 rw[X3]
 show(if ns=[]then none else some (D.int (zcB ns)))=_
 rw[if_neg h]
noncomputable def isW:D->Bool
 | .int _=>true
 | _=>false
section
variable {m p n:Int}{ts:List Tie}{h0:Hl}{T:List D}{o6:Sl}
noncomputable abbrev gSt (m p n:Int)(ts:List Tie)(h0:Hl)(T:List D)(o5 o6:Sl):SE:=[.v (yb m ts),.v (hD h0),.v (.int p),.v (.int n),.v (.lst T),o5,o6]
theorem zaV {ds:List D}(hd:∀ d∈ds,yV [d]=some (.bl (isW d)))(hl:ds.length<=20000) :
 zT (tOf (eFn zhE (zb (yK (fLC (iOf (zc 5)) b1 yg (zp 1 yV (zb (zc 0) zr)))) zr))) (visG (gSt m p n ts h0 T (.v (.tup ds)) o6))=some (!ds.all isW):=by
 refine Ze (Ys (zdo (ds:=[.lst (ds.map λd=>.bl (isW d))]) (zt (vd (zdJ (c:=id) (xs:=ds) (Wu (d:=.tup ds) rfl (by rw[List.map_id];rfl)) hl λd hm=>⟨[some d],rfl,rfl,yJ (ds:=[d]) rfl (hd d hm)⟩)) xM) (zbY _ _)))
theorem zhB (v:Int):yV [.int v]=some (.bl (isW (.int v))):=rfl
theorem zlT (v:Bool):yV [.bl v]=some (.bl (isW (.bl v))):=rfl
theorem zj8 {d:D}(hm8:m<=8)(he:Ent d) :
 ∃ b,xW (zT (tOf (eUn (zP .tuple) (zc 5)))) (xW (tOf (zj neD (eFn wY (zb (zc 5) zr)) (zj ixD (zc 0) (eC (.int 0))))) (zT (tOf (eFn zhE (zb (yK (fLC (iOf (zc 5)) b1 yg (zp 1 yV (zb (zc 0) zr)))) zr))))) (visG (gSt m p n ts h0 T (.v d) o6))=some b/\(b=false↔∃ g:Hl,d=hD g/\(g.length:Int)=m):=by
 cases he with
 | l g=>exact⟨true,Vc (Ze (b:=false) rfl),λz=>(by cases z),λ⟨g',e,_⟩=>(by cases e)⟩
 | n=>exact⟨true,Vc (Ze (b:=false) rfl),λz=>(by cases z),λ⟨g',e,_⟩=>(by cases e)⟩
 | s=>exact⟨true,Vc (Ze (b:=false) rfl),λz=>(by cases z),λ⟨g',e,_⟩=>(by cases e)⟩
 | t g =>
  have e1:zT (tOf (eUn (zP .tuple) (zc 5))) (visG (gSt m p n ts h0 T (.v (.tup (g.map .int++[.bl true]))) o6))=some false:=Ze (b:=true) rfl
  have e2:tOf (zj neD (eFn wY (zb (zc 5) zr)) (zj ixD (zc 0) (eC (.int 0)))) (visG (gSt m p n ts h0 T (.v (.tup (g.map .int++[.bl true]))) o6))=some (!decide (((g.map D.int++[D.bl true]).length:Int)=m)):=Ys (zD (x:=.int ((g.map D.int++[D.bl true]).length)) (y:=.int m) rfl rfl rfl)
  refine⟨true,?_,λz=>(by cases z),λ⟨g',e,_⟩=>(zjD e).elim⟩
  refine WY e1 ?_
  by_cases c:((g.map D.int++[D.bl true]).length:Int)=m
  .rw[decide_eq_true c]at e2
   refine WY e2 ((zaV (λd hd=>?_) (by omega)).trans ?_)
   .rcases List.mem_append.mp hd with hd | hd
    .obtain⟨v,_,rfl⟩:=List.mem_map.mp hd
     exact zhB v
    .rw[List.mem_singleton.mp hd]
     exact zlT true
   .rw[List.all_append,show [D.bl true].all isW=false from rfl,Bool.and_false]
    rfl
  .rw[decide_eq_false c]at e2
   exact Vc e2
 | h g =>
  have e1:zT (tOf (eUn (zP .tuple) (zc 5))) (visG (gSt m p n ts h0 T (.v (hD g)) o6))=some false:=Ze (b:=true) rfl
  have e2:tOf (zj neD (eFn wY (zb (zc 5) zr)) (zj ixD (zc 0) (eC (.int 0)))) (visG (gSt m p n ts h0 T (.v (hD g)) o6))=some (!decide (((g.map D.int).length:Int)=m)):=Ys (zD (x:=.int ((g.map D.int).length)) (y:=.int m) rfl rfl rfl)
  by_cases c:((g.map D.int).length:Int)=m
  .rw[decide_eq_true c]at e2
   have c2:(g.length:Int)=m:=by rw[List.length_map]at c;exact c
   refine⟨false,WY e1 (WY e2 ((zaV (ds:=g.map .int) (λd hd=>?_) (by omega)).trans ?_)),λ_=>⟨g,rfl,c2⟩,λ_=>rfl⟩
   .obtain⟨v,_,rfl⟩:=List.mem_map.mp hd
    exact zhB v
   .have:(g.map D.int).all isW=true:=by
     rw[List.all_map,List.all_eq_true]
     exact λ_ _=>rfl
    rw[this]
    rfl
  .rw[decide_eq_false c]at e2
   refine⟨true,WY e1 (Vc e2),λz=>(by cases z),λ⟨g',e,hl⟩=>?_⟩
   cases zcj e
   exact absurd (by rw[List.length_map];exact hl) c
theorem zj0 {g:Hl}(hp:0<=p/\p < m)(hl:(g.length:Int)=m) :
 ∃ b,xW (tOf (zj ltD (eFn zgH (zb (zc 5) zr)) (eC (.int 0)))) (xW (tOf (zj gtD (eFn zjd (zb (zc 5) zr)) (eC (.int 300)))) (tOf (zj geD (zj ixD (zc 5) (zc 2)) (zc 3)))) (visG (gSt m p n ts h0 T (.v (hD g)) o6))=some b/\(b=false↔Gd m p n g):=by
 have hne:g≠[]:=λz=>by rw[z]at hl;have:(0:Int)=m:=hl;omega
 refine⟨_,zjJ (Ys (zD (x:=.int (zcB g)) (y:=.int 0) (zdo (ds:=[hD g]) rfl (zgI hne)) rfl rfl)) (zjJ (Ys (zD (x:=.int g.sum) (y:=.int 300) (zdo (ds:=[hD g]) rfl (zd1 g)) rfl rfl)) (Ys (zD (x:=.int (vAt g p)) (y:=.int n) (zD (x:=hD g) (y:=.int p) rfl rfl (wD hp.1 (by omega))) rfl rfl))),?_⟩
 rw[Bool.or_eq_false_iff,Bool.or_eq_false_iff,decide_eq_false_iff_not,decide_eq_false_iff_not,decide_eq_false_iff_not]
 constructor
 .rintro⟨a,b,c⟩
  exact⟨hl,λv hv=>by have:=zil hv;omega,by omega,by omega⟩
 .rintro⟨_,a,b,c⟩
  have:=a _ (zg2 hne)
  exact⟨by omega,by omega,by omega⟩
end
theorem zhF:∀ E:List Hl,zjg (E.map λg=>.tup [hD g,.bl true])=some (E.map λg=>(hK g,D.bl true))
 | []=>rfl
 | g::E=>by
  show((zcD (hD g)).map λk=>(k,D.bl true)).bind (λq=>(zjg (E.map λg=>D.tup [hD g,.bl true])).map (q::·))=_
  rw[Zo,zhF E]
  rfl
theorem zej:∀ (E:List Hl) (f:Fd),zds (fdK f) (fdT f) (E.map λg=>(hK g,D.bl true))=(fdK (E.foldl W8 f),fdT (E.foldl W8 f))
 | [],_=>rfl
 | g::E,f=>by
  show zds (Zc (fdK f) (fdT f) (hK g)) (Zd (fdK f) (fdT f) (hK g) (.bl true)) (E.map λg=>(hK g,D.bl true))=_
  rw[(Vt f g).1,(Vt f g).2,zej E]
  rfl
theorem zg1 (E:List Hl):zcC [.lst (E.map λg=>.tup [hD g,.bl true])]=some (.dct true true (fdK (wX E)) (fdT (wX E))):=by
 show(zjg (E.map λg=>D.tup [hD g,.bl true])).map (λps=>D.dct true true (zds [] [] ps).1 (zds [] [] ps).2)=_
 rw[zhF]
 have:=zej E []
 show some (D.dct true true (zds (fdK []) (fdT []) (E.map λg=>(hK g,D.bl true))).1 (zds (fdK []) (fdT []) (E.map λg=>(hK g,D.bl true))).2)=_
 rw[this]
 rfl
theorem zcY {m p n:Int}{ts:List Tie}{h0:Hl}{T:List D}(ok:xL m ts)(h28:ts.length<=28)(hp:0<=p/\p < m)(hT:∀ d∈T,Ent d)(hTl:T.length<=20000) :
 ∃ b,wK [yb m ts,hD h0,.int p,.int n,.lst T]=some (.bl b)/\(b=true↔Spec m p n ts h0 T):=by
 have hm8:=ok.hi
 have hS:=wP ok
 obtain⟨d,e,b,rfl,hb⟩:=zaZ (m:=7) (g:=xP) (ds:=[yb m ts,hD h0,.int p,.int n,.lst T]) (R:=λd=>∃ b,d=.bl b/\(b=true↔Spec m p n ts h0 T)) (ρ:=gSt m p n ts h0 T .no .no) rfl (by
  unfold xP
  refine zw (zho rfl) ?_
  refine yX (ZW (ds:=T) (λi ρ=>∃ o5,ρ=gSt m p n ts h0 T o5 .no/\∀ d∈T.take i,GdD m p n d) rfl ⟨_,rfl,λd hd=>by rw[List.take_zero]at hd;cases hd⟩ ?_ ?_)
  .rintro i d ρ hd ⟨o5,rfl,hi⟩
   have hm:=List.mem_of_getElem? hd
   refine⟨gSt m p n ts h0 T (.v d) .no,rfl,?_⟩
   unfold Ye
   obtain⟨b,eb,hb⟩:=zj8 (p:=p) (n:=n) (ts:=ts) (h0:=h0) (T:=T) (o6:=.no) hm8 (hT d hm)
   refine yX (zfo eb (λc=>Y7 rfl ⟨false,rfl,λz=>(by cases z),λz=>(VA hm (λq=>?_) z).elim⟩) λc=>?_)
   .obtain⟨g,e,hg⟩:=q
    rw[hb.mpr ⟨g,e,hg.len⟩]at c;cases c
   .obtain⟨g,rfl,hg⟩:=hb.mp c
    obtain⟨b2,eb2,hb2⟩:=zj0 (n:=n) (ts:=ts) (h0:=h0) (T:=T) (o6:=.no) hp hg
    refine zfo eb2 (λc=>Y7 rfl ⟨false,rfl,λz=>(by cases z),λz=>(VA hm (λq=>?_) z).elim⟩) λc=>⟨_,rfl,λx hx=>?_⟩
    .obtain⟨g',e,hg'⟩:=q
     cases zcj e
     rw[hb2.mpr hg']at c;cases c
    .rw[YF hd]at hx
     rcases List.mem_append.mp hx with hx | hx
     .exact hi x hx
     .rw[List.mem_singleton.mp hx];exact⟨g,rfl,hb2.mp c⟩
  .rintro ρ ⟨o5,rfl,hi⟩
   rw[List.take_length]at hi
   obtain⟨E,rfl,hG⟩:=zfs hi
   rw[List.length_map]at hTl
   refine zw (ρ':=gSt m p n ts h0 (E.map hD) o5 (.v (.dct true true (fdK (wX E)) (fdT (wX E))))) (WN (zdo (ds:=[.lst (E.map λg=>.tup [hD g,.bl true])]) (zt (vd (zdJ (c:=hD) (xs:=E) (Wu (d:=.lst (E.map hD)) rfl rfl) hTl λg hg=>⟨[some (hD g)],rfl,rfl,zhC (ds:=[hD g,.bl true]) rfl (by show 2<=1000;decide)⟩)) xM) (zg1 E))) ?_
   refine yX (ZW (ds:=E.map hD) (λi ρ=>∃ o5,ρ=gSt m p n ts h0 (E.map hD) o5 (.v (.dct true true (fdK (wX E)) (fdT (wX E))))/\∀ g∈E.take i,∀ s∈zV m ts,2<=vAt g s.1->moved g s∈E) rfl ⟨_,rfl,λd hd=>by rw[List.take_zero]at hd;cases hd⟩ ?_ ?_)
   .rintro i d ρ hd ⟨o5,rfl,hi⟩
    rw[List.getElem?_map]at hd
    obtain⟨g,hg,rfl⟩:=Option.map_eq_some_iff.mp hd
    have hm:=List.mem_of_getElem? hg
    have hgl:=(hG g hm).len
    refine⟨gSt m p n ts h0 (E.map hD) (.v (hD g)) (.v (.dct true true (fdK (wX E)) (fdT (wX E)))),rfl,?_⟩
    unfold Yb
    have em:=W9 (ns:=g) ok h28 hgl
    obtain⟨M,hM⟩:∃ M,V1 (zbe g ts)=M:=⟨_,rfl⟩
    have hmem:∀ s,s∈M↔s∈zV m ts/\2<=vAt g s.1:=λs=>by rw[<-hM];exact zfi ok
    have hMl:M.length<=20000:=by
     rw[<-hM,(W6 _).length_eq]
     have:=vU g ts
     omega
    rw[hM]at em
    obtain⟨X,hX⟩:∃ X,M.filter (λs=>!(YJ (wX E) (moved g s)).isSome)=X:=⟨_,rfl⟩
    have el:eFn wY (zb (yK (fLC (iOf (zp 2 vI (zb (zc 0) (zb (zc 5) zr)))) b1 (tOf (zj (zdn true) (zp 2 wb (zb (zc 6) (zb (zc 0) zr))) (zc 7))) (zc 0))) zr) (visG (gSt m p n ts h0 (E.map hD) (.v (hD g)) (.v (.dct true true (fdK (wX E)) (fdT (wX E))))))=some (.int (X.map zi).length):=by
     refine zdo (ds:=[.lst (X.map zi)]) (zt (vd ?_) xM) rfl
     rw[<-hX]
     refine zep (c:=zi) (xs:=M) (Wu (d:=.lst (M.map zi)) (yJ (ds:=[yb m ts,hD g]) rfl em) rfl) hMl λs hs=>⟨[some (zi s)],rfl,?_,λ_=>rfl⟩
     have hin:=hS s ((hmem s).mp hs).1
     rw[show m.toNat=g.length by omega]at hin
     exact Ys (zD (x:=hD (moved g s)) (y:=.dct true true (fdK (wX E)) (fdT (wX E))) (yJ (ds:=[hD g,zi s]) rfl (zas hin)) rfl zdP)
    refine zfo (c:=decide (0 < ((X.map zi).length:Int))) (Ys (zD (x:=.int (X.map zi).length) (y:=.int 0) el rfl rfl)) (λc=>Y7 rfl ⟨false,rfl,λz=>(by cases z),λz=>?_⟩) λc=>⟨_,rfl,λx hx=>?_⟩
    .exfalso
     rw[Vw hG]at z
     rw[decide_eq_true_eq,List.length_map]at c
     cases X with
     | nil=>exact absurd c (by decide)
     | cons s X =>
      have hs:s∈M.filter λs=>!(YJ (wX E) (moved g s)).isSome:=hX ▸ List.mem_cons_self
      rw[List.mem_filter]at hs
      obtain⟨h1,h2⟩:=(hmem s).mp hs.1
      have h3:(YJ (wX E) (moved g s)).isSome=true:=xT.mpr (z.2 g hm s h1 h2)
      rw[h3]at hs
      cases hs.2
    .rw[YF hg]at hx
     rcases List.mem_append.mp hx with hx | hx
     .exact hi x hx
     .cases List.mem_singleton.mp hx
      intro s hs h2
      rw[decide_eq_false_iff_not,List.length_map]at c
      have hX0:X=[]:=List.length_eq_zero_iff.mp (by omega)
      cases q:(YJ (wX E) (moved g s)).isSome with
      | true=>exact xT.mp q
      | false =>
       have:s∈M.filter λs=>!(YJ (wX E) (moved g s)).isSome:=List.mem_filter.mpr ⟨(hmem s).mpr ⟨hs,h2⟩,by rw[q];rfl⟩
       rw[hX,hX0]at this
       cases this
   .rintro ρ ⟨o5,rfl,hi⟩
    rw[List.length_map,List.take_length]at hi
    refine Y7 (vS (zD (x:=hD h0) (y:=.dct true true (fdK (wX E)) (fdT (wX E))) rfl rfl zhQ)) ⟨_,rfl,?_⟩
    rw[Vw hG]
    exact⟨λh=>⟨xT.mp h,hi⟩,λh=>xT.mpr h.1⟩)
 exact⟨b,e,hb⟩
theorem zaG (T:Txt K mg ad):xK P w K mg base CX0 2 ad.f__law_good ad.e__law_good ["web","heap","place","stones","thing"] (@spD ⟨K⟩ 5 wK):=by
 letI:KK:=⟨K⟩
 have G__law_whole:=Vz (P:=P) (w:=w) (base:=base) T
 have G__law_may:=Wt (P:=P) (w:=w) (base:=base) T
 have G__law_moved:=ZX (P:=P) (w:=w) (base:=base) T
 refine xa (N:=["web","heap","place","stones","thing","other","known"]) (ps:=["web","heap","place","stones","thing"]) T.d__law_good.fn vg (g:=xP) λcdv A outer s H E hr=>?_
 unfold xP Ye Yb
 exact(zd (xm (wv (xJ (zF .list rfl T.z_isinstance (edv 4) (yl (v:=.ty "list") rfl T.z_list Xo rfl)))) (zh (zC (x9 wc))) zJ)
  (zd (vG PassesOwn.never rfl (wL (edv 4)) (yk (zL (i:=5) vg.nd rfl (Or.inr rfl))) (zd (xm (zdx (WM (wv (xJ (zF .tuple rfl T.z_isinstance (edv 5) (yl (v:=.ty "tuple") rfl T.z_tuple xh rfl)))) (WM (yj zaC Xr (yc _) (yx yB YI rfl T.z_len Xy (za (edv 5) ze)) (yD (edv 0) (zf zg) (λ_ _=>rfl))) (Xp (wv (xJ (yx (zac rfl) zeZ rfl T.z_all zhL (za (x5 (zaA (L:=["part"]) (M:=["web","heap","place","stones","thing","other","known"]) rfl (ZE (by rfl) (by rfl) (by rfl) (by with_unfolding_all rfl) (by rfl) (by rfl) (by kernel_rfl) vY) (wL (edv 5)) gs1 rb1 (λ_ _ _ _=>(zL (i:=0) zlZ rfl (Or.inl rfl) (.inr rfl))) (λ_ _ _ _=>(zk G__law_whole hr rfl T.d__law_whole (za (edv 0) ze))))) ze)))))))) (zh (zC (x9 wc))) zJ)
  (zh (xm (zdx (WM (yj zk1 yF (yc _) (yx (ze4 rfl) zg3 rfl T.z_min zfH (za (edv 5) ze)) (zf zg)) (WM (yj zcN yF (yc _) (yx (zae rfl) zek rfl T.z_sum zhq (za (edv 5) ze)) (zf zg)) (Xp (yj zge yF (yc _) (yD (edv 5) (edv 2) (λ_ _=>rfl)) (edv 3)))))) (zh (zC (x9 wc))) zJ))))
  (zd (yi (m:=false) (i:=6) vg.nd rfl (Or.inr rfl) (vC (zdl hr) zdH rfl T.z_dict ziu (za (x5 (zaA (L:=["other"]) (M:=["web","heap","place","stones","thing","·other","known"]) rfl (ZE (by rfl) (by rfl) (by rfl) (by with_unfolding_all rfl) (by rfl) (by rfl) (by kernel_rfl) vY) (wL (edv 4)) gs1 rb1 (λ_ _ _ _=>(zL (i:=0) zlH rfl (Or.inl rfl) (.inr rfl))) (λ_ _ _ _=>(Yv (za (edv 0) (za (x9 wc) ze)))))) ze)))
  (zd (vG PassesOwn.never rfl (wL (edv 4)) (yk (zL (i:=5) vg.nd rfl (Or.inr rfl))) (zh (xm (yj zcN yF (yc _) (yx yB YI rfl T.z_len Xy (za (x5 (zcE (L:=["step"]) (M:=["web","heap","place","stones","thing","other","known"]) rfl (ZE (by rfl) (by rfl) (by rfl) (by with_unfolding_all rfl) (by rfl) (by rfl) (by kernel_rfl) (all_cons rfl (all_cons rfl vY))) (wL (zk G__law_may hr rfl T.d__law_may (za (edv 0) (za (edv 5) ze)))) gs1 rb1 (λ_ _ _ _=>(zL (i:=0) zmp rfl (Or.inl rfl) (.inr rfl))) (λ_ _ _ _=>(yj (X6 hr) Wk (by with_unfolding_all rfl) (zk G__law_moved hr rfl T.d__law_moved (za (edv 6) (za (edv 0) ze))) (edv 7))) (λ_ _ _ _=>(edv 0)))) ze)) (zf zg)) (zh (zC (x9 wc))) zJ)))
  (zh (zC (ZK (zhz hr) Wk (by with_unfolding_all rfl) (edv 1) (edv 6))))))))
noncomputable def xg:SE->Ctl :=
 (zS (y4 false 2 (yK (zI (zb (yK (fFn yS (zb (zc 0) zr))) (zb (eSl slD (zc 0) (yf (eC (.int 1))) yn) (zb (zj y8 (zc 0) (ww (zb (eC (.int 0)) zr))) (zb (zj y8 (eSl slD (zc 0) yn (yf (eUn Yp (eC (.int 1))))) (ww (zb (eUn Yp (eC (.int 1))) zr))) (zb (zj y8 (eSl slD (zc 0) yn (yf (eUn Yp (eC (.int 1))))) (ww (zb (eC (.bl true)) zr))) (zb (eC .non) (zb (eC (.str "0")) (zb (zj y8 (eSl slD (zc 0) yn (yf (eUn Yp (eC (.int 1))))) (ww (zb (eC (.int 301)) zr))) zr)))))))))))
  (yq (zj ixD (zc 2) (zj yP (zc 1) (eC (.int 8))))))
noncomputable def vw:List D->Option D:=fnD 3 xg
theorem zg4 {α:Type}{xs:List α}{lo hi:Option Int}{x:α}(h:x∈X1 xs lo hi):x∈xs:=by
 unfold X1 at h
 exact List.mem_of_mem_drop (List.mem_of_mem_take h)
theorem zcy {α β:Type}(f:α->β)(xs:List α)(lo hi:Option Int):X1 (xs.map f) lo hi=(X1 xs lo hi).map f:=by
 unfold X1
 rw[List.length_map,<- List.map_drop,<- List.map_take]
theorem zdR {g:D->Option Int->Option Int->Option D}{f:Ev->Option D}{l h:Ev->Option (Option Int)}{ρ:Ev}{x z:D}{lo hi:Option Int}(h1:f ρ=some x)(h2:l ρ=some lo)(h3:h ρ=some hi)(h4:g x lo hi=some z):eSl g f l h ρ=some z:=by
 unfold eSl
 rw[h1,h2,h3]
 exact h4
theorem zj6 {P:D->Prop}{ds:List D}{j:Int}(h:∀ d∈ds,P d)(h0:0<=j)(h1:j < ds.length):∃ d,L2.atI ds j=some d/\P d:=by
 have hj:j.toNat < ds.length:=by omega
 exact⟨ds[j.toNat],zhK h0 (List.getElem?_eq_getElem hj),h _ (List.getElem_mem hj)⟩
theorem zdp {g:Hl}{k:Int}(hl:g.length<=100):∃ d,vw [hD g,.int k]=some d/\Ent d:=by
 obtain⟨c,hc⟩:∃ c:Hl,X1 g none (some (-1))=c:=⟨_,rfl⟩
 have cl:c.length<=100:=by rw[<-hc];exact Nat.le_trans (V2 _ _ _) hl
 have ec:∀ ρ:Ev,zc 0 ρ=some (hD g)->eSl slD (zc 0) yn (yf (eUn Yp (eC (.int 1)))) ρ=some (hD c):=fun ρ h=>by
  refine zdR (x:=hD g) (lo:=none) (hi:=some (-1)) h rfl rfl ?_
  show some (D.tup (X1 (g.map .int) none (some (-1))))=_
  rw[zcy,hc]
  rfl
 have cat:∀ (a:Hl) (x:D),a.length<=100->y8 (hD a) (.tup [x])=some (.tup (a.map .int++[x])):=λa x h=>by
  refine zhe ?_
  rw[List.length_map]
  show a.length+1<=1000
  omega
 have one:∀ (f:Ev->Option D) (ρ:Ev) (x:D),f ρ=some x->ww (zb f zr) ρ=some (.tup [x]):=λf ρ x h=>zhC (zt h xM) (by show 1<=1000;decide)
 refine zaZ (m:=3) (g:=xg) (R:=Ent) (ρ:=[.v (hD g),.v (.int k),.no]) rfl ?_
 unfold xg
 refine zw (ρ':=[.v (hD g),.v (.int k),.v (.lst [.lst (g.map .int),hD (X1 g (some 1) none),.tup (g.map .int++[.int 0]),.tup (c.map .int++[.int (-1)]),.tup (c.map .int++[.bl true]),.non,.str "0",.tup (c.map .int++[.int 301])])]) (WN (vd (Xn (zt (vd (zhy (ds:=[hD g]) rfl rfl)) (zt ?_ (zt (zD (x:=hD g) (y:=.tup [.int 0]) rfl (one _ _ _ rfl) (cat g _ hl)) (zt (zD (x:=hD c) (y:=.tup [.int (-1)]) (ec _ rfl) (one _ _ _ rfl) (cat c _ cl)) (zt (zD (x:=hD c) (y:=.tup [.bl true]) (ec _ rfl) (one _ _ _ rfl) (cat c _ cl)) (zt rfl (zt rfl (zt (zD (x:=hD c) (y:=.tup [.int 301]) (ec _ rfl) (one _ _ _ rfl) (cat c _ cl)) xM)))))))) (by show 8<=1000;decide)))) ?_
 .refine zdR (x:=hD g) (lo:=some 1) (hi:=none) rfl rfl rfl ?_
  show some (D.tup (X1 (g.map .int) (some 1) none))=_
  rw[zcy]
  rfl
 obtain⟨j,hj⟩:∃ j:Int,k % 8=j:=⟨_,rfl⟩
 obtain⟨j0,j1⟩:=wE (by decide) hj
 have sn:∀ (a:Hl) (v:Int),D.tup (a.map .int++[.int v])=hD (a++[v]):=λa v=>by
  show _=D.tup ((a++[v]).map .int)
  rw[List.map_append]
  rfl
 obtain⟨d,ed,hd⟩:=zj6 (P:=Ent) (ds:=[.lst (g.map .int),hD (X1 g (some 1) none),.tup (g.map .int++[.int 0]),.tup (c.map .int++[.int (-1)]),.tup (c.map .int++[.bl true]),.non,.str "0",.tup (c.map .int++[.int 301])]) (j:=j) (λd hd=>by
  rw[sn,sn,sn]at hd
  simp only[List.mem_cons,List.not_mem_nil,or_false]at hd
  rcases hd with rfl | rfl | rfl | rfl | rfl | rfl | rfl | rfl
  .exact .l g
  .exact .h _
  .exact .h _
  .exact .h _
  .exact .t c
  .exact .n
  .exact .s
  .exact .h _) j0 j1
 exact Y7 (vS (zD (x:=.lst _) (y:=.int j) rfl (zD (x:=.int k) (y:=.int 8) rfl rfl (by rw[yH (by decide),hj])) ed)) hd
noncomputable def ThE (d:D):Prop:=(∃ T,d=.lst T/\(∀ e∈T,Ent e)/\T.length<=20000)\/zP .list d=some (.bl false)
noncomputable def ELe (f:Ev->Option D)(ρ:Ev)(n:Nat):Prop:=∃ es,f ρ=some (.lst es)/\(∀ e∈es,Ent e)/\es.length<=n
theorem ELe.add {f g:Ev->Option D}{ρ:Ev}{n k:Nat}(e:ELe f ρ n)(e':ELe g ρ k)(h:n+k<=20000):ELe (zj y8 f g) ρ (n+k):=by
 obtain⟨es,e1,e2,e3⟩:=e
 obtain⟨ds,d1,d2,d3⟩:=e'
 refine⟨es++ds,zD e1 d1 (zk5 (by omega)),λx hx=>?_,by rw[List.length_append];omega⟩
 rcases List.mem_append.mp hx with h | h
 .exact e2 x h
 .exact d2 x h
theorem ELe.sl {f:Ev->Option D}{ρ:Ev}{n:Nat}(e:ELe f ρ n){l h:Ev->Option (Option Int)}{lo hi:Option Int}(h2:l ρ=some lo)(h3:h ρ=some hi):ELe (eSl slD f l h) ρ n:=by
 obtain⟨es,e1,e2,e3⟩:=e
 exact⟨X1 es lo hi,zdR e1 h2 h3 rfl,λx hx=>e2 x (zg4 hx),Nat.le_trans (V2 _ _ _) e3⟩
theorem ELe.one {f:Ev->Option D}{ρ:Ev}{d:D}(e:f ρ=some d)(h:Ent d):ELe (yK (zI (zb f zr))) ρ 1 :=
 ⟨[d],vd (Xn (zt e xM) (by show 1<=1000;decide)),λx hx=>by rw[List.mem_singleton.mp hx];exact h,Nat.le_refl _⟩
theorem ELe.hs {f:Ev->Option D}{ρ:Ev}{E:List Hl}{n:Nat}(e:f ρ=some (.lst (E.map hD)))(h:E.length<=n):ELe f ρ n :=
 ⟨_,e,λx hx=>by obtain⟨g,_,rfl⟩:=List.mem_map.mp hx;exact .h g,by rw[List.length_map];exact h⟩
theorem ELe.th {f:Ev->Option D}{ρ:Ev}{n:Nat}(e:ELe f ρ n)(h:n<=20000):∃ d,f ρ=some d/\ThE d:=by
 obtain⟨es,a,b,c⟩:=e
 exact⟨_,a,.inl ⟨es,rfl,b,by omega⟩⟩
theorem zg6 {ρ:Ev}{f:Ev->Option D}{i:Int}(h:f ρ=some (.int i)):yf f ρ=some (some i):=by
 unfold yf
 rw[h]
 rfl
theorem zhj (g:Hl):okE 20 (hD g)=true:=by
 show(g.map D.int).all (okE 19)=true
 rw[List.all_map,List.all_eq_true]
 exact λ_ _=>rfl
theorem zgx (g:Hl)(R:List Hl):zd2 (hD g) (.lst (R.map hD))=some (.bl (!(R.map hD).any λe=>eqN 20 e (hD g))):=by
 show(zgf (hD g) (R.map hD)).map (λb=>D.bl (!b))=_
 unfold zgf
 rw[if_pos ⟨zhj g,by rw[List.all_map,List.all_eq_true];exact λx _=>zhj x⟩]
 rfl
theorem ne_h (a b:Hl):zjk (hD a) (hD b)=some (.bl (!eqN 20 (hD a) (hD b))):=by
 show(if (okE 20 (hD a)&&okE 20 (hD b))=true then some (D.bl (!eqN 20 (hD a) (hD b)))else none)=_
 rw[zhj,zhj]
 rfl
theorem zaP {m:Int}{ts:List Tie}{h0:Hl}{E:List Hl}{B k:Nat}(ok:xL m ts)(hl:(h0.length:Int)=m)(hn:∀ v∈h0,0<=v)(hE:∀ g,g∈E↔Beh (zV m ts) h0 g)(hs:∃ l:List Hl,l.Nodup/\E=wM l)(hb:h0.sum.toNat+1<=B)(hk:m.toNat<=k)(hB:1<=B):E.length<=B ^ k:=by
 obtain⟨l,hnd,rfl⟩:=hs
 have hm1:=ok.lo
 have h0k:HOk m.toNat h0.sum h0:=⟨by omega,hn,Int.le_refl _⟩
 have hs0:=W3 hn
 have e:=zcu (B:=h0.sum.toNat+1) (m:=m.toNat) (l:=wM l) ((wS l).nodup_iff.mpr hnd) λx hx=>by
  have b:=((hE x).mp hx).ok (wP ok) h0k
  refine⟨b.len,λv hv=>⟨b.nn v hv,?_⟩⟩
  have:=Xe b.nn hv
  have:=b.sum
  omega
 exact Nat.le_trans e (Nat.le_trans (Nat.pow_le_pow_left hb _) (Nat.pow_le_pow_right hB hk))
theorem Wo (T:Txt K mg ad):xK P w K mg base CX0 1 ad.f__law_no_heap ad.e__law_no_heap ["heap","number"] (@spD ⟨K⟩ 2 vw):=by
 letI:KK:=⟨K⟩
 refine xa (N:=["heap","number","some"]) (ps:=["heap","number"]) T.d__law_no_heap.fn YT (g:=xg) λcdv A outer s H E hr=>?_
 unfold xg
 exact(zd (yi (m:=false) (i:=2) YT.nd rfl (Or.inl rfl) (x5 (xH (za (x5 (zbo rfl T.z_list (za (edv 0) ze))) (za (ve (edv 0) (vT (zf zg)) Zv) (za (zW (edv 0) (Yv (za (zf zg) ze))) (za (zW (ve (edv 0) Zv (vT (zbT (zf zg)))) (Yv (za (zbT (zf zg)) ze))) (za (zW (ve (edv 0) Zv (vT (zbT (zf zg)))) (Yv (za (x9 wc) ze))) (za (zb6 zb9) (za (zks zkP) (za (zW (ve (edv 0) Zv (vT (zbT (zf zg)))) (Yv (za (zf zg) ze))) ze)))))))))))
  (zh (zC (yD (edv 2) (xo (edv 1) (zf zg)) (λ_ _=>rfl)))))
noncomputable def yM:SE->Ctl :=
 (zS (y4 false 4 (zj yP (zp 2 zG (zb (zc 3) (zb (eC (.int 5)) zr))) (eFn wY (zb (zc 2) zr))))
  (zS (y4 false 5 (zp 3 xX (zb (zj ixD (zc 0) (eC (.int 0))) (zb (zc 3) (zb (eC (.int 6)) zr)))))
  (zS (y4 false 6 (zp 2 vw (zb (zj ixD (zc 2) (zc 4)) (zb (zp 2 zG (zb (zc 3) (zb (eC (.int 6)) zr))) zr))))
  (zS (y4 false 7 (zj y8 (zc 2) (yK (fLC (iOf (zp 2 xB (zb (zc 0) (zb (zc 5) zr)))) b1 (tOf (zj zd2 (zc 0) (zc 3))) (zc 0)))))
  (zS (y4 false 8 (yK (zI (zb (zc 2) (zb (zj y8 (eSl slD (zc 2) yn (yf (zc 4))) (eSl slD (zc 2) (yf (zj y8 (zc 4) (eC (.int 1)))) yn)) (zb (zj y8 (zc 2) (eSl slD (zc 2) (yf (zc 4)) (yf (zj y8 (zc 4) (eC (.int 1)))))) (zb (zc 7) (zb (zj y8 (zc 2) (yK (zI (zb (zc 5) zr)))) (zb (eFn zR (zb (zc 2) zr)) zr)))))))))
  (zS (y4 false 8 (zj y8 (zc 8) (yK (zI (zb (zj y8 (zc 2) (yK (zI (zb (zc 6) zr)))) (zb (eC .non) zr))))))
  (zS (y4 false 8 (zj y8 (zc 8) (yK (zI (zb (yK (fLC (iOf (zc 2)) b1 (tOf (zj zjk (zc 0) (zc 2))) (zc 0))) (zb (zj y8 (yK (zI (zb (zc 6) zr))) (zc 2)) (zb (yK (zI zr)) (zb (yK (zI (zb (zc 1) zr))) (zb (yK (zjt (zc 7))) zr)))))))))
  (yq (zj ixD (zc 8) (zj yP (zp 2 zG (zb (zc 3) (zb (eC (.int 7)) zr))) (eC (.int 13))))))))))))
noncomputable def wm:List D->Option D:=fnD 9 yM
theorem zaI {m z:Int}{ts:List Tie}{h0:Hl}{R:List Hl}(ok:xL m ts)(h28:ts.length<=28)(hm4:m<=4)(hR:R≠[])(hRl:R.length<=2000)(hRg:∀ g∈R,g.length<=100):∃ d,wm [yb m ts,hD h0,.lst (R.map hD),.int z]=some d/\ThE d:=by
 have hm1:=ok.lo
 have hpos:0 < R.length:=List.length_pos_iff.mpr hR
 obtain⟨at0,ha⟩:∃ a:Int,Wi z 5 % (R.length:Int)=a:=⟨_,rfl⟩
 obtain⟨a0,a1⟩:=wE (by omega) ha
 obtain⟨mo,em,ml,mn,ms⟩:=Vd (n:=m) (c:=z) (mo:=6) (by omega) (by omega) (by decide) (by decide)
 have hs0:=W3 mn
 have hpw:(mo.sum.toNat+1) ^ m.toNat < 10000000:=by
  have h7:mo.sum.toNat+1<=7:=by omega
  have hk':m.toNat<=4:=by omega
  exact Nat.lt_of_le_of_lt (Nat.le_trans (Nat.pow_le_pow_left h7 _) (Nat.pow_le_pow_right (by decide) hk')) (by decide)
 obtain⟨E2,eE,hE,hEl,hEs⟩:=Zf ok h28 ml mn (by omega) hpw
 have hE2:E2.length<=2401:=zaP (B:=7) (k:=4) ok ml mn hE hEs (by omega) (by omega) (by decide)
 have hat:at0.toNat < R.length:=by omega
 have ega:L2.atI (R.map hD) at0=some (hD R[at0.toNat]):=zhK a0 (by rw[List.getElem?_map,List.getElem?_eq_getElem hat];rfl)
 obtain⟨bad,eb,hbad⟩:=zdp (g:=R[at0.toNat]) (k:=Wi z 6) (hRg _ (List.getElem_mem hat))
 obtain⟨j,hj⟩:∃ j:Int,Wi z 7 % 13=j:=⟨_,rfl⟩
 obtain⟨j0,j1⟩:=wE (by decide) hj
 refine zaZ (m:=9) (g:=yM) (R:=ThE) (ρ:=[.v (yb m ts),.v (hD h0),.v (.lst (R.map hD)),.v (.int z),.no,.no,.no,.no,.no]) rfl ?_
 unfold yM
 refine zw (ρ':=[.v (yb m ts),.v (hD h0),.v (.lst (R.map hD)),.v (.int z),.v (.int at0),.no,.no,.no,.no]) (WN (zD (x:=.int (Wi z 5)) (y:=.int (R.map hD).length) (yJ (ds:=[.int z,.int 5]) rfl rfl) rfl (by rw[List.length_map,yH (by omega),ha]))) ?_
 refine zw (ρ':=[.v (yb m ts),.v (hD h0),.v (.lst (R.map hD)),.v (.int z),.v (.int at0),.v (hD mo),.no,.no,.no]) (vB (ds:=[.int m,.int z,.int 6]) rfl em) ?_
 refine zw (ρ':=[.v (yb m ts),.v (hD h0),.v (.lst (R.map hD)),.v (.int z),.v (.int at0),.v (hD mo),.v bad,.no,.no]) (vB (ds:=[hD R[at0.toNat],.int (Wi z 6)]) (zt (zD (x:=.lst (R.map hD)) (y:=.int at0) rfl rfl ega) (zt (yJ (ds:=[.int z,.int 6]) rfl rfl) xM)) eb) ?_
 obtain⟨F2,hF2⟩:∃ F2,E2.filter (λg=>!(R.map hD).any λe=>eqN 20 e (hD g))=F2:=⟨_,rfl⟩
 have hF2l:F2.length<=2401:=by rw[<-hF2];exact Nat.le_trans (List.length_filter_le _ _) hE2
 refine zw (ρ':=[.v (yb m ts),.v (hD h0),.v (.lst (R.map hD)),.v (.int z),.v (.int at0),.v (hD mo),.v bad,.v (.lst ((R++F2).map hD)),.no]) (WN (zD (x:=.lst (R.map hD)) (y:=.lst (F2.map hD)) rfl (vd ?_) ?_)) ?_
 .rw[<-hF2]
  exact zep (c:=hD) (xs:=E2) (Wu (d:=.lst (E2.map hD)) (yJ (ds:=[yb m ts,hD mo]) rfl eE) rfl) (by omega) λg hg=>⟨[some (hD g)],rfl,Ys (zD (x:=hD g) (y:=.lst (R.map hD)) rfl rfl (zgx g R)),λ_=>rfl⟩
 .rw[zk5 (by rw[List.length_map,List.length_map];omega),List.map_append]
 have hwl:(R++F2).length<=4401:=by rw[List.length_append];omega
 obtain⟨W2,hW⟩:∃ W2,R++F2=W2:=⟨_,rfl⟩
 rw[hW]at hwl ⊢
 have g1:ThE (.lst (R.map hD)):=.inl ⟨_,rfl,λx hx=>(by obtain⟨g,_,rfl⟩:=List.mem_map.mp hx;exact .h g),by rw[List.length_map];omega⟩
 have g4:ThE (.lst (W2.map hD)):=.inl ⟨_,rfl,λx hx=>(by obtain⟨g,_,rfl⟩:=List.mem_map.mp hx;exact .h g),by rw[List.length_map];omega⟩
 have g6:ThE (.tup (R.map hD)):=.inr rfl
 have g8:ThE .non:=.inr rfl
 have g9:ThE (.lst ((R.filter λg=>!eqN 20 (hD g) (hD h0)).map hD)):=.inl ⟨_,rfl,λx hx=>(by obtain⟨g,_,rfl⟩:=List.mem_map.mp hx;exact .h g),by rw[List.length_map];exact Nat.le_trans (List.length_filter_le _ _) (by omega)⟩
 have g11:ThE (.lst []):=.inl ⟨_,rfl,λx hx=>(by cases hx),Nat.zero_le _⟩
 have g12:ThE (.lst [hD h0]):=.inl ⟨_,rfl,λx hx=>(by rw[List.mem_singleton.mp hx];exact .h _),by show 1<=20000;decide⟩
 have g13:ThE (.lst (W2.map hD).reverse):=.inl ⟨_,rfl,λx hx=>(by obtain⟨g,_,rfl⟩:=List.mem_map.mp (List.mem_reverse.mp hx);exact .h g),by rw[List.length_reverse,List.length_map];omega⟩
 have r2:∀ {ρ:Ev},zc 2 ρ=some (.lst (R.map hD))->ELe (zc 2) ρ 2000:=λv2=>.hs v2 hRl
 have bb1:∀ ρ:Ev,zc 2 ρ=some (.lst (R.map hD))->zc 4 ρ=some (.int at0)->zc 5 ρ=some (hD mo)->zc 7 ρ=some (.lst (W2.map hD))->∃ L:List D,yK (zI (zb (zc 2) (zb (zj y8 (eSl slD (zc 2) yn (yf (zc 4))) (eSl slD (zc 2) (yf (zj y8 (zc 4) (eC (.int 1)))) yn)) (zb (zj y8 (zc 2) (eSl slD (zc 2) (yf (zc 4)) (yf (zj y8 (zc 4) (eC (.int 1)))))) (zb (zc 7) (zb (zj y8 (zc 2) (yK (zI (zb (zc 5) zr)))) (zb (eFn zR (zb (zc 2) zr)) zr))))))) ρ=some (.lst L)/\(∀ d∈L,ThE d)/\L.length=6:=fun ρ v2 v4 v5 v7=>by
  have a41:zj y8 (zc 4) (eC (.int 1)) ρ=some (.int (at0+1)):=zD v4 rfl rfl
  obtain⟨t2,f2,g2⟩:=(((r2 v2).sl (l:=yn) (lo:=none) rfl (zg6 v4)).add ((r2 v2).sl (h:=yn) (hi:=none) (zg6 a41) rfl) (by decide)).th (by decide)
  obtain⟨t3,f3,g3⟩:=((r2 v2).add ((r2 v2).sl (zg6 v4) (zg6 a41)) (by decide)).th (by decide)
  obtain⟨t5,f5,g5⟩:=((r2 v2).add (ELe.one v5 (.h mo)) (by decide)).th (by decide)
  refine⟨[.lst (R.map hD),t2,t3,.lst (W2.map hD),t5,.tup (R.map hD)],vd (Xn (zt v2 (zt f2 (zt f3 (zt v7 (zt f5 (zt (zdo (ds:=[.lst (R.map hD)]) (zt v2 xM) rfl) xM)))))) (by show 6<=1000;decide)),λd hd=>?_,rfl⟩
  simp only[List.mem_cons,List.not_mem_nil,or_false]at hd
  rcases hd with rfl | rfl | rfl | rfl | rfl | rfl <;> assumption
 have bb2:∀ ρ:Ev,zc 2 ρ=some (.lst (R.map hD))->zc 6 ρ=some bad->∃ L:List D,yK (zI (zb (zj y8 (zc 2) (yK (zI (zb (zc 6) zr)))) (zb (eC .non) zr))) ρ=some (.lst L)/\(∀ d∈L,ThE d)/\L.length=2:=fun ρ v2 v6=>by
  obtain⟨t7,f7,g7⟩:=((r2 v2).add (ELe.one v6 hbad) (by decide)).th (by decide)
  refine⟨[t7,.non],vd (Xn (zt f7 (zt rfl xM)) (by show 2<=1000;decide)),λd hd=>?_,rfl⟩
  simp only[List.mem_cons,List.not_mem_nil,or_false]at hd
  rcases hd with rfl | rfl <;> assumption
 have bb3:∀ ρ:Ev,zc 1 ρ=some (hD h0)->zc 2 ρ=some (.lst (R.map hD))->zc 6 ρ=some bad->zc 7 ρ=some (.lst (W2.map hD))->∃ L:List D,yK (zI (zb (yK (fLC (iOf (zc 2)) b1 (tOf (zj zjk (zc 0) (zc 2))) (zc 0))) (zb (zj y8 (yK (zI (zb (zc 6) zr))) (zc 2)) (zb (yK (zI zr)) (zb (yK (zI (zb (zc 1) zr))) (zb (yK (zjt (zc 7))) zr)))))) ρ=some (.lst L)/\(∀ d∈L,ThE d)/\L.length=5:=fun ρ v1 v2 v6 v7=>by
  obtain⟨t10,f10,g10⟩:=((ELe.one v6 hbad).add (r2 v2) (by decide)).th (by decide)
  have e9:yK (fLC (iOf (zc 2)) b1 (tOf (zj zjk (zc 0) (zc 2))) (zc 0)) ρ=some (.lst ((R.filter λg=>!eqN 20 (hD g) (hD h0)).map hD)) :=
   vd (zep (c:=hD) (xs:=R) (Wu (d:=.lst (R.map hD)) v2 rfl) (by omega) λg hg=>⟨[some (hD g)],rfl,Ys (zD (x:=hD g) (y:=hD h0) rfl v1 (ne_h g h0)),λ_=>rfl⟩)
  have e13:yK (zjt (zc 7)) ρ=some (.lst (W2.map hD).reverse):=vd (by unfold zjt;rw[v7];rfl)
  refine⟨[_,t10,.lst [],.lst [hD h0],_],vd (Xn (zt e9 (zt f10 (zt rfl (zt (vd (Xn (zt v1 xM) (by show 1<=1000;decide))) (zt e13 xM))))) (by show 5<=1000;decide)),λd hd=>?_,rfl⟩
  simp only[List.mem_cons,List.not_mem_nil,or_false]at hd
  rcases hd with rfl | rfl | rfl | rfl | rfl <;> assumption
 obtain⟨L1,e1,k1,l1⟩:=bb1 (visF [.v (yb m ts),.v (hD h0),.v (.lst (R.map hD)),.v (.int z),.v (.int at0),.v (hD mo),.v bad,.v (.lst (W2.map hD)),.no]) rfl rfl rfl rfl
 refine zw (ρ':=[.v (yb m ts),.v (hD h0),.v (.lst (R.map hD)),.v (.int z),.v (.int at0),.v (hD mo),.v bad,.v (.lst (W2.map hD)),.v (.lst L1)]) (WN e1) ?_
 obtain⟨L2,e2,k2,l2⟩:=bb2 (visF [.v (yb m ts),.v (hD h0),.v (.lst (R.map hD)),.v (.int z),.v (.int at0),.v (hD mo),.v bad,.v (.lst (W2.map hD)),.v (.lst L1)]) rfl rfl
 refine zw (ρ':=[.v (yb m ts),.v (hD h0),.v (.lst (R.map hD)),.v (.int z),.v (.int at0),.v (hD mo),.v bad,.v (.lst (W2.map hD)),.v (.lst (L1++L2))]) (WN (zD (x:=.lst L1) (y:=.lst L2) rfl e2 (zk5 (by omega)))) ?_
 obtain⟨L3,e3,k3,l3⟩:=bb3 (visF [.v (yb m ts),.v (hD h0),.v (.lst (R.map hD)),.v (.int z),.v (.int at0),.v (hD mo),.v bad,.v (.lst (W2.map hD)),.v (.lst (L1++L2))]) rfl rfl rfl rfl
 refine zw (ρ':=[.v (yb m ts),.v (hD h0),.v (.lst (R.map hD)),.v (.int z),.v (.int at0),.v (hD mo),.v bad,.v (.lst (W2.map hD)),.v (.lst (L1++L2++L3))]) (WN (zD (x:=.lst (L1++L2)) (y:=.lst L3) rfl e3 (zk5 (by rw[List.length_append];omega)))) ?_
 obtain⟨d,ed,hd⟩:=zj6 (P:=ThE) (ds:=L1++L2++L3) (j:=j) (λd hd=>by
  rcases List.mem_append.mp hd with hd | hd
  .rcases List.mem_append.mp hd with hd | hd
   .exact k1 d hd
   .exact k2 d hd
  .exact k3 d hd) j0 (by rw[List.length_append,List.length_append];omega)
 exact Y7 (vS (zD (x:=.lst (L1++L2++L3)) (y:=.int j) rfl (zD (x:=.int (Wi z 7)) (y:=.int 13) (yJ (ds:=[.int z,.int 7]) rfl rfl) rfl (by rw[yH (by decide),hj])) ed)) hd
theorem Z9 (T:Txt K mg ad):xK P w K mg base CX0 3 ad.f__law_otherwise ad.e__law_otherwise ["web","heap","rows","cell"] (@spD ⟨K⟩ 4 wm):=by
 letI:KK:=⟨K⟩
 have G__law_stir:=vf (P:=P) (w:=w) (base:=base) T
 have G__law_heap_by:=YN (P:=P) (w:=w) (base:=base) T
 have G__law_no_heap:=Wo (P:=P) (w:=w) (base:=base) T
 have G__law_behind:=Zg (P:=P) (w:=w) (base:=base) T
 refine xa (N:=["web","heap","rows","cell","at","more","bad","two","some"]) (ps:=["web","heap","rows","cell"]) T.d__law_otherwise.fn zO (g:=yM) λcdv A outer s H E hr=>?_
 unfold yM
 exact(zd (yi (m:=false) (i:=4) zO.nd rfl (Or.inl rfl) (xo (zk G__law_stir hr rfl T.d__law_stir (za (edv 3) (za (zf zg) ze))) (yx yB YI rfl T.z_len Xy (za (edv 2) ze))))
  (zd (yi (m:=false) (i:=5) zO.nd rfl (Or.inl rfl) (zk G__law_heap_by hr rfl T.d__law_heap_by (za (yD (edv 0) (zf zg) (λ_ _=>rfl)) (za (edv 3) (za (zf zg) ze)))))
  (zd (yi (m:=false) (i:=6) zO.nd rfl (Or.inl rfl) (zk G__law_no_heap hr rfl T.d__law_no_heap (za (yD (edv 2) (edv 4) (λ_ _=>rfl)) (za (zk G__law_stir hr rfl T.d__law_stir (za (edv 3) (za (zf zg) ze))) ze))))
  (zd (yi (m:=false) (i:=7) zO.nd rfl (Or.inl rfl) (zW (edv 2) (x5 (zcE (L:=["other"]) (M:=["web","heap","rows","cell","at","more","bad","two","some"]) rfl (ZE (by rfl) (by rfl) (by rfl) (by with_unfolding_all rfl) (by rfl) (by rfl) (by kernel_rfl) (all_cons rfl vY)) (wL (zk G__law_behind hr rfl T.d__law_behind (za (edv 0) (za (edv 5) ze)))) gs1 rb1 (λ_ _ _ _=>(zL (i:=0) zkJ rfl (Or.inl rfl) (.inr rfl))) (λ_ _ _ _=>(yj (zes hr) zfc (by with_unfolding_all rfl) (edv 0) (edv 3))) (λ_ _ _ _=>(edv 0))))))
  (zd (yi (m:=false) (i:=8) zO.nd rfl (Or.inl rfl) (x5 (xH (za (edv 2) (za (zW (ve (edv 2) Zv (vT (edv 4))) (ve (edv 2) (vT (zW (edv 4) (zf zg))) Zv)) (za (zW (edv 2) (ve (edv 2) (vT (edv 4)) (vT (zW (edv 4) (zf zg))))) (za (edv 7) (za (zW (edv 2) (x5 (xH (za (edv 5) ze)))) (za (vC xD Yw rfl T.z_tuple xh (za (edv 2) ze)) ze)))))))))
  (zd (yi (m:=false) (i:=8) zO.nd rfl (Or.inl rfl) (zW (edv 8) (x5 (xH (za (zW (edv 2) (x5 (xH (za (edv 6) ze)))) (za (zb6 zb9) ze))))))
  (zd (yi (m:=false) (i:=8) zO.nd rfl (Or.inl rfl) (zW (edv 8) (x5 (xH (za (x5 (zcE (L:=["other"]) (M:=["web","heap","rows","cell","at","more","bad","two","some"]) rfl (ZE (by rfl) (by rfl) (by rfl) (by with_unfolding_all rfl) (by rfl) (by rfl) (by kernel_rfl) (all_cons rfl vY)) (wL (edv 2)) gs1 rb1 (λ_ _ _ _=>(zL (i:=0) zkJ rfl (Or.inl rfl) (.inr rfl))) (λ_ _ _ _=>(yj (zjB hr) zig (yc _) (edv 0) (edv 2))) (λ_ _ _ _=>(edv 0)))) (za (zW (x5 (xH (za (edv 6) ze))) (edv 2)) (za (x5 (xH ze)) (za (x5 (xH (za (edv 1) ze))) (za (x5 (zdt rfl rfl T.z_list rfl T.z_reversed (edv 7))) ze)))))))))
  (zh (zC (yD (edv 8) (xo (zk G__law_stir hr rfl T.d__law_stir (za (edv 3) (za (zf zg) ze))) (zf zg)) (λ_ _=>rfl)))))))))))
theorem zh1 {m:Bool}{i:Nat}{fk f:Ev->Option D}{ρ:SE}{ds:List D}{d:D}{k:Int}(h0:vEv m fk ρ=some (.int k))(h1:vEv m f ρ=some d)(h2:ρ[i]?=some (.o ds))(h3:ds.length<=20000)(h4:0<=k)(h5:k<=20000):zkE m i fk f ρ=.nx (ρ.set i (.o (zje ds k d))):=by
 unfold zkE
 rw[h0,h1,h2]
 show(match (if (decide (ds.length < sizeLine)&&decide (0<=k/\k < 2 ^ 63))=true then some (ρ.set i (.o (zje ds k d)))else none)with | some ρ'=>Ctl.nx ρ' | none=>Ctl.no)=_
 have hs:ds.length < sizeLine:=Nat.lt_of_le_of_lt h3 (by decide)
 rw[if_pos (by rw[decide_eq_true hs,decide_eq_true ⟨h4,by omega⟩];rfl)]
theorem zfD {m p n:Int}{ts:List Tie}{h0:Hl}{d:D}(ok:xL m ts)(hl:(h0.length:Int)=m)(hn:∀ v∈h0,0<=v)(hr:h0.sum<=300)(hp:0<=p/\p < m)(n1:1<=n)(n3:n<=300)(hd:zP .list d=some (.bl false)):xc [yb m ts,hD h0,.int p,.int n,d]=some (.bl false):=by
 refine Vu (ρ:=[.v (yb m ts),.v (hD h0),.v (.int p),.v (.int n),.v d,.no,.no]) rfl ?_
 unfold yN
 refine zw (Xl (zb4 ok hl hn hr hp n1 n3)) ?_
 exact yX (Xz (c:=true) (Ze (b:=false) (Ys (zkD (x:=d) rfl hd))) (λ_=>Y7 rfl rfl) λz=>by cases z)
theorem zi8 {m p n:Int}{ts:List Tie}{h0:Hl}{d:D}(hd:zP .list d=some (.bl false)):wK [yb m ts,hD h0,.int p,.int n,d]=some (.bl false):=by
 refine Vu (ρ:=[.v (yb m ts),.v (hD h0),.v (.int p),.v (.int n),.v d,.no,.no]) rfl ?_
 unfold xP
 exact yX (Xz (c:=true) (Ze (b:=false) (Ys (zkD (x:=d) rfl hd))) (λ_=>Y7 rfl rfl) λz=>by cases z)
theorem ze8 {m p n:Int}{ts:List Tie}{h0:Hl}{d:D}(ok:xL m ts)(h28:ts.length<=28)(hl:(h0.length:Int)=m)(hn:∀ v∈h0,0<=v)(hr:h0.sum<=300)(hp:0<=p/\p < m)(n1:1<=n)(n3:n<=300)(hd:ThE d) :
 ∃ b,xc [yb m ts,hD h0,.int p,.int n,d]=some (.bl b)/\wK [yb m ts,hD h0,.int p,.int n,d]=some (.bl b):=by
 rcases hd with ⟨T,rfl,hT,hTl⟩ | hd
 .obtain⟨b,e1,h1⟩:=WO ok hl hn hr hp n1 n3 hT hTl
  obtain⟨c,e2,h2⟩:=zcY (n:=n) (h0:=h0) ok h28 hp hT hTl
  have:b=c:=Bool.eq_iff_iff.mpr (h1.trans h2.symm)
  subst this
  exact⟨b,e1,e2⟩
 .exact⟨false,zfD ok hl hn hr hp n1 n3 hd,zi8 hd⟩
noncomputable def Vy:SE->Ctl :=
 (zS (y4 false 9 (zj yP (zp 2 zG (zb (zc 1) (zb (zj y8 (eC (.int 20)) (zc 8)) zr))) (zc 2)))
  (zS (y4 false 10 (zj y8 (eC (.int 1)) (zj yP (zp 2 zG (zb (zc 1) (zb (zj y8 (eC (.int 30)) (zc 8)) zr))) (eC (.int 5)))))
  (zS (y4 false 11 (zp 4 wm (zb (zc 3) (zb (zc 4) (zb (zc 5) (zb (zj y8 (zc 1) (zj wx (eC (.int 7919)) (zc 8))) zr))))))
  (zS (y4 false 12 (zp 5 wK (zb (zc 3) (zb (zc 4) (zb (zc 9) (zb (zc 10) (zb (zc 11) zr)))))))
  (sIf (zT (tOf (zp 2 Zl (zb (zp 5 xc (zb (zc 3) (zb (zc 4) (zb (zc 9) (zb (zc 10) (zb (zc 11) zr)))))) (zb (zc 12) zr))))) (yq (eC (.bl false))) zH)))))
noncomputable def zbJ:SE->Ctl :=
 (zkE false 5 (zj yP (zp 2 zG (zb (zc 1) (zb (zj y8 (eC (.int 500)) (zc 6)) zr))) (zj y8 (zc 6) (eC (.int 1)))) (zc 7))
noncomputable def VN:SE->Ctl :=
 (zS (y4 false 2 (zj y8 (eC (.int 2)) (zj yP (zj yd (zc 1) (eC (.int 64))) (eC (.int 3)))))
  (zS (y4 false 3 (zp 2 Yd (zb (zc 2) (zb (zj yd (zc 1) (eC (.int 192))) zr))))
  (zS (y4 false 4 (zp 3 xX (zb (zc 2) (zb (zj y8 (zj wx (zp 2 zG (zb (zc 1) (zb (eC (.int 9)) zr))) (eC (.int 2))) (zj yP (zc 1) (eC (.int 2)))) (zb (eC (.int 5)) zr)))))
  (zS (vx 5 (zI zr))
  (zS (wG (zY (zb (zp 2 xB (zb (zc 3) (zb (zc 4) zr))) zr)) (Yk 2 (yt (zX 6) (yt (zX 7) Yo))) zbJ)
  (sFz 5 (yG wB (zb (eC (.int 8)) zr) (zX 8) Vy)))))))
noncomputable def zgt:SE->Ctl :=
 (zS (wG (iOf (zj y8 (eSl slD (zc 0) yn (yf (eC (.int 6)))) (yK (zI (zb (eC (.int 0)) (zb (eC (.int 7)) (zb (eC (.int 14)) zr))))))) (zX 1) VN)
  (yq (eC (.bl true))))
noncomputable def zjY:List D->Option D:=fnD 13 zgt
noncomputable abbrev sT (s:D)(z m:Int)(ts:List Tie)(h:Hl)(R:List Hl)(o6 o7 o8 o9 o10 o11 o12:Sl):SE:=[.v s,.v (.int z),.v (.int m),.v (yb m ts),.v (hD h),.v (.lst (R.map hD)),o6,o7,o8,o9,o10,o11,o12]
theorem ziR {s:D}{z m t:Int}{ts:List Tie}{h:Hl}{R:List Hl}{o6 o7 o9 o10 o11 o12:Sl}{N B:SE->Prop}{Rt:D->Prop}{I:SE->Prop}(ok:xL m ts)(h28:ts.length<=28)(hm4:m<=4)(hl:(h.length:Int)=m)(hnn:∀ v∈h,0<=v)(hsum:h.sum<=5)(hR:R≠[])(hRl:R.length<=2000)(hRg:∀ g∈R,g.length<=100)(ht:0<=t/\t < 8)
 (hI:∀ o9 o10 o11 o12,I (sT s z m ts h R o6 o7 (.v (.int t)) o9 o10 o11 o12)):(Vy (sT s z m ts h R o6 o7 (.v (.int t)) o9 o10 o11 o12)).w I B N Rt:=by
 have hm1:=ok.lo
 unfold Vy
 obtain⟨p,hp⟩:∃ p:Int,Wi z (20+t) % m=p:=⟨_,rfl⟩
 obtain⟨p0,p1⟩:=wE (by omega) hp
 obtain⟨q,hq⟩:∃ q:Int,Wi z (30+t) % 5=q:=⟨_,rfl⟩
 obtain⟨q0,q1⟩:=wE (by decide) hq
 refine zw (ρ':=sT s z m ts h R o6 o7 (.v (.int t)) (.v (.int p)) o10 o11 o12) (WN (zD (x:=.int (Wi z (20+t))) (y:=.int m) (yJ (ds:=[.int z,.int (20+t)]) rfl rfl) rfl (by rw[yH (by omega),hp]))) ?_
 refine zw (ρ':=sT s z m ts h R o6 o7 (.v (.int t)) (.v (.int p)) (.v (.int (1+q))) o11 o12) (WN (zD (x:=.int 1) (y:=.int q) rfl (zD (x:=.int (Wi z (30+t))) (y:=.int 5) (yJ (ds:=[.int z,.int (30+t)]) rfl rfl) rfl (by rw[yH (by decide),hq])) rfl)) ?_
 obtain⟨d,ed,hd⟩:=zaI (z:=z+7919*t) (h0:=h) ok h28 hm4 hR hRl hRg
 refine zw (ρ':=sT s z m ts h R o6 o7 (.v (.int t)) (.v (.int p)) (.v (.int (1+q))) (.v d) o12) (vB (ds:=[yb m ts,hD h,.lst (R.map hD),.int (z+7919*t)]) (zt rfl (zt rfl (zt rfl (zt (zD (x:=.int z) (y:=.int (7919*t)) rfl (zD (x:=.int 7919) (y:=.int t) rfl rfl ?_) rfl) xM)))) ed) ?_
 .exact Zr (VE (by decide) (by decide))
 obtain⟨b,e1,e2⟩:=ze8 (n:=1+q) ok h28 hl hnn (by omega) ⟨p0,p1⟩ (by omega) (by omega) hd
 refine zw (ρ':=sT s z m ts h R o6 o7 (.v (.int t)) (.v (.int p)) (.v (.int (1+q))) (.v d) (.v (.bl b))) (vB (ds:=[yb m ts,hD h,.int p,.int (1+q),d]) rfl e2) ?_
 refine Xz (c:=false) (Ze (b:=true) (Ys (yJ (ds:=[.bl b,.bl b]) (zt (yJ (ds:=[yb m ts,hD h,.int p,.int (1+q),d]) rfl e1) (zt rfl xM)) (zlb (d:=.bl b) rfl)))) (λz=>by cases z) λ_=>Y4 rfl (hI _ _ _ _)
theorem zih (S:List Hl)(j:Int)(s:Hl):zje (S.map hD) j (hD s)=(S.take j.toNat++s::S.drop j.toNat).map hD:=by
 unfold zje
 rw[List.map_append,List.map_take,List.map_cons,List.map_drop]
theorem zit (s:D)(z:Int)(o2 o3 o4 o5 o6 o7 o8 o9 o10 o11 o12:Sl)(n b:SE->Prop)(r:D->Prop)(I:SE->Prop)(hI:∀ o2 o3 o4 o5 o6 o7 o8 o9 o10 o11 o12,I [.v s,.v (.int z),o2,o3,o4,o5,o6,o7,o8,o9,o10,o11,o12]):(VN [.v s,.v (.int z),o2,o3,o4,o5,o6,o7,o8,o9,o10,o11,o12]).w I b n r:=by
 obtain⟨q,hq⟩:∃ q:Int,z / 64 % 3=q:=⟨_,rfl⟩
 obtain⟨q0,q1⟩:=wE (by decide) hq
 obtain⟨m,hm⟩:∃ m:Int,2+q=m:=⟨_,rfl⟩
 have hm5:2<=m/\m<=4:=by omega
 obtain⟨ts,ew,hsub⟩:=zeT (n:=m) (c:=z / 192) (by omega) (by omega)
 have h28:ts.length<=28:=Nat.le_trans hsub.length_le (WC m.toNat (by omega)).2.2
 have ok:xL m ts:=by
  obtain⟨p1,p2,_⟩:=WC m.toNat (by omega)
  exact⟨by omega,by omega,λt ht=>by have:=p2 t (hsub.subset ht);omega,p1.sublist hsub⟩
 obtain⟨cc,hcc⟩:∃ cc:Int,Wi z 9*2+z % 2=cc:=⟨_,rfl⟩
 obtain⟨h,eh,hl,hnn,hsum⟩:=Vd (n:=m) (c:=cc) (mo:=5) (by omega) (by omega) (by decide) (by decide)
 have hs0:0<=h.sum:=W3 hnn
 have hpow:(h.sum.toNat+1) ^ m.toNat < 10000000:=by
  have h7:h.sum.toNat+1<=6:=by omega
  have hk':m.toNat<=4:=by omega
  refine Nat.lt_of_le_of_lt (Nat.le_trans (Nat.pow_le_pow_left h7 _) (Nat.pow_le_pow_right (by decide) hk')) (by decide)
 obtain⟨E,eE,hE,hEl,hEs⟩:=Zf ok h28 hl hnn (by omega) hpow
 have hE2:E.length<=1296:=zaP (B:=6) (k:=4) ok hl hnn hE hEs (by omega) (by omega) (by decide)
 have hEn:E≠[]:=λz=>by
  have:=(hE h).mpr .zero
  rw[z]at this
  cases this
 have h0k:HOk m.toNat h.sum h:=⟨by omega,hnn,Int.le_refl _⟩
 have hEg:∀ g∈E,g.length<=100:=λg hg=>by
  have:=(((hE g).mp hg).ok (wP ok) h0k).len
  omega
 unfold VN
 refine zw (ρ':=[.v s,.v (.int z),.v (.int m),o3,o4,o5,o6,o7,o8,o9,o10,o11,o12]) (WN (zD (x:=.int 2) (y:=.int q) rfl (zD (x:=.int (z / 64)) (y:=.int 3) (zD (x:=.int z) (y:=.int 64) rfl rfl (Y6 (by decide) (by decide))) rfl (by rw[yH (by decide),hq])) (by rw[zx,hm]))) ?_
 refine zw (ρ':=[.v s,.v (.int z),.v (.int m),.v (yb m ts),o4,o5,o6,o7,o8,o9,o10,o11,o12]) (vB (ds:=[.int m,.int (z / 192)]) (zt rfl (zt (zD (x:=.int z) (y:=.int 192) rfl rfl (Y6 (by decide) (by decide))) xM)) ew) ?_
 refine zw (ρ':=[.v s,.v (.int z),.v (.int m),.v (yb m ts),.v (hD h),o5,o6,o7,o8,o9,o10,o11,o12]) (vB (ds:=[.int m,.int cc,.int 5]) (zt rfl (zt (zD (x:=.int (Wi z 9*2)) (y:=.int (z % 2)) (zD (x:=.int (Wi z 9)) (y:=.int 2) (yJ (ds:=[.int z,.int 9]) rfl rfl) rfl (Zr (zbk (by decide) (by decide)))) (zD (x:=.int z) (y:=.int 2) rfl rfl (yH (by decide))) (by rw[<-hcc];rfl)) (zt rfl xM))) eh) ?_
 refine zw (ρ':=[.v s,.v (.int z),.v (.int m),.v (yb m ts),.v (hD h),.o (([]:List Hl).map hD),o6,o7,o8,o9,o10,o11,o12]) rfl ?_
 refine yX (ZW (ds:=Wy 0 (E.map hD)) (λi ρ=>∃ (S:List Hl) (o6 o7:Sl),ρ=[.v s,.v (.int z),.v (.int m),.v (yb m ts),.v (hD h),.o (S.map hD),o6,o7,o8,o9,o10,o11,o12]/\S.length=i/\∀ g∈S,g∈E) ?_ ⟨[],_,_,rfl,rfl,λg hg=>by cases hg⟩ ?_ ?_)
 .show(zb (zp 2 xB (zb (zc 3) (zb (zc 4) zr))) zr (visG [.v s,.v (.int z),.v (.int m),.v (yb m ts),.v (hD h),.o (([]:List Hl).map hD),o6,o7,o8,o9,o10,o11,o12])).bind _=_
  rw[zt (ds:=[]) (yJ (ds:=[yb m ts,hD h]) rfl eE) xM]
  rfl
 .rintro i d ρ hd ⟨S,o6,o7,rfl,hS,hSE⟩
  rw[YO,Nat.zero_add,List.getElem?_map]at hd
  obtain⟨x,hx,rfl⟩:=Option.map_eq_some_iff.mp hd
  obtain⟨g,hg,rfl⟩:=Option.map_eq_some_iff.mp hx
  have hiE:i < E.length:=(List.getElem?_eq_some_iff.mp hg).1
  refine⟨[.v s,.v (.int z),.v (.int m),.v (yb m ts),.v (hD h),.o (S.map hD),.v (.int (i:Int)),.v (hD g),o8,o9,o10,o11,o12],rfl,?_⟩
  unfold zbJ
  obtain⟨j,hj⟩:∃ j:Int,Wi z (500+(i:Int)) % ((i:Int)+1)=j:=⟨_,rfl⟩
  obtain⟨j0,j1⟩:=wE (by omega) hj
  refine Y4 (zh1 (ds:=S.map hD) (d:=hD g) (k:=j) (show zj yP (zp 2 zG (zb (zc 1) (zb (zj y8 (eC (.int 500)) (zc 6)) zr))) (zj y8 (zc 6) (eC (.int 1))) (visF [.v s,.v (.int z),.v (.int m),.v (yb m ts),.v (hD h),.o (S.map hD),.v (.int (i:Int)),.v (hD g),o8,o9,o10,o11,o12])=some (.int j)from zD (x:=.int (Wi z (500+(i:Int)))) (y:=.int ((i:Int)+1)) (yJ (ds:=[.int z,.int (500+(i:Int))]) rfl rfl) rfl (by rw[yH (by omega),hj])) rfl rfl (by rw[List.length_map];omega) j0 (by omega)) ⟨S.take j.toNat++g::S.drop j.toNat,.v (.int (i:Int)),.v (hD g),?_,?_,λx hx=>?_⟩
  .rw[zih];rfl
  .rw[List.length_append,List.length_take,List.length_cons,List.length_drop];omega
  .rcases List.mem_append.mp hx with hx | hx
   .exact hSE x (List.mem_of_mem_take hx)
   .rcases List.mem_cons.mp hx with rfl | hx
    .exact List.mem_of_getElem? hg
    .exact hSE x (List.mem_of_mem_drop hx)
 .rintro ρ ⟨R,o6,o7,rfl,hRl,hRE⟩
  rw[vc,List.length_map]at hRl
  have hRn:R≠[]:=λz=>by
   rw[z]at hRl
   exact hEn (List.length_eq_zero_iff.mp hRl.symm)
  refine zhI (ρ':=sT s z m ts h R o6 o7 o8 o9 o10 o11 o12) rfl ?_
  refine zci (lo:=0) (c:=8) (λ_ ρ=>∃ o8 o9 o10 o11 o12,ρ=sT s z m ts h R o6 o7 o8 o9 o10 o11 o12) (show wB [.int 8]=some (Xq 0 8)from zjP (m:=8) (by decide) (by decide)) ⟨_,_,_,_,_,rfl⟩ ?_ ?_
  .rintro j ρ hj ⟨o8,o9,o10,o11,o12,rfl⟩
   exact⟨_,rfl,ziR ok h28 hm5.2 hl hnn hsum hRn (by omega) (λg hg=>hEg g (hRE g hg)) (by omega) λ_ _ _ _=>⟨_,_,_,_,_,rfl⟩⟩
  .rintro ρ ⟨o8,o9,o10,o11,o12,rfl⟩
   exact hI _ _ _ _ _ _ _ _ _ _ _
theorem zg7 (ns:List Int)(h:ns.length<=63):zjY [.scr ns]=some (.bl true):=by
 refine Vu (ρ:=[.v (.scr ns),.no,.no,.no,.no,.no,.no,.no,.no,.no,.no,.no,.no]) rfl ?_
 unfold zgt
 obtain⟨xs,hxs⟩:∃ xs:List Int,(X1 ns none (some 6))++[0,7,14]=xs:=⟨_,rfl⟩
 have hl:((X1 ns none (some 6)).map D.int).length+3<=20000:=by rw[List.length_map];have:=V2 ns none (some 6);omega
 refine yX (ZW (ds:=xs.map .int) (λi ρ=>∃ o1 o2 o3 o4 o5 o6 o7 o8 o9 o10 o11 o12,ρ=[.v (.scr ns),o1,o2,o3,o4,o5,o6,o7,o8,o9,o10,o11,o12]) ?_ ⟨_,_,_,_,_,_,_,_,_,_,_,_,rfl⟩ ?_ ?_)
 .refine Wu (d:=.lst (xs.map .int)) (zD (x:=.lst ((X1 ns none (some 6)).map D.int)) (y:=.lst [.int 0,.int 7,.int 14]) rfl rfl ?_) rfl
  rw[zk5 hl,<- hxs,List.map_append]
  rfl
 .rintro i d ρ hd ⟨o1,o2,o3,o4,o5,o6,o7,o8,o9,o10,o11,o12,rfl⟩
  rw[List.getElem?_map]at hd
  obtain⟨z,hz,rfl⟩:=Option.map_eq_some_iff.mp hd
  exact⟨_,rfl,zit _ _ _ _ _ _ _ _ _ _ _ _ _ _ _ _ _ λ_ _ _ _ _ _ _ _ _ _ _=>⟨_,_,_,_,_,_,_,_,_,_,_,_,rfl⟩⟩
 .rintro ρ ⟨o1,o2,o3,o4,o5,o6,o7,o8,o9,o10,o11,o12,rfl⟩
  exact Y7 rfl rfl
theorem zkz (T:Txt K mg ad):xK P w K mg base CX0 20 ad.f_law ad.e_law ["script"] (zet K):=by
 letI:KK:=⟨K⟩
 have G_closed_holds:=Wz (P:=P) (w:=w) (base:=base) T
 have G__law_stir:=vf (P:=P) (w:=w) (base:=base) T
 have G__law_heap_by:=YN (P:=P) (w:=w) (base:=base) T
 have G__law_behind:=Zg (P:=P) (w:=w) (base:=base) T
 have G__law_web_by:=WK (P:=P) (w:=w) (base:=base) T
 have G__law_same:=zaU (P:=P) (w:=w) (base:=base) T
 have G__law_good:=zaG (P:=P) (w:=w) (base:=base) T
 have G__law_otherwise:=Z9 (P:=P) (w:=w) (base:=base) T
 refine(zkT (p:=zjY) (xa (N:=["script","cell","many","web","heap","rows","k","other","turn","place","stones","thing","due"]) (ps:=["script"]) T.d_law.fn vJ (g:=zgt) λcdv A outer s H E hr=>?_) zg7).mono (j:=10) (by decide)
 unfold zgt VN zbJ Vy
 exact(zd (vG PassesOwn.never rfl (wL (zW (ve (edv 0) Zv (vT (zf zg))) (x5 (xH (za (zf zg) (za (zf zg) (za (zf zg) ze))))))) (yk (zL (i:=1) vJ.nd rfl (Or.inl rfl))) (zd (yi (m:=false) (i:=2) vJ.nd rfl (Or.inl rfl) (zW (zf zg) (xo (Zs (edv 1) (zf zg)) (zf zg))))
  (zd (yi (m:=false) (i:=3) vJ.nd rfl (Or.inl rfl) (zk G__law_web_by hr rfl T.d__law_web_by (za (edv 2) (za (Zs (edv 1) (zf zg)) ze))))
  (zd (yi (m:=false) (i:=4) vJ.nd rfl (Or.inl rfl) (zk G__law_heap_by hr rfl T.d__law_heap_by (za (edv 2) (za (zW (WE (zk G__law_stir hr rfl T.d__law_stir (za (edv 1) (za (zf zg) ze))) (zf zg)) (xo (edv 1) (zf zg))) (za (zf zg) ze)))))
  (zd (Xs (i:=5) vJ.nd rfl (Or.inl rfl) (xH ze))
  (zd (vG PassesOwn.never rfl (zbP rfl T.z_enumerate YR (za (zk G__law_behind hr rfl T.d__law_behind (za (edv 3) (za (edv 4) ze))) ze)) (zaj rfl (xV (yk (zL (i:=6) vJ.nd rfl (Or.inl rfl))) (xV (yk (zL (i:=7) vJ.nd rfl (Or.inl rfl))) WB))) (zh (zkw (m:=false) (pv 5) (xo (zk G__law_stir hr rfl T.d__law_stir (za (edv 1) (za (zW (zf zg) (edv 6)) ze))) (zW (edv 6) (zf zg))) (edv 7) (λa b=>zao PySem.F.plainAttrs_list PySem.F.slot_list_insert PySem.F.type_list_insert ze0 a b))))
  (Xu 5 (zh (XX PassesOwn.never rfl rfl T.z_range (za (zf zg) ze) (yk (zL (i:=8) vJ.nd rfl (Or.inl rfl))) (zd (yi (m:=false) (i:=9) vJ.nd rfl (Or.inl rfl) (xo (zk G__law_stir hr rfl T.d__law_stir (za (edv 1) (za (zW (zf zg) (edv 8)) ze))) (edv 2)))
  (zd (yi (m:=false) (i:=10) vJ.nd rfl (Or.inl rfl) (zW (zf zg) (xo (zk G__law_stir hr rfl T.d__law_stir (za (edv 1) (za (zW (zf zg) (edv 8)) ze))) (zf zg))))
  (zd (yi (m:=false) (i:=11) vJ.nd rfl (Or.inl rfl) (zk G__law_otherwise hr rfl T.d__law_otherwise (za (edv 3) (za (edv 4) (za (edv 5) (za (zW (edv 1) (WE (zf zg) (edv 8))) ze))))))
  (zd (yi (m:=false) (i:=12) vJ.nd rfl (Or.inl rfl) (zk G__law_good hr rfl T.d__law_good (za (edv 3) (za (edv 4) (za (edv 9) (za (edv 10) (za (edv 11) ze)))))))
  (zh (xm (wv (xJ (zk G__law_same hr rfl T.d__law_same (za (zk G_closed_holds hr rfl T.d_closed_holds (za (edv 3) (za (edv 4) (za (edv 9) (za (edv 10) (za (edv 11) ze)))))) (za (edv 12) ze))))) (zh (zC (x9 wc))) zJ)))))))))))))))
  (zh (zC (x9 wc))))
end
theorem zmh {us:List Value}(h:us.length=1):∃ x0,us=[x0]:=by
 cases us with
 | nil=>cases h
 | cons x0 us =>
  cases us with
  | nil=>exact⟨x0,rfl⟩
  | cons _ _=>cases h
theorem zlW {us:List Value}(h:us.length=2):∃ x0 x1,us=[x0,x1]:=by
 cases us with
 | nil=>cases h
 | cons x0 us =>
  cases us with
  | nil=>cases h
  | cons x1 us =>
   cases us with
   | nil=>exact⟨x0,x1,rfl⟩
   | cons _ _=>cases h
theorem zlB {us:List Value}(h:us.length=3):∃ x0 x1 x2,us=[x0,x1,x2]:=by
 cases us with
 | nil=>cases h
 | cons x0 us =>
  cases us with
  | nil=>cases h
  | cons x1 us =>
   cases us with
   | nil=>cases h
   | cons x2 us =>
    cases us with
    | nil=>exact⟨x0,x1,x2,rfl⟩
    | cons _ _=>cases h
theorem zmg {us:List Value}(h:us.length=4):∃ x0 x1 x2 x3,us=[x0,x1,x2,x3]:=by
 cases us with
 | nil=>cases h
 | cons x0 us =>
  cases us with
  | nil=>cases h
  | cons x1 us =>
   cases us with
   | nil=>cases h
   | cons x2 us =>
    cases us with
    | nil=>cases h
    | cons x3 us =>
     cases us with
     | nil=>exact⟨x0,x1,x2,x3,rfl⟩
     | cons _ _=>cases h
theorem zlV {us:List Value}(h:us.length=5):∃ x0 x1 x2 x3 x4,us=[x0,x1,x2,x3,x4]:=by
 cases us with
 | nil=>cases h
 | cons x0 us =>
  cases us with
  | nil=>cases h
  | cons x1 us =>
   cases us with
   | nil=>cases h
   | cons x2 us =>
    cases us with
    | nil=>cases h
    | cons x3 us =>
     cases us with
     | nil=>cases h
     | cons x4 us =>
      cases us with
      | nil=>exact⟨x0,x1,x2,x3,x4,rfl⟩
      | cons _ _=>cases h
noncomputable abbrev Lk (x:Str)(st:Stmt)(oc:Value)(od:Option Addr)(kV dc pm:Value)(an:Option Addr)(cd ct:Value)(sl:Array (Option Value)):Option Obj:=some ⟨oc,od,.func (W.fnOf x x (Zy st) (vo st) (zm st) .none kV dc pm an cd ct),sl⟩
theorem mkD {K:W.Frag}{h:Heap}{mg:Str->Option Value}{x:Str}{st:Stmt}{ps:List Str}{f:Addr}{oc kV dc pm cd ct:Value}{od an:Option Addr}{sl:Array (Option Value)}(X:K.In h)(G:h.Ns mainGlobals mg)(a:W.nsIn K mainGlobals x=some (some (.ref f)))(l:K.lookup f=Lk x st oc od kV dc pm an cd ct sl)(c:W.codeIn K cd x=true)(k:W.keepIn K (.ref f)=true)
 (b:∀ (kV doc pm:Value) (an:Option Addr) (cdv ct:Value) (us:List Value),us.length=ps.length->bindArgs (W.fnOf x x (Zy st) (vo st) (zm st) .none kV doc pm an cdv ct) ⟨us,[]⟩=pure (ps.zip us)):Def K mg x st ps f (W.fnOf x x (Zy st) (vo st) (zm st) .none kV dc pm an cd ct):=⟨zhp l c k,(zhp l c k).binds b,W.mg_of X G a⟩
theorem bn1 {F:Value->Value->Value->Option Addr->Value->Value->List Value->Prop}(h:∀ a b c d e f x0,F a b c d e f [x0]):∀ a b c d e f us,us.length=1->F a b c d e f us:=λa b c d e f us hl=>by obtain⟨x0,rfl⟩:=zmh hl;exact h a b c d e f x0
theorem bn2 {F:Value->Value->Value->Option Addr->Value->Value->List Value->Prop}(h:∀ a b c d e f x0 x1,F a b c d e f [x0,x1]):∀ a b c d e f us,us.length=2->F a b c d e f us:=λa b c d e f us hl=>by obtain⟨x0,x1,rfl⟩:=zlW hl;exact h a b c d e f x0 x1
theorem bn3 {F:Value->Value->Value->Option Addr->Value->Value->List Value->Prop}(h:∀ a b c d e f x0 x1 x2,F a b c d e f [x0,x1,x2]):∀ a b c d e f us,us.length=3->F a b c d e f us:=λa b c d e f us hl=>by obtain⟨x0,x1,x2,rfl⟩:=zlB hl;exact h a b c d e f x0 x1 x2
theorem bn4 {F:Value->Value->Value->Option Addr->Value->Value->List Value->Prop}(h:∀ a b c d e f x0 x1 x2 x3,F a b c d e f [x0,x1,x2,x3]):∀ a b c d e f us,us.length=4->F a b c d e f us:=λa b c d e f us hl=>by obtain⟨x0,x1,x2,x3,rfl⟩:=zmg hl;exact h a b c d e f x0 x1 x2 x3
theorem bn5 {F:Value->Value->Value->Option Addr->Value->Value->List Value->Prop}(h:∀ a b c d e f x0 x1 x2 x3 x4,F a b c d e f [x0,x1,x2,x3,x4]):∀ a b c d e f us,us.length=5->F a b c d e f us:=λa b c d e f us hl=>by obtain⟨x0,x1,x2,x3,x4,rfl⟩:=zlV hl;exact h a b c d e f x0 x1 x2 x3 x4
theorem all_mk {l:W.OpenLaw} {w:World} {K:W.Frag} {h:Heap} {mg:Str->Option Value} {fa f0 f1 f2 f3 f4 f5 f6 f7 f8 f9 f10 f11 f12 f13 f14 f15 f16 f17 f18 f19 f20 f21 f22 f23 f24 f25 f26 f27 f28 f29 f30 f31 f32:Addr} (X:K.In h) (G:h.Ns mainGlobals mg) (hfa:mg "law"=some (.ref fa))
 {od0 an0 od1 an1 od2 an2 od3 an3 od4 an4 od5 an5 od6 an6 od7 an7 od8 an8 od9 an9 od10 an10 od11 an11 od12 an12 od13 an13 od14 an14 od15 an15 od16 an16 od17 an17 od18 an18 od19 an19 od20 an20 od21 an21 od22 an22 od23 an23 od24 an24 od25 an25 od26 an26 od27 an27 od28 an28 od29 an29 od30 an30 od31 an31 od32 an32:Option Addr} {sl0 sl1 sl2 sl3 sl4 sl5 sl6 sl7 sl8 sl9 sl10 sl11 sl12 sl13 sl14 sl15 sl16 sl17 sl18 sl19 sl20 sl21 sl22 sl23 sl24 sl25 sl26 sl27 sl28 sl29 sl30 sl31 sl32:Array (Option Value)} {oc0 kV0 dc0 pm0 cd0 ct0 oc1 kV1 dc1 pm1 cd1 ct1 oc2 kV2 dc2 pm2 cd2 ct2 oc3 kV3 dc3 pm3 cd3 ct3 oc4 kV4 dc4 pm4 cd4 ct4 oc5 kV5 dc5 pm5 cd5 ct5 oc6 kV6 dc6 pm6 cd6 ct6 oc7 kV7 dc7 pm7 cd7 ct7 oc8 kV8 dc8 pm8 cd8 ct8 oc9 kV9 dc9 pm9 cd9 ct9 oc10 kV10 dc10 pm10 cd10 ct10 oc11 kV11 dc11 pm11 cd11 ct11 oc12 kV12 dc12 pm12 cd12 ct12 oc13 kV13 dc13 pm13 cd13 ct13 oc14 kV14 dc14 pm14 cd14 ct14 oc15 kV15 dc15 pm15 cd15 ct15 oc16 kV16 dc16 pm16 cd16 ct16 oc17 kV17 dc17 pm17 cd17 ct17 oc18 kV18 dc18 pm18 cd18 ct18 oc19 kV19 dc19 pm19 cd19 ct19 oc20 kV20 dc20 pm20 cd20 ct20 oc21 kV21 dc21 pm21 cd21 ct21 oc22 kV22 dc22 pm22 cd22 ct22 oc23 kV23 dc23 pm23 cd23 ct23 oc24 kV24 dc24 pm24 cd24 ct24 oc25 kV25 dc25 pm25 cd25 ct25 oc26 kV26 dc26 pm26 cd26 ct26 oc27 kV27 dc27 pm27 cd27 ct27 oc28 kV28 dc28 pm28 cd28 ct28 oc29 kV29 dc29 pm29 cd29 ct29 oc30 kV30 dc30 pm30 cd30 ct30 oc31 kV31 dc31 pm31 cd31 ct31 oc32 kV32 dc32 pm32 cd32 ct32:Value} {tk0:Tok} {tk1:Tok}
 (a0:W.nsIn K mainGlobals "is_whole"=some (some (.ref f0))) (l0:K.lookup f0=Lk "is_whole" Zx oc0 od0 kV0 dc0 pm0 an0 cd0 ct0 sl0) (c0:W.codeIn K cd0 "is_whole"=true) (k0:W.keepIn K (.ref f0)=true)
 (a1:W.nsIn K mainGlobals "is_whole_within"=some (some (.ref f1))) (l1:K.lookup f1=Lk "is_whole_within" xF oc1 od1 kV1 dc1 pm1 an1 cd1 ct1 sl1) (c1:W.codeIn K cd1 "is_whole_within"=true) (k1:W.keepIn K (.ref f1)=true)
 (a2:W.nsIn K mainGlobals "must_be_within"=some (some (.ref f2))) (l2:K.lookup f2=Lk "must_be_within" xQ oc2 od2 kV2 dc2 pm2 an2 cd2 ct2 sl2) (c2:W.codeIn K cd2 "must_be_within"=true) (k2:W.keepIn K (.ref f2)=true)
 (a3:W.nsIn K mainGlobals "is_place_count"=some (some (.ref f3))) (l3:K.lookup f3=Lk "is_place_count" xR oc3 od3 kV3 dc3 pm3 an3 cd3 ct3 sl3) (c3:W.codeIn K cd3 "is_place_count"=true) (k3:W.keepIn K (.ref f3)=true)
 (a4:W.nsIn K mainGlobals "is_place"=some (some (.ref f4))) (l4:K.lookup f4=Lk "is_place" Zz oc4 od4 kV4 dc4 pm4 an4 cd4 ct4 sl4) (c4:W.codeIn K cd4 "is_place"=true) (k4:W.keepIn K (.ref f4)=true)
 (a5:W.nsIn K mainGlobals "are_counts"=some (some (.ref f5))) (l5:K.lookup f5=Lk "are_counts" vW oc5 od5 kV5 dc5 pm5 an5 cd5 ct5 sl5) (c5:W.codeIn K cd5 "are_counts"=true) (k5:W.keepIn K (.ref f5)=true)
 (a6:W.nsIn K mainGlobals "is_pair"=some (some (.ref f6))) (l6:K.lookup f6=Lk "is_pair" Xm oc6 od6 kV6 dc6 pm6 an6 cd6 ct6 sl6) (c6:W.codeIn K cd6 "is_pair"=true) (k6:W.keepIn K (.ref f6)=true)
 (a7:W.nsIn K mainGlobals "are_ties"=some (some (.ref f7))) (l7:K.lookup f7=Lk "are_ties" Zp oc7 od7 kV7 dc7 pm7 an7 cd7 ct7 sl7) (c7:W.codeIn K cd7 "are_ties"=true) (k7:W.keepIn K (.ref f7)=true)
 (a8:W.nsIn K mainGlobals "is_web"=some (some (.ref f8))) (l8:K.lookup f8=Lk "is_web" Wg oc8 od8 kV8 dc8 pm8 an8 cd8 ct8 sl8) (c8:W.codeIn K cd8 "is_web"=true) (k8:W.keepIn K (.ref f8)=true)
 (a9:W.nsIn K mainGlobals "must_be_web"=some (some (.ref f9))) (l9:K.lookup f9=Lk "must_be_web" vn oc9 od9 kV9 dc9 pm9 an9 cd9 ct9 sl9) (c9:W.codeIn K cd9 "must_be_web"=true) (k9:W.keepIn K (.ref f9)=true)
 (a10:W.nsIn K mainGlobals "must_be_place"=some (some (.ref f10))) (l10:K.lookup f10=Lk "must_be_place" we oc10 od10 kV10 dc10 pm10 an10 cd10 ct10 sl10) (c10:W.codeIn K cd10 "must_be_place"=true) (k10:W.keepIn K (.ref f10)=true)
 (a11:W.nsIn K mainGlobals "tie_between"=some (some (.ref f11))) (l11:K.lookup f11=Lk "tie_between" vm oc11 od11 kV11 dc11 pm11 an11 cd11 ct11 sl11) (c11:W.codeIn K cd11 "tie_between"=true) (k11:W.keepIn K (.ref f11)=true)
 (a12:W.nsIn K mainGlobals "neighbours"=some (some (.ref f12))) (l12:K.lookup f12=Lk "neighbours" vN oc12 od12 kV12 dc12 pm12 an12 cd12 ct12 sl12) (c12:W.codeIn K cd12 "neighbours"=true) (k12:W.keepIn K (.ref f12)=true)
 (a13:W.nsIn K mainGlobals "are_stones"=some (some (.ref f13))) (l13:K.lookup f13=Lk "are_stones" Yf oc13 od13 kV13 dc13 pm13 an13 cd13 ct13 sl13) (c13:W.codeIn K cd13 "are_stones"=true) (k13:W.keepIn K (.ref f13)=true)
 (a14:W.nsIn K mainGlobals "must_be_heap"=some (some (.ref f14))) (l14:K.lookup f14=Lk "must_be_heap" wR oc14 od14 kV14 dc14 pm14 an14 cd14 ct14 sl14) (c14:W.codeIn K cd14 "must_be_heap"=true) (k14:W.keepIn K (.ref f14)=true)
 (a15:W.nsIn K mainGlobals "all_steps"=some (some (.ref f15))) (l15:K.lookup f15=Lk "all_steps" YH oc15 od15 kV15 dc15 pm15 an15 cd15 ct15 sl15) (c15:W.codeIn K cd15 "all_steps"=true) (k15:W.keepIn K (.ref f15)=true)
 (a16:W.nsIn K mainGlobals "stepped"=some (some (.ref f16))) (l16:K.lookup f16=Lk "stepped" Xk oc16 od16 kV16 dc16 pm16 an16 cd16 ct16 sl16) (c16:W.codeIn K cd16 "stepped"=true) (k16:W.keepIn K (.ref f16)=true)
 (a17:W.nsIn K mainGlobals "must_be_asked"=some (some (.ref f17))) (l17:K.lookup f17=Lk "must_be_asked" wg oc17 od17 kV17 dc17 pm17 an17 cd17 ct17 sl17) (c17:W.codeIn K cd17 "must_be_asked"=true) (k17:W.keepIn K (.ref f17)=true)
 (a18:W.nsIn K mainGlobals "is_closed"=some (some (.ref f18))) (l18:K.lookup f18=Lk "is_closed" Yy oc18 od18 kV18 dc18 pm18 an18 cd18 ct18 sl18) (c18:W.codeIn K cd18 "is_closed"=true) (k18:W.keepIn K (.ref f18)=true)
 (a19:W.nsIn K mainGlobals "closed_holds"=some (some (.ref f19))) (l19:K.lookup f19=Lk "closed_holds" wT oc19 od19 kV19 dc19 pm19 an19 cd19 ct19 sl19) (c19:W.codeIn K cd19 "closed_holds"=true) (k19:W.keepIn K (.ref f19)=true)
 (a20:W.nsIn K mainGlobals "_law_whole"=some (some (.ref f20))) (l20:K.lookup f20=Lk "_law_whole" Yj oc20 od20 kV20 dc20 pm20 an20 cd20 ct20 sl20) (c20:W.codeIn K cd20 "_law_whole"=true) (k20:W.keepIn K (.ref f20)=true)
 (a21:W.nsIn K mainGlobals "_law_may"=some (some (.ref f21))) (l21:K.lookup f21=Lk "_law_may" Zw oc21 od21 kV21 dc21 pm21 an21 cd21 ct21 sl21) (c21:W.codeIn K cd21 "_law_may"=true) (k21:W.keepIn K (.ref f21)=true)
 (a22:W.nsIn K mainGlobals "_law_moved"=some (some (.ref f22))) (l22:K.lookup f22=Lk "_law_moved" vP oc22 od22 kV22 dc22 pm22 an22 cd22 ct22 sl22) (c22:W.codeIn K cd22 "_law_moved"=true) (k22:W.keepIn K (.ref f22)=true)
 (a23:W.nsIn K mainGlobals "_law_stir"=some (some (.ref f23))) (l23:K.lookup f23=Lk "_law_stir" YW oc23 od23 kV23 dc23 pm23 an23 cd23 ct23 sl23) (c23:W.codeIn K cd23 "_law_stir"=true) (k23:W.keepIn K (.ref f23)=true)
 (a24:W.nsIn K mainGlobals "_law_heap_by"=some (some (.ref f24))) (l24:K.lookup f24=Lk "_law_heap_by" wN oc24 od24 kV24 dc24 pm24 an24 cd24 ct24 sl24) (c24:W.codeIn K cd24 "_law_heap_by"=true) (k24:W.keepIn K (.ref f24)=true)
 (a25:W.nsIn K mainGlobals "_law_no_heap"=some (some (.ref f25))) (l25:K.lookup f25=Lk "_law_no_heap" wO oc25 od25 kV25 dc25 pm25 an25 cd25 ct25 sl25) (c25:W.codeIn K cd25 "_law_no_heap"=true) (k25:W.keepIn K (.ref f25)=true)
 (a26:W.nsIn K mainGlobals "_law_behind"=some (some (.ref f26))) (l26:K.lookup f26=Lk "_law_behind" vt oc26 od26 kV26 dc26 pm26 an26 cd26 ct26 sl26) (c26:W.codeIn K cd26 "_law_behind"=true) (k26:W.keepIn K (.ref f26)=true)
 (a27:W.nsIn K mainGlobals "_law_pairs"=some (some (.ref f27))) (l27:K.lookup f27=Lk "_law_pairs" v9 oc27 od27 kV27 dc27 pm27 an27 cd27 ct27 sl27) (c27:W.codeIn K cd27 "_law_pairs"=true) (k27:W.keepIn K (.ref f27)=true)
 (a28:W.nsIn K mainGlobals "_law_web_by"=some (some (.ref f28))) (l28:K.lookup f28=Lk "_law_web_by" vp oc28 od28 kV28 dc28 pm28 an28 cd28 ct28 sl28) (c28:W.codeIn K cd28 "_law_web_by"=true) (k28:W.keepIn K (.ref f28)=true)
 (a29:W.nsIn K mainGlobals "_law_same"=some (some (.ref f29))) (l29:K.lookup f29=Lk "_law_same" YV oc29 od29 kV29 dc29 pm29 an29 cd29 ct29 sl29) (c29:W.codeIn K cd29 "_law_same"=true) (k29:W.keepIn K (.ref f29)=true)
 (a30:W.nsIn K mainGlobals "_law_good"=some (some (.ref f30))) (l30:K.lookup f30=Lk "_law_good" YG oc30 od30 kV30 dc30 pm30 an30 cd30 ct30 sl30) (c30:W.codeIn K cd30 "_law_good"=true) (k30:W.keepIn K (.ref f30)=true)
 (a31:W.nsIn K mainGlobals "_law_otherwise"=some (some (.ref f31))) (l31:K.lookup f31=Lk "_law_otherwise" xO oc31 od31 kV31 dc31 pm31 an31 cd31 ct31 sl31) (c31:W.codeIn K cd31 "_law_otherwise"=true) (k31:W.keepIn K (.ref f31)=true)
 (a32:W.nsIn K mainGlobals "law"=some (some (.ref f32))) (l32:K.lookup f32=Lk "law" zeF oc32 od32 kV32 dc32 pm32 an32 cd32 ct32 sl32) (c32:W.codeIn K cd32 "law"=true) (k32:W.keepIn K (.ref f32)=true)
 (gg0:W.nsIn K mainGlobals "MOST_PLACES"=some (some (.int 8 tk0)))
 (gg1:W.nsIn K mainGlobals "MOST_STONES"=some (some (.int 300 tk1)))
 (z0:W.nsIn K mainGlobals "all"=some none)
 (z1:W.nsIn K mainGlobals "bool"=some none)
 (z2:W.nsIn K mainGlobals "dict"=some none)
 (z3:W.nsIn K mainGlobals "enumerate"=some none)
 (z4:W.nsIn K mainGlobals "int"=some none)
 (z5:W.nsIn K mainGlobals "isinstance"=some none)
 (z6:W.nsIn K mainGlobals "len"=some none)
 (z7:W.nsIn K mainGlobals "list"=some none)
 (z8:W.nsIn K mainGlobals "max"=some none)
 (z9:W.nsIn K mainGlobals "min"=some none)
 (z10:W.nsIn K mainGlobals "range"=some none)
 (z11:W.nsIn K mainGlobals "reversed"=some none)
 (z12:W.nsIn K mainGlobals "sorted"=some none)
 (z13:W.nsIn K mainGlobals "str"=some none)
 (z14:W.nsIn K mainGlobals "sum"=some none)
 (z15:W.nsIn K mainGlobals "tuple"=some none)
 (z16:W.nsIn K mainGlobals "zip"=some none)
 : ∃ fd:FuncData,(∀ (s:Shared) (v:Value),BindsTo s fd ⟨[v],[]⟩ [("script",v)])/\∀ base:Heap,K.In base->base.Ns mainGlobals mg->xK l.prog w K mg base CX0 20 fa fd ["script"] (zet K):=by
 have e:=hfa.symm.trans (W.mg_of X G a32)
 cases e
 have T:Txt K mg ⟨_,_,_,_,_,_,_,_,_,_,_,_,_,_,_,_,_,_,_,_,_,_,_,_,_,_,_,_,_,_,_,_,_,_,_,_,_,_,_,_,_,_,_,_,_,_,_,_,_,_,_,_,_,_,_,_,_,_,_,_,_,_,_,_,_,_,tk0,tk1⟩:=⟨
  mkD X G a0 l0 c0 k0 (bn1 λ_ _ _ _ _ _ _=>rfl),
  mkD X G a1 l1 c1 k1 (bn3 λ_ _ _ _ _ _ _ _ _=>rfl),
  mkD X G a2 l2 c2 k2 (bn3 λ_ _ _ _ _ _ _ _ _=>rfl),
  mkD X G a3 l3 c3 k3 (bn1 λ_ _ _ _ _ _ _=>rfl),
  mkD X G a4 l4 c4 k4 (bn2 λ_ _ _ _ _ _ _ _=>rfl),
  mkD X G a5 l5 c5 k5 (bn2 λ_ _ _ _ _ _ _ _=>rfl),
  mkD X G a6 l6 c6 k6 (bn2 λ_ _ _ _ _ _ _ _=>rfl),
  mkD X G a7 l7 c7 k7 (bn2 λ_ _ _ _ _ _ _ _=>rfl),
  mkD X G a8 l8 c8 k8 (bn1 λ_ _ _ _ _ _ _=>rfl),
  mkD X G a9 l9 c9 k9 (bn1 λ_ _ _ _ _ _ _=>rfl),
  mkD X G a10 l10 c10 k10 (bn2 λ_ _ _ _ _ _ _ _=>rfl),
  mkD X G a11 l11 c11 k11 (bn2 λ_ _ _ _ _ _ _ _=>rfl),
  mkD X G a12 l12 c12 k12 (bn2 λ_ _ _ _ _ _ _ _=>rfl),
  mkD X G a13 l13 c13 k13 (bn2 λ_ _ _ _ _ _ _ _=>rfl),
  mkD X G a14 l14 c14 k14 (bn2 λ_ _ _ _ _ _ _ _=>rfl),
  mkD X G a15 l15 c15 k15 (bn1 λ_ _ _ _ _ _ _=>rfl),
  mkD X G a16 l16 c16 k16 (bn2 λ_ _ _ _ _ _ _ _=>rfl),
  mkD X G a17 l17 c17 k17 (bn4 λ_ _ _ _ _ _ _ _ _ _=>rfl),
  mkD X G a18 l18 c18 k18 (bn2 λ_ _ _ _ _ _ _ _=>rfl),
  mkD X G a19 l19 c19 k19 (bn5 λ_ _ _ _ _ _ _ _ _ _ _=>rfl),
  mkD X G a20 l20 c20 k20 (bn1 λ_ _ _ _ _ _ _=>rfl),
  mkD X G a21 l21 c21 k21 (bn2 λ_ _ _ _ _ _ _ _=>rfl),
  mkD X G a22 l22 c22 k22 (bn2 λ_ _ _ _ _ _ _ _=>rfl),
  mkD X G a23 l23 c23 k23 (bn2 λ_ _ _ _ _ _ _ _=>rfl),
  mkD X G a24 l24 c24 k24 (bn3 λ_ _ _ _ _ _ _ _ _=>rfl),
  mkD X G a25 l25 c25 k25 (bn2 λ_ _ _ _ _ _ _ _=>rfl),
  mkD X G a26 l26 c26 k26 (bn2 λ_ _ _ _ _ _ _ _=>rfl),
  mkD X G a27 l27 c27 k27 (bn1 λ_ _ _ _ _ _ _=>rfl),
  mkD X G a28 l28 c28 k28 (bn2 λ_ _ _ _ _ _ _ _=>rfl),
  mkD X G a29 l29 c29 k29 (bn2 λ_ _ _ _ _ _ _ _=>rfl),
  mkD X G a30 l30 c30 k30 (bn5 λ_ _ _ _ _ _ _ _ _ _ _=>rfl),
  mkD X G a31 l31 c31 k31 (bn4 λ_ _ _ _ _ _ _ _ _ _=>rfl),
  mkD X G a32 l32 c32 k32 (bn1 λ_ _ _ _ _ _ _=>rfl),
  W.mg_of X G gg0,
  W.mg_of X G gg1,
  W.mg_none_of X G z0,
  W.mg_none_of X G z1,
  W.mg_none_of X G z2,
  W.mg_none_of X G z3,
  W.mg_none_of X G z4,
  W.mg_none_of X G z5,
  W.mg_none_of X G z6,
  W.mg_none_of X G z7,
  W.mg_none_of X G z8,
  W.mg_none_of X G z9,
  W.mg_none_of X G z10,
  W.mg_none_of X G z11,
  W.mg_none_of X G z12,
  W.mg_none_of X G z13,
  W.mg_none_of X G z14,
  W.mg_none_of X G z15,
  W.mg_none_of X G z16⟩
 exact⟨_,λs v=>.of_eq rfl,λbase _ _=>zkz T⟩
theorem walk {l:W.OpenLaw}{q:Program}{loose:List Str}{XP:(Str->Option Value)->Heap->Prop}{YP:World->Heap->Prop}{d:DefRec}{K:Params->W.Frag}(hn:l.most=some 63)(hdf:d.params.defaults=[])
 (hY:∀ (w:World) (h:Heap),YP w h->(K w.params).In h)
 (F:∀ (w:World) (mg:Str->Option Value) (fa:Addr) (h:Heap),(K w.params).In h->h.Ns mainGlobals mg->mg d.name=some (.ref fa) ->
  ∃ fd:FuncData,(∀ (s:Shared) (u:Value),BindsTo s fd ⟨[u],[]⟩ [("script",u)])/\∀ base:Heap,(K w.params).In base->base.Ns mainGlobals mg->xK l.prog w (K w.params) mg base CX0 20 fa fd ["script"] (zet (K w.params))) :
 PySem.W.WalkO q loose XP YP l.row.toRowW d [] (λf vs=>PySem.call f vs) :=
 L2.walk_of (n:=63) (k:=20) (x:="script") (CX:=λ_=>CX0) (sp:=λw=>zet (K w.params)) hn (by decide) hdf ⟨rfl,by decide,by decide⟩ hY F (λ_ _ a ns hl _ hS=>⟨a,ns,rfl,hS,hl,λ_=>rfl⟩) λ_ _ _ _ _ z=>z
end Mz
open PySem PySem.W PyProof.Rows
theorem PySem.W.Fast.tw3929680277078428004:True:=⟨⟩
theorem PySem.W.Fast.tw15643277150288289985:True:=⟨⟩
theorem PySem.W.Fast.tw11226492371340318808:True:=⟨⟩
theorem PySem.W.Fast.tw3707849180503936061:True:=⟨⟩
theorem PySem.W.Fast.tw9956689988025169059:True:=⟨⟩
theorem PySem.W.Fast.tw9354673157524874672:True:=⟨⟩
theorem PySem.W.Fast.tw11498166544151847904:True:=⟨⟩
theorem PySem.W.Fast.tw8757701192473547627:True:=⟨⟩
theorem PySem.W.Fast.tw11698218763165324753:True:=⟨⟩
theorem PySem.W.Fast.tw13728677022989567833:True:=⟨⟩
theorem PySem.W.Fast.tw6555204970506717934:True:=⟨⟩
theorem PySem.W.Fast.tw17932814745240591887:True:=⟨⟩
theorem PySem.W.Fast.tw12518905573284089443:True:=⟨⟩
theorem PySem.W.Fast.tw4578345343080202519:True:=⟨⟩
theorem PySem.W.Fast.tw6359496786515902498:True:=⟨⟩
theorem PySem.W.Fast.tw7551454311917891744:True:=⟨⟩
theorem PySem.W.Fast.tw17574124940784018480:True:=⟨⟩
theorem PySem.W.Fast.tw17550191890079815882:True:=⟨⟩
theorem PySem.W.Fast.tw914334136535917048:True:=⟨⟩
theorem PySem.W.Fast.tw16801933856335203445:True:=⟨⟩
theorem PySem.W.Fast.tw9773443924236660896:True:=⟨⟩
theorem PySem.W.Fast.tw263060713187147296:True:=⟨⟩
theorem PySem.W.Fast.tw2660772866863495228:True:=⟨⟩
theorem PySem.W.Fast.tw4543554251683263017:True:=⟨⟩
set_option maxRecDepth 100000 in
set_option maxHeartbeats 0 in
theorem PySem.Challenge.cw_twoforone_k42_closed_lists_looked_at_holds : PySem.Challenge.rw_twoforone_k42_closed_lists_looked_at.Holds := by
  w_on;o_law;k_head;(case hw=>w_witness2)
  k_fill
  refine Mz.walk (l:=PySem.Challenge.rw_twoforone_k42_closed_lists_looked_at) rfl rfl (fun w h Y=>PySem.W.kIn_of Y) ?F
  case F =>
    intro w mg fa h KX G hmg
    refine' Mz.all_mk KX G hmg ?a0 ?l0 ?c0 ?k0 ?a1 ?l1 ?c1 ?k1 ?a2 ?l2 ?c2 ?k2 ?a3 ?l3 ?c3 ?k3 ?a4 ?l4 ?c4 ?k4 ?a5 ?l5 ?c5 ?k5 ?a6 ?l6 ?c6 ?k6 ?a7 ?l7 ?c7 ?k7 ?a8 ?l8 ?c8 ?k8 ?a9 ?l9 ?c9 ?k9 ?a10 ?l10 ?c10 ?k10 ?a11 ?l11 ?c11 ?k11 ?a12 ?l12 ?c12 ?k12 ?a13 ?l13 ?c13 ?k13 ?a14 ?l14 ?c14 ?k14 ?a15 ?l15 ?c15 ?k15 ?a16 ?l16 ?c16 ?k16 ?a17 ?l17 ?c17 ?k17 ?a18 ?l18 ?c18 ?k18 ?a19 ?l19 ?c19 ?k19 ?a20 ?l20 ?c20 ?k20 ?a21 ?l21 ?c21 ?k21 ?a22 ?l22 ?c22 ?k22 ?a23 ?l23 ?c23 ?k23 ?a24 ?l24 ?c24 ?k24 ?a25 ?l25 ?c25 ?k25 ?a26 ?l26 ?c26 ?k26 ?a27 ?l27 ?c27 ?k27 ?a28 ?l28 ?c28 ?k28 ?a29 ?l29 ?c29 ?k29 ?a30 ?l30 ?c30 ?k30 ?a31 ?l31 ?c31 ?k31 ?a32 ?l32 ?c32 ?k32 ?gg0 ?gg1 ?z0 ?z1 ?z2 ?z3 ?z4 ?z5 ?z6 ?z7 ?z8 ?z9 ?z10 ?z11 ?z12 ?z13 ?z14 ?z15 ?z16
    case a0 | l0 | c0 | k0 | a1 | l1 | c1 | k1 | a2 | l2 | c2 | k2 | a3 | l3 | c3 | k3 | a4 | l4 | c4 | k4 | a5 | l5 | c5 | k5 | a6 | l6 | c6 | k6 | a7 | l7 | c7 | k7 | a8 | l8 | c8 | k8 | a9 | l9 | c9 | k9 | a10 | l10 | c10 | k10 | a11 | l11 | c11 | k11 | a12 | l12 | c12 | k12 | a13 | l13 | c13 | k13 | a14 | l14 | c14 | k14 | a15 | l15 | c15 | k15 | a16 | l16 | c16 | k16 | a17 | l17 | c17 | k17 | a18 | l18 | c18 | k18 | a19 | l19 | c19 | k19 | a20 | l20 | c20 | k20 | a21 | l21 | c21 | k21 | a22 | l22 | c22 | k22 | a23 | l23 | c23 | k23 | a24 | l24 | c24 | k24 | a25 | l25 | c25 | k25 | a26 | l26 | c26 | k26 | a27 | l27 | c27 | k27 | a28 | l28 | c28 | k28 | a29 | l29 | c29 | k29 | a30 | l30 | c30 | k30 | a31 | l31 | c31 | k31 | a32 | l32 | c32 | k32 | gg0 | gg1 | z0 | z1 | z2 | z3 | z4 | z5 | z6 | z7 | z8 | z9 | z10 | z11 | z12 | z13 | z14 | z15 | z16=>k_is
