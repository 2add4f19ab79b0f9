import PyProof.Rows.All
import Wide.All
import OpenK.AllK
import Wide.FinOn
import Lean
import PyProof.EqAt
import PyProof.EqKinds
import PyProof.TupleCall
import PyProof.NeKinds
import PySem.Challenge.RW_twoforone_k54_whole_a_stone_or_a_sweep_p
set_option Elab.async false
set_option linter.all false
set_option maxRecDepth 100000
set_option maxHeartbeats 4000000
namespace L2
open PySem PySem.Spec PyProof.Rows
noncomputable abbrev Key:=Sum Int Str
noncomputable def zcn:Key->Value->Bool
 | .inl k,v=>Value.isInt k v
 | .inr x,v=>Value.isStrOf x v
noncomputable def keyH (w:World):Key->Int
 | .inl k=>hashInt k
 | .inr x=>hashStr w x
theorem yh:∀ {k:Key} {v:Value},zcn k v=true->(∃ i t,k=Sum.inl i/\v=Value.int i t)\/(∃ x t,k=Sum.inr x/\v=Value.str x t)
 | .inl i,v,h=>by
  obtain⟨t,e⟩:=Value.isInt_shape (k:=i) (v:=v) h
  exact .inl ⟨i,t,rfl,e⟩
 | .inr x,v,h=>by
  obtain⟨t,e⟩:=Value.isStrOf_shape (x:=x) (v:=v) h
  exact .inr ⟨x,t,rfl,e⟩
theorem zeg (i:Int)(t:Tok):zcn (.inl i) (.int i t)=true:=by simp[zcn,Value.isInt]
theorem zcU (x:Str)(t:Tok):zcn (.inr x) (.str x t)=true:=by simp[zcn,Value.isStrOf]
theorem zkb (a b:Int):decide ((Sum.inl a:Key)=Sum.inl b)=(a == b):=by
 by_cases e:a=b
 .subst e;simp
 .have h:¬ (Sum.inl a:Key)=Sum.inl b:=λq=>e (Sum.inl.inj q)
  rw[decide_eq_false h]
  exact(beq_eq_false_iff_ne.mpr e).symm
theorem zjL (a b:Str):decide ((Sum.inr a:Key)=Sum.inr b)=decide (a=b):=by
 by_cases e:a=b
 .subst e;simp
 .have h:¬ (Sum.inr a:Key)=Sum.inr b:=λq=>e (Sum.inr.inj q)
  rw[decide_eq_false h,decide_eq_false e]
theorem zjP (a:Int)(b:Str):decide ((Sum.inl a:Key)=Sum.inr b)=false:=decide_eq_false (λq=>nomatch q)
theorem zku (a:Str)(b:Int):decide ((Sum.inr a:Key)=Sum.inl b)=false:=decide_eq_false (λq=>nomatch q)
noncomputable def yN (prog:Program)(w:World):PySem.KeyKind prog w Key where
 is:=zcn
 hash:=keyH w
 inj:=λv a b ha hb=>by
  rcases yh ha with ⟨i,t,rfl,rfl⟩ | ⟨x,t,rfl,rfl⟩
  .rcases yh hb with ⟨j,u,rfl,e⟩ | ⟨y,u,rfl,e⟩
   .injection e with e1 _;rw[e1]
   .exact nomatch e
  .rcases yh hb with ⟨j,u,rfl,e⟩ | ⟨y,u,rfl,e⟩
   .exact nomatch e
   .injection e with e1 _;rw[e1]
 byValue:=λk v h=>by
  rcases yh h with ⟨i,t,rfl,rfl⟩ | ⟨x,t,rfl,rfl⟩ <;> rfl
 pyHash:=λhv h=>by
  rcases yh hv with ⟨i,t,rfl,rfl⟩ | ⟨x,t,rfl,rfl⟩
  .exact wpAny_pyHash_int h
  .exact wpAny_pyHash_str h
 eqBool:=λhu hv h=>by
  rcases yh hu with ⟨i,t,rfl,rfl⟩ | ⟨x,t,rfl,rfl⟩
  .rcases yh hv with ⟨j,u,rfl,rfl⟩ | ⟨y,u,rfl,rfl⟩
   .rw[zkb]at h;exact wpAny_eqBool_int h
   .rw[zjP]at h;exact SeqAt.EqAt.int_str i t y u _ _ _ _ h
  .rcases yh hv with ⟨j,u,rfl,rfl⟩ | ⟨y,u,rfl,rfl⟩
   .rw[zku]at h;exact SeqAt.EqAt.str_int x t j u _ _ _ _ h
   .rw[zjL]at h;exact wpAny_eqBool_str h
 «strs»:=λk x t v h=>by
  rcases yh h with ⟨i,u,rfl,e⟩ | ⟨y,u,rfl,e⟩
  .exact nomatch e
  .injection e with e1 _
   subst e1
   cases v <;> rfl
theorem za4 (prog:Program)(w:World)(i:Int)(t:Tok):(yN prog w).is (.inl i) (.int i t)=true:=zeg i t
theorem zaG (prog:Program)(w:World)(x:Str)(t:Tok):(yN prog w).is (.inr x) (.str x t)=true:=zcU x t
inductive V where
 | non | bl (b:Bool) | int (i:Int) | str (x:Str) | byt (b:Array UInt8) | flt (b:UInt64) | ref (a:Addr) | ty (n:String)
 deriving DecidableEq
noncomputable def yH:V->Value->Prop
 | .non,u=>u=Value.none
 | .bl b,u=>u=Value.bool b
 | .int i,u=>∃ t,u=Value.int i t
 | .str x,u=>∃ t,u=Value.str x t
 | .byt b,u=>∃ t,u=Value.bytes b t
 | .flt b,u=>∃ t,u=Value.float b t
 | .ref a,u=>u=Value.ref a
 | .ty n,u=>u=Value.type n
noncomputable abbrev ya:List V->List Value->Prop:=Paired yH
theorem ya.length {xs:List V}{us:List Value}(r:ya xs us):xs.length=us.length:=Paired.length r
theorem ya.get:∀ {xs:List V} {us:List Value} {i:Nat} {x:V},ya xs us->xs[i]?=some x->∃ u,us[i]?=some u/\yH x u
 | _,_,_,_,.nil,e=>by simp at e
 | _,_,0,_,.cons r _,e=>by simp at e;subst e;exact⟨_,rfl,r⟩
 | _,_,i+1,x,.cons _ t,e=>by
  obtain⟨u,h1,h2⟩:=ya.get (i:=i) (x:=x) t (by simpa using e)
  exact⟨u,by simpa using h1,h2⟩
theorem ya.set {x:V}{u:Value}(r:yH x u):∀ {xs:List V} {us:List Value} (i:Nat),ya xs us->ya (xs.set i x) (us.set i u)
 | _,_,_,.nil=>.nil
 | _,_,0,.cons _ t=>.cons r t
 | _,_,i+1,.cons q t=>.cons q (ya.set r i t)
theorem ya.append:∀ {xs ys:List V} {us ws:List Value},ya xs us->ya ys ws->ya (xs++ys) (us++ws):=by
 intro xs ys us ws h s
 induction h with
 | nil=>exact s
 | cons r t ih=>exact .cons r ih
theorem ya.take:∀ {xs:List V} {us:List Value} (n:Nat),ya xs us->ya (xs.take n) (us.take n)
 | _,_,0,_=>.nil
 | _,_,_+1,.nil=>.nil
 | _,_,n+1,.cons r t=>.cons r (ya.take n t)
theorem ya.drop:∀ {xs:List V} {us:List Value} (n:Nat),ya xs us->ya (xs.drop n) (us.drop n)
 | _,_,0,r=>r
 | _,_,_+1,.nil=>.nil
 | _,_,n+1,.cons _ t=>ya.drop n t
noncomputable def zhr:Option V->Option Value->Prop
 | some v,some u=>yH v u
 | none,none=>True
 | _,_=>False
noncomputable def KV {κ:Type}:List (κ × V)->List (κ × Value)->Prop:=Paired λ(p:κ × V) (q:κ × Value)=>p.1=q.1/\yH p.2 q.2
noncomputable def kV:Key->V
 | .inl i=>.int i
 | .inr x=>.str x
inductive HO where
 | lst (xs:List V)
 | tup (xs:List V)
 | dK (kvs:List (Key × V)) | dT (kvs:List (List Key × V))
 | set (S:Int->Bool) (n:Nat)
 | ins (C dx:Addr) (fs:List (Str × V))
 | own (x:Addr)
 | xd (fs:List (Str × V))
 | met (f x:Addr)
 | rng (lo hi:Int)
 | frz (o:Obj) (u:HO)
 | tbl (ps:Array Value)
 | ext (φ:Heap->Prop)
noncomputable abbrev Hp:=Addr->Option HO
noncomputable def upd (H:Hp)(a:Addr)(o:HO):Hp:=λb=>if b=a then some o else H b
theorem zk {H:Hp}{a:Addr}{o:HO}:upd H a o a=some o:=by unfold upd;rw[if_pos rfl]
theorem zm {H:Hp}{a b:Addr}{o:HO}(h:b≠a):upd H a o b=H b:=by unfold upd;rw[if_neg h]
theorem zav {H:Hp}{a:Addr}{o u:HO}:upd (upd H a o) a u=upd H a u:=by
 funext b;unfold upd;split <;> rfl
theorem zig {H:Hp}{a b:Addr}{o u:HO}(h:H a=some o)(h':H b=some u)(d:o≠u):a≠b:=by
 intro e;subst e;rw[h]at h';exact d (Option.some.inj h')
theorem zj {H:Hp}{a b:Addr}{o:HO}(h:H a=some o)(h':H b=none):a≠b:=by
 intro e;subst e;rw[h]at h';cases h'
section
variable (P:Program)(w:World)
noncomputable def yw (H:Hp)(h:Heap)(a:Addr):HO->Prop
 | .lst xs=>xs.length<=sizeLine/\∃ (its:List Value) (n:Nat),ya xs its/\h.get? a=some { cls:=.type "list",data:=.seq its.toArray n }
 | .tup xs=>xs.length<=sizeLine/\∃ its:List Value,ya xs its/\IsTup h a its.toArray
 | .dK kvs=>kvs.length<=sizeLine/\(a == sysModules)=false/\∃ vs,KV kvs vs/\h.DictOf (yN P w) a vs
 | .dT kvs=>kvs.length<=sizeLine/\(a == sysModules)=false/\∃ xs:List (List Key × Addr × Value),
  Paired (λ(p:List Key × V) (q:List Key × Addr × Value)=>p.1=q.1/\H q.2.1=some (.tup (p.1.map kV))/\yH p.2 q.2.2) kvs xs /\
  ∃ o es ep,h.get? a=some o/\o.ExactDict/\o.data=.dict es ep/\es.toList=xs.map (entryOfKey (tupleKind (yN P w)))/\(xs.map (·.1)).Nodup
 | .set S n=>h.SetOf (intKind P w) a S n
 | .ins C dx fs=>H dx=some (.own a)/\fs.length<=1000/\dx≠a/\h.get? a=some (W.instObj C dx) /\
  ∃ mA,h.Ns1 dx mA/\(∀ f,zhr (fs.lookup f) (mA f))/\PySem.Within mA (fs.map (·.1))
 | .own _=>∃ o,h.get? a=some o
 | .xd fs=>∃ mA,h.Ns1 a mA/\∀ f,zhr (fs.lookup f) (mA f)
 | .rng lo hi=>∃ t u v,h.get? a=some { cls:=.type "range",data:=.fields #[.int lo t,.int hi u,.int 1 v] }
 | .frz o u=>h.get? a=some o/\yw H h a u
 | .tbl ps=>h.get? a=some { cls:=.none,data:=.fields ps }
 | .met f x=>h.get? a=some (W.methodObj (.ref f) (.ref x))
 | .ext φ=>φ h/\(∃ o,h.get? a=some o)/\∀ h1 h2:Heap,φ h1->(∀ o,h1.get? a=some o->h2.get? a=some o)->φ h2
noncomputable def HOk (H:Hp)(h:Heap):Prop:=∀ a o,H a=some o->yw P w H h a o
end
section
variable {P:Program}{w:World}{H H':Hp}{h h':Heap}{a:Addr}{o:HO}
theorem yw.lt (x:yw P w H h a o):a < h.objs.size:=by
 cases o with
 | lst xs=>obtain⟨_,_,_,_,e⟩:=x;exact Heap.lt_size e
 | tup xs=>obtain⟨_,_,_,p⟩:=x;exact p.lt
 | dK kvs=>obtain⟨_,_,_,_,o,_,_,e,_⟩:=x;exact Heap.lt_size e
 | dT kvs=>obtain⟨_,_,_,_,o,_,_,e,_⟩:=x;exact Heap.lt_size e
 | set S n=>obtain⟨o,_,_,_,e,_⟩:=x;exact Heap.lt_size e
 | ins C dx fs=>obtain⟨_,_,_,e,_⟩:=x;exact Heap.lt_size e
 | own y=>obtain⟨_,e⟩:=x;exact Heap.lt_size e
 | xd fs=>obtain⟨_,⟨_,_,_,e,_⟩,_⟩:=x;exact Heap.lt_size e
 | rng lo hi=>obtain⟨_,_,_,e⟩:=x;exact Heap.lt_size e
 | frz ob u=>obtain⟨e,_⟩:=x;exact Heap.lt_size e
 | tbl ps=>exact Heap.lt_size (show h.get? a=some _ from x)
 | met f y=>exact Heap.lt_size (show h.get? a=some _ from x)
 | ext φ=>obtain⟨_,⟨_,e⟩,_⟩:=x;exact Heap.lt_size e
theorem Paired.mapP {α β:Type}{F G:α->β->Prop}:∀ {l₁:List α} {l₂:List β},Paired F l₁ l₂->(∀ a b,F a b->G a b)->Paired G l₁ l₂:=by
 intro l1 l2 h f
 induction h with
 | nil=>exact .nil
 | cons r t ih=>exact .cons (f _ _ r) ih
theorem yw.stay (x:yw P w H h a o)(k:∀ b u,(b=a\/H b=some (.own a))->h.get? b=some u->h'.get? b=some u)
 (ho:∀ b,H b=some (.own a)->H' b=some (.own a)) (ht:∀ b xs,H b=some (.tup xs)->H' b=some (.tup xs)):yw P w H' h' a o:=by
 induction o with
 | lst xs=>obtain⟨z,its,n,r,e⟩:=x;exact⟨z,its,n,r,k _ _ (.inl rfl) e⟩
 | tup xs=>obtain⟨z,its,r,ob,e,c⟩:=x;exact⟨z,its,r,ob,k _ _ (.inl rfl) e,c⟩
 | dK kvs=>obtain⟨z,y,vs,r,ob,es,ep,e,c⟩:=x;exact⟨z,y,vs,r,ob,es,ep,k _ _ (.inl rfl) e,c⟩
 | dT kvs =>
  obtain⟨z,y,xs,r,ob,es,ep,e,c⟩:=x
  exact⟨z,y,xs,Paired.mapP r λp q z=>⟨z.1,ht _ _ z.2.1,z.2.2⟩,ob,es,ep,k _ _ (.inl rfl) e,c⟩
 | set S n=>obtain⟨ob,es,ep,t,e,c⟩:=x;exact⟨ob,es,ep,t,k _ _ (.inl rfl) e,c⟩
 | ins C dx fs =>
  obtain⟨d,z,ne,e,mA,⟨od,es,ep,e2,c⟩,r⟩:=x
  exact⟨ho _ d,z,ne,k _ _ (.inl rfl) e,mA,⟨od,es,ep,k _ _ (.inr d) e2,c⟩,r⟩
 | own y=>obtain⟨ob,e⟩:=x;exact⟨ob,k _ _ (.inl rfl) e⟩
 | xd fs=>obtain⟨mA,⟨od,es,ep,e,c⟩,r⟩:=x;exact⟨mA,⟨od,es,ep,k _ _ (.inl rfl) e,c⟩,r⟩
 | rng lo hi=>obtain⟨t,u,v,e⟩:=x;exact⟨t,u,v,k _ _ (.inl rfl) e⟩
 | frz ob u ih=>obtain⟨e,q⟩:=x;exact⟨k _ _ (.inl rfl) e,ih q⟩
 | tbl ps =>
  have e:h.get? a=some { cls:=.none,data:=.fields ps }:=x
  show h'.get? a=some { cls:=.none,data:=.fields ps }
  exact k a _ (.inl rfl) e
 | met f y =>
  have e:h.get? a=some (W.methodObj (.ref f) (.ref y)):=x
  show h'.get? a=some (W.methodObj (.ref f) (.ref y))
  exact k a _ (.inl rfl) e
 | ext φ=>obtain⟨p,⟨o,e⟩,st⟩:=x;exact⟨st _ _ p λo q=>k _ _ (.inl rfl) q,⟨o,k _ _ (.inl rfl) e⟩,st⟩
theorem HOk.lt (x:HOk P w H h)(e:H a=some o):a < h.objs.size:=(x a o e).lt
theorem HOk.fresh (x:HOk P w H h)(e:h.objs.size<=a):H a=none:=by
 cases q:H a with
 | none=>rfl
 | some u=>exact absurd (Nat.lt_of_lt_of_le (x.lt q) e) (Nat.lt_irrefl _)
theorem HOk.kept (x:HOk P w H h)(k:∀ b u,h.get? b=some u->h'.get? b=some u):HOk P w H h':=λa o e =>
 (x a o e).stay (λb u _ q=>k b u q) (λ_ q=>q) λ_ _ q=>q
theorem HOk.laid (x:HOk P w H h)(k:∀ b u,h.get? b=some u->h'.get? b=some u)(hp:h.objs.size<=a)(new:yw P w (upd H a o) h' a o):HOk P w (upd H a o) h':=λb u e=>by
 have hn:=x.fresh hp
 by_cases hb:b=a
 .subst hb;rw[zk]at e;cases e;exact new
 .rw[zm hb]at e
  exact(x b u e).stay (λc v _ q=>k c v q) (λc q=>by rw[zm (zj q hn)];exact q) λc xs q=>by rw[zm (zj q hn)];exact q
end
noncomputable def Rd (H:Hp)(a:Addr)(u:HO):Prop:=H a=some u\/∃ o,H a=some (.frz o u)
theorem Rd.ok {P:Program}{w:World}{H:Hp}{h:Heap}{a:Addr}{u:HO}(r:Rd H a u)(x:HOk P w H h):yw P w H h a u:=by
 rcases r with r | ⟨o,r⟩
 .exact x a u r
 .obtain⟨_,q⟩:=x a _ r
  exact q
noncomputable def Mut:Option HO->Prop
 | some (.lst _)=>True
 | some (.dK _)=>True
 | some (.dT _)=>True
 | some (.set _ _)=>True
 | some (.ins _ _ _)=>True
 | some (.ext _)=>True
 | _=>False
section
variable {P:Program}{w:World}{H:Hp}{h h':Heap}{x e:Addr}{o':HO}
theorem HOk.write (ok:HOk P w H h)(mu:Mut (H x))(he:e=x\/H e=some (.own x))(k:∀ b u,b≠e->h.get? b=some u->h'.get? b=some u)(heo:∃ u,h'.get? e=some u)
 (new:yw P w (upd H x o') h' x o'):HOk P w (upd H x o') h':=λb u q=>by
 have nown:∀ c y,H c=some (.own y)->c≠x:=λc y r z=>by subst z;rw[r]at mu;exact mu
 have ntup:∀ c xs,H c=some (.tup xs)->c≠x:=λc xs r z=>by subst z;rw[r]at mu;exact mu
 by_cases hb:b=x
 .subst hb;rw[zk]at q;cases q;exact new
 .rw[zm hb]at q
  by_cases hbe:b=e
  .have q':H b=some (.own x):=by
    rcases he with z | z
    .exact absurd (hbe.trans z) hb
    .rw[hbe];exact z
   rw[q]at q';cases q'
   obtain⟨v,hv⟩:=heo
   exact⟨v,by rw[hbe];exact hv⟩
  .refine(ok b u q).stay (λc v hc r=>k c v ?_ r) (λc r=>by rw[zm (nown c b r)];exact r) λc xs r=>by rw[zm (ntup c xs r)];exact r
   rcases hc with rfl | hc
   .exact hbe
   .rintro rfl
    rcases he with z | z
    .exact nown c b hc z
    .rw[hc]at z;cases z;exact hb rfl
end
structure Un (fs ex:List Addr) (H H':Hp) (h h':Heap):Prop where
 keep:∀ b o,h.get? b=some o->H b=none->b∉fs->b∉ex->h'.get? b=some o
 slot:∀ b o,h.get? b=some o->H b=none->b∈fs->b∉ex->∃ sl,h'.get? b=some { o with slots:=sl }
 free:∀ b o,h.get? b=some o->H b=none->b∉ex->H' b=none
 there:∀ b o,h.get? b=some o->b∉ex->∃ o',h'.get? b=some o'
 tups:∀ b xs,H b=some (.tup xs)->H' b=some (.tup xs)
 frzs:∀ b o u,H b=some (.frz o u)->H' b=some (.frz o u)
 tbls:∀ b ps,H b=some (.tbl ps)->∃ more,H' b=some (.tbl (ps++more))
section
variable {fs fs' ex ex':List Addr}{H H1 H2:Hp}{h h1 h2 h':Heap}{a x e:Addr}{o:HO}
theorem Un.any (u:Un fs ex H H1 h h1){b:Addr}{ob:Obj}(q:h.get? b=some ob)(n:H b=none)(hx:b∉ex):∃ sl,h1.get? b=some { ob with slots:=sl }:=by
 by_cases hb:b∈fs
 .exact u.slot b ob q n hb hx
 .exact⟨ob.slots,u.keep b ob q n hb hx⟩
theorem Un.kept (k:∀ b u,h.get? b=some u->h'.get? b=some u):Un fs ex H H h h' :=
 ⟨λb ob q _ _ _=>k b ob q,λb ob q _ _ _=>⟨ob.slots,k b ob q⟩,λ_ _ _ n _=>n,λb ob q _=>⟨ob,k b ob q⟩,λ_ _ q=>q,λ_ _ _ q=>q,λ_ ps q=>⟨#[],by rw[q];simp⟩⟩
theorem Un.refl:Un fs ex H H h h:=Un.kept λ_ _ q=>q
theorem Un.laid (k:∀ b u,h.get? b=some u->h'.get? b=some u)(hp:h.objs.size<=a)(hn:H a=none):Un fs ex H (upd H a o) h h' where
 keep:=λb u q _ _ _=>k b u q
 slot:=λb u q _ _ _=>⟨u.slots,k b u q⟩
 free:=λb u q n _=>by rw[zm (Nat.ne_of_lt (Nat.lt_of_lt_of_le (Heap.lt_size q) hp))];exact n
 there:=λb u q _=>⟨u,k b u q⟩
 tups:=λb xs q=>by rw[zm (zj q hn)];exact q
 frzs:=λb u xs q=>by rw[zm (zj q hn)];exact q
 tbls:=λb ps q=>⟨#[],by rw[zm (zj q hn),q];simp⟩
theorem Un.write (mu:Mut (H x))(he:e=x\/H e=some (.own x))(k:∀ b u,b≠e->h.get? b=some u->h'.get? b=some u)(heo:∃ u,h'.get? e=some u):Un fs ex H (upd H x o) h h':=by
 have hx:∀ b,H b=none->b≠x:=λb n z=>by subst z;rw[n]at mu;exact mu
 have hb:∀ b,H b=none->b≠e:=λb n z=>by
  subst z
  rcases he with r | r
  .exact hx b n r
  .rw[n]at r;cases r
 have hm:∀ b u,H b=some u->¬ Mut (some u)->b≠x:=λb u q nm z=>by subst z;rw[q]at mu;exact nm mu
 refine⟨λb u q n _ _=>k b u (hb b n) q,λb u q n _ _=>⟨u.slots,k b u (hb b n) q⟩,λb u q n _=>by rw[zm (hx b n)];exact n,λb u q _=>?_,
  λb xs q=>by rw[zm (hm b _ q λz=>z)];exact q,λb u xs q=>by rw[zm (hm b _ q λz=>z)];exact q,λb ps q=>⟨#[],by rw[zm (hm b _ q λz=>z),q];simp⟩⟩
 by_cases hbe:b=e
 .subst hbe;exact heo
 .exact⟨u,k b u hbe q⟩
end
noncomputable def trk (h:Heap)(H:Hp):List Addr:=(List.range h.objs.size).filter λa=>(H a).isSome
noncomputable def ze8 (h:Heap)(H:Hp):Heap:=W.hideAll h (trk h H)
theorem zcR (h:Heap)(H:Hp):(ze8 h H).objs.size=h.objs.size:=W.hideAll_size _ _
theorem zgb {h:Heap}{H:Hp}{b:Addr}{o:Obj}(e:h.get? b=some o)(n:H b=none):(ze8 h H).get? b=some o :=
 W.hideAll_get _ e λhm=>by
  have q:(H b).isSome=true:=(List.mem_filter.mp hm).2
  rw[n]at q;simp at q
theorem zhM {h:Heap}{H:Hp}{b:Addr}{o:Obj}(e:(ze8 h H).get? b=some o):h.get? b=some o/\H b=none:=by
 have e':h.get? b=some o:=W.of_hideAll (trk h H) e
 refine⟨e',?_⟩
 cases q:H b with
 | none=>rfl
 | some x =>
  have hm:b∈trk h H:=List.mem_filter.mpr ⟨List.mem_range.mpr (Heap.lt_size e'),by simp[q]⟩
  have z:(ze8 h H).get? b=none:=W.hideAll_none (trk h H) hm
  rw[z]at e;cases e
noncomputable def zhT (g h:Heap)(L:Addr):List (Addr × Obj):=(List.range h.objs.size).filterMap λa=>if a=L\/(g.get? a).isSome=true then none else (h.get? a).map λo=>(a,o)
noncomputable def rest (g h:Heap)(L d:Addr):List (Addr × Obj):=(zhT g h L).filter λp=>decide (p.1≠d)
structure Mod (K:W.Frag) (mg:Str->Option Value) (base:Heap):Prop where
 kin:K.In base
 glob:base.Ns mainGlobals mg
 blt:∃ mb,base.Ns builtinsNs mb/\∀ x:Str,x≠"__name__"->mb x=bootBuiltins x
 nolimit:base.NoLimit
structure Cx where
 prog:Program
 w:World
 K:W.Frag
 mg:Str->Option Value
 base:Heap
 A:Around
 N:List Str
 s₀:Shared
 H₀:Hp
 env:Env
 outer:List Env
 stack:List Env
 ex:List Addr
 fn:Str->Bool
 calm:Bool
 pn:List (Addr × Obj)
 xe:Value->Shared->Prop
noncomputable def frs (l:List Env):List Addr:=l.filterMap (·.frame)
noncomputable abbrev Cx.fs (X:Cx):List Addr:=frs X.outer
noncomputable def Vis (sc:Scope)(x:Str):Prop:=sc.names.lookup x=some .local\/sc.names.lookup x=some .cell\/sc.names.lookup x=some .free
noncomputable def Loc (sc:Scope)(x:Str):Prop:=sc.names.lookup x=some .local\/sc.names.lookup x=some .cell
noncomputable def Look (env:Env)(h:Heap)(m:Str->Option Value)(x:Str)(u:Value):Prop :=
 (env.kindOf x=some .local/\m x=some u)\/((env.kindOf x=some .cell\/env.kindOf x=some .free)/\∃ c,env.cells.lookup x=some c/\h.IsCell c (some u))
structure Cx.Ok (X:Cx):Prop where
 mod:Mod X.K X.mg X.base
 kind:X.env.scope.kind=.function
 glob:X.env.globals=mainGlobals
 blt:X.env.builtins=builtinsNs
 above:X.s₀.heap.objs.size<=X.env.locals
 inj:∀ x y c,X.env.cells.lookup x=some c->X.env.cells.lookup y=some c->x=y
 has:∀ x,(X.env.kindOf x=some .cell\/X.env.kindOf x=some .free)->∃ c,X.env.cells.lookup x=some c
 cab:∀ x c,X.fn x=true->X.env.cells.lookup x=some c->X.s₀.heap.objs.size<=c
 hd:X.calm=true->X.A.handled=none
 frames:X.A.frames=some X.stack
 stk:X.stack=X.outer\/(X.stack=X.env::X.outer/\X.env.frame=some X.env.locals)
 exf:∀ b∈X.ex,b≠X.env.locals/\∀ x c,X.env.cells.lookup x=some c->c≠b
 bs:∀ b o,X.base.get? b=some o->X.s₀.heap.get? b=some o/\X.H₀ b=none
 bsz:X.base.objs.size<=X.s₀.heap.objs.size
 noex:∀ b o,X.base.get? b=some o->b∉X.ex
 exfs:∀ b∈X.ex,b∉X.fs
 funs:X.s₀.heap.FunFrames X.base X.outer
 frf:∀ b∈X.fs,X.H₀ b=none
structure Inv (X:Cx) (pins:List (Addr × Obj)) (σ:List (Option V)) (H:Hp) (s:Shared):Prop where
 ok:X.Ok
 os:s.os=X.s₀.os
 bare:AllBare s.gens
 base:Un X.fs X.ex X.H₀ H X.s₀.heap s.heap
 loc:∃ m,s.heap.Ns X.env.locals m/\∀ (i:Nat) (x:Str) (v:V),X.N[i]?=some x->σ[i]?=some (some v)->Vis X.env.scope x->∃ u,yH v u/\Look X.env s.heap m x u
 cell:∀ x c,X.env.cells.lookup x=some c->∃ v,s.heap.IsCell c v
 free:H X.env.locals=none
 freeC:∀ x c,X.env.cells.lookup x=some c->H c=none
 pin:∀ p∈X.pn++pins,s.heap.get? p.1=some p.2/\H p.1=none/\p.1≠X.env.locals/\p.1∉X.fs/\∀ v,p.2.data≠.cell v
 hok:HOk X.prog X.w H s.heap
 len:σ.length=X.N.length
section
variable {X:Cx}{pins:List (Addr × Obj)}{σ:List (Option V)}{H H':Hp}{s:Shared}{h':Heap}
theorem Cx.Ok.nofr (ok:X.Ok){b:Addr}{o:Obj}(e:X.base.get? b=some o):b∉X.fs:=λhb=>by
 have:=(ok.funs.mem hb).1
 rw[e]at this;cases this
theorem Inv.bs (I:Inv X pins σ H s):∀ b o,X.base.get? b=some o->s.heap.get? b=some o/\H b=none:=λb o e =>
 ⟨I.base.keep b o (I.ok.bs b o e).1 (I.ok.bs b o e).2 (I.ok.nofr e) (I.ok.noex b o e),I.base.free b o (I.ok.bs b o e).1 (I.ok.bs b o e).2 (I.ok.noex b o e)⟩
theorem Inv.bk (I:Inv X pins σ H s):∀ b o,X.base.get? b=some o->s.heap.get? b=some o:=λb o e=>(I.bs b o e).1
theorem Inv.mod (I:Inv X pins σ H s):Mod X.K X.mg X.base:=I.ok.mod
theorem Inv.kIn (I:Inv X pins σ H s):X.K.In s.heap:=I.ok.mod.kin.keeps I.bk
theorem Inv.fr (I:Inv X pins σ H s):∃ m,Fr X.base X.env.locals s.heap m :=
 let ⟨m,hn,_⟩:=I.loc
 ⟨m,hn,I.bk,Nat.le_trans I.ok.bsz I.ok.above⟩
theorem Inv.lt (I:Inv X pins σ H s):X.env.locals < s.heap.objs.size:=let ⟨_,hn,_⟩:=I.loc;hn.lt
theorem Inv.sz (I:Inv X pins σ H s):X.s₀.heap.objs.size<=s.heap.objs.size:=Nat.le_trans I.ok.above (Nat.le_of_lt I.lt)
theorem Inv.nofs (I:Inv X pins σ H s){a:Addr}(h:s.heap.objs.size<=a):a∉X.fs:=λhb=>by
 obtain⟨_,o,ho,_⟩:=I.ok.funs.mem hb
 exact absurd (Nat.lt_of_lt_of_le (Heap.lt_size ho) (Nat.le_trans I.sz h)) (Nat.lt_irrefl _)
theorem Inv.cne (I:Inv X pins σ H s):∀ x c,X.env.cells.lookup x=some c->c≠X.env.locals:=λx c e z=>by
 obtain⟨v,o,ho,hd⟩:=I.cell x c e
 obtain⟨m,⟨o',es,ep,ho',hd',_⟩,_⟩:=I.loc
 rw[z,ho']at ho;cases ho;rw[hd']at hd;cases hd
theorem Inv.funs (I:Inv X pins σ H s):s.heap.FunFrames X.base X.outer:=by
 have all:∀ (l:List Env),(∀ b∈frs l,b∈X.fs)->X.s₀.heap.FunFrames X.base l->s.heap.FunFrames X.base l:=by
  intro l
  induction l with
  | nil=>intro _ _;trivial
  | cons env r ih =>
   intro hs hl
   obtain⟨hk,⟨L,o,hf,hn,ho,hd⟩,hr⟩:=hl
   have hL:L∈X.fs:=hs L (by unfold frs;rw[List.filterMap_cons,hf];exact List.mem_cons_self)
   obtain⟨sl,e⟩:=I.base.slot L o ho (I.ok.frf L hL) hL λz=>I.ok.exfs L z hL
   exact⟨hk,⟨L,_,hf,hn,e,hd⟩,ih (λb hb=>hs b (by unfold frs;rw[List.filterMap_cons,hf];exact List.mem_cons_of_mem _ hb)) hr⟩
 exact all X.outer (λ_ hb=>hb) I.ok.funs
theorem Inv.stack (I:Inv X pins σ H s):s.heap.FunFrames X.base X.stack:=by
 rcases I.ok.stk with e | ⟨e,hf⟩
 .rw[e];exact I.funs
 .rw[e]
  obtain⟨m,hn,_⟩:=I.loc
  refine .cons (by rw[I.ok.kind];decide) hf hn ?_ I.funs
  exact Heap.get?_none_of_le (Nat.le_trans I.ok.bsz I.ok.above)
theorem Inv.stkSub (I:Inv X pins σ H s):∀ b∈frs X.stack,b∈X.env.locals::X.fs:=λb hb=>by
 rcases I.ok.stk with e | ⟨e,hf⟩
 .rw[e]at hb;exact List.mem_cons_of_mem _ hb
 .rw[e]at hb
  unfold frs at hb
  rw[List.filterMap_cons,hf]at hb
  exact hb
theorem Inv.stkFree (I:Inv X pins σ H s):∀ b∈frs X.stack,H b=none:=λb hb=>by
 rcases List.mem_cons.mp (I.stkSub b hb)with e | hb
 .rw[e];exact I.free
 .obtain⟨_,o,ho,_⟩:=I.ok.funs.mem hb
  exact I.base.free b o ho (I.ok.frf b hb) λz=>I.ok.exfs b z hb
theorem Inv.step {g':Array GenState}{t':Nat}{d':Drawn}{ch:List Addr}(I:Inv X pins σ H s)
 (hch:∀ b∈ch,(b∈X.ex\/X.s₀.heap.objs.size<=b)/\b≠X.env.locals/\(∀ x c,X.env.cells.lookup x=some c->c≠b)/\∀ p∈X.pn++pins,p.1≠b)
 (keep:∀ b o,b≠X.env.locals->b∉X.fs->b∉ch->s.heap.get? b=some o->H b=none->h'.get? b=some o)
 (slot:∀ b o,b≠X.env.locals->b∈X.fs->b∉ch->s.heap.get? b=some o->H b=none->∃ sl,h'.get? b=some { o with slots:=sl }) (free:∀ b o,b∉ch->s.heap.get? b=some o->H b=none->H' b=none)
 (there:∀ b o,b∉ch->s.heap.get? b=some o->∃ o',h'.get? b=some o')
 (tups:∀ b xs,H b=some (.tup xs)->H' b=some (.tup xs)) (frzs:∀ b o u,H b=some (.frz o u)->H' b=some (.frz o u)) (tbls:∀ b ps,H b=some (.tbl ps)->∃ more,H' b=some (.tbl (ps++more)))
 (ns:∀ m,s.heap.Ns X.env.locals m->h'.Ns X.env.locals m) (hok:HOk X.prog X.w H' h') (hg:AllBare g') :
 Inv X pins σ H' { s with heap:=h',gens:=g',drawn:=d',toks:=t' }:=by
 have neL:∀ b o,X.s₀.heap.get? b=some o->b≠X.env.locals:=λb o e=>Nat.ne_of_lt (Nat.lt_of_lt_of_le (Heap.lt_size e) I.ok.above)
 have neC:∀ b o,X.s₀.heap.get? b=some o->b∉X.ex->b∉ch:=λb o e hx hb=>by
  rcases(hch b hb).1 with z | z
  .exact hx z
  .exact absurd (Nat.lt_of_lt_of_le (Heap.lt_size e) z) (Nat.lt_irrefl _)
 have cellK:∀ x c,X.env.cells.lookup x=some c->∀ v,s.heap.IsCell c v->h'.IsCell c v:=λx c e v ⟨o,ho,hd⟩=>by
  have nch:c∉ch:=λz=>(hch c z).2.2.1 x c e rfl
  by_cases hc:c∈X.fs
  .obtain⟨sl,q⟩:=slot c o (I.cne x c e) hc nch ho (I.freeC x c e)
   exact⟨_,q,hd⟩
  .exact⟨o,keep c o (I.cne x c e) hc nch ho (I.freeC x c e),hd⟩
 refine⟨I.ok,I.os,hg,⟨λb o e n hb hx=>?_,λb o e n hb hx=>?_,λb o e n hx=>?_,λb o e hx=>?_,λb xs e=>tups b xs (I.base.tups b xs e),λb o xs e=>frzs b o xs (I.base.frzs b o xs e),λb ps e=>?_⟩,?_,λx c e=>?_,?_,λx c e=>?_,λp hp=>?_,hok,I.len⟩
 .exact keep b o (neL b o e) hb (neC b o e hx) (I.base.keep b o e n hb hx) (I.base.free b o e n hx)
 .obtain⟨sl,e1⟩:=I.base.slot b o e n hb hx
  obtain⟨sl',e2⟩:=slot b _ (neL b o e) hb (neC b o e hx) e1 (I.base.free b o e n hx)
  exact⟨sl',e2⟩
 .obtain⟨o',e1⟩:=I.base.there b o e hx
  exact free b o' (neC b o e hx) e1 (I.base.free b o e n hx)
 .obtain⟨o',e1⟩:=I.base.there b o e hx
  exact there b o' (neC b o e hx) e1
 .obtain⟨m1,e1⟩:=I.base.tbls b ps e
  obtain⟨m2,e2⟩:=tbls b _ e1
  exact⟨m1++m2,by rw[e2,Array.append_assoc]⟩
 .obtain⟨m,hn,hl⟩:=I.loc
  refine⟨m,ns m hn,λi x v e1 e2 e3=>?_⟩
  obtain⟨u,r,l⟩:=hl i x v e1 e2 e3
  refine⟨u,r,?_⟩
  rcases l with l | ⟨k,c,e,z⟩
  .exact .inl l
  .exact .inr ⟨k,c,e,cellK x c e _ z⟩
 .obtain⟨v,z⟩:=I.cell x c e
  exact⟨v,cellK x c e v z⟩
 .obtain⟨m,⟨o,_,_,ho,_⟩,_⟩:=I.loc
  exact free _ o (λz=>(hch _ z).2.1 rfl) ho I.free
 .obtain⟨v,o,ho,hd⟩:=I.cell x c e
  exact free c o (λz=>(hch c z).2.2.1 x c e rfl) ho (I.freeC x c e)
 .obtain⟨e,n,ne,nf,d⟩:=I.pin p hp
  have nch:p.1∉ch:=λz=>(hch p.1 z).2.2.2 p hp rfl
  exact⟨keep p.1 p.2 ne nf nch e n,free p.1 p.2 nch e n,ne,nf,d⟩
theorem Inv.un {t':Nat}(I:Inv X pins σ H s)(u:Un X.fs [] H H' s.heap h')(hok:HOk X.prog X.w H' h'):Inv X pins σ H' { s with heap:=h',toks:=t' }:=by
 obtain⟨m,⟨o,es,ep,ho,r⟩,_⟩:=id I.loc
 obtain⟨sl,hL⟩:=u.any ho I.free (by simp)
 exact I.step (g':=s.gens) (d':=s.drawn) (ch:=[]) (λ_ z=>nomatch z) (λb o _ hb _ e n=>u.keep b o e n hb (by simp)) (λb o _ hb _ e n=>u.slot b o e n hb (by simp)) (λb o _ e n=>u.free b o e n (by simp)) (λb o _ e=>u.there b o e (by simp)) u.tups u.frzs u.tbls (λm' hm=>by
  obtain⟨o',es',ep',ho',r'⟩:=hm
  rw[ho]at ho';cases ho'
  exact⟨_,es',ep',hL,r'⟩) hok I.bare
theorem Inv.call {g':Array GenState}{t':Nat}{d':Drawn}{ch:List Addr}(I:Inv X pins σ H s)(u:Un (frs X.stack) ch H H' s.heap h')(hok:HOk X.prog X.w H' h')(hg:AllBare g')
 (hch:∀ b∈ch,(b∈X.ex\/X.s₀.heap.objs.size<=b)/\b≠X.env.locals/\(∀ x c,X.env.cells.lookup x=some c->c≠b)/\∀ p∈X.pn++pins,p.1≠b) :
 Inv X pins σ H' { s with heap:=h',gens:=g',drawn:=d',toks:=t' }:=by
 obtain⟨m,⟨o,es,ep,ho,r⟩,_⟩:=id I.loc
 obtain⟨sl,hL⟩:=u.any ho I.free λz=>(hch _ z).2.1 rfl
 exact I.step (ch:=ch) hch (λb o hL hb hc e n=>u.keep b o e n (λz=>(List.mem_cons.mp (I.stkSub b z)).elim hL hb) hc) (λb o _ _ hc e n=>u.any e n hc) (λb o hc e n=>u.free b o e n hc) (λb o hc e=>u.there b o e hc) u.tups u.frzs u.tbls (λm' hm=>by
  obtain⟨o',es',ep',ho',r'⟩:=hm
  rw[ho]at ho';cases ho'
  exact⟨_,es',ep',hL,r'⟩) hok hg
theorem Inv.turned {t':Nat}{it:Addr}(I:Inv X pins σ H s)(k:∀ b o,b≠it->s.heap.get? b=some o->h'.get? b=some o)(hn:H it=none)(hL:it≠X.env.locals)
 (h1:it∈X.ex\/X.s₀.heap.objs.size<=it) (h2:∀ x c,X.env.cells.lookup x=some c->c≠it) (h3:∀ p∈X.pn++pins,p.1≠it):Inv X pins σ H { s with heap:=h',toks:=t' }:=by
 have nit:∀ b u,H b=some u->b≠it:=λb u e z=>by rw[z,hn]at e;cases e
 refine I.step (g':=s.gens) (d':=s.drawn) (ch:=[it]) (λb hb=>?_) (λb o _ _ hc e _=>k b o (λz=>hc (by simp[z])) e) (λb o _ _ hc e _=>⟨o.slots,k b o (λz=>hc (by simp[z])) e⟩) (λ_ _ _ _ n=>n)
  (λb o hc e=>⟨o,k b o (λz=>hc (by simp[z])) e⟩) (λ_ _ e=>e) (λ_ _ _ e=>e) (λb ps e=>⟨#[],by rw[e];simp⟩) (λm hm=>?_) (λb u e=>?_) I.bare
 .have e:b=it:=by simpa using hb
  subst e
  exact⟨h1,hL,h2,h3⟩
 .obtain⟨o,es,ep,ho,r⟩:=hm
  exact⟨o,es,ep,k _ o (Ne.symm hL) ho,r⟩
 .refine(I.hok b u e).stay (λc v hc q=>k c v ?_ q) (λ_ q=>q) λ_ _ q=>q
  rcases hc with z | z
  .rw[z];exact nit b u e
  .exact nit c _ z
theorem Inv.tok (I:Inv X pins σ H s)(t:Nat):Inv X pins σ H { s with toks:=t }:=I.un (h':=s.heap) (t':=t) Un.refl I.hok
theorem Inv.kept {t':Nat}(I:Inv X pins σ H s)(k:∀ b u,s.heap.get? b=some u->h'.get? b=some u):Inv X pins σ H { s with heap:=h',toks:=t' }:=I.un (Un.kept k) (I.hok.kept k)
theorem Inv.laid {a:Addr}{o:HO}{t':Nat}(I:Inv X pins σ H s)(k:∀ b u,s.heap.get? b=some u->h'.get? b=some u)(hp:s.heap.objs.size<=a)(new:yw X.prog X.w (upd H a o) h' a o) :
 Inv X pins σ (upd H a o) { s with heap:=h',toks:=t' }:=I.un (Un.laid k hp (I.hok.fresh hp)) (I.hok.laid k hp new)
theorem Inv.write {x e:Addr}{o:HO}{t':Nat}(I:Inv X pins σ H s)(mu:Mut (H x))(he:e=x\/H e=some (.own x))(k:∀ b u,b≠e->s.heap.get? b=some u->h'.get? b=some u)(heo:∃ u,h'.get? e=some u)
 (new:yw X.prog X.w (upd H x o) h' x o):Inv X pins σ (upd H x o) { s with heap:=h',toks:=t' }:=I.un (Un.write mu he k heo) (I.hok.write mu he k heo new)
theorem Inv.weak {σ':List (Option V)}(I:Inv X pins σ H s)(hl:σ'.length=σ.length)(w:∀ (i:Nat) v,σ'[i]?=some (some v)->σ[i]?=some (some v)):Inv X pins σ' H s :=
 ⟨I.ok,I.os,I.bare,I.base,let ⟨m,hn,hl'⟩:=I.loc;⟨m,hn,λi x v e1 e2 e3=>hl' i x v e1 (w i v e2) e3⟩,I.cell,I.free,I.freeC,I.pin,I.hok,hl.trans I.len⟩
theorem Inv.pins_of {pins':List (Addr × Obj)}(I:Inv X pins σ H s)(h:∀ p∈pins',s.heap.get? p.1=some p.2/\H p.1=none/\p.1≠X.env.locals/\p.1∉X.fs/\∀ v,p.2.data≠.cell v):Inv X pins' σ H s :=
 ⟨I.ok,I.os,I.bare,I.base,I.loc,I.cell,I.free,I.freeC,λp hp=>(List.mem_append.mp hp).elim (λz=>I.pin p (List.mem_append_left _ z)) (h p),I.hok,I.len⟩
theorem zbM {N:List Str}(hN:N.Nodup){i j:Nat}{x:Str}(a:N[i]?=some x)(b:N[j]?=some x):i=j:=by
 obtain⟨h1,e1⟩:=List.getElem?_eq_some_iff.mp a
 obtain⟨h2,e2⟩:=List.getElem?_eq_some_iff.mp b
 exact(List.getElem_inj hN).mp (e1.trans e2.symm)
theorem zdv {M:Model}{A:Around}{E:Value->Shared->Prop}{i:Nat}{x:Str}{v:V}{u:Value}{Q:Unit->Shared->Prop}(I:Inv X pins σ H s)(hN:X.N.Nodup)(hi:X.N[i]?=some x)(hx:Loc X.env.scope x)(r:yH v u)
 (h:∀ s',Inv X pins (σ.set i (some v)) H s'->(∃ a,Heap.SameBut a s.heap s'.heap/\(a=X.env.locals\/X.env.cells.lookup x=some a))->Q () s') (hf:X.fn x=true\/X.env.scope.names.lookup x=some .local:=by first | exact .inl rfl | exact .inr rfl | assumption):wpAny M A (storeName X.env x u) Q E s:=by
 obtain⟨m,hn,hl⟩:=id I.loc
 have hcls:(X.env.scope.kind == .class||(X.env.scope.kind == .module&&X.env.locals != X.env.globals))=false:=by rw[I.ok.kind];rfl
 have hiσ:i < σ.length:=by rw[I.len];exact(List.getElem?_eq_some_iff.mp hi).1
 have cne:=I.cne
 have tracked:∀ {a:Addr} {h':Heap},(∃ o,s.heap.get? a=some o/\H a=none)->Heap.SameBut a s.heap h'->HOk X.prog X.w H h':=λ{a h'} ha hs b ob e=>by
  obtain⟨_,_,hfree⟩:=ha
  refine(I.hok b ob e).stay (λc w' hc q=>(hs.2 c ?_).trans q) (λ_ q=>q) λ_ _ q=>q
  rintro rfl
  rcases hc with rfl | hc
  .rw[hfree]at e;cases e
  .rw[hfree]at hc;cases hc
 rcases hx with hk | hk
 .refine wpAny_storeName_local hk hn (λh' hn' hs=>?_) hcls
  obtain⟨oL,_,_,hoL,_⟩:=id hn
  refine h _ ⟨I.ok,I.os,I.bare,⟨λb o e n hb hx=>?_,λb o e n hb hx=>?_,I.base.free,λb o e hx=>?_,I.base.tups,I.base.frzs,I.base.tbls⟩,⟨_,hn',λj y v' e1 e2 e3=>?_⟩,λy c e=>?_,I.free,I.freeC,λp hp=>?_,tracked ⟨oL,hoL,I.free⟩ hs,by simpa using I.len⟩ ⟨_,hs,.inl rfl⟩
  .exact(hs.2 b (Nat.ne_of_lt (Nat.lt_of_lt_of_le (Heap.lt_size e) I.ok.above))).trans (I.base.keep b o e n hb hx)
  .obtain⟨sl,e1⟩:=I.base.slot b o e n hb hx
   exact⟨sl,(hs.2 b (Nat.ne_of_lt (Nat.lt_of_lt_of_le (Heap.lt_size e) I.ok.above))).trans e1⟩
  .obtain⟨o',e1⟩:=I.base.there b o e hx
   exact⟨o',(hs.2 b (Nat.ne_of_lt (Nat.lt_of_lt_of_le (Heap.lt_size e) I.ok.above))).trans e1⟩
  .by_cases hj:j=i
   .subst hj
    rw[hi]at e1;cases e1
    rw[List.getElem?_set_self hiσ]at e2
    cases e2
    exact⟨u,r,.inl ⟨hk,by simp⟩⟩
   .rw[List.getElem?_set_ne (Ne.symm hj)]at e2
    obtain⟨u',r',q⟩:=hl j y v' e1 e2 e3
    refine⟨u',r',?_⟩
    rcases q with ⟨k,e⟩ | ⟨k,c,e,z⟩
    .refine .inl ⟨k,?_⟩
     have:y≠x:=λe=>hj (zbM hN e1 (e ▸ hi))
     simp[this,e]
    .exact .inr ⟨k,c,e,z.sameBut hs (cne y c e)⟩
  .obtain⟨w',z⟩:=I.cell y c e
   exact⟨w',z.sameBut hs (cne y c e)⟩
  .obtain⟨e,n,ne,nf,d⟩:=I.pin p hp
   exact⟨(hs.2 p.1 ne).trans e,n,ne,nf,d⟩
 .have hfn:X.fn x=true:=by
   rcases hf with z | z
   .exact z
   .rw[z]at hk;cases hk
  obtain⟨c,hc⟩:=I.ok.has x (.inl hk)
  obtain⟨w',z⟩:=I.cell x c hc
  refine wpAny_storeName_cell I.ok.kind hk hc z (λh' hc' hs=>?_)
  obtain⟨oc,hoc,hocd⟩:=id z
  refine h { s with heap:=h' } ⟨I.ok,I.os,I.bare,⟨λb o e n hb hx=>?_,λb o e n hb hx=>?_,I.base.free,λb o e hx=>?_,I.base.tups,I.base.frzs,I.base.tbls⟩,⟨m,hn.sameBut hs (Ne.symm (cne x c hc)),λj y v' e1 e2 e3=>?_⟩,λy c' e=>?_,I.free,I.freeC,λp hp=>?_,tracked ⟨oc,hoc,I.freeC x c hc⟩ hs,by simpa using I.len⟩ ⟨c,hs,.inr hc⟩
  .exact(hs.2 b (Nat.ne_of_lt (Nat.lt_of_lt_of_le (Heap.lt_size e) (I.ok.cab x c hfn hc)))).trans (I.base.keep b o e n hb hx)
  .obtain⟨sl,e1⟩:=I.base.slot b o e n hb hx
   exact⟨sl,(hs.2 b (Nat.ne_of_lt (Nat.lt_of_lt_of_le (Heap.lt_size e) (I.ok.cab x c hfn hc)))).trans e1⟩
  .obtain⟨o',e1⟩:=I.base.there b o e hx
   exact⟨o',(hs.2 b (Nat.ne_of_lt (Nat.lt_of_lt_of_le (Heap.lt_size e) (I.ok.cab x c hfn hc)))).trans e1⟩
  .by_cases hj:j=i
   .subst hj
    rw[hi]at e1;cases e1
    rw[List.getElem?_set_self hiσ]at e2
    cases e2
    exact⟨u,r,.inr ⟨.inl hk,c,hc,hc'⟩⟩
   .rw[List.getElem?_set_ne (Ne.symm hj)]at e2
    obtain⟨u',r',q⟩:=hl j y v' e1 e2 e3
    refine⟨u',r',?_⟩
    rcases q with q | ⟨k,c',e,z'⟩
    .exact .inl q
    .refine .inr ⟨k,c',e,z'.sameBut hs ?_⟩
     rintro rfl
     exact hj (zbM hN e1 (I.ok.inj _ _ _ e hc ▸ hi))
  .by_cases hcc:c'=c
   .subst hcc;exact⟨_,hc'⟩
   .obtain⟨w2,z2⟩:=I.cell y c' e
    exact⟨w2,z2.sameBut hs hcc⟩
  .obtain⟨e,n,ne,nf,d⟩:=I.pin p hp
   refine⟨(hs.2 p.1 ?_).trans e,n,ne,nf,d⟩
   intro q
   rw[q,hoc]at e
   have q':oc=p.2:=Option.some.inj e
   exact d w' (by rw[<-q'];exact hocd)
theorem zbP {M:Model}{A:Around}{E:Value->Shared->Prop}{i:Nat}{x:Str}{v:V}{u:Value}{Q:Unit->Shared->Prop}(I:Inv X pins σ H s)(hN:X.N.Nodup)(hi:X.N[i]?=some x)(hx:Loc X.env.scope x)(r:yH v u)
 (h:∀ s',Inv X pins (σ.set i (some v)) H s'->Q () s') (hf:X.fn x=true\/X.env.scope.names.lookup x=some .local:=by first | exact .inl rfl | exact .inr rfl | assumption):wpAny M A (storeName X.env x u) Q E s :=
 zdv I hN hi hx r (λs' I' _=>h s' I') hf
theorem Inv.call' {s':Shared}{ch:List Addr}(I:Inv X pins σ H s)(ho:s'.os=s.os)(u:Un (frs X.stack) ch H H' s.heap s'.heap)(hok:HOk X.prog X.w H' s'.heap)(hg:AllBare s'.gens)
 (hch:∀ b∈ch,(b∈X.ex\/X.s₀.heap.objs.size<=b)/\b≠X.env.locals/\(∀ x c,X.env.cells.lookup x=some c->c≠b)/\∀ p∈X.pn++pins,p.1≠b):Inv X pins σ H' s':=by
 obtain⟨h',g',d',t',o'⟩:=s'
 have e:o'=s.os:=ho
 subst e
 exact I.call (g':=g') (t':=t') (d':=d') u hok hg hch
end
noncomputable abbrev XK:=Value->Option Addr->Hp->Prop
noncomputable abbrev St:=List (Option V)
noncomputable abbrev VK:=V->Hp->Prop
noncomputable abbrev TE:=St->Hp->VK->Prop
noncomputable abbrev TT:=St->Hp->(Bool->Hp->Prop)->Prop
noncomputable abbrev TA:=St->Hp->(List V->Hp->Prop)->Prop
structure zeQ where
 nx:St->Hp->Prop
 rt:VK
 bk:St->Hp->Prop:=λ_ _=>False
 ct:St->Hp->Prop:=λ_ _=>False
noncomputable abbrev TS:=zeQ->St->Hp->Prop
noncomputable def EP (X:Cx)(pins:List (Addr × Obj))(σ:St)(Q:VK)(u:Value)(s':Shared):Prop:=∃ v H',Inv X pins σ H' s'/\yH v u/\Q v H'
noncomputable def TP (X:Cx)(pins:List (Addr × Obj))(σ:St)(Q:Bool->Hp->Prop)(b:Bool)(s':Shared):Prop:=∃ H',Inv X pins σ H' s'/\Q b H'
noncomputable def AP (X:Cx)(pins:List (Addr × Obj))(σ:St)(Q:List V->Hp->Prop)(us:List Value)(s':Shared):Prop:=∃ vs H',Inv X pins σ H' s'/\ya vs us/\Q vs H'
noncomputable def SP (X:Cx)(pins:List (Addr × Obj))(D:zeQ)(f:Flow)(s':Shared):Prop :=
 match f with
 | .next=>∃ σ' H',Inv X pins σ' H' s'/\D.nx σ' H'
 | .brk=>∃ σ' H',Inv X pins σ' H' s'/\D.bk σ' H'
 | .cont=>∃ σ' H',Inv X pins σ' H' s'/\D.ct σ' H'
 | .ret u=>∃ v σ' H',Inv X pins σ' H' s'/\yH v u/\D.rt v H'
noncomputable def PE (X:Cx)(e:Expr)(t:TE):Prop :=
 ∀ (pins:List (Addr × Obj)) (s:Shared) (σ:St) (H:Hp) (Q:VK),Inv X pins σ H s->t σ H Q->wpAny (model X.prog X.w) X.A (eval e X.env) (EP X pins σ Q) X.xe s
noncomputable def PT (X:Cx)(e:Expr)(t:TT):Prop :=
 ∀ (pins:List (Addr × Obj)) (s:Shared) (σ:St) (H:Hp) (Q:Bool->Hp->Prop),Inv X pins σ H s->t σ H Q->wpAny (model X.prog X.w) X.A (isTrue e X.env (eval e X.env)) (TP X pins σ Q) X.xe s
noncomputable def PW (X:Cx)(e:Expr)(t:TT):Prop :=
 ∀ (whole:Sem Value) (pins:List (Addr × Obj)) (s:Shared) (σ:St) (H:Hp) (Q:Bool->Hp->Prop),Inv X pins σ H s->t σ H Q->wpAny (model X.prog X.w) X.A (isTrue e X.env whole) (TP X pins σ Q) X.xe s
theorem PW.pt {X:Cx}{e:Expr}{t:TT}(h:PW X e t):PT X e t:=h _
noncomputable def PA (X:Cx)(es:List Expr)(t:TA):Prop :=
 ∀ (pos:Pos) (pins:List (Addr × Obj)) (s:Shared) (σ:St) (H:Hp) (Q:List V->Hp->Prop),Inv X pins σ H s->t σ H Q->wpAny (model X.prog X.w) X.A (spliced (backTo pos (starEach es X.env))) (AP X pins σ Q) X.xe s
noncomputable def PS (X:Cx)(st:Stmt)(t:TS):Prop :=
 ∀ (pins:List (Addr × Obj)) (s:Shared) (σ:St) (H:Hp) (D:zeQ),Inv X pins σ H s->t D σ H->wpAny (model X.prog X.w) X.A (exec st X.env) (SP X pins D) X.xe s
noncomputable def PSs (X:Cx)(st:List Stmt)(t:TS):Prop :=
 ∀ (pins:List (Addr × Obj)) (s:Shared) (σ:St) (H:Hp) (D:zeQ),Inv X pins σ H s->t D σ H->wpAny (model X.prog X.w) X.A (execs st X.env) (SP X pins D) X.xe s
theorem thn {α:Type}{t:Sem α}{Q Q':α->Shared->Prop}{M:Model}{A:Around}{E:Value->Shared->Prop}{s:Shared}(h:wpAny M A t Q E s)(hQ:∀ a s,Q a s->Q' a s):wpAny M A t Q' E s:=wpAny_mono h hQ λ_ _ x=>x
section
variable {X:Cx}
theorem bin {a b:Expr}{ta tb:TE}(ha:PE X a ta)(hb:PE X b tb){pins:List (Addr × Obj)}{s:Shared}{σ:St}{H:Hp}{R:V->V->Hp->Prop}(I:Inv X pins σ H s)(h:ta σ H λx H1=>tb σ H1 λy H2=>R x y H2)
 {α:Type} {Q:α->Shared->Prop} {f:Value->Value->Sem α}
 (hf:∀ v u s2 x y H2,Inv X pins σ H2 s2->yH x v->yH y u->R x y H2->wpAny (model X.prog X.w) X.A (f v u) Q X.xe s2) :
 wpAny (model X.prog X.w) X.A (eval a X.env) (λv s₁=>wpAny (model X.prog X.w) X.A (eval b X.env) (λu s₂=>wpAny (model X.prog X.w) X.A (f v u) Q X.xe s₂) X.xe s₁) X.xe s:=by
 refine thn (ha pins s σ H _ I h) λv s1 hh9=>?_
 obtain⟨x,H1,I1,r1,q1⟩:=hh9
 refine thn (hb pins s1 σ H1 _ I1 q1) λu s2 hh9=>?_
 obtain⟨y,H2,I2,r2,q2⟩:=hh9
 exact hf v u s2 x y H2 I2 r1 r2 q2
noncomputable def XU (i:Nat):TE:=fun σ H Q=>∃ v,σ[i]?=some (some v)/\Q v H
noncomputable def tC (v:V):TE:=λ_ H Q=>Q v H
theorem zjs {i:Nat} {x:Str} {pos:Pos} (hN:X.N[i]?=some x) (hv:Vis X.env.scope x) (hd:(x == ("__debug__":Str))=false:=by decide) (hcd:(x == ("__classdict__":Str))=false:=by decide):PE X (.Name x pos) (XU i):=by
 intro pins s σ H Q I h
 obtain⟨v,e,h⟩:=h
 obtain⟨m,hn,hl⟩:=I.loc
 obtain⟨u,r,l⟩:=hl i x v hN e hv
 have fin:EP X pins σ Q u s:=⟨v,H,I,r,h⟩
 rcases l with ⟨hk,hm⟩ | ⟨hk,c,hc,hcell⟩
 .exact wpAny_Name (wpAny_loadName_local I.ok.kind hk hn hm fin) hd
 .rcases hk with hk | hk
  .exact wpAny_Name (wpAny_loadName_cell I.ok.kind hk hc hcell fin) hd
  .exact wpAny_Name (wpAny_loadName_free I.ok.kind hk hc hcell fin hcd) hd
theorem zg {i j pos}:PE X (.Constant (.int i) j pos) (tC (.int i)):=λ_ _ _ H _ I h=>wpAny_Constant_int ⟨.int i,H,I.tok _,⟨_,rfl⟩,h⟩
theorem vf {b j pos}:PE X (.Constant (.bool b) j pos) (tC (.bl b)):=λ_ _ _ H _ I h=>Constant_bool ⟨.bl b,H,I,rfl,h⟩
theorem zdz {j pos}:PE X (.Constant .none j pos) (tC .non):=λ_ _ _ H _ I h=>Constant_none ⟨.non,H,I,rfl,h⟩
theorem vT {x j pos}:PE X (.Constant (.str x) j pos) (tC (.str x)):=λ_ _ _ H _ I h=>Calls.Constant_str ⟨.str x,H,I.tok _,⟨_,rfl⟩,h⟩
noncomputable def Gl (X:Cx)(x:Str):Prop:=X.env.kindOf x=some .globalImplicit
theorem za1 {E:Value->Shared->Prop}{pins:List (Addr × Obj)}{s:Shared}{σ:St}{H:Hp}{x:Str}{u:Value}{pos:Pos}{Q:Value->Shared->Prop}(I:Inv X pins σ H s)(hg:Gl X x)(hm:X.mg x=some u)(h:Q u s)
 (hd:(x == ("__debug__":Str))=false:=by decide):wpAny (model X.prog X.w) X.A (eval (.Name x pos) X.env) Q E s :=
 Calls.Name_function_global I.ok.kind hg (Calls.loadGlobal_global (by rw[I.ok.glob];exact I.mod.glob.keeps I.bk) hm h) hd
theorem Yx {E:Value->Shared->Prop}{pins:List (Addr × Obj)}{s:Shared}{σ:St}{H:Hp}{x:Str}{u:Value}{pos:Pos}{Q:Value->Shared->Prop}(I:Inv X pins σ H s)(hg:Gl X x)(hm:X.mg x=none)(hv:bootBuiltins x=some u)(h:Q u s)
 (hn:x≠"__name__":=by decide) (hd:(x == ("__debug__":Str))=false:=by decide):wpAny (model X.prog X.w) X.A (eval (.Name x pos) X.env) Q E s:=by
 obtain⟨mb,h1,h2⟩:=I.mod.blt
 exact Calls.Name_function_global I.ok.kind hg (Calls.loadGlobal_builtin (by rw[I.ok.glob];exact I.mod.glob.keeps I.bk) hm (by rw[I.ok.blt];exact h1.keeps I.bk) ((h2 x hn).trans hv) h) hd
theorem za2 {x:Str} {v:V} {u:Value} {pos:Pos} (hg:Gl X x) (hm:X.mg x=some u) (r:yH v u) (hd:(x == ("__debug__":Str))=false:=by decide):PE X (.Name x pos) (tC v) :=
 λ_ _ _ H _ I h=>za1 I hg hm ⟨v,H,I,r,h⟩ hd
theorem Yb {x:Str} {v:V} {u:Value} {pos:Pos} (hg:Gl X x) (hm:X.mg x=none) (hv:bootBuiltins x=some u) (r:yH v u) (hn:x≠"__name__":=by decide) (hd:(x == ("__debug__":Str))=false:=by decide):PE X (.Name x pos) (tC v) :=
 λ_ _ _ H _ I h=>Yx I hg hm hv ⟨v,H,I,r,h⟩ hn hd
variable {a b:Expr}{ta tb:TE}{pos:Pos}
noncomputable def PC (X:Cx)(op:CmpOp)(a b:Expr)(t:TE):Prop :=
 ∀ (pins:List (Addr × Obj)) (s:Shared) (σ:St) (H:Hp) (Q:VK),Inv X pins σ H s->t σ H Q ->
  wpAny (model X.prog X.w) X.A (eval a X.env) (λv s₁=>wpAny (model X.prog X.w) X.A (eval b X.env) (λu s₂=>wpAny (model X.prog X.w) X.A (compareOp op v u) (EP X pins σ Q) X.xe s₂) X.xe s₁) X.xe s
theorem ze1 (b:Expr){op:CmpOp}(h:op≠.In)(h2:op≠.NotIn):behindInMarks op b=false:=by
 have e1:(op == CmpOp.In)=false:=by cases op <;> first | rfl | exact absurd rfl h
 have e2:(op == CmpOp.NotIn)=false:=by cases op <;> first | rfl | exact absurd rfl h2
 cases b <;> simp[behindInMarks,e1,e2]
noncomputable def tB (t:TE):TT:=fun σ H Q=>t σ H λx H1=>∃ c,x=.bl c/\Q c H1
theorem pt_cmp {op:CmpOp}{t:TE}(h:PC X op a b t)(h1:behindInMarks op b=false:=by first | exact ze1 _ (by decide) (by decide) | rfl):PT X (.Compare a [op] [b] pos) (tB t):=by
 intro pins s σ H Q I hw
 refine wpAny_isTrue_Compare1 (thn (h pins s σ H _ I hw) λv s1 h1=>thn h1 λu s2 h2=>thn h2 λc s3 hh9=>?_) h1
 obtain⟨x,H1,I1,r1,q1⟩:=hh9
 obtain⟨d,rfl,q⟩:=q1
 cases r1
 exact wpAny_truthy_bool ⟨H1,I1,q⟩
theorem zi6 {e:Expr}{t:TE}(h:PE X e t)(he:∀ whole,isTrue e X.env whole=(do let v<-whole;standAt e.pos;holding [v] (truthy v)):=by intro _;rfl):PT X e (tB t):=by
 intro pins s σ H Q I hw
 refine isTrue_plain (thn (h pins s σ H _ I hw) λv s1 hh9=>?_) (he _)
 obtain⟨x,H1,I1,r1,q1⟩:=hh9
 obtain⟨d,rfl,q⟩:=q1
 cases r1
 exact wpAny_truthy_bool ⟨H1,I1,q⟩
variable {tA tB':TT}{rest:List Expr}
noncomputable def tAnd (t u:TT):TT:=fun σ H Q=>t σ H λc H1=>if c=true then u σ H1 Q else Q false H1
noncomputable def tOr (t u:TT):TT:=fun σ H Q=>t σ H λc H1=>if c=true then Q true H1 else u σ H1 Q
noncomputable def tNot (t:TT):TT:=fun σ H Q=>t σ H λc H1=>Q (!c) H1
theorem zhj (ha:PT X a tA):PW X (.BoolOp .And [a] pos) tA:=by
 intro wh pins s σ H Q I h
 refine isTrue_and (thn (ha pins s σ H Q I h) λc s1 e=>?_)
 cases c with
 | true=>exact isTrue_and_nil e
 | false=>exact e
theorem ziJ (ha:PT X a tA):PW X (.BoolOp .Or [a] pos) tA:=by
 intro wh pins s σ H Q I h
 refine isTrue_or (thn (ha pins s σ H Q I h) λc s1 e=>?_)
 cases c with
 | false=>exact isTrue_or_nil e
 | true=>exact e
theorem zkv (ha:PT X a tA)(hb:PW X (.BoolOp .And (b::rest) pos) tB'):PW X (.BoolOp .And (a::b::rest) pos) (tAnd tA tB'):=by
 intro wh pins s σ H Q I h
 refine isTrue_and (thn (ha pins s σ H _ I h) λc s1 hh9=>?_)
 obtain⟨H1,I1,q1⟩:=hh9
 cases c with
 | true=>exact hb wh pins s1 σ H1 Q I1 q1
 | false=>exact⟨H1,I1,q1⟩
theorem zlD (ha:PT X a tA)(hb:PW X (.BoolOp .Or (b::rest) pos) tB'):PW X (.BoolOp .Or (a::b::rest) pos) (tOr tA tB'):=by
 intro wh pins s σ H Q I h
 refine isTrue_or (thn (ha pins s σ H _ I h) λc s1 hh9=>?_)
 obtain⟨H1,I1,q1⟩:=hh9
 cases c with
 | true=>exact⟨H1,I1,q1⟩
 | false=>exact hb wh pins s1 σ H1 Q I1 q1
theorem zjO (ha:PT X a tA):PT X (.UnaryOp .Not a pos) (tNot tA):=by
 intro pins s σ H Q I h
 exact isTrue_not (ha pins s σ H (λc H1=>Q (!c) H1) I h)
noncomputable def zls (ta tb:TE):TE:=fun σ H Q=>ta σ H λx H1=>∃ c,x=.bl c/\if c=true then tb σ H1 Q else Q (.bl false) H1
noncomputable def tOrV (ta tb:TE):TE:=fun σ H Q=>ta σ H λx H1=>∃ c,x=.bl c/\if c=true then Q (.bl true) H1 else tb σ H1 Q
noncomputable def zk7 (ta:TE):TE:=fun σ H Q=>ta σ H λx H1=>∃ c,x=.bl c/\Q (.bl (!c)) H1
theorem zko {op}{t:TE}(h:PE X a t):PE X (.BoolOp op [a] pos) t:=λpins s σ H Q I hw=>BoolOp_one (h pins s σ H Q I hw)
theorem zjA (ha:PE X a ta)(hb:PE X (.BoolOp .And (b::rest) pos) tb):PE X (.BoolOp .And (a::b::rest) pos) (zls ta tb):=by
 intro pins s σ H Q I h
 refine BoolOp_and (thn (ha pins s σ H _ I h) λv s1 hh9=>?_)
 obtain⟨x,H1,I1,r1,q1⟩:=hh9
 obtain⟨c,rfl,q1⟩:=q1
 cases r1
 refine wpAny_truthy_bool ?_
 cases c with
 | true=>exact hb pins s1 σ H1 Q I1 q1
 | false=>exact⟨.bl false,H1,I1,rfl,q1⟩
theorem zlv (ha:PE X a ta)(hb:PE X (.BoolOp .Or (b::rest) pos) tb):PE X (.BoolOp .Or (a::b::rest) pos) (tOrV ta tb):=by
 intro pins s σ H Q I h
 refine BoolOp_or (thn (ha pins s σ H _ I h) λv s1 hh9=>?_)
 obtain⟨x,H1,I1,r1,q1⟩:=hh9
 obtain⟨c,rfl,q1⟩:=q1
 cases r1
 refine wpAny_truthy_bool ?_
 cases c with
 | false=>exact hb pins s1 σ H1 Q I1 q1
 | true=>exact⟨.bl true,H1,I1,rfl,q1⟩
theorem zj7 (ha:PE X a ta):PE X (.UnaryOp .Not a pos) (zk7 ta):=by
 intro pins s σ H Q I h
 refine UnaryOp_ (thn (ha pins s σ H _ I h) λv s1 hh9=>?_)
 obtain⟨x,H1,I1,r1,q1⟩:=hh9
 obtain⟨c,rfl,q1⟩:=q1
 cases r1
 exact not_of (wpAny_truthy_bool ⟨.bl (!c),H1,I1,rfl,q1⟩)
end
noncomputable def SqL (K:W.Frag)(H:Hp)(a:Addr)(xs:List V):Prop :=
 Rd H a (.lst xs) \/
  ∃ (o:Obj) (its:Array Value) (n:Nat),K.lookup a=some o/\o.cls=.type "list"/\o.dict=none/\o.data=.seq its n/\its.size<=sizeLine/\ya xs its.toList
noncomputable def SqT (K:W.Frag)(H:Hp)(a:Addr)(xs:List V):Prop :=
 Rd H a (.tup xs) \/
  ∃ (o:Obj) (its:Array Value) (n:Nat),K.lookup a=some o/\o.cls=.type "tuple"/\o.data=.seq its n/\its.size<=sizeLine/\ya xs its.toList
noncomputable def absV:Value->Option V
 | .none=>some .non
 | .bool b=>some (.bl b)
 | .int i _=>some (.int i)
 | .str x _=>some (.str x)
 | .bytes b _=>some (.byt b)
 | .float b _=>some (.flt b)
 | .ref a=>some (.ref a)
 | .type n=>some (.ty n)
 | _=>none
theorem yH.abs {x:V}{u:Value}(r:yH x u):absV u=some x:=by
 cases x with
 | non=>cases r;rfl
 | bl _=>cases r;rfl
 | int _=>obtain⟨t,rfl⟩:=r;rfl
 | str _=>obtain⟨t,rfl⟩:=r;rfl
 | byt _=>obtain⟨t,rfl⟩:=r;rfl
 | flt _=>obtain⟨t,rfl⟩:=r;rfl
 | ref _=>cases r;rfl
 | ty _=>cases r;rfl
theorem yH.inj {x y:V}{u:Value}(r:yH x u)(q:yH y u):x=y:=Option.some.inj (r.abs.symm.trans q.abs)
theorem ya.inj:∀ {xs ys:List V} {us:List Value},ya xs us->ya ys us->xs=ys:=by
 intro xs ys us h
 induction h generalizing ys with
 | nil=>intro h2;cases h2;rfl
 | cons r t ih=>intro h2;cases h2 with | cons r' t'=>rw[r.inj r',ih t']
section
variable {X:Cx}{pins:List (Addr × Obj)}{σ:St}{H:Hp}{s:Shared}{a:Addr}{xs ys:List V}
theorem SqL.of {K:W.Frag}(h:H a=some (.lst xs)):SqL K H a xs:=.inl (.inl h)
theorem SqT.of {K:W.Frag}(h:H a=some (.tup xs)):SqT K H a xs:=.inl (.inl h)
theorem Inv.list (I:Inv X pins σ H s)(h:SqL X.K H a xs):∃ its:List Value,ya xs its/\PlainL s.heap a its.toArray/\xs.length<=sizeLine:=by
 rcases h with h | ⟨o,its,n,hk,hc,hd,hs,hz,r⟩
 .obtain⟨z,its,n,r,e⟩:=h.ok I.hok
  exact⟨its,r,⟨_,n,e,rfl,rfl,rfl⟩,z⟩
 .refine⟨its.toList,r,⟨o,n,I.kIn a o hk,hc,hd,by simpa using hs⟩,?_⟩
  have e:=r.length
  simp only[Array.length_toList]at e
  omega
theorem Inv.tuple (I:Inv X pins σ H s)(h:SqT X.K H a xs):∃ its:List Value,ya xs its/\IsTup s.heap a its.toArray/\xs.length<=sizeLine:=by
 rcases h with h | ⟨o,its,n,hk,hc,hs,hz,r⟩
 .obtain⟨z,its,r,p⟩:=h.ok I.hok
  exact⟨its,r,p,z⟩
 .refine⟨its.toList,r,⟨o,I.kIn a o hk,hc,n,by simpa using hs⟩,?_⟩
  have e:=r.length
  simp only[Array.length_toList]at e
  omega
theorem Inv.list_inj (I:Inv X pins σ H s)(h:SqL X.K H a xs)(h':SqL X.K H a ys):xs=ys:=by
 obtain⟨its,r,⟨o,n,e,_,_,d⟩,_⟩:=I.list h
 obtain⟨its',r',⟨o',n',e',_,_,d'⟩,_⟩:=I.list h'
 rw[e]at e';cases e'
 rw[d]at d'
 injection d' with d1 _
 have:its=its':=by simpa using congrArg Array.toList d1
 subst this
 exact r.inj r'
theorem Inv.tuple_inj (I:Inv X pins σ H s)(h:SqT X.K H a xs)(h':SqT X.K H a ys):xs=ys:=by
 obtain⟨its,r,⟨o,e,_,n,d⟩,_⟩:=I.tuple h
 obtain⟨its',r',⟨o',e',_,n',d'⟩,_⟩:=I.tuple h'
 rw[e]at e';cases e'
 rw[d]at d'
 injection d' with d1 _
 have:its=its':=by simpa using congrArg Array.toList d1
 subst this
 exact r.inj r'
end
noncomputable abbrev Cx.wish (X:Cx)(E:Value->Shared->Prop):Cx:={ X with xe:=E }
noncomputable abbrev Cx.nox (X:Cx):Cx:=X.wish λ_ _=>False
theorem Cx.Ok.wish {X:Cx}(ok:X.Ok)(E:Value->Shared->Prop):(X.wish E).Ok :=
 ⟨ok.mod,ok.kind,ok.glob,ok.blt,ok.above,ok.inj,ok.has,ok.cab,ok.hd,ok.frames,ok.stk,ok.exf,ok.bs,ok.bsz,ok.noex,ok.exfs,ok.funs,ok.frf⟩
theorem Cx.Ok.unwish {X:Cx}{E:Value->Shared->Prop}(ok:(X.wish E).Ok):X.Ok :=
 ⟨ok.mod,ok.kind,ok.glob,ok.blt,ok.above,ok.inj,ok.has,ok.cab,ok.hd,ok.frames,ok.stk,ok.exf,ok.bs,ok.bsz,ok.noex,ok.exfs,ok.funs,ok.frf⟩
section
variable {X:Cx}{pins:List (Addr × Obj)}{σ:St}{H:Hp}{s:Shared}{E:Value->Shared->Prop}
theorem Inv.wish (I:Inv X pins σ H s)(E:Value->Shared->Prop):Inv (X.wish E) pins σ H s:=⟨I.ok.wish E,I.os,I.bare,I.base,I.loc,I.cell,I.free,I.freeC,I.pin,I.hok,I.len⟩
theorem Inv.unwish (I:Inv (X.wish E) pins σ H s):Inv X pins σ H s:=⟨I.ok.unwish,I.os,I.bare,I.base,I.loc,I.cell,I.free,I.freeC,I.pin,I.hok,I.len⟩
theorem SP.unwish {D:zeQ}{f:Flow}{s':Shared}(h:SP (X.wish E) pins D f s'):SP X pins D f s':=by
 cases f with
 | next=>obtain⟨σ',H',I,q⟩:=h;exact⟨σ',H',I.unwish,q⟩
 | brk=>obtain⟨σ',H',I,q⟩:=h;exact⟨σ',H',I.unwish,q⟩
 | cont=>obtain⟨σ',H',I,q⟩:=h;exact⟨σ',H',I.unwish,q⟩
 | ret u=>obtain⟨v,σ',H',I,r,q⟩:=h;exact⟨v,σ',H',I.unwish,r,q⟩
theorem PSs.nox {st:List Stmt}{t:TS}(h:PSs X.nox st t):PSs X st t:=λpins s σ H D I hw =>
 wpAny_mono (h pins s σ H D (I.wish _) hw) (λ_ _ q=>q.unwish) λ_ _ z=>False.elim z
end
section
variable {X:Cx}{st:Stmt}{rest:List Stmt}{t u:TS}{e:Expr}{te:TE}{pos:Pos}
noncomputable def zlu:TS:=λD σ H=>D.nx σ H
noncomputable def ziI (t u:TS):TS:=λD σ H=>t { D with nx:=u D } σ H
theorem zg0:PSs X [] zlu:=λ_ _ σ H _ I h=>wpAny_execs_nil ⟨σ,H,I,h⟩
theorem Yz (h1:PS X st t)(h2:PSs X rest u):PSs X (st::rest) (ziI t u):=by
 intro pins s σ H D I h
 refine wpAny_execs_cons (thn (h1 pins s σ H { D with nx:=u D } I h) λf s1 q=>?_)
 cases f with
 | next =>
  obtain⟨σ',H',I',q⟩:=q
  exact h2 pins s1 σ' H' D I' q
 | ret v=>exact q
 | brk=>exact q
 | cont=>exact q
theorem zd6 (h1:PS X st t):PSs X [st] t:=by
 intro pins s σ H D I h
 refine wpAny_execs_cons (thn (h1 pins s σ H D I h) λf s1 q=>?_)
 cases f with
 | next=>exact wpAny_execs_nil q
 | ret v=>exact q
 | brk=>exact q
 | cont=>exact q
theorem Inv.quiet {pins:List (Addr × Obj)}{σ:St}{H:Hp}{s:Shared}(I:Inv X pins σ H s):interactive X.env=false:=by simp[interactive,I.ok.kind]
noncomputable def zk4 (te:TE):TS:=λD σ H=>te σ H λ_ H1=>D.nx σ H1
theorem zbg (he:PE X e te)(hs:swapsWith e none pos.line X.env=pure false:=by rfl):PS X (.Expr e pos) (zk4 te):=by
 intro pins s σ H D I h
 exact wpAny_Expr_any (thn (he pins s σ H _ I h) λv s1 ⟨x,H1,I1,r1,q1⟩=>⟨σ,H1,I1,q1⟩) I.quiet hs
noncomputable def tRet (te:TE):TS:=λD σ H=>te σ H D.rt
theorem zjo (he:PE X e te):PS X (.Return (some e) pos) (tRet te):=by
 intro pins s σ H D I h
 exact wpAny_Return_some (thn (he pins s σ H _ I h) λv s1 ⟨x,H1,I1,r1,q1⟩=>⟨x,σ,H1,I1,r1,q1⟩)
noncomputable def tIfS (c:TT)(t u:TS):TS:=λD σ H=>c σ H λb H1=>if b=true then t D σ H1 else u D σ H1
theorem zk1 {c:Expr}{a b:List Stmt}{tc:TT}(hc:PT X c tc)(ha:PSs X a t)(hb:PSs X b u):PS X (.If c a b pos) (tIfS tc t u):=by
 intro pins s σ H D I h
 refine wpAny_If (thn (hc pins s σ H _ I h) λd s1 hh9=>?_)
 obtain⟨H1,I1,q1⟩:=hh9
 cases d with
 | true=>exact ha pins s1 σ H1 D I1 q1
 | false=>exact hb pins s1 σ H1 D I1 q1
noncomputable def ziB:TS:=λ_ _ _=>False
theorem zfV:PS X st ziB:=λ_ _ _ _ _ _ h=>h.elim
end
noncomputable abbrev TG:=V->St->Hp->(St->Hp->Prop)->Prop
noncomputable abbrev TGs:=List V->St->Hp->(St->Hp->Prop)->Prop
noncomputable def PG (X:Cx)(target:Expr)(t:TG):Prop :=
 ∀ (pins:List (Addr × Obj)) (s:Shared) (σ:St) (H:Hp) (v:V) (u:Value) (Q:St->Hp->Prop),Inv X pins σ H s->yH v u->t v σ H Q ->
  wpAny (model X.prog X.w) X.A (assign target X.env u) (λ_ s'=>∃ σ' H',Inv X pins σ' H' s'/\Q σ' H') X.xe s
noncomputable def PGs (X:Cx)(ts:List Expr)(t:TGs):Prop :=
 ∀ (pins:List (Addr × Obj)) (s:Shared) (σ:St) (H:Hp) (vs:List V) (us:List Value) (Q:St->Hp->Prop),Inv X pins σ H s->ya vs us->t vs σ H Q ->
  wpAny (model X.prog X.w) X.A (assignInOrder ((assignEach ts X.env).map (·.2)) us) (λ_ s'=>∃ σ' H',Inv X pins σ' H' s'/\Q σ' H') X.xe s
noncomputable abbrev zk9:=V->V->V->Hp->(Hp->Prop)->Prop
noncomputable def PSet (X:Cx)(t:zk9):Prop :=
 ∀ (pins:List (Addr × Obj)) (s:Shared) (σ:St) (H:Hp) (o i v:V) (ov iv u:Value) (Q:Hp->Prop),Inv X pins σ H s->yH o ov->yH i iv->yH v u->t o i v H Q ->
  wpAny (model X.prog X.w) X.A (setItem ov iv u) (λ_ s'=>∃ H',Inv X pins σ H' s'/\Q H') X.xe s
section
variable {X:Cx}{pos:Pos}
noncomputable def xT (i:Nat):TG:=λv σ H Q=>Q (σ.set i (some v)) H
theorem zI {i:Nat}{x:Str}(hN:X.N.Nodup)(hi:X.N[i]?=some x)(hx:Loc X.env.scope x)(hf:X.fn x=true\/X.env.scope.names.lookup x=some .local:=by first | exact .inl rfl | exact .inr rfl | assumption):PG X (.Name x pos) (xT i):=by
 intro pins s σ H v u Q I r h
 exact wpAny_assign_Name (zbP I hN hi hx r (λs' I'=>⟨_,H,I',h⟩) hf)
noncomputable def zkS:TGs:=λvs σ H Q=>vs=[]/\Q σ H
noncomputable def zaM (t:TG)(u:TGs):TGs:=λvs σ H Q=>∃ v r,vs=v::r/\t v σ H fun σ' H'=>u r σ' H' Q
theorem zaz:PGs X [] zkS:=by
 intro pins s σ H vs us Q I r h
 obtain⟨e,h⟩:=h
 subst e
 cases r
 exact assignInOrder_nil ⟨σ,H,I,h⟩
theorem Yt {e:Expr}{es:List Expr}{t:TG}{u:TGs}(h1:PG X e t)(h2:PGs X es u)
 (hs:(assignEach (e::es) X.env).map (·.2)=assign e X.env::(assignEach es X.env).map (·.2):=by rfl):PGs X (e::es) (zaM t u):=by
 intro pins s σ H vs us Q I r h
 obtain⟨v,vr,e1,h⟩:=h
 subst e1
 cases r with
 | cons r rr =>
  rw[hs]
  refine assignInOrder_cons (thn (h1 pins s σ H _ _ _ I r h) λ_ s1 hh9=>?_)
  obtain⟨σ1,H1,I1,q1⟩:=hh9
  exact h2 pins s1 σ1 H1 _ _ Q I1 rr q1
noncomputable def zkR (K:W.Frag)(n:Nat)(t:TGs):TG:=λv σ H Q=>∃ a xs,v=.ref a/\SqT K H a xs/\xs.length=n/\t xs σ H Q
theorem zdr {es:List Expr}{k:Nat}{t:TGs}{n:Nat}(hc:X.calm=true)(h:PGs X es t)
 (hn:(assignEach es X.env).length=n:=by rfl) (hst:(assignEach es X.env).findIdx? (·.1)=none:=by rfl):PG X (.Tuple es k pos) (zkR X.K n t):=by
 intro pins s σ H v u Q I r hw
 obtain⟨a,xs,e1,hq,hl,hw⟩:=hw
 subst e1
 cases r
 obtain⟨its,rv,ht,hz⟩:=I.tuple hq
 refine assign_Tuple_tuple (I.ok.hd hc) ht (by simp[hn,<- hl,rv.length]) hst λh' hx=>?_
 have I1:Inv X pins σ H { s with heap:=h' }:=I.kept (t':=s.toks) λb o e=>hx b o (Nat.ne_of_lt (Heap.lt_size e)) e
 exact h pins _ σ H xs _ Q I1 (by simpa using rv) hw
noncomputable def zkK (to ti:TE)(t:zk9):TG:=λv σ H Q=>to σ H λo H1=>ti σ H1 λi H2=>t o i v H2 λH3=>Q σ H3
theorem zgO {o i:Expr}{to ti:TE}{t:zk9}(ho:PE X o to)(hi:PE X i ti)(hs:PSet X t)
 (ha:∀ v,assign (.Subscript o i pos) X.env v=(do
  let ov<-holding [v] (eval o X.env)
  let iv<-holding [v,ov] (eval i X.env)
  standAt pos
  holding [v,ov,iv] (setItem ov iv v)
  release [v,ov,iv] []):=by intro _;rfl):PG X (.Subscript o i pos) (zkK to ti t):=by
 intro pins s σ H v u Q I r h
 rw[ha]
 refine wpAny_bind (wpAny_holding (thn (ho pins s σ H _ I h) λov s1 hh9=>?_))
 obtain⟨x,H1,I1,r1,q1⟩:=hh9
 refine wpAny_bind (wpAny_holding (thn (hi pins s1 σ H1 _ I1 q1) λiv s2 hh9=>?_))
 obtain⟨y,H2,I2,r2,q2⟩:=hh9
 refine wpAny_bind (wpAny_standAt (wpAny_bind (wpAny_holding (thn (hs pins s2 σ H2 x y v ov iv u _ I2 r1 r2 r q2) λ_ s3 hh9=>?_))))
 obtain⟨H3,I3,q3⟩:=hh9
 exact wpAny_release ⟨σ,H3,I3,q3⟩
noncomputable def Vn (te:TE)(g:TG):TS:=λD σ H=>te σ H λx H1=>g x σ H1 D.nx
theorem zgG {tg e:Expr}{te:TE}{g:TG}(he:PE X e te)(hg:PG X tg g)(hs:swapsWithSole [tg] e pos.line X.env=pure false:=by rfl)(hw:swappedStores [tg] e X.env=pure none:=by rfl)
 (h1:(assignEach [tg] X.env).map (·.2)=[assign tg X.env]:=by rfl):PS X (.Assign [tg] e pos) (Vn te g):=by
 intro pins s σ H D I h
 refine wpAny_Assign_stores (thn (he pins s σ H _ I h) λv s1 hh9=>?_) hs hw
 obtain⟨x,H1,I1,r1,q1⟩:=hh9
 rw[h1]
 exact thn (hg pins s1 σ H1 x v _ I1 r1 q1) λ_ s2 q=>q
theorem XO {i:Nat}{x:Str}{e:Expr}{te:TE}{pos':Pos}(hN:X.N.Nodup)(hi:X.N[i]?=some x)(hx:Loc X.env.scope x)(he:PE X e te)(hs:swapsWith e (some (.Name x pos')) pos.line X.env=pure false:=by rfl)(hf:X.fn x=true\/X.env.scope.names.lookup x=some .local:=by first | exact .inl rfl | exact .inr rfl | assumption) :
 PS X (.Assign [.Name x pos'] e pos) (Vn te (xT i)):=by
 intro pins s σ H D I h
 refine wpAny_Assign_Name (thn (he pins s σ H _ I h) λv s1 hh9=>?_) hs
 obtain⟨y,H1,I1,r1,q1⟩:=hh9
 exact zbP I1 hN hi hx r1 (λs2 I2=>⟨_,H1,I2,q1⟩) hf
noncomputable def ziP (c:TT)(tb:TS):TS:=λD σ H=>∃ W:Nat->St->Hp->Prop,(∃ m,W m σ H)/\∀ m σ H,W m σ H ->
 c σ H λb H1=>if b=true then ∃ N:St->Hp->Prop,(∀ σ' H',N σ' H'->∃ m',m' < m/\W m' σ' H')/\tb { D with nx:=N,ct:=N,bk:=D.nx } σ H1 else D.nx σ H1
theorem zfn {c:Expr}{body:List Stmt}{tc:TT}{tb:TS}(hp:PassesOwn (model X.prog X.w) X.A X.env X.xe)(hc:PT X c tc)(hb:PSs X body tb):PS X (.While c body [] pos) (ziP tc tb):=by
 intro pins s σ H D I h
 obtain⟨W,⟨m0,w0⟩,turn⟩:=h
 refine wpAny_While (codeAny_whileLoop (λn s'=>∃ σ' H',Inv X pins σ' H' s'/\W n σ' H') ?_ m0 ⟨σ,H,I,w0⟩)
 rintro n s1 ⟨σ1,H1,I1,w1⟩
 refine wpAny_passesOwn hp (thn (hc pins s1 σ1 H1 _ I1 (turn n σ1 H1 w1)) λb s2 hh9=>?_)
 obtain⟨H2,I2,q2⟩:=hh9
 cases b with
 | true =>
  obtain⟨N,hN,q2⟩:=q2
  rw[if_pos rfl]
  refine wpAny_passesOwn hp (thn (hb pins s2 σ1 H2 _ I2 q2) λf s3 q3=>?_)
  cases f with
  | next =>
   obtain⟨σ3,H3,I3,n3⟩:=q3
   obtain⟨m',hm,w3⟩:=hN σ3 H3 n3
   exact⟨m',hm,σ3,H3,I3,w3⟩
  | cont =>
   obtain⟨σ3,H3,I3,n3⟩:=q3
   obtain⟨m',hm,w3⟩:=hN σ3 H3 n3
   exact⟨m',hm,σ3,H3,I3,w3⟩
  | brk=>exact q3
  | ret v=>exact q3
 | false =>
  rw[if_neg Bool.false_ne_true]
  exact wpAny_execs_nil ⟨σ1,H2,I2,q2⟩
end
structure It where
 go:Nat->Hp->Prop
 yld:Nat->Hp->V->Hp->Prop
 stop:Nat->Hp->Prop
noncomputable def zco (X:Cx)(pins:List (Addr × Obj))(H:Hp)(b:Addr):Prop :=
 H b=none/\b≠X.env.locals/\b∉X.fs/\(b∈X.ex\/X.s₀.heap.objs.size<=b)/\(∀ x c,X.env.cells.lookup x=some c->c≠b)/\∀ p∈X.pn++pins,p.1≠b
theorem Inv.fpOk {X:Cx}{pins:List (Addr × Obj)}{σ:St}{H H':Hp}{s:Shared}{b:Addr}(I:Inv X pins σ H s)(hb:s.heap.objs.size<=b)(hn:H' b=none):zco X pins H' b:=by
 refine⟨hn,Nat.ne_of_gt (Nat.lt_of_lt_of_le I.lt hb),I.nofs hb,.inr (Nat.le_trans I.sz hb),λx c e z=>?_,λp hp z=>?_⟩
 .obtain⟨v,q⟩:=I.cell x c e
  exact absurd (Nat.lt_of_lt_of_le q.lt (by rw[z];exact hb)) (Nat.lt_irrefl _)
 .exact absurd (Nat.lt_of_lt_of_le (Heap.lt_size (I.pin p hp).1) (by rw[z];exact hb)) (Nat.lt_irrefl _)
structure ziz (P:Program) (w:World) (K:W.Frag) (tg:Expr) (J:It) (fp:List Addr) (it:Addr) (tn:Nat->Heap->Prop):Prop where
 mem:it∈fp
 obj:∀ i h,tn i h->∀ b∈fp,∃ o,h.get? b=some o/\∀ v,o.data≠.cell v
 keep:∀ i h h',tn i h->(∀ b∈fp,∀ o,h.get? b=some o->h'.get? b=some o)->tn i h'
 item:∀ (X:Cx),X.prog=P->X.w=w->X.K=K->X.calm=true->∀ (i:Nat) (pins:List (Addr × Obj)) (s:Shared) (σ:St) (H:Hp) (E:Value->Shared->Prop),Inv X pins σ H s->(∀ b∈fp,zco X pins H b)->tn i s.heap->J.go i H ->
  wpAny (model P w) X.A (pyNext (.ref it)) (λr s1=>∃ u,r=some u /\
   wpAny (model P w) X.A (letOwnedTupleGo tg (.ref it) u) (λ_ s2=>∃ x H',Inv X pins σ H' s2/\yH x u/\J.yld i H x H'/\tn (i+1) s2.heap/\∀ b∈fp,H' b=none) E s1) E s
 done:∀ (X:Cx),X.prog=P->X.w=w->X.K=K->X.calm=true->∀ (i:Nat) (pins:List (Addr × Obj)) (s:Shared) (σ:St) (H:Hp) (E:Value->Shared->Prop),Inv X pins σ H s->(∀ b∈fp,zco X pins H b)->tn i s.heap->J.stop i H ->
  wpAny (model P w) X.A (pyNext (.ref it)) (λr s1=>r=none/\Inv X pins σ H s1) E s
 self:∀ (A:Around) (i:Nat) (s:Shared) (Q:Value->Shared->Prop) (E:Value->Shared->Prop),tn i s.heap->Q (.ref it) s->wpAny (model P w) A (pyIter (.ref it)) Q E s
noncomputable abbrev TI:=St->Hp->(It->Hp->Prop)->Prop
noncomputable def PIE (X:Cx)(pins:List (Addr × Obj))(σ:St)(tg:Expr)(R:It->Hp->Prop)(itv:Value)(s2:Shared):Prop :=
 ∃ (it:Addr) (fp:List Addr) (tn:Nat->Heap->Prop) (J:It) (H':Hp),itv=.ref it/\Inv X pins σ H' s2/\ziz X.prog X.w X.K tg J fp it tn/\tn 0 s2.heap/\(∀ b∈fp,zco X pins H' b)/\R J H'
noncomputable def PI (X:Cx)(tg iter:Expr)(wi:TI):Prop :=
 ∀ (pins:List (Addr × Obj)) (s:Shared) (σ:St) (H:Hp) (R:It->Hp->Prop),Inv X pins σ H s->wi σ H R ->
  wpAny (model X.prog X.w) X.A (eval iter X.env) (λv s1=>wpAny (model X.prog X.w) X.A (pyIter v) (PIE X pins σ tg R) X.xe s1) X.xe s
theorem zgV {M:Model}{A:Around}{E:Value→Shared→Prop}{s:Shared}{tg:Expr}{it:Addr}{u:Value}{o:Obj}{n:String}{vs:Array Value}{Q:Unit→Shared→Prop}(ho:s.heap.get? it=some o)(hc:o.cls=.type n)(hd:o.data=.fields vs)
    (hn:["enumerate","zip","dict_itemiterator","dict_reverseitemiterator","odict_iterator","itertools.zip_longest","itertools.pairwise"].contains n=false) (hQ:Q () s):wpAny M A (letOwnedTupleGo tg (.ref it) u) Q E s:=by
  unfold letOwnedTupleGo
  cases tg <;> first
    | exact wpAny_pure hQ
    | (cases u <;> first
        | exact wpAny_pure hQ
        | (refine wpAny_bind (wpAny_load ho ?_)
           rw [hc,hd]
           show wpAny M A (if (["enumerate","zip","dict_itemiterator","dict_reverseitemiterator","odict_iterator","itertools.zip_longest","itertools.pairwise"].contains n&&vs[0]? == some (rawInt _))=true then _ else _) Q E s
           rw [if_neg (by intro h;rw [hn,Bool.false_and] at h;cases h)]
           exact wpAny_pure hQ))
noncomputable def Itl (K:W.Frag)(a:Addr):It :=
 ⟨λi H=>∃ xs x,SqL K H a xs/\xs[i]?=some x,λi H x H'=>H'=H/\∀ xs,SqL K H a xs->xs[i]?=some x,λi H=>∃ xs,SqL K H a xs/\xs.length<=i⟩
noncomputable def Itt (K:W.Frag)(a:Addr):It :=
 ⟨λi H=>∃ xs x,SqT K H a xs/\xs[i]?=some x,λi H x H'=>H'=H/\∀ xs,SqT K H a xs->xs[i]?=some x,λi H=>∃ xs,SqT K H a xs/\xs.length<=i⟩
noncomputable def Itr (lo:Int)(n:Nat):It:=⟨λi _=>i < n,λi H x H'=>H'=H/\x=.int (lo+i),λi _=>n<=i⟩
theorem zd1 {P:Program}{w:World}{K:W.Frag}{tg:Expr}(a it:Addr):ziz P w K tg (Itl K a) [it] it (λi h=>h.IsListIter it a i) where
 mem:=by simp
 obj:=λi h st b hb=>by
  have e:b=it:=by simpa using hb
  subst e
  obtain⟨o,e,c,d⟩:=st
  exact⟨o,e,λv z=>by rw[d]at z;cases z⟩
 keep:=λi h h' st k=>st.at λo e=>k it (by simp) o e
 item:=by
  intro X hP hw hK hc i pins s σ H E I hf st hg
  subst hP hw hK
  obtain⟨xs,x,hq,hx⟩:=hg
  obtain⟨its,rv,p,hz⟩:=I.list hq
  obtain⟨u,hu,ru⟩:=rv.get hx
  obtain⟨f0,f1,f2,f3,f4,f5⟩:=hf it (by simp)
  refine wpAny_pyNext_list_item st p.isList (x:=u) (by simpa using hu) λh' st' sb=>?_
  have I1:Inv X pins σ H { s with heap:=h' }:=I.turned (t':=s.toks) (λb o hb e=>(sb.2 b hb).trans e) f0 f1 f3 f4 f5
  obtain⟨o,e,c,d⟩:=id st'
  exact⟨u,rfl,zgV (s:={ s with heap:=h' }) e c d (by decide) ⟨x,H,I1,ru,⟨rfl,λys hy=>by rw[I.list_inj hy hq];exact hx⟩,st',λb hb=>(hf b hb).1⟩⟩
 done:=by
  intro X hP hw hK hc i pins s σ H E I hf st hg
  subst hP hw hK
  obtain⟨xs,hq,hx⟩:=hg
  obtain⟨its,rv,p,hz⟩:=I.list hq
  obtain⟨f0,f1,f2,f3,f4,f5⟩:=hf it (by simp)
  have hl:=rv.length
  exact wpAny_pyNext_list_end (I.ok.hd hc) st p.isList (by simp;omega) λh' eb=>⟨rfl,I.turned (t':=s.toks) (λb o hb e=>eb b o hb e) f0 f1 f3 f4 f5⟩
 self:=λ_ _ _ _ _ st h=>wpAny_pyIter_listiter st h
theorem zcI {P:Program}{w:World}{K:W.Frag}{tg:Expr}(a it:Addr):ziz P w K tg (Itt K a) [it] it (λi h=>h.IsTupleIter it a i) where
 mem:=by simp
 obj:=λi h st b hb=>by
  have e:b=it:=by simpa using hb
  subst e
  obtain⟨o,e,c,d⟩:=st
  exact⟨o,e,λv z=>by rw[d]at z;cases z⟩
 keep:=λi h h' st k=>st.at λo e=>k it (by simp) o e
 item:=by
  intro X hP hw hK hc i pins s σ H E I hf st hg
  subst hP hw hK
  obtain⟨xs,x,hq,hx⟩:=hg
  obtain⟨its,rv,p,hz⟩:=I.tuple hq
  obtain⟨u,hu,ru⟩:=rv.get hx
  obtain⟨f0,f1,f2,f3,f4,f5⟩:=hf it (by simp)
  refine wpAny_pyNext_tuple_item st (show s.heap.IsTuple a its.toArray from p) (x:=u) (by simpa using hu) λh' st' sb=>?_
  have I1:Inv X pins σ H { s with heap:=h' }:=I.turned (t':=s.toks) (λb o hb e=>(sb.2 b hb).trans e) f0 f1 f3 f4 f5
  obtain⟨o,e,c,d⟩:=id st'
  exact⟨u,rfl,zgV (s:={ s with heap:=h' }) e c d (by decide) ⟨x,H,I1,ru,⟨rfl,λys hy=>by rw[I.tuple_inj hy hq];exact hx⟩,st',λb hb=>(hf b hb).1⟩⟩
 done:=by
  intro X hP hw hK hc i pins s σ H E I hf st hg
  subst hP hw hK
  obtain⟨xs,hq,hx⟩:=hg
  obtain⟨its,rv,p,hz⟩:=I.tuple hq
  obtain⟨f0,f1,f2,f3,f4,f5⟩:=hf it (by simp)
  have hl:=rv.length
  exact wpAny_pyNext_tuple_end (I.ok.hd hc) st (show s.heap.IsTuple a its.toArray from p) (by simp;omega) λh' eb=>⟨rfl,I.turned (t':=s.toks) (λb o hb e=>eb b o hb e) f0 f1 f3 f4 f5⟩
 self:=λ_ _ _ _ _ st h=>wpAny_pyIter_tupleiter st h
theorem zcG {P:Program}{w:World}{K:PySem.W.Frag}{tg:Expr}(it:Addr)(lo:Int)(n:Nat):ziz P w K tg (Itr lo n) [it] it (λi h=>IsRangeIter h it (lo+(i:Nat)*1) ((n:Int) - (i:Nat)) 1) where
 mem:=by simp
 obj:=λi h st b hb=>by
  have e:b=it:=by simpa using hb
  subst e
  exact⟨_,st,λv z=>by
   have z':Data.fields _=Data.cell v:=z
   cases z'⟩
 keep:=λi h h' st k=>k it (by simp) _ st
 item:=by
  intro X hP hw hK hc i pins s σ H E I hf st hg
  subst hP hw hK
  obtain⟨f0,f1,f2,f3,f4,f5⟩:=hf it (by simp)
  have W:=Walks.range (prog:=X.prog) (w:=X.w) (I.ok.hd hc) it lo 1 n
  refine W.item i s _ _ hg st λv h' tk hv st' kk=>?_
  obtain⟨t,rfl⟩:=hv
  have I1:Inv X pins σ H { s with heap:=h',toks:=tk }:=I.turned (λb o hb e=>kk b o (by simpa using hb) e) f0 f1 f3 f4 f5
  refine⟨_,rfl,zgV (s:={ s with heap:=h',toks:=tk }) (n:="range_iterator") st' rfl rfl (by decide) ⟨.int (lo+i),H,I1,⟨t,?_⟩,⟨rfl,rfl⟩,st',λb hb=>(hf b hb).1⟩⟩
  rw[Int.mul_one]
 done:=by
  intro X hP hw hK hc i pins s σ H E I hf st hg
  subst hP hw hK
  obtain⟨f0,f1,f2,f3,f4,f5⟩:=hf it (by simp)
  exact wpAny_pyNext_range_end (I.ok.hd hc) st (by have:n<=i:=hg;omega) λh' eb=>⟨rfl,I.turned (t':=s.toks) (λb o hb e=>eb b o hb e) f0 f1 f3 f4 f5⟩
 self:=λ_ _ _ _ _ st h=>wpAny_pyIter_rangeiter st h
section
variable {X:Cx}{tg:Expr}
theorem zbk {pins:List (Addr × Obj)}{σ:St}{H:Hp}{s:Shared}{R:It->Hp->Prop}{E:Value->Shared->Prop}{lo hi:Int}{t u v:Tok}{tk:Nat}(I:Inv X pins σ H s)(h1:-(2 ^ 62)<=lo)(h2:lo < 2 ^ 62)(h3:-(2 ^ 62)<=hi)(h4:hi < 2 ^ 62)
 (q:R (Itr lo (hi - lo).toNat) H):wpAny (model X.prog X.w) X.A (pyIter (.ref s.heap.objs.size)) (PIE X pins σ tg R) E { s with heap:=s.heap.push { cls:=.type "range",data:=.fields #[.int lo t,.int hi u,.int 1 v] },toks:=tk }:=by
 refine wpAny_pyIter_range (IsRange.new ..) (small_one h1 h2 h3 h4) ?_
 have I1:Inv X pins σ H { s with heap:=s.heap.push { cls:=.type "range",data:=.fields #[.int lo t,.int hi u,.int 1 v] },toks:=tk }:=I.kept λb o e=>Heap.get?_push_of_some _ e
 refine⟨(s.heap.push { cls:=.type "range",data:=.fields #[.int lo t,.int hi u,.int 1 v] }).objs.size,[(s.heap.push { cls:=.type "range",data:=.fields #[.int lo t,.int hi u,.int 1 v] }).objs.size],_,_,H,rfl,
  I1.kept (t':=tk) λb o e=>Heap.get?_push_of_some _ e,zcG _ lo (hi - lo).toNat,?_,λb hb=>?_,q⟩
 .have e1:lo+((0:Nat):Int)*1=lo:=by simp
  have e2:(((hi - lo).toNat:Nat):Int) - ((0:Nat):Int)=Builtin.Range.rangeSize lo hi 1:=by rw[rangeSize_one];split <;> omega
  show IsRangeIter _ _ (lo+((0:Nat):Int)*1) ((((hi - lo).toNat:Nat):Int) - ((0:Nat):Int)) 1
  rw[e1,e2]
  exact Heap.get?_push_size _ rfl
 .have e:b=(s.heap.push { cls:=.type "range",data:=.fields #[.int lo t,.int hi u,.int 1 v] }).objs.size:=by simpa using hb
  subst e
  exact I1.fpOk (Nat.le_refl _) (I1.hok.fresh (Nat.le_refl _))
noncomputable def zk0 (ta:TA):TI:=fun σ H R=>ta σ H λvs H1=>∃ j:Int,vs=[.int j]/\-(2 ^ 62)<=j/\j < 2 ^ 62/\R (Itr 0 j.toNat) H1
noncomputable def zlL (ta:TA):TI:=fun σ H R=>ta σ H λvs H1=>∃ i j:Int,vs=[.int i,.int j]/\(-(2 ^ 62)<=i/\i < 2 ^ 62/\-(2 ^ 62)<=j/\j < 2 ^ 62)/\R (Itr i (j - i).toNat) H1
theorem VY {a:Expr} {ta:TA} {p pos:Pos} (hg:Gl X "range") (hm:X.mg "range"=none) (ha:PA X [a] ta) (hs:starEach [a] X.env=[(false,eval a X.env)]:=by rfl):PI X tg (.Call (.Name "range" p) [a] [] pos) (zk0 ta):=by
 intro pins s σ H R I h
 refine Call_ (Yx I hg hm boot_range (PyProof.Rows.callWith_type1 (thn (ha pos pins s σ H _ I h) λus s1 hh9=>?_) hs rfl))
 obtain⟨vs,H1,I1,r1,q1⟩:=hh9
 obtain⟨j,e,q1,q2,q⟩:=q1
 subst e
 cases r1 with
 | cons r rr =>
  cases rr
  obtain⟨t,rfl⟩:=r
  exact call_range_1 (zbk I1 (by omega) (by omega) q1 q2 (by simpa using q))
theorem zaj {a b:Expr} {ta:TA} {p pos:Pos} (hg:Gl X "range") (hm:X.mg "range"=none) (ha:PA X [a,b] ta) (hs:starEach [a,b] X.env=[(false,eval a X.env),(false,eval b X.env)]:=by rfl) (hs2:starEach [b] X.env=[(false,eval b X.env)]:=by rfl) :
 PI X tg (.Call (.Name "range" p) [a,b] [] pos) (zlL ta):=by
 intro pins s σ H R I h
 refine Call_ (Yx I hg hm boot_range (PyProof.Rows.callWith_type1 (thn (ha pos pins s σ H _ I h) λus s1 hh9=>?_) (by rw[hs,hs2]) (by rw[hs2];rfl)))
 obtain⟨vs,H1,I1,r1,q1⟩:=hh9
 obtain⟨i,j,e,⟨q1,q2,q3,q4⟩,q⟩:=q1
 subst e
 cases r1 with
 | cons r rr =>
  cases rr with
  | cons r' rr =>
   cases rr
   obtain⟨t,rfl⟩:=r
   obtain⟨t',rfl⟩:=r'
   exact call_range_2 (zbk I1 q1 q2 q3 q4 q)
noncomputable def tFor (wi:TI)(g:TG)(tb:TS):TS:=λD σ H=>wi σ H λJ H1=>∃ W:Nat->Nat->St->Hp->Prop,(∃ m,W 0 m σ H1)/\∀ i m σ H,W i m σ H ->
 (J.stop i H/\D.nx σ H)\/(J.go i H/\∃ N:St->Hp->Prop,(∀ σ' H',N σ' H'->∃ m',m' < m/\W (i+1) m' σ' H')/\∀ x H',J.yld i H x H'->g x σ H' fun σ2 H2=>tb { D with nx:=N,ct:=N,bk:=D.nx } σ2 H2)
noncomputable def XZ (fp:List Addr)(h:Heap):List (Addr × Obj):=fp.filterMap λb=>(h.get? b).map λo=>(b,o)
theorem ww {fp:List Addr}{h:Heap}{b:Addr}{o:Obj}(hb:b∈fp)(e:h.get? b=some o):(b,o)∈XZ fp h:=List.mem_filterMap.mpr ⟨b,hb,by rw[e];rfl⟩
theorem zc4 {fp:List Addr}{h:Heap}{p:Addr × Obj}(hp:p∈XZ fp h):p.1∈fp/\h.get? p.1=some p.2:=by
 obtain⟨b,hb,e⟩:=List.mem_filterMap.mp hp
 cases q:h.get? b with
 | none=>rw[q]at e;cases e
 | some o =>
  rw[q]at e
  have e':(b,o)=p:=Option.some.inj e
  subst e'
  exact⟨hb,q⟩
theorem Inv.pinned {pins:List (Addr × Obj)}{σ:St}{H:Hp}{s:Shared}{fp:List Addr}(I:Inv X pins σ H s)(hf:∀ b∈fp,zco X pins H b)(ho:∀ b∈fp,∃ o,s.heap.get? b=some o/\∀ v,o.data≠.cell v):Inv X (pins++XZ fp s.heap) σ H s :=
 I.pins_of λp hp=>(List.mem_append.mp hp).elim (λz=>I.pin p (List.mem_append_right _ z)) λz=>by
  obtain⟨hb,e⟩:=zc4 z
  obtain⟨f0,f1,f2,_⟩:=hf p.1 hb
  obtain⟨o,e',d⟩:=ho p.1 hb
  rw[e]at e';cases e'
  exact⟨e,f0,f1,f2,d⟩
theorem Inv.unpinned {pins pl:List (Addr × Obj)}{σ:St}{H:Hp}{s:Shared}(I:Inv X (pins++pl) σ H s):Inv X pins σ H s:=I.pins_of λp hp=>I.pin p (List.mem_append_right _ (List.mem_append_left _ hp))
theorem zca {iter:Expr}{body:List Stmt}{wi:TI}{g:TG}{tb:TS}{pos:Pos}(hp:PassesOwn (model X.prog X.w) X.A X.env X.xe)(hc:X.calm=true)(hi:PI X tg iter wi)(hg:PG X tg g)(hb:PSs X body tb)
 (hs:∀ x,foldedSetIterable iter X.env x=pure x:=by intro _;rfl):PS X (.For tg iter body [] pos) (tFor wi g tb):=by
 intro pins s σ H D I h
 refine wpAny_For (thn (hi pins s σ H _ I h) λv s1 h1=>thn h1 λitv s2 h2=>?_) hs
 obtain⟨it,fp,tn,J,H2,e,I2,T,st2,f2,W,⟨m0,w0⟩,turn⟩:=h2
 subst e
 -- what stays true of the iterator's objects through the loop
 have stat:∀ {H':Hp},(∀ b∈fp,H' b=none)->∀ b∈fp,zco X pins H' b:=λhn b hb=>⟨hn b hb,(f2 b hb).2⟩
 refine codeAny_forLoop_any (λn s'=>∃ i σ' H',Inv X pins σ' H' s'/\tn i s'.heap/\(∀ b∈fp,H' b=none)/\W i n σ' H') ?_ m0 ⟨0,σ,H2,I2,st2,λb hb=>(f2 b hb).1,w0⟩
 rintro n s3 ⟨i,σ3,H3,I3,st3,fr3,w3⟩
 rcases turn i n σ3 H3 w3 with ⟨stop,qn⟩ | ⟨go,N,hN,step⟩
 .refine wpAny_passesOwn hp (thn (T.done X rfl rfl rfl hc i pins s3 σ3 H3 X.xe I3 (stat fr3) st3 stop) λr s4 hh9=>?_)
  obtain⟨hr,I4⟩:=hh9
  subst hr
  exact wpAny_execs_nil ⟨σ3,H3,I4,qn⟩
 .refine wpAny_passesOwn hp (thn (T.item X rfl rfl rfl hc i pins s3 σ3 H3 X.xe I3 (stat fr3) st3 go) λr s4 hh9=>?_)
  obtain⟨u,hr,h4⟩:=hh9
  subst hr
  refine wpAny_passesOwn hp (thn h4 λ_ s5 hh9=>?_)
  obtain⟨x,H5,I5,r5,y5,st5,fr5⟩:=hh9
  have I5':=I5.pinned (stat fr5) (T.obj _ _ st5)
  refine wpAny_passesOwn hp (thn (hg _ s5 σ3 H5 x u _ I5' r5 (step x H5 y5)) λ_ s6 hh9=>?_)
  obtain⟨σ6,H6,I6,q6⟩:=hh9
  refine wpAny_passesOwn hp (thn (hb _ s6 σ6 H6 _ I6 q6) λf s7 q7=>?_)
  have again:∀ {σ7:St} {H7:Hp},Inv X (pins++XZ fp s5.heap) σ7 H7 s7->N σ7 H7->∃ m,m < n/\∃ i σ' H',Inv X pins σ' H' s7/\tn i s7.heap/\(∀ b∈fp,H' b=none)/\W i m σ' H':=λ{σ7 H7} I7 n7=>by
   obtain⟨m',hm,w7⟩:=hN σ7 H7 n7
   refine⟨m',hm,i+1,σ7,H7,I7.unpinned,T.keep _ _ _ st5 λb hb o e=>(I7.pin (b,o) (List.mem_append_right _ (List.mem_append_right _ (ww hb e)))).1,λb hb=>?_,w7⟩
   obtain⟨o,e,d⟩:=T.obj _ _ st5 b hb
   exact(I7.pin (b,o) (List.mem_append_right _ (List.mem_append_right _ (ww hb e)))).2.1
  cases f with
  | next=>obtain⟨σ7,H7,I7,n7⟩:=q7;exact again I7 n7
  | cont=>obtain⟨σ7,H7,I7,n7⟩:=q7;exact again I7 n7
  | brk=>obtain⟨σ7,H7,I7,q7⟩:=q7;exact⟨σ7,H7,I7.unpinned,q7⟩
  | ret v=>obtain⟨x7,σ7,H7,I7,r7,q7⟩:=q7;exact⟨x7,σ7,H7,I7.unpinned,r7,q7⟩
end
noncomputable abbrev R2:=V->V->Hp->VK->Prop
noncomputable def OpR (X:Cx)(f:Value->Value->Sem Value)(r:R2):Prop :=
 ∀ (pins:List (Addr × Obj)) (s:Shared) (σ:St) (H:Hp) (x y:V) (v u:Value) (Q:VK),Inv X pins σ H s->yH x v->yH y u->r x y H Q ->
  wpAny (model X.prog X.w) X.A (f v u) (EP X pins σ Q) X.xe s
noncomputable def UnR (X:Cx)(f:Value->Sem Value)(r:V->Hp->VK->Prop):Prop :=
 ∀ (pins:List (Addr × Obj)) (s:Shared) (σ:St) (H:Hp) (x:V) (v:Value) (Q:VK),Inv X pins σ H s->yH x v->r x H Q ->
  wpAny (model X.prog X.w) X.A (f v) (EP X pins σ Q) X.xe s
noncomputable def Yf (X:Cx)(f:Value)(r:List V->Hp->VK->Prop):Prop :=
 ∀ (pins:List (Addr × Obj)) (s:Shared) (σ:St) (H:Hp) (xs:List V) (us:List Value) (Q:VK),Inv X pins σ H s->ya xs us->r xs H Q ->
  wpAny (model X.prog X.w) X.A (call f us) (EP X pins σ Q) X.xe s
noncomputable def tOp (r:R2)(ta tb:TE):TE:=fun σ H Q=>ta σ H λx H1=>tb σ H1 λy H2=>r x y H2 Q
noncomputable def tUn (r:V->Hp->VK->Prop)(ta:TE):TE:=fun σ H Q=>ta σ H λx H1=>r x H1 Q
noncomputable def rI (C:Int->Int->Prop)(g:Int->Int->V):R2:=λx y H Q=>∃ i j,x=.int i/\y=.int j/\C i j/\Q (g i j) H
noncomputable def rI0 (g:Int->Int->V):R2:=λx y H Q=>∃ i j,x=.int i/\y=.int j/\Q (g i j) H
noncomputable def rU (g:Int->V):V->Hp->VK->Prop:=λx H Q=>∃ i,x=.int i/\Q (g i) H
section
variable {X:Cx}{a b c:Expr}{ta tb tc:TE}{pos:Pos}
theorem zlz (ha:PE X a ta)(hb:PE X b tb){pins:List (Addr × Obj)}{s:Shared}{σ:St}{H:Hp}{R:V->V->Hp->Prop}(I:Inv X pins σ H s)
 (h:ta σ H λx H1=>tb σ H1 λy H2=>R x y H2) {Q:Value->Shared->Prop} {f:Value->Value->Sem Value}
 (hf:∀ v u s2 x y H2,Inv X pins σ H2 s2->yH x v->yH y u->R x y H2->wpAny (model X.prog X.w) X.A (f v u) Q X.xe s2) :
 wpAny (model X.prog X.w) X.A (eval a X.env) (λv s₁=>wpAny (model X.prog X.w) X.A (eval b X.env) (λu s₂=>wpAny (model X.prog X.w) X.A (f v u) Q X.xe s₂) X.xe s₁) X.xe s:=by
 refine thn (ha pins s σ H _ I h) λv s1 hh9=>?_
 obtain⟨x,H1,I1,r1,q1⟩:=hh9
 refine thn (hb pins s1 σ H1 _ I1 q1) λu s2 hh9=>?_
 obtain⟨y,H2,I2,r2,q2⟩:=hh9
 exact hf v u s2 x y H2 I2 r1 r2 q2
theorem zkt {op:Operator}{r:R2}(ho:OpR X (binaryOp op) r)(ha:PE X a ta)(hb:PE X b tb):PE X (.BinOp a op b pos) (tOp r ta tb):=by
 intro pins s σ H Q I h
 exact wpAny_BinOp (zlz ha hb I h λv u s2 x y H2 I2 rx ry q=>ho pins s2 σ H2 x y v u Q I2 rx ry q)
theorem zlx {op:UnaryOp}{r:V->Hp->VK->Prop}(ho:UnR X (unaryOp op) r)(ha:PE X a ta):PE X (.UnaryOp op a pos) (tUn r ta):=by
 intro pins s σ H Q I h
 exact UnaryOp_ (thn (ha pins s σ H _ I h) λv s1 ⟨x,H1,I1,r1,q1⟩=>ho pins s1 σ H1 x v Q I1 r1 q1)
theorem opI {f:Value->Value->Sem Value}{C:Int->Int->Prop}{g:Int->Int->Int}
 (rule:∀ (i j:Int) (t u:Tok) (s:Shared) (Q:Value->Shared->Prop) (E:Value->Shared->Prop),C i j->Q (.int (g i j) s.toks) { s with toks:=s.toks+1 }->wpAny (model X.prog X.w) X.A (f (.int i t) (.int j u)) Q E s) :
 OpR X f (rI C λi j=>.int (g i j)):=by
 intro pins s σ H x y v u Q I rx ry h
 obtain⟨i,j,rfl,rfl,hc,q⟩:=h
 obtain⟨t,rfl⟩:=rx
 obtain⟨t',rfl⟩:=ry
 exact rule i j t t' s _ _ hc ⟨.int (g i j),H,I.tok _,⟨_,rfl⟩,q⟩
theorem zkV {f:Value->Value->Sem Value}{g:Int->Int->Int}
 (rule:∀ (i j:Int) (t u:Tok) (s:Shared) (Q:Value->Shared->Prop) (E:Value->Shared->Prop),Q (.int (g i j) s.toks) { s with toks:=s.toks+1 }->wpAny (model X.prog X.w) X.A (f (.int i t) (.int j u)) Q E s) :
 OpR X f (rI0 λi j=>.int (g i j)):=by
 intro pins s σ H x y v u Q I rx ry h
 obtain⟨i,j,rfl,rfl,q⟩:=h
 obtain⟨t,rfl⟩:=rx
 obtain⟨t',rfl⟩:=ry
 exact rule i j t t' s _ _ ⟨.int (g i j),H,I.tok _,⟨_,rfl⟩,q⟩
theorem zkP {f:Value->Value->Sem Value}{g:Int->Int->Bool}
 (rule:∀ (i j:Int) (t u:Tok) (s:Shared) (Q:Value->Shared->Prop) (E:Value->Shared->Prop),Q (.bool (g i j)) s->wpAny (model X.prog X.w) X.A (f (.int i t) (.int j u)) Q E s) :
 OpR X f (rI0 λi j=>.bl (g i j)):=by
 intro pins s σ H x y v u Q I rx ry h
 obtain⟨i,j,rfl,rfl,q⟩:=h
 obtain⟨t,rfl⟩:=rx
 obtain⟨t',rfl⟩:=ry
 exact rule i j t t' s _ _ ⟨.bl (g i j),H,I,rfl,q⟩
noncomputable def zlI (i j:Int):Prop:=(-(2 ^ 64) < i/\i < 2 ^ 64)\/(-(2 ^ 64) < j/\j < 2 ^ 64)
theorem zlI.ok {i j:Int}(h:zlI i j):IntMulOk i j:=by
 rcases h with ⟨h1,h2⟩ | ⟨h1,h2⟩
 .exact .of_left (intBits_le_64 h1 h2)
 .exact .of_right (intBits_le_64 h1 h2)
theorem zjh:OpR X (binaryOp .Add) (rI0 λi j=>.int (i+j)):=zkV λ_ _ _ _ _ _ _ q=>add_int q
theorem zkk:OpR X (binaryOp .Sub) (rI0 λi j=>.int (i - j)):=zkV λ_ _ _ _ _ _ _ q=>sub_int q
theorem zke:OpR X (binaryOp .Mult) (rI zlI λi j=>.int (i*j)):=opI λ_ _ _ _ _ _ _ hc q=>mul_int q hc.ok
theorem zjG:OpR X (binaryOp .Mod) (rI (λ_ j=>0 < j) λi j=>.int (i % j)):=opI λi j _ _ _ _ _ hc q=>by
 have h1:(0:Int) < j:=hc
 exact mod_int' (by omega) (by rw[Int.fmod_eq_emod_of_nonneg i (by omega)];exact q)
theorem zjF:OpR X (binaryOp .BitXor) (rI0 λi j=>.int (Builtin.bitXor i j)):=zkV λ_ _ _ _ _ _ _ q=>xor_int q
theorem unI {f:Value->Sem Value}{g:Int->Int}
 (rule:∀ (i:Int) (t:Tok) (s:Shared) (Q:Value->Shared->Prop) (E:Value->Shared->Prop),Q (.int (g i) s.toks) { s with toks:=s.toks+1 }->wpAny (model X.prog X.w) X.A (f (.int i t)) Q E s) :
 UnR X f (rU λi=>.int (g i)):=by
 intro pins s σ H x v Q I rx h
 obtain⟨i,rfl,q⟩:=h
 obtain⟨t,rfl⟩:=rx
 exact rule i t s _ _ ⟨.int (g i),H,I.tok _,⟨_,rfl⟩,q⟩
theorem zky:UnR X (unaryOp .USub) (rU λi=>.int (-i)):=unI λ_ _ _ _ _ q=>neg_int q
end
noncomputable def scal:V->V->Bool
 | .non,.non=>true | .non,.int _=>true | .int _,.non=>true | .non,.bl _=>true | .bl _,.non=>true | .non,.str _=>true | .str _,.non=>true
 | .int _,.int _=>true | .bl _,.bl _=>true | .str _,.str _=>true | .byt _,.byt _=>true
 | .int _,.str _=>true | .str _,.int _=>true | .bl _,.str _=>true | .str _,.bl _=>true
 | _,_=>false
noncomputable def rEq:R2:=λx y H Q=>scal x y=true/\Q (.bl (decide (x=y))) H
noncomputable def rNe:R2:=λx y H Q=>scal x y=true/\Q (.bl (!decide (x=y))) H
theorem zd5 {i j:Int}:decide (V.int i=V.int j)=(i == j):=by
 rw[Bool.eq_iff_iff]
 simp
theorem zgJ {i j:Bool}:decide (V.bl i=V.bl j)=(i == j):=by
 rw[Bool.eq_iff_iff]
 simp
theorem zeq {i j:Str}:decide (V.str i=V.str j)=(i == j):=by
 rw[Bool.eq_iff_iff]
 simp
theorem zdO {i j:Array UInt8}:decide (V.byt i=V.byt j)=(i.toList == j.toList):=by
 rw[Bool.eq_iff_iff]
 cases i
 cases j
 simp
section
variable {X:Cx}{a b c:Expr}{ta tb tc:TE}{pos:Pos}
theorem zO {pins:List (Addr × Obj)}{σ:St}{H:Hp}{s:Shared}{Q:VK}{k k':Bool}(I:Inv X pins σ H s)(q:Q (.bl k) H)(e:k=k'):EP X pins σ Q (.bool k') s:=by
 subst e
 exact⟨.bl k,H,I,rfl,q⟩
theorem zlg:OpR X (compareOp .Eq) rEq:=by
 intro pins s σ H x y v u Q I rx ry h
 obtain⟨hs,q⟩:=h
 cases x with
 | non =>
  cases rx
  cases y with
  | non=>cases ry;exact PySem.EqNone.eq_none_none (zO I q (by simp))
  | bl j=>cases ry;exact PySem.EqNone.eq_none_bool (zO I q (by simp))
  | int j=>obtain⟨t',rfl⟩:=ry;exact PySem.EqNone.eq_none_int (zO I q (by simp))
  | str j=>obtain⟨t',rfl⟩:=ry;exact PySem.EqNone.eq_none_str (zO I q (by simp))
  | _=>exact absurd (show false=true from hs) Bool.false_ne_true
 | bl i =>
  cases rx
  cases y with
  | non=>cases ry;exact PySem.EqNone.eq_bool_none (zO I q (by simp))
  | bl j=>cases ry;exact eq_bool (zO I q zgJ)
  | str j=>obtain⟨t',rfl⟩:=ry;exact PySem.EqMixed.eq_bool_str (zO I q (by simp))
  | _=>exact absurd (show false=true from hs) Bool.false_ne_true
 | int i =>
  obtain⟨t,rfl⟩:=rx
  cases y with
  | non=>cases ry;exact PySem.EqNone.eq_int_none (zO I q (by simp))
  | int j=>obtain⟨t',rfl⟩:=ry;exact eq_int (zO I q zd5)
  | str j=>obtain⟨t',rfl⟩:=ry;exact PySem.EqMixed.eq_int_str (zO I q (by simp))
  | _=>exact absurd (show false=true from hs) Bool.false_ne_true
 | str i =>
  obtain⟨t,rfl⟩:=rx
  cases y with
  | non=>cases ry;exact PySem.EqNone.eq_str_none (zO I q (by simp))
  | bl j=>cases ry;exact PySem.EqMixed.eq_str_bool (zO I q (by simp))
  | int j=>obtain⟨t',rfl⟩:=ry;exact PySem.EqMixed.eq_str_int (zO I q (by simp))
  | str j=>obtain⟨t',rfl⟩:=ry;exact eq_str (zO I q zeq)
  | _=>exact absurd (show false=true from hs) Bool.false_ne_true
 | byt i =>
  obtain⟨t,rfl⟩:=rx
  cases y with
  | byt j=>obtain⟨t',rfl⟩:=ry;exact W.eq_bytes (zO I q zdO)
  | _=>exact absurd (show false=true from hs) Bool.false_ne_true
 | _=>cases y <;> exact absurd (show false=true from hs) Bool.false_ne_true
theorem zcm:OpR X (compareOp .NotEq) rNe:=by
 intro pins s σ H x y v u Q I rx ry h
 obtain⟨hs,q⟩:=h
 cases x with
 | non =>
  cases rx
  cases y with
  | non=>cases ry;exact PySem.EqNone.ne_none_none (zO I q (by simp))
  | bl j=>cases ry;exact PySem.EqNone.ne_none_bool (zO I q (by simp))
  | int j=>obtain⟨t',rfl⟩:=ry;exact PySem.EqNone.ne_none_int (zO I q (by simp))
  | str j=>obtain⟨t',rfl⟩:=ry;exact PySem.EqNone.ne_none_str (zO I q (by simp))
  | _=>exact absurd (show false=true from hs) Bool.false_ne_true
 | bl i =>
  cases rx
  cases y with
  | non=>cases ry;exact PySem.EqNone.ne_bool_none (zO I q (by simp))
  | bl j=>cases ry;exact ne_bool (zO I q (congrArg not zgJ))
  | str j=>obtain⟨t',rfl⟩:=ry;exact PySem.EqMixed.ne_bool_str (zO I q (by simp))
  | _=>exact absurd (show false=true from hs) Bool.false_ne_true
 | int i =>
  obtain⟨t,rfl⟩:=rx
  cases y with
  | non=>cases ry;exact PySem.EqNone.ne_int_none (zO I q (by simp))
  | int j=>obtain⟨t',rfl⟩:=ry;exact ne_int (zO I q (congrArg not zd5))
  | str j=>obtain⟨t',rfl⟩:=ry;exact PySem.EqMixed.ne_int_str (zO I q (by simp))
  | _=>exact absurd (show false=true from hs) Bool.false_ne_true
 | str i =>
  obtain⟨t,rfl⟩:=rx
  cases y with
  | non=>cases ry;exact PySem.EqNone.ne_str_none (zO I q (by simp))
  | bl j=>cases ry;exact PySem.EqMixed.ne_str_bool (zO I q (by simp))
  | int j=>obtain⟨t',rfl⟩:=ry;exact PySem.EqMixed.ne_str_int (zO I q (by simp))
  | str j=>obtain⟨t',rfl⟩:=ry;exact ne_str (zO I q (congrArg not zeq))
  | _=>exact absurd (show false=true from hs) Bool.false_ne_true
 | byt i =>
  obtain⟨t,rfl⟩:=rx
  cases y with
  | byt j=>obtain⟨t',rfl⟩:=ry;exact W.ne_bytes (zO I q (congrArg not zdO))
  | _=>exact absurd (show false=true from hs) Bool.false_ne_true
 | _=>cases y <;> exact absurd (show false=true from hs) Bool.false_ne_true
theorem zlE:OpR X (compareOp .Lt) (rI0 λi j=>.bl (decide (i < j))):=zkP λ_ _ _ _ _ _ _ q=>lt_int q
theorem zdP:OpR X (compareOp .LtE) (rI0 λi j=>.bl (decide (i<=j))):=zkP λ_ _ _ _ _ _ _ q=>le_int q
theorem XL:OpR X (compareOp .Gt) (rI0 λi j=>.bl (decide (j < i))):=zkP λ_ _ _ _ _ _ _ q=>gt_int q
theorem zk5:OpR X (compareOp .GtE) (rI0 λi j=>.bl (decide (j<=i))):=zkP λ_ _ _ _ _ _ _ q=>ge_int q
theorem zja:OpR X (compareOp .Is) (λx y H Q=>y=.non/\Q (.bl (decide (x=.non))) H):=by
 intro pins s σ H x y v u Q I rx ry h
 obtain⟨rfl,q⟩:=h
 cases ry
 refine is_none_gen (zO I q ?_)
 cases x <;> first
  | (cases rx;rfl)
  | (obtain⟨t,rfl⟩:=rx;rfl)
theorem zhW:OpR X (compareOp .IsNot) (λx y H Q=>y=.non/\Q (.bl (!decide (x=.non))) H):=by
 intro pins s σ H x y v u Q I rx ry h
 obtain⟨rfl,q⟩:=h
 cases ry
 refine isnot_none_gen (zO I q ?_)
 cases x <;> first
  | (cases rx;rfl)
  | (obtain⟨t,rfl⟩:=rx;rfl)
theorem OpR.or {f:Value->Value->Sem Value}{r r':R2}(h:OpR X f r)(h':OpR X f r'):OpR X f (λx y H Q=>r x y H Q\/r' x y H Q):=by
 intro pins s σ H x y v u Q I rx ry q
 rcases q with q | q
 .exact h pins s σ H x y v u Q I rx ry q
 .exact h' pins s σ H x y v u Q I rx ry q
theorem zG (b:Expr){op:CmpOp}(h:op≠.In:=by decide)(h2:op≠.NotIn:=by decide):behindInMarks op b=false:=by
 have e1:(op == CmpOp.In)=false:=by cases op <;> first | rfl | exact absurd rfl h
 have e2:(op == CmpOp.NotIn)=false:=by cases op <;> first | rfl | exact absurd rfl h2
 cases b <;> simp[behindInMarks,e1,e2]
theorem zcS {op:CmpOp}{r:R2}(ho:OpR X (compareOp op) r)(ha:PE X a ta)(hb:PE X b tb)(hm:behindInMarks op b=false):PE X (.Compare a [op] [b] pos) (tOp r ta tb):=by
 intro pins s σ H Q I h
 exact wpAny_Compare1 (zlz ha hb I h λv u s2 x y H2 I2 rx ry q=>ho pins s2 σ H2 x y v u Q I2 rx ry q) hm
noncomputable def zju (t:TE):TT:=fun σ H Q=>t σ H λx H'=>∃ k,x=.bl k/\Q k H'
theorem zh8 {op:CmpOp}{r:R2}(ho:OpR X (compareOp op) r)(ha:PE X a ta)(hb:PE X b tb)(hm:behindInMarks op b=false):PT X (.Compare a [op] [b] pos) (zju (tOp r ta tb)):=by
 intro pins s σ H Q I h
 refine wpAny_isTrue_Compare1 (thn (ha pins s σ H _ I h) λv s1 ⟨x,H1,I1,r1,q1⟩=>thn (hb pins s1 σ H1 _ I1 q1) λu s2 ⟨y,H2,I2,r2,q2⟩ =>
  thn (ho pins s2 σ H2 x y v u _ I2 r1 r2 q2) λc s3 ⟨z,H3,I3,r3,k,e,q3⟩=>?_) hm
 subst e
 cases r3
 exact wpAny_truthy_bool ⟨H3,I3,q3⟩
noncomputable def zcV (r r':R2)(ta tb tc:TE):TE:=fun σ H Q=>ta σ H λx H1=>tb σ H1 λy H2=>r x y H2 λz H3=>∃ k,z=.bl k /\
 (if k=true then tc σ H3 λw' H4=>r' y w' H4 Q else Q (.bl false) H3)
theorem zfp {op op':CmpOp}{r r':R2}(ho:OpR X (compareOp op) r)(ho':OpR X (compareOp op') r')(ha:PE X a ta)(hb:PE X b tb)(hc:PE X c tc)
 (hm:lastMarks [op,op'] [b,c]=false:=by with_unfolding_all rfl):PE X (.Compare a [op,op'] [b,c] pos) (zcV r r' ta tb tc):=by
 intro pins s σ H Q I h
 refine Compare_chain (thn (ha pins s σ H _ I h) λv s1 ⟨x,H1,I1,r1,q1⟩=>chain_link (thn (hb pins s1 σ H1 _ I1 q1) λu s2 ⟨y,H2,I2,r2,q2⟩ =>
  thn (ho pins s2 σ H2 x y v u _ I2 r1 r2 q2) λd s3 ⟨z,H3,I3,r3,k,e,q3⟩=>?_)) hm
 subst e
 cases r3
 refine wpAny_truthy_bool ?_
 cases k with
 | false=>exact ite_ff ⟨.bl false,H3,I3,rfl,q3⟩
 | true=>exact ite_tt (chain_last (thn (hc pins s3 σ H3 _ I3 q3) λw' s4 ⟨z',H4,I4,r4,q4⟩=>ho' pins s4 σ H4 y z' u w' Q I4 r2 r4 q4))
theorem XX:(sizeLine:Nat) < 2 ^ 63:=by rw[sizeLine_eq];decide
theorem zcL:OpR X (binaryOp .Add) (λx y H Q=>∃ i j,x=.str i/\y=.str j/\i.length+j.length<=sizeLine/\Q (.str (i++j)) H):=by
 intro pins s σ H x y v u Q I rx ry h
 obtain⟨i,j,rfl,rfl,hz,q⟩:=h
 obtain⟨t,rfl⟩:=rx
 obtain⟨t',rfl⟩:=ry
 exact add_str (λt' tk=>⟨.str (i++j),H,I.tok _,⟨_,rfl⟩,q⟩) hz
theorem Vy {x:V}{us:List Value}(r:ya [x] us):∃ u,us=[u]/\yH x u:=by
 cases r with
 | cons r1 r2=>cases r2;exact⟨_,rfl,r1⟩
theorem zcv {x y:V}{us:List Value}(r:ya [x,y] us):∃ u w',us=[u,w']/\yH x u/\yH y w':=by
 cases r with
 | cons r1 r2 =>
  cases r2 with
  | cons r3 r4=>cases r4;exact⟨_,_,rfl,r1,r3⟩
theorem zdF (hc:X.calm=true):Yf X (.builtin "max") (λxs H Q=>∃ i j,xs=[.int i,.int j]/\Q (.int (if j > i then j else i)) H):=by
 intro pins s σ H xs us Q I r h
 obtain⟨i,j,rfl,q⟩:=h
 obtain⟨u,w',rfl,⟨t,rfl⟩,⟨t',rfl⟩⟩:=zcv r
 refine max_two_ints (I.ok.hd hc) λh' tk k=>⟨_,H,I.kept k,?_,q⟩
 by_cases hj:j > i
 .rw[if_pos hj,if_pos hj];exact⟨_,rfl⟩
 .rw[if_neg hj,if_neg hj];exact⟨_,rfl⟩
end
structure zlb (h:Heap) (x dx C:Addr) (mA:Str->Option Value):Prop where
 obj:h.get? x=some (W.instObj C dx)
 ns:h.Ns1 dx mA
 ne:dx≠x
theorem zdE {h:Heap}{dx:Addr}{mA:Str->Option Value}(n:h.Ns1 dx mA):∃ od,h.get? dx=some od/\∀ name,W.lookIn name od=some (mA name):=by
 obtain⟨o,es,ep,ho,hd,hk,_,hm⟩:=n
 refine⟨o,ho,λname=>?_⟩
 have e:=hm name
 unfold nsFind findBy at e
 rw[<-Array.find?_toList]at e
 unfold W.lookIn
 rw[hd]
 dsimp only
 split
 .rename_i y q
  rw[q]at e
  exact congrArg some e
 .rename_i q
  rw[q]at e
  have a:es.toList.any (·.refKey)=false:=by
   rw[List.any_eq_false]
   intro y hy
   obtain⟨z,t,hkey⟩:=hk y (Array.mem_toList_iff.mp hy)
   simp[DictEntry.refKey,hkey]
  have a':¬ es.toList.any (·.refKey)=true:=by rw[a];exact Bool.false_ne_true
  rw[if_neg a']
  exact congrArg some e
theorem zlb.look {h:Heap}{x dx C:Addr}{mA:Str->Option Value}(I:zlb h x dx C mA):∃ od,PySem.W.InstAt h x (W.instObj C dx) C (some od)/\∀ name,W.lookIn name od=some (mA name) :=
 let ⟨od,ho,hl⟩:=zdE I.ns
 ⟨od,⟨I.obj,rfl,rfl,ho⟩,hl⟩
section
variable {P:Program}{w:World}{H H':Hp}{h h':Heap}{a C dx:Addr}{fs fs':List (Str × V)}
theorem zhB (hok:HOk P w H h)(e:H a=some (.ins C dx fs)):∃ mA,zlb h a dx C mA/\(∀ f,zhr (fs.lookup f) (mA f))/\PySem.Within mA (fs.map (·.1))/\fs.length<=1000/\H dx=some (.own a):=by
 obtain⟨d,z,ne,ob,mA,n,r,q⟩:=(show yw P w H h a (.ins C dx fs)from hok a _ e)
 exact⟨mA,⟨ob,n,ne⟩,r,q,z,d⟩
end
structure Cls (K:W.Frag) (C:Addr):Prop where
 pg:W.plainGet K C Str.empty=true
 hd:W.hasDictIn K C=true
 po:W.plainOver K C=true
 sa:W.findIn K (.ref C) "__setattr__"=some (some (.builtin "object.__setattr__"))
theorem Cls.get {K:W.Frag}{C:Addr}(c:Cls K C)(f:Str):W.plainGet K C f=true:=c.pg
section
variable {X:Cx}{pins:List (Addr × Obj)}{σ:St}{H:Hp}{s:Shared}{A:Around}{E:Value->Shared->Prop}{Q:Value->Shared->Prop}{c:Value}{b:Bool}
inductive zb2 (K:W.Frag) (H:Hp):V->Value->Prop where
 | non:zb2 K H .non (.type "NoneType")
 | bl (x:Bool):zb2 K H (.bl x) (.type "bool")
 | int (i:Int):zb2 K H (.int i) (.type "int")
 | str (x:Str):zb2 K H (.str x) (.type "str")
 | flt (x:UInt64):zb2 K H (.flt x) (.type "float")
 | lst {a:Addr} {xs:List V} (e:H a=some (.lst xs)):zb2 K H (.ref a) (.type "list")
 | frz {a:Addr} {o:Obj} {xs:List V} (e:H a=some (.frz o (.lst xs))):zb2 K H (.ref a) (.type "list")
 | tup {a:Addr} {xs:List V} (e:H a=some (.tup xs)):zb2 K H (.ref a) (.type "tuple")
 | dK {a:Addr} {kvs:List (Key × V)} (e:H a=some (.dK kvs)):zb2 K H (.ref a) (.type "dict")
 | dT {a:Addr} {kvs:List (List Key × V)} (e:H a=some (.dT kvs)):zb2 K H (.ref a) (.type "dict")
 | ins {a C dx:Addr} {fs:List (Str × V)} (e:H a=some (.ins C dx fs)) (cl:Cls K C) (ha:W.findIn K (.ref C) "__class__"=some (some (.builtin "object.__class__")))
  (hn:W.specialIn K (.builtin "object.__class__") "__get__"=some (some (.builtin "getset_descriptor.__get__"))) (htk:W.takesIn K (.builtin "object.__class__")=some true)
  (hm:W.mroIn K C (.type "object")=some true):zb2 K H (.ref a) (.ref C)
theorem zcX {x:V}{u t:Value}(I:Inv X pins σ H s)(rx:yH x u)(ty:zb2 X.K H x t)(e:W.kitOne X.K t c=some b)(h:∀ tk,Q (.bool b) { s with toks:=tk }) :
 wpAny (model X.prog X.w) A (call (.builtin "isinstance") [u,c]) Q E s:=by
 cases ty with
 | non=>cases (show u=Value.none from rx);exact W.kia_one W.kitx_none I.kIn True.intro e (λz=>nomatch z) h
 | bl y=>cases (show u=Value.bool y from rx);exact W.kia_one W.kitx_bool I.kIn True.intro e (λz=>nomatch z) h
 | int i=>obtain⟨t,q⟩:=(show ∃ t,u=Value.int i t from rx);cases q;exact W.kia_one W.kitx_int I.kIn True.intro e (λz=>nomatch z) h
 | str y=>obtain⟨t,q⟩:=(show ∃ t,u=Value.str y t from rx);cases q;exact W.kia_one W.kitx_str I.kIn True.intro e (λz=>nomatch z) h
 | flt y=>obtain⟨t,q⟩:=(show ∃ t,u=Value.float y t from rx);cases q;exact W.kia_one W.kitx_float I.kIn True.intro e (λz=>nomatch z) h
 | @lst a xs ea =>
  cases (show u=Value.ref a from rx)
  obtain⟨_,_,n,_,h1⟩:=(show yw X.prog X.w H s.heap a (.lst xs)from I.hok a _ ea)
  exact W.kia_one W.kitx_list I.kIn ⟨_,h1,rfl⟩ e (λz=>nomatch z) h
 | @frz a ob xs ea =>
  cases (show u=Value.ref a from rx)
  obtain⟨_,_,_,n,_,h1⟩:=(show yw X.prog X.w H s.heap a (.frz ob (.lst xs))from I.hok a _ ea)
  exact W.kia_one W.kitx_list I.kIn ⟨_,h1,rfl⟩ e (λz=>nomatch z) h
 | @tup a xs ea =>
  cases (show u=Value.ref a from rx)
  obtain⟨_,_,_,p⟩:=(show yw X.prog X.w H s.heap a (.tup xs)from I.hok a _ ea)
  obtain⟨o,h1,h2,_⟩:=p
  exact W.kia_one W.kitx_tuple I.kIn ⟨o,h1,h2⟩ e (λz=>nomatch z) h
 | @dK a kvs ea =>
  cases (show u=Value.ref a from rx)
  obtain⟨_,_,vs,_,p⟩:=(show yw X.prog X.w H s.heap a (.dK kvs)from I.hok a _ ea)
  obtain⟨o,es,ep,h1,h2,_⟩:=p
  exact W.kia_one W.kitx_dict I.kIn ⟨o,h1,h2.1⟩ e (λz=>nomatch z) h
 | @dT a kvs ea =>
  cases (show u=Value.ref a from rx)
  obtain⟨_,_,xs,_,o,es,ep,h1,h2,_⟩:=(show yw X.prog X.w H s.heap a (.dT kvs)from I.hok a _ ea)
  exact W.kia_one W.kitx_dict I.kIn ⟨o,h1,h2.1⟩ e (λz=>nomatch z) h
 | @ins a C dx fs ea cl ha hn htk hm =>
  cases (show u=Value.ref a from rx)
  obtain⟨mA,O,_⟩:=zhB I.hok ea
  obtain⟨od,J,_⟩:=O.look
  exact W.kia_one (W.kitx_own (cl.get _) cl.hd ha hn htk hm) I.kIn J e (λz=>nomatch z) h
end
structure YH (k:Nat) (A:Around):Prop where
 hd:A.handled=none
 dp:A.depth+3*k+5 < recursionLimit
 un:A.units+16*k+200 < cLine
theorem YH.mono {j k:Nat}{A:Around}(r:YH k A)(h:j<=k):YH j A:=⟨r.hd,by have:=r.dp;omega,by have:=r.un;omega⟩
theorem YH.deeper {k:Nat}{A:Around}(r:YH (k+1) A)(env:Env):YH k (A.deeper env) :=
 ⟨r.hd,by have:=r.dp;show A.depth+1+3*k+5 < _;omega,by have:=r.un;show A.units+3+16*k+200 < _;omega⟩
theorem YH.depth {k:Nat}{A:Around}(r:YH k A):A.depth < recursionLimit:=by have:=r.dp;omega
theorem YH.units {k:Nat}{A:Around}(r:YH k A):A.units+64 < cLine:=by have:=r.un;omega
noncomputable def tNil:TA:=λ_ H Q=>Q [] H
noncomputable def zle (ta:TE)(tr:TA):TA:=fun σ H Q=>ta σ H λx H1=>tr σ H1 λxs H2=>Q (x::xs) H2
section
variable {X:Cx}{e:Expr}{es:List Expr}{te:TE}{t:TA}{pos:Pos}
theorem zb5:PA X [] tNil:=λ_ _ _ _ H Q I h=>Calls.spliced_nil ⟨[],H,I,.nil,h⟩
theorem Xf (ha:PE X e te)(hr:PA X es t)(hs:starEach (e::es) X.env=(false,eval e X.env)::starEach es X.env:=by rfl):PA X (e::es) (zle te t):=by
 intro pos pins s σ H Q I h
 rw[hs]
 show wpAny _ _ (spliced ((false,eval e X.env)::backTo pos (starEach es X.env))) _ _ s
 refine Calls.spliced_cons (thn (ha pins s σ H _ I h) λu s1 hh9=>?_)
 obtain⟨x,H1,I1,r1,q1⟩:=hh9
 exact thn (hr pos pins s1 σ H1 _ I1 q1) λus s2 ⟨xs,H2,I2,r2,q2⟩=>⟨x::xs,H2,I2,.cons r1 r2,q2⟩
noncomputable def tTup (t:TA):TE:=fun σ H Q=>t σ H λxs H1=>xs.length<=sizeLine/\∀ p,H1 p=none->Q (.ref p) (upd H1 p (.tup xs))
noncomputable def tLst (t:TA):TE:=fun σ H Q=>t σ H λxs H1=>xs.length<=sizeLine/\∀ p,H1 p=none->Q (.ref p) (upd H1 p (.lst xs))
theorem zj8 {x1}(h:PA X es t):PE X (.Tuple es x1 pos) (tTup t):=by
 intro pins s σ H Q I hq
 refine wpAny_Tuple_spliced (thn (h pos pins s σ H _ I hq) λus s1 ⟨xs,H1,I1,r,z,q⟩=>⟨by rw[<-r.length];exact z,?_⟩)
 have hf:H1 s1.heap.objs.size=none:=I1.hok.fresh (Nat.le_refl _)
 refine⟨.ref s1.heap.objs.size,upd H1 s1.heap.objs.size (.tup xs),I1.laid (t':=s1.toks) (λb u e=>Heap.get?_push_of_some _ e) (Nat.le_refl _) ?_,rfl,q _ hf⟩
 exact⟨z,us,r,⟨_,Heap.get?_push_size _ rfl,rfl,_,rfl⟩⟩
theorem ziZ (h:PA X es t):PE X (.List es pos) (tLst t):=by
 intro pins s σ H Q I hq
 refine wpAny_List_spliced (thn (h pos pins s σ H _ I hq) λus s1 ⟨xs,H1,I1,r,z,q⟩=>⟨by rw[<-r.length];exact z,?_⟩)
 have hf:H1 s1.heap.objs.size=none:=I1.hok.fresh (Nat.le_refl _)
 refine⟨.ref s1.heap.objs.size,upd H1 s1.heap.objs.size (.lst xs),I1.laid (t':=s1.toks) (λb u e=>Heap.get?_push_of_some _ e) (Nat.le_refl _) ?_,rfl,q _ hf⟩
 exact⟨z,us,0,r,Heap.get?_push_size _ rfl⟩
end
noncomputable abbrev Sp:=List V->Hp->VK->XK->Prop
noncomputable abbrev CXT:=List Env->Hp->Shared->XK->Value->Shared->Prop
structure zkI (P:Program) (w:World) (K:W.Frag) (mg:Str->Option Value) (base:Heap) (A:Around) (outer:List Env) (s:Shared) (H:Hp):Prop where
 frames:A.frames=some outer
 mod:Mod K mg base
 bs:∀ b o,base.get? b=some o->s.heap.get? b=some o/\H b=none
 bsz:base.objs.size<=s.heap.objs.size
 funs:s.heap.FunFrames base outer
 frf:∀ b∈frs outer,H b=none
 hok:HOk P w H s.heap
 bare:AllBare s.gens
noncomputable def CE (outer:List Env)(P:Program)(w:World)(H:Hp)(s:Shared)(Q:VK)(u:Value)(s':Shared):Prop :=
 ∃ v H',s'.os=s.os/\AllBare s'.gens/\Un (frs outer) [] H H' s.heap s'.heap/\HOk P w H' s'.heap/\yH v u/\Q v H'
noncomputable def CR (CX:CXT)(outer:List Env)(P:Program)(w:World)(H:Hp)(s:Shared)(Q:VK)(E:XK)(r:Result)(s':Shared):Prop :=
 match r with
 | .ok (.ret u)=>CE outer P w H s Q u s'
 | .ok _=>False
 | .error e=>CX outer H s E e s'
structure xz (P:Program) (w:World) (K:W.Frag) (mg:Str->Option Value) (base:Heap) (CX:CXT) (k:Nat) (f:Addr) (fd:FuncData) (ps:List Str) (sp:Sp):Prop where
 len:∀ vs H Q E,sp vs H Q E->vs.length=ps.length
 run:∀ (A:Around) (outer:List Env) (s:Shared) (H:Hp) (args:Args) (us:List Value) (vs:List V) (Q:VK) (E:XK),YH k A->zkI P w K mg base A outer s H->BindsTo s fd args (ps.zip us)->ya vs us->sp vs H Q E ->
  codeAny (model P w) A (.call (.ref f) args) (CR CX outer P w H s Q E) s
theorem xz.mono {P:Program}{w:World}{K:W.Frag}{mg:Str->Option Value}{base:Heap}{CX:CXT}{j k:Nat}{f:Addr}{fd:FuncData}{ps:List Str}{sp:Sp}(F:xz P w K mg base CX j f fd ps sp)(h:j<=k) :
 xz P w K mg base CX k f fd ps sp:=⟨F.len,λA outer s H args us vs Q E hr=>F.run A outer s H args us vs Q E (hr.mono h)⟩
theorem xz.imp {P:Program}{w:World}{K:W.Frag}{mg:Str->Option Value}{base:Heap}{CX:CXT}{k:Nat}{f:Addr}{fd:FuncData}{ps:List Str}{sp sp':Sp}(F:xz P w K mg base CX k f fd ps sp)
 (h:∀ vs H Q E,sp' vs H Q E->sp vs H Q E):xz P w K mg base CX k f fd ps sp' :=
 ⟨λvs H Q E q=>F.len vs H Q E (h _ _ _ _ q),λA outer s H args us vs Q E hr he hb hv hs=>F.run A outer s H args us vs Q E hr he hb hv (h _ _ _ _ hs)⟩
section
variable {X:Cx}{pins:List (Addr × Obj)}{σ:St}{H:Hp}{s s':Shared}
theorem Inv.env0 (I:Inv X pins σ H s):zkI X.prog X.w X.K X.mg X.base X.A X.stack s H :=
 ⟨I.ok.frames,I.ok.mod,I.bs,Nat.le_trans I.ok.bsz I.sz,I.stack,I.stkFree,I.hok,I.bare⟩
theorem Inv.after {Q:VK}{u:Value}(I:Inv X pins σ H s)(h:CE X.stack X.prog X.w H s Q u s'):EP X pins σ Q u s':=by
 obtain⟨v,H',os,bare,un,hok,r,q⟩:=h
 obtain⟨hh,g,d,t,os'⟩:=s'
 obtain rfl:os'=s.os:=os
 exact⟨v,H',I.call (h':=hh) (g':=g) (d':=d) (t':=t) (ch:=[]) un hok bare (λb z=>absurd z (by simp)),r,q⟩
end
noncomputable def zlB (sp:Sp)(dvs:List V)(E:XK)(t:TA):TE:=fun σ H Q=>t σ H λvs H1=>sp (vs++dvs) H1 Q E
noncomputable def zao (K:W.Frag)(fd:FuncData)(ps:List Str)(ds:List Value):Prop :=
 ∀ (s:Shared) (us:List Value),K.In s.heap->(us++ds).length=ps.length->BindsTo s fd ⟨us,[]⟩ (ps.zip (us++ds))
theorem zao.all {K:W.Frag}{fd:FuncData}{ps:List Str}(h:∀ us:List Value,us.length=ps.length->bindArgs fd ⟨us,[]⟩=pure (ps.zip us)):zao K fd ps []:=λs us _ hl=>by
 rw[List.append_nil]at hl ⊢
 exact .of_eq (h us hl)
noncomputable def zcT (CX:CXT)(X:Cx)(E:XK):Prop:=∀ (pins:List (Addr × Obj)) (σ:St) (H:Hp) (s:Shared) (e:Value) (s':Shared),Inv X pins σ H s->CX X.stack H s E e s'->X.xe e s'
section
variable {X:Cx}{CX:CXT}{k:Nat}{f C:Addr}{fd:FuncData}{ps:List Str}{sp:Sp}{dvs:List V}{ds:List Value}{E:XK}{x m:Str}{p pos apos:Pos}{e o:Expr}{es:List Expr}{ta:TE}{t:TA}
theorem zks {pins:List (Addr × Obj)}{σ:St}{H:Hp}{s:Shared}{Q:VK}{us:List Value}{vs:List V}(F:xz X.prog X.w X.K X.mg X.base CX k f fd ps sp)(hr:YH k X.A)(hb:zao X.K fd ps ds)(hd:ya dvs ds)(hx:zcT CX X E)
 (I:Inv X pins σ H s) (r:ya vs us) (h:sp (vs++dvs) H Q E):wpAny (model X.prog X.w) X.A (call (.ref f) us) (EP X pins σ Q) X.xe s:=by
 have r2:ya (vs++dvs) (us++ds):=r.append hd
 have hl:(us++ds).length=ps.length:=by rw[<-r2.length];exact F.len _ _ _ _ h
 refine wpAny_call (codeAny_mono (F.run X.A X.stack s H ⟨us,[]⟩ (us++ds) (vs++dvs) Q E hr I.env0 (hb s us I.kIn hl) r2 h) λr s' hq=>?_)
 cases r with
 | error e=>exact hx pins σ H s e s' I hq
 | ok fl =>
  cases fl with
  | ret u=>exact I.after hq
  | next=>exact False.elim hq
  | brk=>exact False.elim hq
  | cont=>exact False.elim hq
theorem zhC (F:xz X.prog X.w X.K X.mg X.base CX k f fd ps sp)(hr:YH k X.A)(hg:Gl X x)(hm:X.mg x=some (.ref f))(hk:W.keepIn X.K (.ref f)=true)(hb:zao X.K fd ps ds)(hd:ya dvs ds)(hx:zcT CX X E)
 (ha:PA X (e::es) t) (hdb:(x == ("__debug__":Str))=false:=by decide) (he:starEach (e::es) X.env=(false,eval e X.env)::starEach es X.env:=by rfl) (hpl:(backTo pos (starEach es X.env)).any (·.1)=false:=by rfl) :
 PE X (.Call (.Name x p) (e::es) [] pos) (zlB sp dvs E t):=by
 intro pins s σ H Q I h
 refine wpAny_Call_Name_kw (za1 I hg hm ?_ hdb)
 refine W.callWith_K (h₀:=X.base) I.ok.mod.kin hk (thn (ha pos pins s σ H _ I h) λus s1 ⟨vs,H1,I1,r,q⟩=>⟨I1.kIn,?_⟩) he hpl
 exact zks F hr hb hd hx I1 r q
end
structure zA (N P:List Str) (sc:Scope):Prop where
 kind:sc.kind=.function
 co:sc.isCoroutine=false
 gen:sc.isGenerator=false
 nd:N.Nodup
 pre:N.take P.length=P
 par:∀ x∈P,sc.names.lookup x=some .local\/sc.names.lookup x=some .cell
 nofree:∀ y∈sc.names,y.2≠.free
theorem zag {kindOf:Str->Option NameKind}{x:Str}:∀ {binds:List (Str × Value)} {m:Str->Option Value},(∀ v,(x,v)∉binds)->bindL kindOf binds m x=m x
 | [],_,_=>rfl
 | (n,v)::r,m,h=>by
  unfold bindL
  rw[zag λw hw=>h w (List.mem_cons_of_mem _ hw)]
  split
  .have:x≠n:=by rintro rfl;exact h v List.mem_cons_self
   simp[this]
  .rfl
theorem VG {kindOf:Str->Option NameKind}{x:Str}:∀ {binds:List (Str × Value)} {m:Str->Option Value},(∀ v,(x,v)∉binds)->bindC kindOf binds m x=m x
 | [],_,_=>rfl
 | (n,v)::r,m,h=>by
  unfold bindC
  rw[VG λw hw=>h w (List.mem_cons_of_mem _ hw)]
  split
  .rfl
  .have:x≠n:=by rintro rfl;exact h v List.mem_cons_self
   simp[this]
theorem V2 {kindOf:Str->Option NameKind}{x:Str}{v:Value}:∀ {P:List Str} {vs:List Value} {i:Nat} {m:Str->Option Value},P.Nodup->P[i]?=some x->vs[i]?=some v->kindOf x=some .local ->
 bindL kindOf (P.zip vs) m x=some v
 | [],_,_,_,_,h,_,_=>by simp at h
 | _::_,[],_,_,_,_,h,_=>by simp at h
 | p::P,w::vs,0,m,nd,h1,h2,hk=>by
  simp at h1 h2;subst h1;subst h2
  show bindL kindOf ((p,w)::P.zip vs) m p=_
  unfold bindL
  rw[zag λv hv=>(List.nodup_cons.mp nd).1 (List.of_mem_zip hv).1,if_pos hk]
  simp
 | p::P,w::vs,i+1,m,nd,h1,h2,hk=>by
  show bindL kindOf ((p,w)::P.zip vs) m x=_
  unfold bindL
  exact V2 (i:=i) (List.nodup_cons.mp nd).2 (by simpa using h1) (by simpa using h2) hk
theorem Vv {kindOf:Str->Option NameKind}{x:Str}{v:Value}:∀ {P:List Str} {vs:List Value} {i:Nat} {m:Str->Option Value},P.Nodup->P[i]?=some x->vs[i]?=some v->kindOf x≠some .local ->
 bindC kindOf (P.zip vs) m x=some v
 | [],_,_,_,_,h,_,_=>by simp at h
 | _::_,[],_,_,_,_,h,_=>by simp at h
 | p::P,w::vs,0,m,nd,h1,h2,hk=>by
  simp at h1 h2;subst h1;subst h2
  show bindC kindOf ((p,w)::P.zip vs) m p=_
  unfold bindC
  rw[VG λv hv=>(List.nodup_cons.mp nd).1 (List.of_mem_zip hv).1,if_neg hk]
  simp
 | p::P,w::vs,i+1,m,nd,h1,h2,hk=>by
  show bindC kindOf ((p,w)::P.zip vs) m x=_
  unfold bindC
  exact Vv (i:=i) (List.nodup_cons.mp nd).2 (by simpa using h1) (by simpa using h2) hk
noncomputable def start (N:List Str)(vs:List V):St:=vs.map some++List.replicate (N.length - vs.length) none
noncomputable def zhs (CX:CXT)(P:Program)(w:World)(K:W.Frag)(mg:Str->Option Value)(base:Heap)(N:List Str)(qual:Str)(scope:Scope)(f:Addr)(cd:Value)(A:Around)(outer:List Env)(s:Shared)(H:Hp)(E:XK):Cx where
 prog:=P
 w:=w
 K:=K
 mg:=mg
 base:=base
 A:=A.deeper (envOfC qual scope s.heap.objs.size f cd)
 N:=N
 s₀:=s
 H₀:=H
 env:=envOfC qual scope s.heap.objs.size f cd
 outer:=outer
 stack:=envOfC qual scope s.heap.objs.size f cd::outer
 ex:=[]
 calm:=true
 fn:=λ_=>true
 pn:=[]
 xe:=λe s'=>wpAny (model P w) (A.deeper (envOfC qual scope s.heap.objs.size f cd)) (leaving (envOfC qual scope s.heap.objs.size f cd) e) (λ_ s''=>CX outer H s E e s'') (λe' s''=>CX outer H s E e' s'') s'
theorem zbH {sc:Scope}{n:Nat}{x:Str}(h:sc.names.lookup x=some .cell):∃ c,(cellsFrom n sc.names []).lookup x=some c:=by
 have q:=W.cellsFrom_some sc.names n [] (.inl h)
 exact Option.isSome_iff_exists.mp q
theorem zeL {CX:CXT}{P:Program}{w:World}{K:W.Frag}{mg:Str->Option Value}{base:Heap}{N ps:List Str}{qual:Str}{scope:Scope}{f:Addr}{cd:Value}{A:Around}{outer:List Env}{s s1:Shared}{H:Hp}{E:XK}{us:List Value}{vs:List V}
 (S:zA N ps scope) (hd:A.handled=none) (e0:zkI P w K mg base A outer s H) (hl:vs.length=ps.length) (r:ya vs us)
 (x:InCallC s s.heap.objs.size (bindL (envOfC qual scope s.heap.objs.size f cd).kindOf (ps.zip us) λ_=>none) (cellsFrom (s.heap.objs.size+1) scope.names []) (bindC (envOfC qual scope s.heap.objs.size f cd).kindOf (ps.zip us) λ_=>none) s1) :
 Inv (zhs CX P w K mg base N qual scope f cd A outer s H E) [] (start N vs) H s1:=by
 have hpl:ps.length<=N.length:=by have:=congrArg List.length S.pre;rw[List.length_take]at this;omega
 obtain⟨h1,tk,rfl,hk⟩:=x.done
 have noA:∀ b:Addr,b∉(zhs CX P w K mg base N qual scope f cd A outer s H E).ex:=λb z=>absurd (show b∈([]:List Addr)from z) (by simp)
 refine⟨⟨e0.mod,S.kind,rfl,rfl,Nat.le_refl _,λy z c h1 h2=>?_,λy hy=>?_,λy c _ h=>?_,λ_=>hd,Around.frames_deeper e0.frames,.inr ⟨rfl,rfl⟩,λb z=>absurd z (noA b),e0.bs,e0.bsz,λb _ _=>noA b,λb z=>absurd z (noA b),e0.funs,e0.frf⟩,
  rfl,e0.bare,Un.kept hk,⟨_,x.toInCall.ns,λi y v h1 h2 h3=>?_⟩,λy c h=>⟨_,x.cell y c h⟩,e0.hok.fresh (Nat.le_refl _),λy c h=>?_,λp hp=>absurd (show p∈([]:List (Addr × Obj))from hp) (by simp),e0.hok.kept hk,?_⟩
 .exact name_of_addr x.apart (PySem.mem_of_lookup h1) (PySem.mem_of_lookup h2)
 .have hy:scope.names.lookup y=some .cell\/scope.names.lookup y=some .free:=hy
  rcases hy with hy | hy
  .exact zbH hy
  .exact absurd rfl (S.nofree _ (PySem.mem_of_lookup hy))
 .exact Nat.le_of_lt (x.above y c (PySem.mem_of_lookup h))
 .have hi:i < vs.length:=by
   unfold start at h2
   by_cases hi:i < vs.length
   .exact hi
   .rw[List.getElem?_append_right (by simpa using hi)]at h2
    rw[List.getElem?_replicate]at h2
    split at h2 <;> cases h2
  have ha:vs[i]?=some v:=by
   unfold start at h2
   rw[List.getElem?_append_left (by simpa using hi),List.getElem?_map]at h2
   cases e:vs[i]? with
   | none=>rw[e]at h2;cases h2
   | some a=>rw[e]at h2;cases h2;rfl
  obtain⟨u,hu,rv⟩:=r.get ha
  have hp:ps[i]?=some y:=by
   rw[<-S.pre,List.getElem?_take_of_lt (by omega)];exact h1
  have ndP:ps.Nodup:=by rw[<-S.pre];exact S.nd.sublist (List.take_sublist _ _)
  refine⟨u,rv,?_⟩
  rcases S.par y (List.mem_of_getElem? hp)with k | k
  .exact .inl ⟨k,V2 ndP hp hu k⟩
  .obtain⟨c,e⟩:=zbH (n:=s.heap.objs.size+1) k
   refine .inr ⟨.inl k,c,e,?_⟩
   have q:=x.cell y c e
   rw[Vv ndP hp hu (by show scope.names.lookup y≠_;rw[k];decide)]at q
   exact q
 .exact e0.hok.fresh (Nat.le_of_lt (x.above y c (PySem.mem_of_lookup h)))
 .unfold start
  show _=N.length
  rw[List.length_append,List.length_map,List.length_replicate]
  omega
theorem zkX {CX:CXT}{P:Program}{w:World}{K:W.Frag}{mg:Str->Option Value}{base:Heap}{k:Nat}{f:Addr}{name qual:Str}{params:Arguments}{body:List Stmt}{scope:Scope}{dV kV doc pm cdv ct oc:Value}{an od:Option Addr}
 {osl:Array (Option Value)} {N ps:List Str} {sp:Sp} (lk:K.lookup f=some ⟨oc,od,.func (W.fnOf name qual params body scope dV kV doc pm an cdv ct),osl⟩) (hcd:W.codeIn K cdv qual=true) (S:zA N ps scope)
 (len:∀ vs H Q E,sp vs H Q E->vs.length=ps.length)
 (hbody:∀ (A:Around) (outer:List Env) (s:Shared) (H:Hp) (vs:List V) (Q:VK) (E:XK),YH k (A.deeper (envOfC qual scope s.heap.objs.size f cdv))->sp vs H Q E ->
  ∃ t,PSs (zhs CX P w K mg base N qual scope f cdv A outer s H E) body t/\t { nx:=λ_ H'=>Q .non H',rt:=Q } (start N vs) H) :
 xz P w K mg base CX (k+1) f (W.fnOf name qual params body scope dV kV doc pm an cdv ct) ps sp:=by
 refine⟨len,λA outer s H args us vs Q E hr e0 hb r hsp=>?_⟩
 have hl:=len _ _ _ _ hsp
 have KX:K.In s.heap:=e0.mod.kin.keeps λb o e=>(e0.bs b o e).1
 have lim:s.heap.NoLimit:=e0.mod.nolimit.keeps λb o e=>(e0.bs b o e).1
 have hkind:∀ y∈ps.zip us,scope.names.lookup y.1=some .local\/(scope.names.lookup y.1=some .cell/\((cellsFrom (s.heap.objs.size+1) scope.names []).lookup y.1).isSome=true):=λ⟨n,v⟩ hy=>by
  rcases S.par n (List.of_mem_zip hy).1 with q | q
  .exact .inl q
  .exact .inr ⟨q,W.cellsFrom_some _ _ _ (.inl q)⟩
 refine codeAny_call_function hr.depth (KX _ _ lk) rfl S.co S.gen rfl (W.codeRec_of KX hcd) (hb _ _ _ _ ?_)
 refine wpAny_newFunctionEnv_cells S.kind hkind λenv he s1 x=>?_
 subst he
 refine⟨lim.keeps x.toInCall.keep,codeAny_func ?_⟩
 obtain⟨t,ht,hq⟩:=hbody A outer s H vs Q E (hr.deeper _) hsp
 have I:Inv (zhs CX P w K mg base N qual scope f cdv A outer s H E) [] (start N vs) H s1:=zeL S hr.hd e0 hl r x
 refine wpAny_mono (ht [] s1 (start N vs) H _ I hq) (λfl s' hs=>?_) λe s' hs=>hs
 have fin:∀ {σ':St} {H':Hp} {v:V} {u:Value},Inv (zhs CX P w K mg base N qual scope f cdv A outer s H E) [] σ' H' s'->yH v u->Q v H'->CE outer P w H s Q u s' :=
  λ{σ' H' v u} J rv q=>⟨v,H',J.os,J.bare,J.base,J.hok,rv,q⟩
 cases fl with
 | ret u =>
  obtain⟨v,σ',H',J,rv,q⟩:=hs
  exact fin J rv q
 | next =>
  obtain⟨σ',H',J,q⟩:=hs
  exact fin (v:=V.non) (u:=Value.none) J rfl q
 | brk =>
  obtain⟨_,_,_,q⟩:=hs
  exact False.elim q
 | cont =>
  obtain⟨_,_,_,q⟩:=hs
  exact False.elim q
section
variable {X:Cx}{x:Str}{p pos:Pos}{e:Expr}{es:List Expr}{t:TA}{id T:String}{r:List V->Hp->VK->Prop}
noncomputable def tCB (r:List V->Hp->VK->Prop)(t:TA):TE:=fun σ H Q=>t σ H λvs H1=>r vs H1 Q
theorem ZE (hc:Yf X (.builtin id) r) (hg:Gl X x) (hm:X.mg x=none) (hv:bootBuiltins x=some (.builtin id)) (ha:PA X (e::es) t) (hn:x≠"__name__":=by decide) (hdb:(x == ("__debug__":Str))=false:=by decide)
 (he:starEach (e::es) X.env=(false,eval e X.env)::starEach es X.env:=by rfl) (hpl:(backTo pos (starEach es X.env)).any (·.1)=false:=by rfl):PE X (.Call (.Name x p) (e::es) [] pos) (tCB r t):=by
 intro pins s σ H Q I h
 refine wpAny_Call_Name_kw (Yx I hg hm hv ?_ hn hdb)
 exact PyProof.Rows.callWith_builtin1 (thn (ha pos pins s σ H _ I h) λus s1 ⟨vs,H1,I1,r1,q1⟩=>hc pins s1 σ H1 vs us Q I1 r1 q1) he hpl
theorem V0 (hc:Yf X (.type T) r) (hg:Gl X x) (hm:X.mg x=none) (hv:bootBuiltins x=some (.type T)) (ha:PA X (e::es) t) (hn:x≠"__name__":=by decide) (hdb:(x == ("__debug__":Str))=false:=by decide)
 (he:starEach (e::es) X.env=(false,eval e X.env)::starEach es X.env:=by rfl) (hpl:(backTo pos (starEach es X.env)).any (·.1)=false:=by rfl):PE X (.Call (.Name x p) (e::es) [] pos) (tCB r t):=by
 intro pins s σ H Q I h
 refine wpAny_Call_Name_kw (Yx I hg hm hv ?_ hn hdb)
 exact PyProof.Rows.callWith_type1 (thn (ha pos pins s σ H _ I h) λus s1 ⟨vs,H1,I1,r1,q1⟩=>hc pins s1 σ H1 vs us Q I1 r1 q1) he hpl
end
end L2
namespace HT
open PySem PyProof.Rows
noncomputable def lexLt:List Int->List Int->Bool
 | [],[]=>false
 | [],_::_=>true
 | _::_,[]=>false
 | x::xs,y::ys=>if x=y then lexLt xs ys else decide (x < y)
theorem lexLt_cons (x y:Int)(xs ys:List Int):lexLt (x::xs) (y::ys)=if x=y then lexLt xs ys else decide (x < y):=rfl
section
variable {prog:Program}{w:World}{A:Around}{E:Value->Shared->Prop}{s:Shared}
theorem cat_tup {t b:Addr}{vs ws:List Value}{Q:Value->Shared->Prop}(ht:IsTup s.heap t vs.toArray)(hb:IsTup s.heap b ws.toArray)(hv:vs≠[])
 (h1:ws=[]->Q (.ref t) s) (h2:ws≠[]->Q (.ref s.heap.objs.size) { s with heap:=s.heap.push { cls:=.type "tuple",data:=.seq (vs++ws).toArray } })
 (hsz:vs.length+ws.length<=sizeLine):wpAny (model prog w) A (binaryOp .Add (.ref t) (.ref b)) Q E s:=by
 obtain⟨⟨cls,dd,data,sl⟩,ho,hc,n,hd⟩:=id ht
 obtain⟨⟨cls2,dd2,data2,sl2⟩,ho2,hc2,n2,hd2⟩:=id hb
 simp only at hc hd hc2 hd2
 subst hc hd hc2 hd2
 have e:vs.toArray++ws.toArray=(vs++ws).toArray:=by simp
 by_cases hw:ws=[]
 .exact concat_meets ⟨_,ho,rfl⟩ ⟨_,ho2,rfl⟩ noFill_tuple_add seq_tuple_add PySem.F.slot_tuple_add PySem.F.entry_tuple_add (PySem.F.args_tuple_add_2 _ _)
   (tuple_addW1 t b vs.toArray ws.toArray n n2 dd dd2 sl sl2 (by simpa using hv) (by simp[hw])) ⟨ho,ho2,h1 hw⟩
 .refine concat_meets ⟨_,ho,rfl⟩ ⟨_,ho2,rfl⟩ noFill_tuple_add seq_tuple_add PySem.F.slot_tuple_add PySem.F.entry_tuple_add (PySem.F.args_tuple_add_2 _ _)
   (tuple_addW2 t b vs.toArray ws.toArray n n2 dd dd2 sl sl2 (by simpa using hv) (by simpa using hw) (by rw[List.size_toArray,List.size_toArray];exact hsz)) ⟨ho,ho2,?_⟩
  rw[e]
  exact h2 hw
noncomputable def sIx (n d:Nat):Option Int->Nat
 | none=>d
 | some v=>if v < 0 then (v+(n:Int)).toNat else min v.toNat n
theorem sIx_none (n d:Nat):sIx n d none=d:=rfl
theorem sIx_nat (n d k:Nat):sIx n d (some (k:Int))=min k n:=by
 show(if (k:Int) < 0 then ((k:Int)+(n:Int)).toNat else min (k:Int).toNat n)=min k n
 rw[if_neg (by omega),Int.toNat_natCast]
theorem ziT (n d:Nat)(hd:d<=n)(o:Option Int):sIx n d o<=n:=by
 cases o with
 | none=>exact hd
 | some v =>
  show(if v < 0 then (v+(n:Int)).toNat else min v.toNat n)<=n
  by_cases hv:v < 0
  .rw[if_pos hv];omega
  .rw[if_neg hv];exact Nat.min_le_right _ _
theorem zdL (v:Int)(n d:Nat):(if v < 0 then max (v+(n:Int)) 0 else min v (n:Int))=((sIx n d (some v):Nat):Int):=by
 show(if v < 0 then max (v+(n:Int)) 0 else min v (n:Int))=(((if v < 0 then (v+(n:Int)).toNat else min v.toNat n):Nat):Int)
 by_cases hv:v < 0
 .simp only[if_pos hv];omega
 .simp only[if_neg hv];omega
theorem zcJ (lo hi:Option Int)(n:Nat):Builtin.Slice.sliceAdjust lo hi 1 (n:Int)=(((sIx n 0 lo:Nat):Int),((sIx n n hi:Nat):Int)):=by
 have h1:¬ ((1:Int) < 0):=by omega
 unfold Builtin.Slice.sliceAdjust
 simp only[h1,if_false]
 refine Prod.ext ?_ ?_
 .cases lo with
  | none=>rfl
  | some v=>exact zdL v n 0
 .cases hi with
  | none=>rfl
  | some v=>exact zdL v n n
theorem zcs (i j:Nat):Builtin.Slice.slicePlaces (i:Int) (j:Int) 1=j - i:=by
 unfold Builtin.Slice.slicePlaces
 have h1:(1:Int) > 0:=by omega
 simp only[h1,if_true,Int.ediv_one]
 split <;> omega
theorem XY {v:Value}{o:Option Int}{Q:Option Int->Shared->Prop}(p:IsPart v o)(h:Q o s):wpAny (model prog w) A (Builtin.Slice.slicePartIndex v) Q E s:=by
 cases p with
 | none=>exact slicePart_none h
 | int i t=>exact slicePart_int h
theorem wZ {sl:Addr}{vl vu:Value}{lo hi:Option Int}{n:Nat}{Q:Int × Int × Nat->Shared->Prop}(hs:s.heap.IsSliceOf sl vl vu .none)(pl:IsPart vl lo)(pu:IsPart vu hi)
 (h:Q (((sIx n 0 lo:Nat):Int),1,sIx n n hi - sIx n 0 lo) s):wpAny (model prog w) A (Builtin.Slice.sliceApplied (.ref sl) (pure (n:Int))) Q E s:=by
 obtain⟨os,hos,hcs,hds⟩:=id hs
 unfold Builtin.Slice.sliceApplied Builtin.Slice.sliceFields
 refine wpAny_bind (wpAny_bind (wpAny_field hos hds (x:=vl) rfl (wpAny_bind (wpAny_field hos hds (x:=vu) rfl (wpAny_bind (wpAny_field hos hds (x:=.none) rfl (wpAny_pure ?_)))))))
 refine wpAny_bind (slicePart_none ?_)
 show wpAny _ _ (if ((1:Int) == 0)=true then _ else _) _ _ s
 rw[if_neg (by decide)]
 refine wpAny_bind (XY pl (wpAny_bind (XY pu (wpAny_bind (wpAny_pure ?_)))))
 show wpAny _ _ (match Builtin.Slice.sliceAdjust lo hi 1 (n:Int)with | (lo,hi)=>pure (lo,(1:Int),Builtin.Slice.slicePlaces lo hi 1)) _ _ s
 rw[zcJ lo hi n]
 show wpAny _ _ (pure (((sIx n 0 lo:Nat):Int),(1:Int),Builtin.Slice.slicePlaces ((sIx n 0 lo:Nat):Int) ((sIx n n hi:Nat):Int) 1)) _ _ s
 rw[zcs]
 exact wpAny_pure h
theorem zfu (xs:Array Value)(i k:Nat):((List.range k).filterMap λ(m:Nat)=>xs[((i:Int)+(m:Int)*1).toNat]?).toArray=((xs.toList.drop i).take k).toArray:=by
 have e:(λ(m:Nat)=>xs[((i:Int)+(m:Int)*1).toNat]?)=λm=>xs[i+m]?:=by
  funext m
  have:((i:Int)+(m:Int)*1).toNat=i+m:=by omega
  rw[this]
 rw[e]
 have:=pick_run xs i k
 rw[List.filterMap_map]at this
 have e2:((λx=>xs[x]?) ∘ λx=>i+x)=λm=>xs[i+m]?:=rfl
 rw[e2]at this
 rw[this]
theorem getItem_tuple_cut {t sl:Addr}{items:Array Value}{vl vu:Value}{lo hi:Option Int}{Q:Value->Shared->Prop}(ht:IsTup s.heap t items)(hs:s.heap.IsSliceOf sl vl vu .none)(pl:IsPart vl lo)(pu:IsPart vu hi)
 (hw:¬ (sIx items.size 0 lo=0/\sIx items.size items.size hi=items.size))
 (h:Q (.ref s.heap.objs.size) { s with heap:=s.heap.push { cls:=.type "tuple",data:=.seq ((items.toList.drop (sIx items.size 0 lo)).take (sIx items.size items.size hi - sIx items.size 0 lo)).toArray } })
 (hsz:items.size<=sizeLine):wpAny (model prog w) A (getItem (.ref t) (.ref sl)) Q E s:=by
 have htake:sizeOk (.seq ((items.toList.drop (sIx items.size 0 lo)).take (sIx items.size items.size hi - sIx items.size 0 lo)).toArray):=by
  show((items.toList.drop (sIx items.size 0 lo)).take (sIx items.size items.size hi - sIx items.size 0 lo)).toArray.size<=sizeLine
  rw[List.size_toArray,List.length_take,List.length_drop,Array.length_toList]
  omega
 have hj:sIx items.size items.size hi<=items.size:=ziT _ _ (Nat.le_refl _) hi
 obtain⟨os,hos,hcs,hds⟩:=id hs
 have hTs:s.TypeIs (.ref sl) "slice":=⟨os,hos,hcs⟩
 unfold getItem
 try with_reducible refine wpAny_holding ?_
 first | refine wpAny_bind (wpAny_pure ?_) | skip
 refine wpAny_bind (wpAny_sequenceKey ht.typeIs (by decide) ?_)
 refine wpAny_bind (wpAny_callSpecial?_slot (name:=Str.ofString "__getitem__") ht.typeIs PyProof.Rows.slot_tuple_getitem
  (wpAny_call_entry PyProof.Rows.slot_tuple_getitem ht.typeIs entry_tuple_getitem ?_ (args_tuple_getitem _ _)))
 show wpAny _ _ (Builtin.Tuple.tupleItemsOf (.ref t)>>=_) _ _ s
 refine wpAny_bind (tupleItemsOf_ ht ?_)
 refine wpAny_bind (wpAny_typeOf hTs ?_)
 rw[if_pos (by decide)]
 refine wpAny_bind (wZ hs pl pu ?_)
 have hno:¬ ((((sIx items.size 0 lo:Nat):Int) == 0&&(1:Int) == 1&&(sIx items.size items.size hi - sIx items.size 0 lo) == items.size)=true):=by
  intro q
  rw[Bool.and_eq_true,Bool.and_eq_true]at q
  have q1:((sIx items.size 0 lo:Nat):Int)=0:=eq_of_beq q.1.1
  have q2:sIx items.size items.size hi - sIx items.size 0 lo=items.size:=eq_of_beq q.2
  exact hw ⟨by omega,by omega⟩
 show wpAny _ _ (if (((sIx items.size 0 lo:Nat):Int) == 0&&(1:Int) == 1&&(sIx items.size items.size hi - sIx items.size 0 lo) == items.size)=true then _ else _) _ _ s
 rw[if_neg hno,zfu]
 first
  | exact wpAny_bind (m:=Builtin.Tuple.tupleExact _) (wpAny_newObj_type (wpAny_pure ⟨_,rfl,wpAny_pure h⟩) htake)
  | exact wpAny_bind (m:=Builtin.Tuple.tupleExact _) (wpAny_newObj_type (wpAny_bind (wpAny_pure (wpAny_pure ⟨_,rfl,wpAny_pure h⟩))) htake)
  | exact wpAny_bind (wpAny_bind (m:=Builtin.Tuple.tupleExact _) (wpAny_newObj_type (wpAny_pure (wpAny_pure ⟨_,rfl,wpAny_pure h⟩)) htake))
  | exact wpAny_bind (wpAny_bind (m:=Builtin.Tuple.tupleExact _) (wpAny_newObj_type (wpAny_pure ⟨_,rfl,wpAny_pure h⟩) htake))
end
end HT
namespace L2
open PySem PySem.Spec PyProof.Rows
noncomputable abbrev TO:=St->Hp->(Option Int->Hp->Prop)->Prop
noncomputable def PO (X:Cx)(e:Option Expr)(t:TO):Prop :=
 ∀ (pins:List (Addr × Obj)) (s:Shared) (σ:St) (H:Hp) (Q:Option Int->Hp->Prop),Inv X pins σ H s->t σ H Q ->
  wpAny (model X.prog X.w) X.A (evalPart e X.env) (λu s'=>∃ o H',Inv X pins σ H' s'/\IsPart u o/\Q o H') X.xe s
noncomputable def zit:TO:=λ_ H Q=>Q none H
noncomputable def zll (t:TE):TO:=fun σ H Q=>t σ H λx H1=>∃ i,x=.int i/\Q (some i) H1
theorem YX {ns:List Int}:∀ {us:List Value},ya (ns.map V.int) us->IntsAre us ns:=by
 induction ns with
 | nil=>intro us r;rw[List.map_nil]at r;cases r;exact .nil
 | cons n ns ih =>
  intro us r
  rw[List.map_cons]at r
  cases r with
  | cons r1 r2 =>
   obtain⟨t,e⟩:=r1
   subst e
   exact .cons n t (ih r2)
section
variable {X:Cx}{e:Expr}{te:TE}{lo hi:Option Expr}{tl th:TO}{pos p2:Pos}
theorem zhK:PO X none zit:=by
 intro pins s σ H Q I h
 rw[evalPart_none]
 exact wpAny_pure ⟨none,H,I,.none,h⟩
theorem zgZ (h:PE X e te):PO X (some e) (zll te):=by
 intro pins s σ H Q I hw
 rw[evalPart_some]
 refine thn (h pins s σ H _ I hw) λu s1 hh9=>?_
 obtain⟨x,H1,I1,r1,q1⟩:=hh9
 obtain⟨i,rfl,q⟩:=q1
 obtain⟨t,rfl⟩:=r1
 exact⟨some i,H1,I1,.int i t,q⟩
noncomputable def SlR (X:Cx)(r:V->Option Int->Option Int->Hp->VK->Prop):Prop :=
 ∀ (pins:List (Addr × Obj)) (s:Shared) (σ:St) (H:Hp) (x:V) (v vl vu:Value) (lo hi:Option Int) (sl:Addr) (Q:VK),Inv X pins σ H s->yH x v->s.heap.IsSliceOf sl vl vu .none->IsPart vl lo->IsPart vu hi->r x lo hi H Q ->
  ∃ T id,typeLookup (.type T) "__getitem__"=pure (some (.builtin id))/\s.TypeIs v T/\wpAny (model X.prog X.w) X.A (getItem v (.ref sl)) (EP X pins σ Q) X.xe s
theorem SlR.or {r r':V->Option Int->Option Int->Hp->VK->Prop}(h:SlR X r)(h':SlR X r'):SlR X (λx lo hi H Q=>r x lo hi H Q\/r' x lo hi H Q):=by
 intro pins s σ H x v vl vu lo hi sl Q I rx hs pl pu q
 rcases q with q | q
 .exact h pins s σ H x v vl vu lo hi sl Q I rx hs pl pu q
 .exact h' pins s σ H x v vl vu lo hi sl Q I rx hs pl pu q
noncomputable def tSl (r:V->Option Int->Option Int->Hp->VK->Prop)(te:TE)(tl th:TO):TE:=fun σ H Q=>te σ H λx H1=>tl σ H1 λl H2=>th σ H2 λu H3=>r x l u H3 Q
theorem zfG {r:V->Option Int->Option Int->Hp->VK->Prop}(hr:SlR X r)(he:PE X e te)(hl:PO X lo tl)(hu:PO X hi th):PE X (.Subscript e (.Slice lo hi none p2) pos) (tSl r te tl th):=by
 intro pins s σ H Q I h
 refine Subscript_ (thn (he pins s σ H _ I h) λv s1 hh9=>?_)
 obtain⟨x,H1,I1,r1,q1⟩:=hh9
 refine wpAny_Slice (thn (hl pins s1 σ H1 _ I1 q1) λvl s2 ⟨l,H2,I2,pl,q2⟩=>thn (hu pins s2 σ H2 _ I2 q2) λvu s3 hh9=>?_)
 obtain⟨u,H3,I3,pu,q3⟩:=hh9
 rw[evalPart_none]
 refine wpAny_pure ?_
 have I4:Inv X pins σ H3 { s3 with heap:=s3.heap.push { cls:=.type "slice",data:=.fields #[vl,vu,.none] } }:=I3.kept (t':=s3.toks) λb ob q=>Heap.get?_push_of_some _ q
 obtain⟨T,id,hT,ht,hg⟩:=hr pins { s3 with heap:=s3.heap.push { cls:=.type "slice",data:=.fields #[vl,vu,.none] } } σ H3 x v vl vu l u s3.heap.objs.size Q I4 r1 (Heap.IsSliceOf.new ..) pl pu q3
 show wpAny (model X.prog X.w) X.A (subscriptTail e (.Slice lo hi none p2) v (.ref s3.heap.objs.size)) (EP X pins σ Q) X.xe { s3 with heap:=s3.heap.push { cls:=.type "slice",data:=.fields #[vl,vu,.none] } }
 exact tail_any (ops:=[.ref s3.heap.objs.size,v]) ht hT hg (by with_unfolding_all rfl)
noncomputable def zap (xs:List V)(lo hi:Option Int):List V:=(xs.drop (HT.sIx xs.length 0 lo)).take (HT.sIx xs.length xs.length hi - HT.sIx xs.length 0 lo)
theorem ZY (xs:List V)(lo hi:Option Int):(zap xs lo hi).length<=xs.length:=by
 unfold zap
 rw[List.length_take,List.length_drop]
 omega
noncomputable def rSlT (K:W.Frag):V->Option Int->Option Int->Hp->VK->Prop:=λx lo hi H Q=>∃ a xs,x=.ref a/\SqT K H a xs /\
 ¬ (HT.sIx xs.length 0 lo=0/\HT.sIx xs.length xs.length hi=xs.length)/\∀ p,H p=none->Q (.ref p) (upd H p (.tup (zap xs lo hi)))
theorem zjk:SlR X (rSlT X.K):=by
 intro pins s σ H x v vl vu lo hi sl Q I rx hs pl pu h
 obtain⟨a,xs,rfl,hx,hw,q⟩:=h
 cases rx
 obtain⟨its,r,ht,hz⟩:=I.tuple hx
 have hlen:its.toArray.size=xs.length:=by rw[List.size_toArray];exact r.length.symm
 refine⟨"tuple",_,PyProof.Rows.slot_tuple_getitem.lookup,ht.typeIs,?_⟩
 refine HT.getItem_tuple_cut ht hs pl pu (by rw[hlen];exact hw) ?_ (by rw[hlen];exact hz)
 rw[hlen]
 refine⟨.ref s.heap.objs.size,_,I.laid (t':=s.toks) (o:=.tup (zap xs lo hi)) (λb ob q=>Heap.get?_push_of_some _ q) (Nat.le_refl _) ?_,rfl,q _ (I.hok.fresh (Nat.le_refl _))⟩
 exact⟨Nat.le_trans (ZY xs lo hi) hz,_,(r.drop (HT.sIx xs.length 0 lo)).take (HT.sIx xs.length xs.length hi - HT.sIx xs.length 0 lo),IsTup.new _ _⟩
noncomputable def zla (K:W.Frag):R2:=λx y H Q=>∃ a b xs ys,x=.ref a/\y=.ref b/\SqT K H a xs/\SqT K H b ys/\xs≠[]/\xs.length+ys.length<=sizeLine /\
 (ys=[]->Q (.ref a) H)/\(ys≠[]->∀ p,H p=none->Q (.ref p) (upd H p (.tup (xs++ys))))
theorem ya.nil_iff {xs:List V}{us:List Value}(r:ya xs us):us=[]↔xs=[]:=by
 cases r with
 | nil=>simp
 | cons _ _=>simp
theorem ziq:OpR X (binaryOp .Add) (zla X.K):=by
 intro pins s σ H x y v u Q I rx ry h
 obtain⟨a,b,xs,ys,rfl,rfl,ha,hb,hx,hz,q1,q2⟩:=h
 cases rx
 cases ry
 obtain⟨its,r1,p1,_⟩:=I.tuple ha
 obtain⟨its2,r2,p2,_⟩:=I.tuple hb
 refine HT.cat_tup p1 p2 (λz=>hx (r1.nil_iff.mp z)) (λz=>⟨.ref a,H,I,rfl,q1 (r2.nil_iff.mp z)⟩) (λz=>?_) (by rw[<-r1.length,<- r2.length];exact hz)
 refine⟨.ref s.heap.objs.size,_,I.laid (t':=s.toks) (o:=.tup (xs++ys)) (λb ob q=>Heap.get?_push_of_some _ q) (Nat.le_refl _) ?_,rfl,q2 (λw=>z (r2.nil_iff.mpr w)) _ (I.hok.fresh (Nat.le_refl _))⟩
 exact⟨by rw[List.length_append];exact hz,_,r1.append r2,IsTup.new _ _⟩
end
noncomputable def ixN (n:Nat)(i:Int):Option Nat:=if 0<=i then (if i < n then some i.toNat else none)else if -(n:Int)<=i then some (i+n).toNat else none
noncomputable def atI {α:Type}(xs:List α)(i:Int):Option α:=(ixN xs.length i).bind λj=>xs[j]?
theorem zer {n:Nat}{i:Int}{j:Nat}(h:ixN n i=some j):seqIndex? i n=some j/\j < n/\-(n:Int)<=i/\i < n:=by
 unfold ixN at h
 by_cases h0:0<=i
 .rw[if_pos h0]at h
  by_cases h1:i < n
  .rw[if_pos h1]at h
   have e:i.toNat=j:=Option.some.inj h
   exact⟨by rw[seqIndex_of h0 h1,e],by omega,by omega,h1⟩
  .rw[if_neg h1]at h;cases h
 .rw[if_neg h0]at h
  by_cases h1:-(n:Int)<=i
  .rw[if_pos h1]at h
   have e:(i+n).toNat=j:=Option.some.inj h
   exact⟨by rw[seqIndex_neg (by omega) h1,e],by omega,h1,by omega⟩
  .rw[if_neg h1]at h;cases h
theorem W1 {α:Type}{xs:List α}{i:Int}{v:α}(h:atI xs i=some v):∃ j,seqIndex? i xs.length=some j/\xs[j]?=some v/\j < xs.length/\-(xs.length:Int)<=i/\i < xs.length:=by
 unfold atI at h
 cases e:ixN xs.length i with
 | none=>rw[e]at h;cases h
 | some j =>
  rw[e]at h
  obtain⟨h1,h2,h3,h4⟩:=zer e
  exact⟨j,h1,h,h2,h3,h4⟩
theorem zhQ {α:Type}{xs:List α}{j:Nat}{v:α}(h:xs[j]?=some v):atI xs (j:Int)=some v:=by
 have hj:j < xs.length:=(List.getElem?_eq_some_iff.mp h).1
 have e:ixN xs.length (j:Int)=some j:=by
  unfold ixN
  rw[if_pos (by omega),if_pos (by omega)];simp
 unfold atI;rw[e];exact h
theorem Zy {α:Type}(xs:List α)(v:α):atI (xs++[v]) (-1)=some v:=by
 have hl:(xs++[v]).length=xs.length+1:=by simp
 have e:ixN (xs++[v]).length (-1)=some xs.length:=by
  unfold ixN
  rw[hl,if_neg (by decide),if_pos (by omega)]
  congr 1
  omega
 unfold atI
 rw[e]
 show(xs++[v])[xs.length]?=some v
 simp
noncomputable def Xk (b:Expr):Prop:=∀ o i,subscripted b false o i=operate [o,i] (getItem o i)
noncomputable def IxR (X:Cx)(r:R2):Prop :=
 ∀ (value slice:Expr) (pins:List (Addr × Obj)) (s:Shared) (σ:St) (H:Hp) (x y:V) (v u:Value) (Q:VK),Inv X pins σ H s->yH x v->yH y u->r x y H Q ->
  subscripted slice false v u=operate [v,u] (getItem v u)->wpAny (model X.prog X.w) X.A (subscriptTail value slice v u) (EP X pins σ Q) X.xe s
noncomputable def MtR (X:Cx)(id:String)(r:V->List V->Hp->VK->Prop):Prop :=
 ∀ (pins:List (Addr × Obj)) (s:Shared) (σ:St) (H:Hp) (x:V) (xs:List V) (v:Value) (us:List Value) (Q:VK),Inv X pins σ H s->yH x v->ya xs us->r x xs H Q ->
  wpAny (model X.prog X.w) X.A (call (.builtin id) (v::us)) (EP X pins σ Q) X.xe s
section
variable {X:Cx}{a b:Expr}{ta tb:TE}{pos:Pos}
theorem IxR.or {r r':R2}(h:IxR X r)(h':IxR X r'):IxR X (λx y H Q=>r x y H Q\/r' x y H Q):=by
 intro value slice pins s σ H x y v u Q I rx ry q hs
 rcases q with q | q
 .exact h value slice pins s σ H x y v u Q I rx ry q hs
 .exact h' value slice pins s σ H x y v u Q I rx ry q hs
theorem zh9 {r:R2}(hr:IxR X r)(ha:PE X a ta)(hb:PE X b tb)(hs:Xk b):PE X (.Subscript a b pos) (tOp r ta tb):=by
 intro pins s σ H Q I h
 exact Subscript_ (zlz ha hb I h λv u s2 x y H2 I2 rx ry q=>hr a b pins s2 σ H2 x y v u Q I2 rx ry q (hs _ _))
noncomputable def zjg (K:W.Frag):R2:=λx y H Q=>∃ p xs i v,x=.ref p/\y=.int i/\SqL K H p xs/\atI xs i=some v/\Q v H
noncomputable def rIxT (K:W.Frag):R2:=λx y H Q=>∃ p xs i v,x=.ref p/\y=.int i/\SqT K H p xs/\atI xs i=some v/\Q v H
noncomputable def rIxS:R2:=λx y H Q=>∃ z i c,x=.str z/\y=.int i/\z.length<=sizeLine/\atI z.cps.toList i=some c/\Q (.str ⟨#[c]⟩) H
theorem zdG:IxR X (zjg X.K):=by
 intro value slice pins s σ H x y v u Q I rx ry h hs
 obtain⟨p,xs,i,z,rfl,rfl,hq,he,q⟩:=h
 cases rx
 obtain⟨t,rfl⟩:=ry
 obtain⟨its,r,pl,hz⟩:=I.list hq
 obtain⟨j,h1,h2,h3,h4,h5⟩:=W1 he
 obtain⟨w,ew,rw'⟩:=r.get h2
 have hl:=r.length
 have hn:=XX
 have fin:EP X pins σ Q w s:=⟨z,H,I,rw',q⟩
 by_cases h0:0<=i
 .have hj:i.toNat=j:=by
   rw[seqIndex_of h0 h5]at h1
   exact Option.some.inj h1
  exact item_listR pl.isList h0 (by omega) (by rw[hj];simpa using ew) fin hs
 .have hj:(i+(its.toArray.size:Int)).toNat=j:=by
   rw[seqIndex_neg (by omega) h4]at h1
   rw[List.size_toArray,<- hl]
   exact Option.some.inj h1
  exact subscriptTail_builtinR (x:=w) pl.isList.typeIs slot_list_getitem.lookup
   (wpAny_getItem_list_neg (Q:=λr s'=>r=w/\EP X pins σ Q r s') pl.isList (by omega) (by rw[List.size_toArray] <;> omega) (by omega) (by rw[hj];simpa using ew) ⟨rfl,fin⟩) hs
theorem zkp:IxR X (rIxT X.K):=by
 intro value slice pins s σ H x y v u Q I rx ry h hs
 obtain⟨p,xs,i,z,rfl,rfl,hq,he,q⟩:=h
 cases rx
 obtain⟨t,rfl⟩:=ry
 obtain⟨its,r,pl,hz⟩:=I.tuple hq
 obtain⟨j,h1,h2,h3,h4,h5⟩:=W1 he
 obtain⟨w,ew,rw'⟩:=r.get h2
 have hl:=r.length
 have hn:=XX
 have fin:EP X pins σ Q w s:=⟨z,H,I,rw',q⟩
 exact subscriptTail_builtinR (x:=w) pl.typeIs slot_tuple_getitem.lookup
  (getItem_tuple (j:=j) (Q:=λr s'=>r=w/\EP X pins σ Q r s') pl (by omega) (by omega) (by rw[List.size_toArray,<- hl];exact h1) (by simpa using ew) ⟨rfl,fin⟩) hs
theorem zkg:IxR X rIxS:=by
 intro value slice pins s σ H x y v u Q I rx ry h hs
 obtain⟨z,i,c,rfl,rfl,hz,he,q⟩:=h
 obtain⟨t,rfl⟩:=rx
 obtain⟨t',rfl⟩:=ry
 obtain⟨j,h1,h2,h3,h4,h5⟩:=W1 he
 have hl:z.cps.toList.length=z.length:=by simp[Str.length]
 rw[hl]at h1 h4 h5
 have hn:=XX
 exact tail_any (typeIs_str s z t) slot_str_getitem.lookup (getItem_str (c:=c) (by
  have e1:decide (i < -(2 ^ 63:Int))=false:=decide_eq_false (by omega)
  have e2:decide (i >= 2 ^ 63)=false:=decide_eq_false (by omega)
  rw[e1,e2,Bool.or_false]) (by rw[h1];simpa using h2) ⟨.str ⟨#[c]⟩,H,I.tok _,⟨_,rfl⟩,q⟩) hs
noncomputable def rIx (K:W.Frag):R2:=λx y H Q=>zjg K x y H Q\/rIxT K x y H Q\/rIxS x y H Q
theorem zj2:IxR X (rIx X.K):=zdG.or (zkp.or zkg)
theorem zcq (its:List Value) (n j:Nat) (u:Value):Obj.mapSeq (·.setIfInBounds j u) { cls:=.type "list",data:=.seq its.toArray n }={ cls:=.type "list",data:=.seq (its.set j u).toArray n }:=by
 simp[Obj.mapSeq]
theorem Inv.lst {pins:List (Addr × Obj)}{σ:St}{H:Hp}{s:Shared}{p:Addr}{xs:List V}(I:Inv X pins σ H s)(h:H p=some (.lst xs)) :
 ∃ (its:List Value) (n:Nat),ya xs its/\s.heap.get? p=some { cls:=.type "list",data:=.seq its.toArray n }/\xs.length<=sizeLine:=by
 obtain⟨z,its,n,r,e⟩:=I.hok p _ h
 exact⟨its,n,r,e,z⟩
theorem Inv.lstUpd {pins:List (Addr × Obj)}{σ:St}{H:Hp}{s:Shared}{p:Addr}{xs ys:List V}{its its':List Value}{n n':Nat}{f:Obj->Obj}(I:Inv X pins σ H s)(h:H p=some (.lst xs))
 (ho:s.heap.get? p=some { cls:=.type "list",data:=.seq its.toArray n }) (hf:f { cls:=.type "list",data:=.seq its.toArray n }={ cls:=.type "list",data:=.seq its'.toArray n' }) (r:ya ys its') (hz:ys.length<=sizeLine) (t:Nat) :
 Inv X pins σ (upd H p (.lst ys)) { s with heap:=s.heap.update p f,toks:=t }:=by
 have e:(s.heap.update p f).get? p=some { cls:=.type "list",data:=.seq its'.toArray n' }:=by
  rw[Heap.get?_update_self f ho (by rw[hf] <;> rfl),hf]
 refine I.write (x:=p) (e:=p) (by rw[h];trivial) (.inl rfl) (λb u hb q=>(Heap.get?_update_other _ _ (Ne.symm hb)).trans q) ⟨_,e⟩ ?_
 exact⟨hz,its',n',r,e⟩
noncomputable def zfD:V->V->V->Hp->(Hp->Prop)->Prop:=λo i v H Q=>∃ p xs k j,o=.ref p/\i=.int k/\H p=some (.lst xs)/\ixN xs.length k=some j/\Q (upd H p (.lst (xs.set j v)))
theorem zbB:PSet X zfD:=by
 intro pins s σ H o i v ov iv u Q I ro ri rv h
 obtain⟨p,xs,k,j,rfl,rfl,hp,hj,q⟩:=h
 cases ro
 obtain⟨t,rfl⟩:=ri
 obtain⟨its,n,r,ho,hz⟩:=I.lst hp
 obtain⟨h1,h2,h3,h4⟩:=zer hj
 have hl:=r.length
 have hn:=XX
 have I':Inv X pins σ (upd H p (.lst (xs.set j v))) { s with heap:=s.heap.update p (Obj.mapSeq (·.setIfInBounds j u)) } :=
  I.lstUpd hp ho (zcq its n j u) (r.set rv j) (by rw[List.length_set];exact hz) s.toks
 by_cases h0:0<=k
 .have hk:k.toNat=j:=by
   rw[seqIndex_of h0 h4]at h1
   exact Option.some.inj h1
  exact W.ki_setAt ho h0 (by omega) (by rw[List.size_toArray,<- hl];exact h4) (by rw[hk];exact⟨_,I',q⟩)
 .have hk:(k+(its.toArray.size:Int)).toNat=j:=by
   rw[seqIndex_neg (by omega) h3]at h1
   rw[List.size_toArray,<- hl]
   exact Option.some.inj h1
  exact W.ki_setBack ho (by omega) (by rw[List.size_toArray,<- hl];exact h3) (by omega) (by rw[hk];exact⟨_,I',q⟩)
theorem Vw (lo hi:Option Int)(n:Nat):(sliceBounds lo hi none n).1=((HT.sIx n 0 lo:Nat):Int)/\(sliceBounds lo hi none n).2.1=((HT.sIx n n hi:Nat):Int)/\(sliceBounds lo hi none n).2.2=1:=by
 refine⟨?_,?_,rfl⟩
 .cases lo with
  | none=>simp[sliceBounds,HT.sIx]
  | some i =>
   simp only[sliceBounds,HT.sIx,Option.getD_none,show(1:Int) > 0 by decide,if_true]
   by_cases h:i < 0
   .simp only[h,if_true] <;> omega
   .simp only[h,if_false] <;> omega
 .cases hi with
  | none=>simp[sliceBounds,HT.sIx]
  | some i =>
   simp only[sliceBounds,HT.sIx,Option.getD_none,show(1:Int) > 0 by decide,if_true]
   by_cases h:i < 0
   .simp only[h,if_true] <;> omega
   .simp only[h,if_false] <;> omega
theorem Wt (its:List Value)(lo hi:Option Int):slicePick its.toArray lo hi none=((its.drop (HT.sIx its.length 0 lo)).take (HT.sIx its.length its.length hi - HT.sIx its.length 0 lo)).toArray:=by
 obtain⟨h1,h2,h3⟩:=Vw lo hi its.toArray.size
 unfold slicePick
 rw[h1,h2,h3]
 simp only[sliceRange_one,pick_run,List.size_toArray] <;> rfl
noncomputable def rSlL (K:W.Frag):V->Option Int->Option Int->Hp->VK->Prop:=λx lo hi H Q=>∃ a xs,x=.ref a/\SqL K H a xs/\∀ p,H p=none->Q (.ref p) (upd H p (.lst (zap xs lo hi)))
theorem zh1:SlR X (rSlL X.K):=by
 intro pins s σ H x v vl vu lo hi sl Q I rx hs pl pu h
 obtain⟨a,xs,rfl,hx,q⟩:=h
 cases rx
 obtain⟨its,r,ht,hz⟩:=I.list hx
 have hlen:=r.length
 refine⟨"list",_,slot_list_getitem.lookup,ht.isList.typeIs,?_⟩
 refine wpAny_getItem_list_slice ht.isList hs pl pu .none (by simp) ?_ (by rw[List.size_toArray] <;> omega)
 rw[Wt,<- hlen]
 refine⟨.ref s.heap.objs.size,_,I.laid (t':=s.toks) (o:=.lst (zap xs lo hi)) (λb ob q=>Heap.get?_push_of_some _ q) (Nat.le_refl _) ?_,rfl,q _ (I.hok.fresh (Nat.le_refl _))⟩
 exact⟨Nat.le_trans (ZY xs lo hi) hz,_,0,(r.drop (HT.sIx xs.length 0 lo)).take (HT.sIx xs.length xs.length hi - HT.sIx xs.length 0 lo),Heap.get?_push_size _ rfl⟩
noncomputable def zhD:V->Bool
 | .non=>true
 | .bl _=>true
 | .int _=>true
 | .str _=>true
 | _=>false
noncomputable def eqV:V->V->Bool
 | .non,.non=>true
 | .bl a,.bl b=>a == b
 | .bl a,.int b=>(if a then 1 else 0) == b
 | .int a,.bl b=>a == (if b then 1 else 0)
 | .int a,.int b=>a == b
 | .str a,.str b=>a == b
 | _,_=>false
theorem zgB {A:Around}{s:Shared}{y x:V}{u v:Value}(ry:yH y u)(rx:yH x v)(fy:zhD y=true)(fx:zhD x=true):SeqAt.EqAt A s u v (eqV y x):=by
 cases y with
 | non =>
  cases ry
  cases x with
  | non=>cases rx;exact SeqAt.EqAt.same _
  | bl b=>cases rx;exact SeqAt.EqAt.none_bool b
  | int b=>obtain⟨t,rfl⟩:=rx;exact SeqAt.EqAt.none_int b t
  | str b=>obtain⟨t,rfl⟩:=rx;exact SeqAt.EqAt.none_str b t
  | _=>exact absurd (show false=true from fx) Bool.false_ne_true
 | bl a =>
  cases ry
  cases x with
  | non=>cases rx;exact SeqAt.EqAt.bool_none a
  | bl b=>cases rx;exact SeqAt.EqAt.bool_bool a b
  | int b=>obtain⟨t,rfl⟩:=rx;exact SeqAt.EqAt.bool_int a b t
  | str b=>obtain⟨t,rfl⟩:=rx;exact SeqAt.EqAt.bool_str a b t
  | _=>exact absurd (show false=true from fx) Bool.false_ne_true
 | int a =>
  obtain⟨t',rfl⟩:=ry
  cases x with
  | non=>cases rx;exact SeqAt.EqAt.int_none a t'
  | bl b=>cases rx;exact SeqAt.EqAt.int_bool a t' b
  | int b=>obtain⟨t,rfl⟩:=rx;exact SeqAt.EqAt.int_int a t' b t
  | str b=>obtain⟨t,rfl⟩:=rx;exact SeqAt.EqAt.int_str a t' b t
  | _=>exact absurd (show false=true from fx) Bool.false_ne_true
 | str a =>
  obtain⟨t',rfl⟩:=ry
  cases x with
  | non=>cases rx;exact SeqAt.EqAt.str_none a t'
  | bl b=>cases rx;exact SeqAt.EqAt.str_bool a t' b
  | int b=>obtain⟨t,rfl⟩:=rx;exact SeqAt.EqAt.str_int a t' b t
  | str b=>obtain⟨t,rfl⟩:=rx;exact SeqAt.EqAt.str_str a t' b t
  | _=>exact absurd (show false=true from fx) Bool.false_ne_true
 | _=>exact absurd (show false=true from fy) Bool.false_ne_true
theorem zM:Yf X (.builtin "len") (λxs H Q=>∃ p ys,xs=[.ref p]/\(SqL X.K H p ys\/SqT X.K H p ys)/\Q (.int ys.length) H):=by
 intro pins s σ H xs us Q I r h
 obtain⟨p,ys,rfl,hq,q⟩:=h
 obtain⟨u,rfl,rx⟩:=Vy r
 cases rx
 have hn:=XX
 rcases hq with hq | hq
 .obtain⟨its,r',pl,hz⟩:=I.list hq
  have hlen:=r'.length
  exact Calls.call_len_list pl.isList (by simp only[List.size_toArray] <;> omega) ⟨.int ys.length,H,I.tok _,⟨s.toks+1,by rw[List.size_toArray,hlen]⟩,q⟩
 .obtain⟨its,r',pl,hz⟩:=I.tuple hq
  have hlen:=r'.length
  exact len_tuple pl (by simp only[List.size_toArray] <;> omega) ⟨.int ys.length,H,I.tok _,⟨s.toks+1,by rw[List.size_toArray,hlen]⟩,q⟩
theorem Vh:Yf X (.type "list") (λxs H Q=>∃ p ys,xs=[.ref p]/\(SqL X.K H p ys\/SqT X.K H p ys)/\∀ l,H l=none->Q (.ref l) (upd H l (.lst ys))):=by
 intro pins s σ H xs us Q I r h
 obtain⟨p,ys,rfl,hq,q⟩:=h
 obtain⟨u,rfl,rx⟩:=Vy r
 cases rx
 have fin:∀ (its:List Value),ya ys its->ys.length<=sizeLine->∀ (h':Heap) (c':Nat),(∀ b o',s.heap.get? b=some o'->h'.get? b=some o') ->
  h'.get? s.heap.objs.size=some { cls:=.type "list",dict:=none,data:=.seq its.toArray c',slots:=#[] }->EP X pins σ Q (.ref s.heap.objs.size) { s with heap:=h' }:=λits r' hz h' c' kp e =>
  ⟨.ref s.heap.objs.size,_,I.laid (t':=s.toks) kp (Nat.le_refl _) (show yw X.prog X.w _ h' _ (.lst ys) from⟨hz,its,c',r',e⟩),rfl,q _ (I.hok.fresh (Nat.le_refl _))⟩
 rcases hq with hq | hq
 .obtain⟨its,r',pl,hz⟩:=I.list hq
  have hlen:=r'.length
  obtain⟨o,ho,hc,n,hd⟩:=pl.isList
  exact call_list_seq p (.inl rfl) ho hc hd (λh' c' kp e=>fin its r' hz h' c' kp e) (by simp only[List.size_toArray] <;> omega)
 .obtain⟨its,r',pl,hz⟩:=I.tuple hq
  have hlen:=r'.length
  obtain⟨o,ho,hc,n,hd⟩:=pl
  exact call_list_seq p (.inr rfl) ho hc hd (λh' c' kp e=>fin its r' hz h' c' kp e) (by simp only[List.size_toArray] <;> omega)
theorem zC:Yf X (.type "tuple") (λxs H Q=>∃ p ys,xs=[.ref p]/\((SqL X.K H p ys/\∀ l,H l=none->Q (.ref l) (upd H l (.tup ys)))\/(SqT X.K H p ys/\Q (.ref p) H))):=by
 intro pins s σ H xs us Q I r h
 obtain⟨p,ys,rfl,h⟩:=h
 obtain⟨u,rfl,rx⟩:=Vy r
 cases rx
 rcases h with ⟨hq,q⟩ | ⟨hq,q⟩
 .obtain⟨its,r',pl,hz⟩:=I.list hq
  have hlen:=r'.length
  refine call_tuple_list pl.isList (λh' kp=>?_) (by simp only[List.size_toArray] <;> omega)
  have I1:Inv X pins σ H { s with heap:=h' }:=I.kept (t':=s.toks) kp
  have I2:Inv X pins σ (upd H h'.objs.size (.tup ys)) { s with heap:=h'.push { cls:=.type "tuple",data:=.seq its.toArray } } :=
   I1.laid (t':=s.toks) (λb o e=>Heap.get?_push_of_some _ e) (Nat.le_refl _) (show yw X.prog X.w _ _ _ (.tup ys) from⟨hz,its,r',IsTup.new _ _⟩)
  exact⟨.ref h'.objs.size,_,I2,rfl,q _ (I1.hok.fresh (Nat.le_refl _))⟩
 .obtain⟨its,r',pl,hz⟩:=I.tuple hq
  exact call_tuple_same pl ⟨.ref p,H,I,rfl,q⟩
noncomputable def tyV (K:W.Frag)(T:String)(x:V)(H:Hp):Prop:=match x with
 | .str _=>T="str"
 | .int _=>T="int"
 | .ref p=>(T="list"/\∃ xs,SqL K H p xs)\/(T="tuple"/\∃ o,K.lookup p=some o/\o.cls=.type "tuple"/\o.dict=none) \/
  (T="dict"/\((∃ kvs,H p=some (.dK kvs))\/∃ kvs,H p=some (.dT kvs)))\/(T="set"/\∃ S n,H p=some (.set S n))
 | _=>False
theorem zgn {pins:List (Addr × Obj)}{σ:St}{H:Hp}{s:Shared}{T:String}{x:V}{v:Value}(I:Inv X pins σ H s)(r:yH x v)(ty:tyV X.K T x H) :
 s.TypeIs v T/\∀ a,v=.ref a->∃ ob,s.heap.get? a=some ob/\ob.dict=none:=by
 cases x with
 | str z =>
  obtain⟨t,rfl⟩:=r
  cases (show T="str" from ty)
  exact⟨typeIs_str s z t,λ_ e=>nomatch e⟩
 | int i =>
  obtain⟨t,rfl⟩:=r
  cases (show T="int" from ty)
  exact⟨typeIs_int s i t,λ_ e=>nomatch e⟩
 | ref p =>
  cases r
  rcases ty with ⟨rfl,xs,hq⟩ | ⟨rfl,o,hk,hc,hd⟩ | ⟨rfl,hk⟩ | ⟨rfl,S,n,hk⟩
  .obtain⟨its,_,pl,_⟩:=I.list hq
   refine⟨pl.isList.typeIs,λa e=>?_⟩
   cases e
   obtain⟨o,n,e,c,hd,_⟩:=pl
   exact⟨o,e,hd⟩
  .refine⟨⟨o,I.kIn p o hk,hc⟩,λa e=>?_⟩
   cases e
   exact⟨o,I.kIn _ o hk,hd⟩
  .have z:∃ o,s.heap.get? p=some o/\o.ExactDict:=by
    rcases hk with ⟨kvs,hk⟩ | ⟨kvs,hk⟩
    .obtain⟨_,_,_,_,o,_,_,e,ex,_⟩:=I.hok p _ hk
     exact⟨o,e,ex⟩
    .obtain⟨_,_,_,_,o,_,_,e,ex,_⟩:=I.hok p _ hk
     exact⟨o,e,ex⟩
   obtain⟨o,e,ex⟩:=z
   refine⟨⟨o,e,ex.1⟩,λa e2=>?_⟩
   cases e2
   exact⟨o,e,ex.2.1⟩
  .obtain⟨o,_,_,_,e,ex,_⟩:=I.hok p _ hk
   refine⟨⟨o,e,ex.1⟩,λa e2=>?_⟩
   cases e2
   exact⟨o,e,ex.2.1⟩
 | _=>exact False.elim ty
noncomputable def tBM0 (K:W.Frag)(T:String)(r:V->List V->Hp->VK->Prop)(to:TE):TE:=fun σ H Q=>to σ H λx H1=>tyV K T x H1/\r x [] H1 Q
noncomputable def tBM (K:W.Frag)(T:String)(r:V->List V->Hp->VK->Prop)(to:TE)(t:TA):TE:=fun σ H Q=>to σ H λx H1=>tyV K T x H1/\t σ H1 λxs H2=>r x xs H2 Q
variable {o e:Expr}{es:List Expr}{to:TE}{t:TA}{name:Str}{apos cpos:Pos}{T id:String}{r:V->List V->Hp->VK->Prop}
theorem zi1 (pa:PlainAttrs T) (slot:Slot T name id) (hty:typeOf (.builtin id)=pure (.type "method_descriptor")) (hm:MtR X id r) (ho:PE X o to)
 (hbase:attributeBase o name X.env (eval o X.env)=eval o X.env:=by rfl) (hline:(apos.endLine == cpos.line)=true:=by rfl):PE X (.Call (.Attribute o name apos) [] [] cpos) (tBM0 X.K T r to):=by
 intro pins s σ H Q I h
 refine wpAny_Call_method0_late hbase hline (thn (ho pins s σ H _ I h) λv s1 hh9=>?_)
 obtain⟨x,H1,I1,r1,ty,q1⟩:=hh9
 obtain⟨h1,h2⟩:=zgn I1 r1 ty
 exact⟨T,id,pa,slot,hty,h1,h2,Calls.callWith_builtin rfl (PySem.evalArgs_none (hm pins s1 σ H1 x [] v [] Q I1 r1 .nil q1))⟩
theorem zeN (pa:PlainAttrs T) (slot:Slot T name id) (hty:typeOf (.builtin id)=pure (.type "method_descriptor")) (hm:MtR X id r) (ho:PE X o to) (ha:PA X (e::es) t)
 (hbase:attributeBase o name X.env (eval o X.env)=eval o X.env:=by rfl)
 (hfew:((backTo cpos (starEach (e::es) X.env)).all (λx=>!x.1)&&(backToKw cpos (keywordEach [] X.env)).all (λx=>x.1.isSome)
  && decide ((e::es).length+([]:List Keyword).length+(if ([]:List Keyword).isEmpty then 0 else 1) < 30))=true:=by rfl)
 (hline:(apos.endLine == cpos.line)=true:=by rfl) (hs:starEach (e::es) X.env=(false,eval e X.env)::starEach es X.env:=by rfl) (hplain:(backTo cpos (starEach es X.env)).any (·.1)=false:=by rfl) :
 PE X (.Call (.Attribute o name apos) (e::es) [] cpos) (tBM X.K T r to t):=by
 intro pins s σ H Q I h
 refine wpAny_Call_method_late hbase hfew hline rfl (thn (ho pins s σ H _ I h) λv s1 hh9=>?_)
 obtain⟨x,H1,I1,r1,ty,q1⟩:=hh9
 obtain⟨h1,h2⟩:=zgn I1 r1 ty
 refine⟨T,id,pa,slot,hty,h1,h2,?_⟩
 have hA:=ha cpos pins s1 σ H1 _ I1 q1
 rw[hs]at hA ⊢
 refine Calls.callWith_builtin (by show(false||(backTo cpos (starEach es X.env)).any (·.1))=false;rw[hplain] <;> rfl) (Calls.evalArgs_plain ?_)
 exact thn hA λus s2 ⟨vs,H2,I2,r2,q2⟩=>hm pins s2 σ H2 x vs v us Q I2 r1 r2 q2
/- xs.append(e),list.index on a module's tuple .. are MtR facts of 06m -/
end
noncomputable def MtM (X:Cx)(id:String)(r:V->List V->Hp->VK->Prop):Prop :=
 ∀ (pins:List (Addr × Obj)) (s:Shared) (σ:St) (H:Hp) (x:V) (xs:List V) (v:Value) (us:List Value) (Q:VK),Inv X pins σ H s->yH x v->ya xs us->r x xs H Q ->
  wpAny (model X.prog X.w) X.A (call (.builtin id) (v::us)) (EP X pins σ Q) X.xe s
theorem ya.one:∀ {x:V} {us:List Value},ya [x] us->∃ u,us=[u]/\yH x u:=by
 intro x us h
 cases h with | cons r t=>cases t;exact⟨_,rfl,r⟩
theorem ya.reverse {xs:List V}{us:List Value}(h:ya xs us):ya xs.reverse us.reverse:=by
 induction h with
 | nil=>exact .nil
 | cons r t ih=>rw[List.reverse_cons,List.reverse_cons];exact ya.append ih (.cons r .nil)
theorem ya.rep {xs:List V}{us:List Value}(h:ya xs us):∀ k:Nat,ya (List.replicate k xs).flatten (List.replicate k us).flatten
 | 0=>.nil
 | k+1=>by
  rw[List.replicate_succ,List.replicate_succ,List.flatten_cons,List.flatten_cons]
  exact ya.append h (ya.rep h k)
theorem V9 (its:List Value):∀ (k:Nat) (acc:List Value),
 List.foldl (λx1 x2=>x1++x2) acc.toArray (List.replicate k its.toArray)=(acc++(List.replicate k its).flatten).toArray
 | 0,acc=>by simp
 | k+1,acc=>by
  have e:acc.toArray++its.toArray=(acc++its).toArray:=by simp
  have e2:(acc++its)++(List.replicate k its).flatten=acc++(List.replicate (k+1) its).flatten:=by
   rw[List.replicate_succ,List.flatten_cons,List.append_assoc]
  rw[<-e2,<- V9 its k (acc++its),<- e,List.replicate_succ,List.foldl_cons]
section
variable {X:Cx}{pins:List (Addr × Obj)}{σ:St}{H:Hp}{s:Shared}{l b:Addr}{xs ys zs:List V}
theorem Inv.lset {its its':List Value}{n:Nat}{f:Array Value->Array Value}{t':Nat}(I:Inv X pins σ H s)(hH:H l=some (.lst xs))
 (e:s.heap.get? l=some { cls:=.type "list",data:=.seq its.toArray n }) (hf:f its.toArray=its'.toArray) (hv:ya ys its') (hz:ys.length<=sizeLine) :
 Inv X pins σ (upd H l (.lst ys)) { s with heap:=s.heap.update l (Obj.mapSeq f),toks:=t' }:=by
 have q:=PySem.IsL.update e f
 rw[hf]at q
 refine I.write (x:=l) (e:=l) (by rw[hH];exact trivial) (.inl rfl) (λb' u hb hu=>(Heap.get?_update_other s.heap (Obj.mapSeq f) (Ne.symm hb)).trans hu) ⟨_,q⟩ ?_
 exact⟨hz,its',_,hv,q⟩
theorem Inv.lnew {its:List Value}{t':Nat}(I:Inv X pins σ H s)(hv:ya ys its)(hz:ys.length<=sizeLine) :
 Inv X pins σ (upd H s.heap.objs.size (.lst ys)) { s with heap:=s.heap.push { cls:=.type "list",data:=.seq its.toArray },toks:=t' } :=
 I.laid (λ_ _ q=>Heap.get?_push_of_some _ q) (Nat.le_refl _) ⟨hz,its,0,hv,Heap.get?_push_size _ rfl⟩
theorem Inv.fresh (I:Inv X pins σ H s):H s.heap.objs.size=none:=I.hok.fresh (Nat.le_refl _)
theorem Inv.lstM (I:Inv X pins σ H s) (hH:H l=some (.lst xs)):xs.length<=sizeLine/\∃ (its:List Value) (n:Nat),ya xs its/\xs.length=its.length/\s.heap.get? l=some { cls:=.type "list",data:=.seq its.toArray n }:=by
 obtain⟨z,its,n,r,e⟩:=I.hok l _ hH
 exact⟨z,its,n,r,r.length,e⟩
theorem zbt {n:Nat}(h:n<=sizeLine):Builtin.List.listTooLong n=false:=by
 unfold Builtin.List.listTooLong
 exact decide_eq_false (by omega)
end
section
variable {X:Cx}
noncomputable def zec:V->List V->Hp->VK->Prop:=λx vs H Q=>∃ l xs y,x=.ref l/\vs=[y]/\H l=some (.lst xs)/\xs.length < sizeLine/\Q .non (upd H l (.lst (xs++[y])))
theorem Xr:MtM X "list.append" zec:=by
 intro pins s σ H x vs v us Q I rx rv h
 obtain⟨l,xs,y,rfl,rfl,hH,hz,q⟩:=h
 cases rx
 obtain⟨u,rfl,ru⟩:=rv.one
 obtain⟨z,its,n,r,hl,e⟩:=I.lstM hH
 refine call_meets F.slot_list_append ⟨_,e,rfl⟩ F.entry_list_append (F.args_list_append_2 _ _) (PySem.list_append l its.toArray n u (by rw[List.size_toArray];omega)) ⟨e,?_⟩
 refine⟨.non,_,I.lset (its':=its++[u]) hH e (by simp) (r.append (.cons ru .nil)) ?_,rfl,q⟩
 rw[List.length_append,List.length_singleton]
 omega
noncomputable def zdV:V->List V->Hp->VK->Prop:=λx vs H Q=>∃ l b xs zs,x=.ref l/\vs=[.ref b]/\H l=some (.lst xs)/\H b=some (.lst zs)/\xs.length+zs.length<=sizeLine/\Q .non (upd H l (.lst (xs++zs)))
theorem zah:MtM X "list.extend" zdV:=by
 intro pins s σ H x vs v us Q I rx rv h
 obtain⟨l,b,xs,zs,rfl,rfl,hH,hB,hz,q⟩:=h
 cases rx
 obtain⟨u,rfl,ru⟩:=rv.one
 cases ru
 obtain⟨z,its,n,r,hl,e⟩:=I.lstM hH
 obtain⟨z2,its2,n2,r2,hl2,e2⟩:=I.lstM hB
 have hsz:its.toArray.size+its2.toArray.size<=sizeLine:=by rw[List.size_toArray,List.size_toArray];omega
 have hlong:¬ (!its.toArray.isEmpty&&Builtin.List.listTooLong (its.toArray.size+its2.toArray.size))=true:=by
  rw[zbt hsz,Bool.and_false]
  exact Bool.false_ne_true
 refine call_meets F.slot_list_extend ⟨_,e,rfl⟩ F.entry_list_extend (F.args_list_extend_2 _ _)
  (AutoSeq1.list_extend_list_list_0 l its.toArray n b its2.toArray n2 hlong (by rw[List.size_toArray];omega) (by omega)) ⟨e,e2,?_⟩
 refine⟨.non,_,I.lset (its':=its++its2) hH e (by simp) (r.append r2) ?_,rfl,q⟩
 rw[List.length_append]
 omega
noncomputable def rCat:R2:=λx y H Q=>∃ l b xs zs,x=.ref l/\y=.ref b/\H l=some (.lst xs)/\H b=some (.lst zs)/\xs.length+zs.length<=sizeLine/\∀ p,H p=none->Q (.ref p) (upd H p (.lst (xs++zs)))
theorem zi7:OpR X (binaryOp .Add) rCat:=by
 intro pins s σ H x y v u Q I rx ry h
 obtain⟨l,b,xs,zs,rfl,rfl,hH,hB,hz,q⟩:=h
 cases rx
 cases ry
 obtain⟨z,its,n,r,hl,e⟩:=I.lstM hH
 obtain⟨z2,its2,n2,r2,hl2,e2⟩:=I.lstM hB
 refine PySem.P.add_list e e2 ?_ (by rw[List.size_toArray,List.size_toArray];omega)
 have ea:its.toArray++its2.toArray=(its++its2).toArray:=by simp
 rw[ea]
 exact⟨.ref _,_,I.lnew (t':=s.toks) (r.append r2) (by rw[List.length_append];omega),rfl,q _ I.fresh⟩
noncomputable def rRep:R2:=λx y H Q=>∃ l k xs,x=.ref l/\y=.int k/\H l=some (.lst xs)/\-(2 ^ 63)<=k/\k < 2 ^ 63/\xs.length*k.toNat<=sizeLine /\
 ∀ p,H p=none->Q (.ref p) (upd H p (.lst (List.replicate k.toNat xs).flatten))
theorem zg7 {α:Type}(xs:List α)(k:Nat):(List.replicate k xs).flatten.length=k*xs.length:=by
 induction k with
 | zero=>simp
 | succ k ih=>rw[List.replicate_succ,List.flatten_cons,List.length_append,ih,Nat.succ_mul,Nat.add_comm]
theorem zgu:OpR X (binaryOp .Mult) rRep:=by
 intro pins s σ H x y v u Q I rx ry h
 obtain⟨l,k,xs,rfl,rfl,hH,h1,h2,hz,q⟩:=h
 cases rx
 obtain⟨t,rfl⟩:=ry
 obtain⟨z,its,n,r,hl,e⟩:=I.lstM hH
 have hlen:its.toArray.size*k.toNat<=sizeLine:=by rw[List.size_toArray,<- hl];exact hz
 have hcap:¬ its.toArray.size*k.toNat > (2 ^ 63 - 1) / 8:=by
  have:(sizeLine:Nat)<=(2 ^ 63 - 1) / 8:=by decide
  omega
 have hfit:¬ (!Builtin.List.listFitsIndex k)=true:=by
  rw[fitsIndex_both h1 h2]
  exact Bool.false_ne_true
 have hlong:¬ Builtin.List.listTooLong (its.toArray.size*k.toNat)=true:=by
  rw[zbt hlen]
  exact Bool.false_ne_true
 have hnew:List.foldl (λx1 x2=>x1++x2) #[] (List.replicate (if its.toArray.isEmpty=true then 0 else k.toNat) its.toArray)=(List.replicate k.toNat its).flatten.toArray:=by
  have f0:∀ m:Nat,List.foldl (λx1 x2=>x1++x2) #[] (List.replicate m its.toArray)=(List.replicate m its).flatten.toArray:=λm=>by
   have:=V9 its m []
   rw[List.nil_append]at this
   exact this
  rw[f0]
  cases its with
  | nil=>simp
  | cons a r'=>rw[if_neg (by simp)]
 refine wpAny_binaryOp_repeat_ref (T:="list") (U:="int") (by decide) ⟨_,e,rfl⟩ (λs'=>typeIs_int s' k t) noFill_list_mul F.fills_int_mul F.slot_int_rmul repeat_list F.slot_int_index.lookup
  (call_meets F.slot_int_rmul (typeIs_int s k t) F.entry_int_rmul (F.args_int_rmul_2 _ _) (int___rmul___int_list k t l its.toArray n)
   ⟨e,rfl,⟨_,e,rfl⟩,call_meets F.slot_list_mul ⟨_,e,rfl⟩ F.entry_list_mul (F.args_list_mul_2 _ _) (AutoListH.list___mul___list_int_3 l its.toArray n k t hfit hcap hlong) ⟨e,?_⟩⟩)
 rw[hnew]
 exact⟨.ref _,_,I.lnew (t':=s.toks) (r.rep k.toNat) (by rw[zg7,Nat.mul_comm];exact hz),rfl,q _ I.fresh⟩
end
end L2
namespace Att
open PySem PySem.W PySem.Calls PyProof.Rows
theorem Xq {P:Params}{h:Heap}:∀ (ns:List Int) (vs:List Value),WellAll P h vs (ns.map WData.int)->IntsAre vs ns:=by
 intro ns
 induction ns with
 | nil =>
  intro vs w
  rw[List.map_nil]at w
  cases w
  exact .nil
 | cons n ns ih =>
  intro vs w
  rw[List.map_cons]at w
  cases w with
  | cons a b =>
   cases a
   exact .cons _ _ (ih _ b)
theorem zey {l:OpenLaw}{n:Nat}(hn:l.most=some n){P:Params}{h:Heap}{args:List WData}{vals:List Value}
 (hpre:l.row.toRowW.claim.pre args=true) (hwl:WellAll P h vals args) :
 ∃ a vs ns,vals=[Value.ref a]/\args=[WData.list (ns.map WData.int)]/\h.get? a=some { cls:=.type "list",data:=.seq vs.toArray }/\IntsAre vs ns/\ns.length<=n:=by
 have hsh:WShape.hasAll [] args [.list .int]=true:=(pre_splitW hpre).1
 have hc:l.pre.holds [] { args:=args }=true:=(pre_splitW hpre).2
 obtain⟨d,r,rfl,h1,h2⟩:=hasAllW_cons hsh
 obtain rfl:=hasAllW_nil h2
 obtain⟨xs,rfl,h3⟩:=hasW_list h1
 obtain⟨ns,rfl⟩:=items_int h3
 have hlen:ns.length<=n:=by
  unfold OpenLaw.pre at hc
  have h4:(WTm.not (.lt (.lit (.int (n:Int))) (.len (.arg 0)))).holds [] { args:=[.list (ns.map .int)] }=true:=by
   have h4:=(holds_andW hc).1
   rw[hn]at h4
   exact h4
  have h5:=condW_of h4 (w_not (w_lt w_lit (w_len_list (w_arg rfl))))
  rw[List.length_map]at h5
  refine Nat.le_of_not_lt λq=>?_
  have q':(n:Int) < ((ns.length:Nat):Int):=by omega
  first
   | (rw[decide_eq_true q']at h5;exact absurd h5 (by decide))
   | (simp at h5;omega)
 cases hwl with
 | cons w1 w2 =>
  cases w2
  cases w1 with
  | list ho hall=>exact⟨_,_,ns,rfl,rfl,ho,Xq ns _ hall,hlen⟩
theorem zdy (l:OpenLaw)(args:List WData):l.row.toRowW.claim.post args (.bool true) args=true :=
 postW_of (r:=l.row.toRowW) (X:=(true == true))
  (show WShape.has [] (.bool true) .bool=true by first | rfl | decide | simp[WShape.has,WShape.arms,WShape.armsAll])
  (show(WTm.eq .res (.lit (.bool true))).value [] { args:=args,res:=some (.bool true),after:=args }=some (.bool (true == true))from w_eq_bool (w_res rfl) w_lit) rfl
theorem attach_call {l:OpenLaw}{n:Nat}{q:Program}{loose:List Str}{XP:(Str->Option Value)->Heap->Prop}{YP:World->Heap->Prop}{d:DefRec}
 (hn:l.most=some n) (hdf:d.params.defaults=[])
 (call:∀ (w:World) (s₀ s₁:Shared) (mg mb:Str->Option Value) (fa:Addr) (o:Obj) (pm cd doc:Value) (a:Addr) (vs:List Value) (ns:List Int),
  Ground q loose [] XP w s₀ mg mb s₁.heap->YP w s₁.heap ->
  s₁.heap.get? fa=some o->o.data=.func (docDef d.name d.params d.body d.scope pm cd doc)->s₁.heap.CodeRec cd d.name->mg d.name=some (.ref fa) ->
  s₁.heap.get? a=some { cls:=.type "list",data:=.seq vs.toArray }->IntsAre vs ns->ns.length<=n->s₁.gens=#[] ->
  codeAny (model l.prog w) callerA (.call (.ref fa) ⟨[.ref a],[]⟩) (λr s'=>r=.ok (.ret (.bool true))/\OldK s₁.heap s'.heap/\s'.os=s₁.os/\AllBare s'.gens) s₁) :
 WalkO q loose XP YP l.row.toRowW d [] (λf vs=>PySem.call f vs):=by
 intro w s₀ s₁ mg mb G Y fa o pm cd doc dV kV ho hd hcd hD hmg hg args vals as hpre hlay hrd hwl hlo
 obtain rfl:dV=.none:=Dflts.none hD hdf
 obtain rfl:kV=.none:=Dflts.noKw hD
 obtain⟨a,vs,ns,rfl,rfl,hobj,hints,hlen⟩:=zey hn hpre hwl
 refine enter_call (codeAny_mono (call w s₀ s₁ mg mb fa o pm cd doc a vs ns G Y ho (fd_plain hd) hcd hmg hobj hints hlen hg) λr s' hq=>?_)
 obtain⟨rfl,h2,h3,h4⟩:=hq
 exact⟨.inl ⟨.bool true,.bool true,[],rfl,λ_=>rfl,.bool true,zdy l _,λ_=>⟨List.Pairwise.nil,λ_ hm=>(nomatch hm)⟩⟩,h2,h3,h4⟩
section
variable {prog:Program}{w:World}{A:Around}{E:Value->Shared->Prop}{s:Shared}{K:Frag}
noncomputable def ledger (h:Heap)(L d:Addr):List (Addr × Obj):=(List.range h.objs.size).filterMap λa=>if a=L\/a=d then none else (h.get? a).map λo=>(a,o)
end
end Att
namespace L2
open PySem PySem.Spec PyProof.Rows
theorem Vk:∀ {vs:List Value} {ns:List Int},IntsAre vs ns->ya (ns.map V.int) vs:=by
 intro vs ns h
 induction h with
 | nil=>exact .nil
 | cons n t h ih=>exact .cons ⟨t,rfl⟩ ih
noncomputable def zlf (H:Hp):Prop:=∀ b,H b=none\/∃ o xs,H b=some (.frz o (.lst xs))
theorem zfT {P:Program}{w:World}{K:W.Frag}{mg mb:Str->Option Value}{CX:CXT}{k:Nat}{fa a:Addr}{fd:FuncData}{x:Str}{sp:Sp}{s₁:Shared}{vs:List Value}{ns:List Int}
 (KX:K.In s₁.heap) (hns:s₁.heap.Ns mainGlobals mg) (hb:s₁.heap.Ns builtinsNs mb) (hbb:∀ x:Str,x≠"__name__"->mb x=bootBuiltins x) (hlim:s₁.heap.NoLimit) (hg:s₁.gens=#[])
 (ha:s₁.heap.get? a=some { cls:=.type "list",data:=.seq vs.toArray }) (hi:IntsAre vs ns) (hl:ns.length<=sizeLine) (hr:YH k callerA)
 (F:∀ base:Heap,K.In base->base.Ns mainGlobals mg->xz P w K mg base CX k fa fd [x] sp) (hbind:∀ (s:Shared) (u:Value),BindsTo s fd ⟨[u],[]⟩ [(x,u)])
 (hsp:∀ H:Hp,zlf H->SqL K H a (ns.map V.int)->sp [.ref a] H (λv _=>v=.bl true) λ_ _ _=>False)
 (hCX:∀ H e s',CX [] H s₁ (λ_ _ _=>False) e s'->False) :
 codeAny (model P w) callerA (.call (.ref fa) ⟨[.ref a],[]⟩) (λr s'=>r=.ok (.ret (.bool true))/\OldK s₁.heap s'.heap/\s'.os=s₁.os/\AllBare s'.gens) s₁:=by
 have rv:=Vk hi
 have lenV:=hi.length
 -- from an abstract heap in which nothing but the script may be tracked
 have core:∀ H:Hp,zlf H->SqL K H a (ns.map V.int)->HOk P w H s₁.heap->(∀ b,H b≠none->b=a)->(H a≠none->K.lookup a=none) ->
  codeAny (model P w) callerA (.call (.ref fa) ⟨[.ref a],[]⟩) (λr s'=>r=.ok (.ret (.bool true))/\OldK s₁.heap s'.heap/\s'.os=s₁.os/\AllBare s'.gens) s₁:=by
  intro H hO hS hok hA hK
  have base_of:∀ {b:Addr} {o:Obj},s₁.heap.get? b=some o->H b=none->(ze8 s₁.heap H).get? b=some o:=λe n=>zgb e n
  have noA:∀ {b:Addr} {o:Obj} {es:Array DictEntry} {ep:Nat},s₁.heap.get? b=some o->o.data=.dict es ep->H b=none:=λ{b o es ep} e d=>by
   cases q:H b with
   | none=>rfl
   | some u =>
    have e':b=a:=hA b (by rw[q];simp)
    subst e'
    rw[ha]at e;cases e
    have d':Data.seq vs.toArray _=Data.dict es ep:=d
    cases d'
  have nsK:∀ {b:Addr} {m:Str->Option Value},s₁.heap.Ns b m->(ze8 s₁.heap H).Ns b m:=λ{b m} ⟨o,es,ep,e,d,r⟩=>⟨o,es,ep,base_of e (noA e d),d,r⟩
  have hKb:K.In (ze8 s₁.heap H):=λb o e=>base_of (KX b o e) (by
   cases q:H b with
   | none=>rfl
   | some u =>
    have e':b=a:=hA b (by rw[q];simp)
    subst e'
    rw[hK (by rw[q];simp)]at e;cases e)
  have hM:Mod K mg (ze8 s₁.heap H):=⟨hKb,nsK hns,⟨mb,nsK hb,hbb⟩,let ⟨mc,h1,h2⟩:=hlim;⟨mc,nsK h1,h2⟩⟩
  have e0:zkI P w K mg (ze8 s₁.heap H) callerA [] s₁ H:=⟨rfl,hM,λb o e=>zhM e,Nat.le_of_eq (zcR _ _),trivial,λb hb=>absurd (show b∈([]:List Addr)from hb) (by simp),hok,.of_eq hg⟩
  refine codeAny_mono ((F _ hKb (nsK hns)).run callerA [] s₁ H ⟨[.ref a],[]⟩ [.ref a] [.ref a] _ _ hr e0 (hbind s₁ (.ref a)) (.cons rfl .nil) (hsp H hO hS)) λr s' h=>?_
  cases r with
  | error e=>exact(hCX H e s' h).elim
  | ok fl =>
   cases fl with
   | next=>exact False.elim h
   | brk=>exact False.elim h
   | cont=>exact False.elim h
   | ret u =>
    obtain⟨v,H',os,bare,un,hok',r',q⟩:=h
    have q':v=.bl true:=q
    subst q'
    obtain rfl:u=Value.bool true:=r'
    refine⟨rfl,OldK.of_keep λb o e=>?_,os,bare⟩
    cases q:H b with
    | none=>exact un.keep b o e q (by intro z;exact absurd (show b∈([]:List Addr)from z) (by simp)) (by simp)
    | some u =>
     rcases hO b with z | ⟨ob,xs,z⟩
     .rw[q]at z;cases z
     .have z2:=un.frzs b ob _ z
      obtain⟨e1,_⟩:=hok b _ z
      obtain⟨e2,_⟩:=hok' b _ z2
      rw[e]at e1;cases e1
      exact e2
 cases hk:K.lookup a with
 | some o =>
  -- the script is one of the module's own objects
  have e:=KX a o hk
  rw[ha]at e
  cases e
  refine core (λ_=>none) (λ_=>.inl rfl) (.inr ⟨_,vs.toArray,_,hk,rfl,rfl,rfl,by rw[List.size_toArray,lenV];exact hl,by simpa using rv⟩) (λb u z=>by have z':(none:Option HO)=some u:=z;cases z') (λb z=>absurd rfl z) λz=>absurd rfl z
 | none =>
  refine core (λb=>if b=a then some (.frz { cls:=.type "list",data:=.seq vs.toArray } (.lst (ns.map V.int)))else none) (λb=>?_) (.inl (.inr ⟨{ cls:=.type "list",data:=.seq vs.toArray },if_pos rfl⟩)) (λb u z=>?_) (λb z=>?_) λ_=>hk
  .by_cases hb:b=a
   .exact .inr ⟨_,_,if_pos hb⟩
   .exact .inl (if_neg hb)
  .by_cases hb:b=a
   .have z':=(if_pos hb).symm.trans z
    cases z'
    subst hb
    exact⟨ha,by rw[List.length_map];exact hl,vs,_,rv,ha⟩
   .have z':=(if_neg hb).symm.trans z
    cases z'
  .by_cases hb:b=a
   .exact hb
   .exact absurd (if_neg hb) z
theorem walk_of {l:W.OpenLaw}{n k:Nat}{q:Program}{loose:List Str}{XP:(Str->Option Value)->Heap->Prop}{YP:World->Heap->Prop}{d:DefRec}{K:Params->W.Frag}{CX:World->CXT}{sp:World->Sp}{x:Str}
 (hn:l.most=some n) (hn2:n<=sizeLine) (hdf:d.params.defaults=[]) (hr:YH k callerA)
 (hY:∀ (w:World) (h:Heap),YP w h->(K w.params).In h)
 (F:∀ (w:World) (mg:Str->Option Value) (fa:Addr) (h:Heap),(K w.params).In h->h.Ns mainGlobals mg->mg d.name=some (.ref fa) ->
  ∃ fd:FuncData,(∀ (s:Shared) (u:Value),BindsTo s fd ⟨[u],[]⟩ [(x,u)]) /\
   ∀ base:Heap,(K w.params).In base->base.Ns mainGlobals mg->xz l.prog w (K w.params) mg base (CX w) k fa fd [x] (sp w))
 (hsp:∀ (w:World) (H:Hp) (a:Addr) (ns:List Int),ns.length<=n->zlf H->SqL (K w.params) H a (ns.map V.int)->sp w [.ref a] H (λv _=>v=.bl true) λ_ _ _=>False)
 (hCX:∀ (w:World) (H:Hp) (s:Shared) (e:Value) (s':Shared),CX w [] H s (λ_ _ _=>False) e s'->False) :
 PySem.W.WalkO q loose XP YP l.row.toRowW d [] (λf vs=>PySem.call f vs):=by
 refine Att.attach_call hn hdf λw s₀ s₁ mg mb fa o pm cd doc a vs ns G Y ho hd hcd hmg hobj hints hlen hg=>?_
 have KX:=hY w _ Y
 obtain⟨fd,hb,hF⟩:=F w mg fa _ KX G.T.g hmg
 exact zfT KX G.T.g G.T.b G.T.builtins G.T.nolimit hg hobj hints (Nat.le_trans hlen hn2) hr hF hb (λH hO hS=>hsp w H a ns hlen hO hS) λH e s'=>hCX w H s₁ e s'
noncomputable def Ye (s:Stmt):Arguments:=match s with
 | .FunctionDef _ a _ _ _ _ _ _ _ _=>a
 | _=>{ posonlyargs:=[],args:=[],vararg:=none,kwonlyargs:=[],kw_defaults:=[],kwarg:=none,defaults:=[] }
noncomputable def wR (s:Stmt):List Stmt:=match s with
 | .FunctionDef _ _ b _ _ _ _ _ _ _=>b
 | _=>[]
noncomputable def zn (s:Stmt):Scope:=match s with
 | .FunctionDef _ _ _ _ _ _ sc _ _ _=>sc
 | _=>{ kind:=.function,names:=[],isGenerator:=false,isCoroutine:=false }
noncomputable abbrev CX0:CXT:=λ_ _ _ _ _ _=>False
noncomputable abbrev E0:XK:=λ_ _ _=>False
theorem zlN {X:Cx}:zcT CX0 X E0:=λ_ _ _ _ _ _ _ h=>h.elim
structure Fun (K:W.Frag) (x qual:Str) (st:Stmt) (f:Addr) (fd:FuncData):Prop where
 ex:∃ (oc:Value) (od:Option Addr) (kV doc pm:Value) (an:Option Addr) (cdv ct:Value) (osl:Array (Option Value)),
  fd=W.fnOf x qual (Ye st) (wR st) (zn st) .none kV doc pm an cdv ct/\K.lookup f=some ⟨oc,od,.func fd,osl⟩/\W.codeIn K cdv qual=true
 kp:W.keepIn K (.ref f)=true
section
variable {P:Program}{w:World}{K:W.Frag}{mg:Str->Option Value}{base:Heap}
theorem Fun.ok {x qual:Str}{st:Stmt}{f:Addr}{fd:FuncData}{N ps:List Str}{k:Nat}{sp:Sp}(F:Fun K x qual st f fd)(S:zA N ps (zn st))(len:∀ vs H Q E,sp vs H Q E->vs.length=ps.length)
 (hbody:∀ (cdv:Value) (A:Around) (outer:List Env) (s:Shared) (H:Hp) (vs:List V) (Q:VK) (E:XK),YH k (A.deeper (envOfC qual (zn st) s.heap.objs.size f cdv))->sp vs H Q E ->
  ∃ t,PSs (zhs CX0 P w K mg base N qual (zn st) f cdv A outer s H E).nox (wR st) t/\t { nx:=λ_ H'=>Q .non H',rt:=Q } (start N vs) H):xz P w K mg base CX0 (k+1) f fd ps sp:=by
 obtain⟨oc,od,kV,doc,pm,an,cdv,ct,osl,rfl,lk,hcd⟩:=F.ex
 refine zkX lk hcd S len λA outer s H vs Q E hr hsp=>?_
 obtain⟨t,h,q⟩:=hbody cdv A outer s H vs Q E hr hsp
 exact⟨t,h.nox,q⟩
theorem Fun.binds {x qual:Str}{st:Stmt}{f:Addr}{fd:FuncData}{ps:List Str}(F:Fun K x qual st f fd)
 (h:∀ (kV doc pm:Value) (an:Option Addr) (cdv ct:Value) (us:List Value),us.length=ps.length->bindArgs (W.fnOf x qual (Ye st) (wR st) (zn st) .none kV doc pm an cdv ct) ⟨us,[]⟩=pure (ps.zip us)):zao K fd ps []:=by
 obtain⟨oc,od,kV,doc,pm,an,cdv,ct,osl,rfl,lk,hcd⟩:=F.ex
 exact .all (h kV doc pm an cdv ct)
theorem zgA {x qual:Str}{st:Stmt}{f:Addr}{oc:Value}{od an:Option Addr}{osl:Array (Option Value)}{kV doc pm cdv ct:Value}(l:K.lookup f=some ⟨oc,od,.func (W.fnOf x qual (Ye st) (wR st) (zn st) .none kV doc pm an cdv ct),osl⟩)
 (c:W.codeIn K cdv qual=true) (k:W.keepIn K (.ref f)=true):Fun K x qual st f (W.fnOf x qual (Ye st) (wR st) (zn st) .none kV doc pm an cdv ct):=⟨⟨oc,od,kV,doc,pm,an,cdv,ct,osl,rfl,l,c⟩,k⟩
end
theorem zir {A:Around}{k:Nat}(hr:YH k A):A.units+1 < cLine:=Nat.lt_of_le_of_lt (Nat.add_le_add_left (by decide:1<=64) _) hr.units
theorem ZW {n:Nat}(h:n<=1000):n < sizeLine:=Nat.lt_of_le_of_lt h (by decide)
section
variable {X:Cx}
theorem pv (i:Nat) {x:Str} {pos:Pos} (hN:X.N[i]?=some x:=by rfl) (hv:Vis X.env.scope x:=by first | exact Or.inl rfl | exact Or.inr (Or.inl rfl) | exact Or.inr (Or.inr rfl)) (hd:(x == ("__debug__":Str))=false:=by decide)
 (hcd:(x == ("__classdict__":Str))=false:=by decide):PE X (.Name x pos) (XU i):=zjs hN hv hd hcd
end
noncomputable def yf (H H':Hp):Prop:=∀ b o,H b=some o->H' b=some o
theorem yf.refl (H:Hp):yf H H:=λ_ _ h=>h
theorem yf.trans {H H1 H2:Hp}(a:yf H H1)(b:yf H1 H2):yf H H2:=λc o h=>b c o (a c o h)
theorem yf.free {H H':Hp}(e:yf H H'){l:Addr}(h:H' l=Option.none):H l=Option.none:=by
 cases q:H l with
 | none=>rfl
 | some o =>
  rw[e l o q]at h
  cases h
theorem yf.seq {K:W.Frag}{H H':Hp}{a:Addr}{xs:List V}(e:yf H H')(h:SqL K H a xs):SqL K H' a xs:=by
 rcases h with (h | ⟨o,h⟩) | h
 .exact .inl (.inl (e _ _ h))
 .exact .inl (.inr ⟨o,e _ _ h⟩)
 .exact .inr h
section
variable {κ:Type}[DecidableEq κ]
noncomputable def zbU (kvs:List (κ × V))(k:κ):Option V:=(kvs.find? λkv=>decide (kv.1=k)).map (·.2)
noncomputable def zas (kvs:List (κ × V))(k:κ)(v:V):List (κ × V) :=
 if (kvs.any λkv=>decide (kv.1=k))=true then kvs.map (λkv=>if kv.1=k then (kv.1,v)else kv)else kvs++[(k,v)]
theorem ZD {p:κ × V}{r:List (κ × V)}{k:κ}(e:p.1=k):zbU (p::r) k=some p.2:=by simp[zbU,List.find?_cons,e]
theorem ZH {p:κ × V}{r:List (κ × V)}{k:κ}(e:¬ p.1=k):zbU (p::r) k=zbU r k:=by simp[zbU,List.find?_cons,e]
theorem WT (k:κ):∀ kvs:List (κ × V),(kvs.any λkv=>decide (kv.1=k))=(zbU kvs k).isSome
 | []=>rfl
 | p::r=>by
  rw[List.any_cons]
  by_cases e:p.1=k
  .simp only[ZD e,decide_eq_true e,Bool.true_or,Option.isSome_some]
  .rw[ZH e,decide_eq_false e,Bool.false_or];exact WT k r
theorem Z0 (kvs:List (κ × V))(k:κ)(v:V):(zas kvs k v).length<=kvs.length+1:=by
 unfold zas
 split
 .rw[List.length_map];omega
 .rw[List.length_append,List.length_cons,List.length_nil];omega
theorem zhr.isSome_eq {o:Option V}{u:Option Value}(r:zhr o u):o.isSome=u.isSome:=by
 cases o with
 | none=>cases u with
  | none=>rfl
  | some _=>exact(show False from r).elim
 | some _=>cases u with
  | none=>exact(show False from r).elim
  | some _=>rfl
theorem KV.val {kvs:List (κ × V)}{vs:List (κ × Value)}(r:KV kvs vs)(k:κ):zhr (zbU kvs k) (valueAt vs k):=by
 unfold KV at r
 induction r with
 | nil=>exact True.intro
 | @cons p q ps qs h t ih =>
  obtain⟨h1,h2⟩:=h
  by_cases e:p.1=k
  .have e':q.1=k:=h1.symm.trans e
   have b:valueAt (q::qs) k=some q.2:=by simp[valueAt,List.find?_cons,e']
   rw[ZD e,b];exact h2
  .have e':¬ q.1=k:=λz=>e (h1.trans z)
   have b:valueAt (q::qs) k=valueAt qs k:=by simp[valueAt,List.find?_cons,e']
   rw[ZH e,b];exact ih
theorem KV.any {kvs:List (κ × V)}{vs:List (κ × Value)}(r:KV kvs vs)(k:κ):(kvs.any λkv=>decide (kv.1=k))=vs.any λkv=>decide (kv.1=k):=by
 unfold KV at r
 induction r with
 | nil=>rfl
 | cons h t ih=>rw[List.any_cons,List.any_cons,ih,h.1]
theorem KV.repl {kvs:List (κ × V)}{vs:List (κ × Value)}(r:KV kvs vs)(k:κ){y:V}{u:Value}(ry:yH y u) :
 KV (kvs.map λkv=>if kv.1=k then (kv.1,y)else kv) (vs.map λkv=>if kv.1=k then (kv.1,u)else kv):=by
 unfold KV at r ⊢
 induction r with
 | nil=>exact .nil
 | @cons p q ps qs h t ih =>
  rw[List.map_cons,List.map_cons]
  refine .cons ?_ ih
  obtain⟨h1,h2⟩:=h
  by_cases e:p.1=k
  .rw[if_pos e,if_pos (h1.symm.trans e)];exact⟨h1,ry⟩
  .rw[if_neg e,if_neg (λz=>e (h1.trans z))];exact⟨h1,h2⟩
theorem KV.put {kvs:List (κ × V)}{vs:List (κ × Value)}(r:KV kvs vs)(k:κ){y:V}{u:Value}(ry:yH y u):KV (zas kvs k y) (stored vs k u):=by
 unfold zas stored
 rw[r.any k]
 by_cases e:(vs.any λkv=>decide (kv.1=k))=true
 .rw[if_pos e,if_pos e];exact r.repl k ry
 .rw[if_neg e,if_neg e];exact Paired.snoc r ⟨rfl,ry⟩
theorem KV.length {kvs:List (κ × V)}{vs:List (κ × Value)}(r:KV kvs vs):kvs.length=vs.length:=Paired.length r
end
theorem zhN {P:Program}{w:World}{k:Key}{u:Value}(r:yH (kV k) u):(yN P w).is k u=true:=by
 cases k with
 | inl i=>obtain⟨t,e⟩:=(show ∃ t,u=Value.int i t from r);subst e;exact za4 P w i t
 | inr x=>obtain⟨t,e⟩:=(show ∃ t,u=Value.str x t from r);subst e;exact zaG P w x t
theorem zai {P:Program}{w:World}:∀ {ks:List Key} {us:List Value},ya (ks.map kV) us->ItemsAre (yN P w) ks us
 | [],_,r=>by rw[List.map_nil]at r;cases r;exact .nil
 | k::ks,_,r=>by
  rw[List.map_cons]at r
  cases r with
  | cons h t=>exact .cons (zhN h) (zai t)
noncomputable abbrev KT (H:Hp):List (List Key × V)->List (List Key × Addr × Value)->Prop:=Paired λp q=>p.1=q.1/\H q.2.1=some (.tup (p.1.map kV))/\yH p.2 q.2.2
theorem KT.val {H:Hp}{kvs:List (List Key × V)}{xs:List (List Key × Addr × Value)}(r:KT H kvs xs)(k:List Key):zhr (zbU kvs k) ((atKey xs k).map (·.2)):=by
 induction r with
 | nil=>exact True.intro
 | @cons p q ps qs h t ih =>
  obtain⟨h1,_,h2⟩:=h
  by_cases e:p.1=k
  .have e':q.1=k:=h1.symm.trans e
   have b:atKey (q::qs) k=some q.2:=by simp[atKey,List.find?_cons,e']
   rw[ZD e,b];exact h2
  .have e':¬ q.1=k:=λz=>e (h1.trans z)
   have b:atKey (q::qs) k=atKey qs k:=by simp[atKey,List.find?_cons,e']
   rw[ZH e,b];exact ih
theorem KT.repl {H:Hp}{kvs:List (List Key × V)}{xs:List (List Key × Addr × Value)}(r:KT H kvs xs)(k:List Key){y:V}{u:Value}(ry:yH y u) :
 KT H (kvs.map λkv=>if kv.1=k then (kv.1,y)else kv) (xs.map (putAt k u)):=by
 induction r with
 | nil=>exact .nil
 | @cons p q ps qs h t ih =>
  rw[List.map_cons,List.map_cons]
  refine .cons ?_ ih
  obtain⟨h1,h2,h3⟩:=h
  unfold putAt
  by_cases e:p.1=k
  .rw[if_pos e,if_pos (h1.symm.trans e)];exact⟨h1,h2,ry⟩
  .rw[if_neg e,if_neg (λz=>e (h1.trans z))];exact⟨h1,h2,h3⟩
theorem KT.put {H:Hp}{kvs:List (List Key × V)}{xs:List (List Key × Addr × Value)}(r:KT H kvs xs)(k:List Key){b:Addr}{y:V}{u:Value}(hb:H b=some (.tup (k.map kV)))(ry:yH y u) :
 KT H (zas kvs k y) (storedH xs k b u):=by
 have e:(kvs.any λkv=>decide (kv.1=k))=(atKey xs k).isSome:=by
  rw[WT,(r.val k).isSome_eq,Option.isSome_map]
 unfold zas storedH
 rw[e]
 by_cases q:(atKey xs k).isSome=true
 .rw[if_pos q,if_pos q];exact r.repl k ry
 .rw[if_neg q,if_neg q];exact Paired.snoc r ⟨rfl,hb,ry⟩
theorem KT.keeps {H H':Hp}{kvs:List (List Key × V)}{xs:List (List Key × Addr × Value)}(r:KT H kvs xs)(ht:∀ b ys,H b=some (.tup ys)->H' b=some (.tup ys)):KT H' kvs xs :=
 Paired.mapP r λ_ _ z=>⟨z.1,ht _ _ z.2.1,z.2.2⟩
section
variable {P:Program}{w:World}{H:Hp}{h:Heap}{a:Addr}
theorem zi2 {u:HO}(ok:HOk P w H h)(e:Rd H a u):yw P w H h a u:=e.ok ok
theorem zje {kvs:List (Key × V)}(ok:HOk P w H h)(e:Rd H a (.dK kvs)):kvs.length<=sizeLine/\(a == sysModules)=false/\∃ vs,KV kvs vs/\h.DictOf (yN P w) a vs :=
 show yw P w H h a (.dK kvs)from zi2 ok e
theorem zlH {kvs:List (Key × V)}(ok:HOk P w H h)(e:H a=some (.dK kvs)):kvs.length<=sizeLine/\(a == sysModules)=false/\∃ vs,KV kvs vs/\h.DictOf (yN P w) a vs:=zje ok (.inl e)
theorem zbw {ks:List Key}(ok:HOk P w H h)(e:H a=some (.tup (ks.map kV))):(tupleKind (yN P w)).is h ks a:=by
 obtain⟨_,its,r,o,h1,h2,n,h3⟩:=(show yw P w H h a (.tup (ks.map kV))from ok a _ e)
 exact⟨o,its.toArray,n,h1,h2,h3,by simpa using zai r⟩
theorem zj1 {kvs:List (List Key × V)}(ok:HOk P w H h)(e:Rd H a (.dT kvs)):kvs.length<=sizeLine/\(a == sysModules)=false /\
 ∃ xs,KT H kvs xs/\h.DictOfH (tupleKind (yN P w)) a xs:=by
 obtain⟨z,y,xs,r,o,es,ep,h1,h2,h3,h4,h5⟩:=(show yw P w H h a (.dT kvs)from zi2 ok e)
 refine⟨z,y,xs,r,o,es,ep,h1,h2,h3,h4,λx hx=>?_,h5⟩
 have all:∀ {l:List (List Key × V)} {m:List (List Key × Addr × Value)},KT H l m->∀ x∈m,(tupleKind (yN P w)).is h x.1 x.2.1:=by
  intro l m q
  induction q with
  | nil=>intro x hx;exact nomatch hx
  | @cons p q ps qs hq t ih =>
   intro x hx
   rcases List.mem_cons.mp hx with e | hx
   .subst e
    exact zbw ok (by rw[<-hq.1];exact hq.2.1)
   .exact ih x hx
 exact all r x hx
theorem zkx {kvs:List (List Key × V)}(ok:HOk P w H h)(e:H a=some (.dT kvs)):kvs.length<=sizeLine/\(a == sysModules)=false /\
 ∃ xs,KT H kvs xs/\h.DictOfH (tupleKind (yN P w)) a xs:=zj1 ok (.inl e)
end
noncomputable def zlO (H:Hp)(a:Addr)(y:V)(r:Option V):Prop :=
 (∃ kvs k,Rd H a (.dK kvs)/\y=kV k/\r=zbU kvs k)\/∃ kvs k b,Rd H a (.dT kvs)/\y=.ref b/\H b=some (.tup (k.map kV))/\r=zbU kvs k
noncomputable def zfM (H:Hp)(a:Addr)(y v:V)(H':Hp):Prop :=
 (∃ kvs k,H a=some (.dK kvs)/\y=kV k/\kvs.length < sizeLine/\H'=upd H a (.dK (zas kvs k v))) \/
 ∃ kvs k b,H a=some (.dT kvs)/\y=.ref b/\H b=some (.tup (k.map kV))/\kvs.length < sizeLine/\H'=upd H a (.dT (zas kvs k v))
theorem zfM.k {H:Hp}{a:Addr}{kvs:List (Key × V)}{k:Key}{v:V}(e:H a=some (.dK kvs))(hl:kvs.length < sizeLine):zfM H a (kV k) v (upd H a (.dK (zas kvs k v))):=.inl ⟨kvs,k,e,rfl,hl,rfl⟩
theorem zfM.t {H:Hp}{a b:Addr}{kvs:List (List Key × V)}{k:List Key}{v:V}(e:H a=some (.dT kvs))(eb:H b=some (.tup (k.map kV)))(hl:kvs.length < sizeLine) :
 zfM H a (.ref b) v (upd H a (.dT (zas kvs k v))):=.inr ⟨kvs,k,b,e,rfl,eb,hl,rfl⟩
section
variable {X:Cx}{pins:List (Addr × Obj)}{σ:St}{H:Hp}{s:Shared}{a:Addr}{y v:V}{u r:Value}{o:Option V}{A:Around}{E:Value->Shared->Prop}
theorem Inv.big (I:Inv X pins σ H s):sysModules < s.heap.objs.size:=by
 have h:mainGlobals < s.heap.objs.size:=(I.mod.glob.keeps I.bk).lt
 exact Nat.lt_trans (by decide) h
theorem zhX {Q:Value->Shared->Prop}(hu:A.units+1 < cLine)(I:Inv X pins σ H s)(g:zlO H a y o)(ry:yH y u)(h:∀ s',Inv X pins σ H s'->Q (.bool (!o.isSome)) s') :
 wpAny (model X.prog X.w) A (compareOp .NotIn u (.ref a)) Q E s:=by
 rcases g with ⟨kvs,k,e,ey,l⟩ | ⟨kvs,k,b,e,ey,eb,l⟩
 .subst ey
  obtain⟨z,hd,vs,rel,dd⟩:=zje I.hok e
  refine wpAny_notIn_of (zhN ry) hd dd.mapOf ?_
  rw[<-(rel.val k).isSome_eq,<- l]
  exact h _ (I.tok _)
 .subst ey
  cases (show u=Value.ref b from ry)
  obtain⟨z,hd,xs,rel,dd⟩:=zj1 I.hok e
  refine wpAny_notIn_heap (tupleKind_room_in1 hu) (zbw I.hok eb) hd dd ?_
  have q:=(rel.val k).isSome_eq
  rw[Option.isSome_map]at q
  rw[<-q,<- l]
  exact h _ (I.tok _)
theorem zaP {h':Heap}{t':Nat}{ob:HO}(I:Inv X pins σ H s)(mu:Mut (H a))(hs:Heap.SameBut a s.heap h')(he:∃ q,h'.get? a=some q)(new:yw X.prog X.w (upd H a ob) h' a ob) :
 Inv X pins σ (upd H a ob) { s with heap:=h',toks:=t' } :=
 I.write (x:=a) (e:=a) mu (.inl rfl) (λb q hb z=>(hs.2 b hb).trans z) he new
theorem ziK {P:Program}{w:World}{H':Hp}{h':Heap}{kvs:List (Key × V)}{vs:List (Key × Value)}(z:kvs.length<=sizeLine)(hd:(a == sysModules)=false)(rel:KV kvs vs)(dd:h'.DictOf (yN P w) a vs) :
 yw P w H' h' a (.dK kvs):=⟨z,hd,vs,rel,dd⟩
theorem zdg {H':Hp}{Q:Unit->Shared->Prop}(hu:A.units+1 < cLine)(I:Inv X pins σ H s)(g:zfM H a y v H')(ry:yH y u)(rv:yH v r)(h:∀ s',Inv X pins σ H' s'->Q () s') :
 wpAny (model X.prog X.w) A (setItem (.ref a) u r) Q E s:=by
 rcases g with ⟨kvs,k,e,ey,l,eH⟩ | ⟨kvs,k,b,e,ey,eb,l,eH⟩
 .subst ey eH
  obtain⟨z,hd,vs,rel,dd⟩:=zlH I.hok e
  have hz:vs.length<=sizeLine:=by rw[<-rel.length];exact z
  have hl:(zas kvs k v).length<=sizeLine:=by have:=Z0 kvs k v;omega
  refine wpAny_setItem_pairs (hsz:=hz) (zhN ry) dd λh' dd' hs=>h _ ?_
  have he:∃ q,h'.get? a=some q:=let ⟨q,_,_,hq,_⟩:=dd';⟨q,hq⟩
  exact zaP I (by rw[e];exact True.intro) hs he (ziK hl hd (rel.put k rv) dd')
 .subst ey eH
  cases (show u=Value.ref b from ry)
  obtain⟨z,hd,xs,rel,dd⟩:=zkx I.hok e
  have hz:xs.length<=sizeLine:=by rw[<-Paired.length rel];exact z
  have hl:(zas kvs k v).length<=sizeLine:=by have:=Z0 kvs k v;omega
  refine wpAny_setItem_heap (hsz:=hz) (tupleKind_room_in1 hu) (zbw I.hok eb) dd λh' dd' hs=>h _ ?_
  obtain⟨q,es,ep,hq,h2,h3,h4,_,h5⟩:=dd'
  refine zaP I (by rw[e];exact True.intro) hs ⟨q,hq⟩ ⟨hl,hd,_,(rel.put k eb rv).keeps λc ys ec=>?_,q,es,ep,hq,h2,h3,h4,h5⟩
  rw[zm (zig ec e (λz=>nomatch z))]
  exact ec
end
noncomputable def zkY (td ty tv:TE):TS:=λD σ H=>tv σ H λv H1=>td σ H1 λx H2=>ty σ H2 λy H3=>∃ a H4,x=.ref a/\zfM H3 a y v H4/\D.nx σ H4
section
variable {X:Cx}{o i e value:Expr}{pos pos' tpos:Pos}{td ty tv:TE}
theorem zh7 (hu:X.A.units+1 < cLine)(ho:PE X o td)(hi:PE X i ty)(hv:PE X value tv)(hs:swapsWith value (some (.Subscript o i pos')) pos.line X.env=pure false) :
 PS X (.Assign [.Subscript o i pos'] value pos) (zkY td ty tv):=by
 intro pins s σ H D I h
 refine wpAny_Assign_Subscript (thn (hv pins s σ H _ I h) λr s1 ⟨v,H1,I1,rv,q1⟩=>thn (ho pins s1 σ H1 _ I1 q1) λu s2 ⟨x,H2,I2,rx,q2⟩=>thn (hi pins s2 σ H2 _ I2 q2) λiv s3 hh9=>?_) hs
 obtain⟨y,H3,I3,ry,a,H4,ex,g,q3⟩:=hh9
 subst ex
 obtain rfl:u=Value.ref a:=rx
 exact zdg hu I3 g ry rv λs4 I4=>⟨σ,H4,I4,q3⟩
end
theorem zfy {P:Program} {w:World} {H:Hp} (h:Heap) (hb:sysModules < h.objs.size):yw P w H (h.push { cls:=.type "dict",data:=.dict #[] }) h.objs.size (.dT []) :=
 ⟨Nat.zero_le _,beq_eq_false_iff_ne.mpr (Ne.symm (Nat.ne_of_lt hb)),[],.nil,_,#[],0,Heap.get?_push_size _ rfl,⟨rfl,rfl,rfl⟩,rfl,rfl,List.nodup_nil⟩
theorem zaI {X:Cx}:Yf X (.builtin "isinstance") (λxs H Q=>∃ x n t b,xs=[x,.ty n]/\zb2 X.K H x t/\W.kitOne X.K t (.type n)=some b/\Q (.bl b) H):=by
 intro pins s σ H xs us Q I r h
 obtain⟨x,n,t,b,rfl,ty,e,q⟩:=h
 obtain⟨u,w',rfl,rx,rt⟩:=zcv r
 cases (show w'=Value.type n from rt)
 exact zcX I rx ty e λtk=>⟨.bl b,H,I.tok _,rfl,q⟩
theorem zfj {X:Cx}:OpR X (compareOp .Is) (λx y H Q=>∃ i j,x=.bl i/\y=.bl j/\Q (.bl (i == j)) H):=by
 intro pins s σ H x y v u Q I rx ry h
 obtain⟨i,j,rfl,rfl,q⟩:=h
 cases rx
 cases ry
 refine wpAny_is_plain (by rfl) ⟨.bl (i == j),H,I,?_,q⟩
 cases i <;> cases j <;> rfl
theorem zaN {X:Cx}:OpR X (compareOp .IsNot) (λx y H Q=>∃ i j,x=.bl i/\y=.bl j/\Q (.bl (!(i == j))) H):=by
 intro pins s σ H x y v u Q I rx ry h
 obtain⟨i,j,rfl,rfl,q⟩:=h
 cases rx
 cases ry
 refine wpAny_isNot_plain (by rfl) ⟨.bl (!(i == j)),H,I,?_,q⟩
 cases i <;> cases j <;> rfl
noncomputable def zgz (K:W.Frag):R2:=λx y H Q=>∃ a b xs ys,x=.ref a/\y=.ref b/\SqT K H a xs/\SqT K H b ys/\xs.length+ys.length<=sizeLine /\
 (xs=[]->Q (.ref b) H)/\(xs≠[]->ys=[]->Q (.ref a) H)/\(xs≠[]->ys≠[]->∀ p,H p=none->Q (.ref p) (upd H p (.tup (xs++ys))))
theorem zfX {X:Cx}:OpR X (binaryOp .Add) (zgz X.K):=by
 intro pins s σ H x y v u Q I rx ry h
 obtain⟨a,b,xs,ys,rfl,rfl,ha,hb,hz,q0,q1,q2⟩:=h
 by_cases hx:xs=[]
 .subst hx
  cases rx
  cases ry
  obtain⟨its,r,p,_⟩:=I.tuple ha
  obtain⟨its',r',p',_⟩:=I.tuple hb
  cases r
  obtain⟨⟨cls,dd,data,sl⟩,ho,hc,n,hd⟩:=id p
  obtain⟨⟨cls2,dd2,data2,sl2⟩,ho2,hc2,n2,hd2⟩:=id p'
  simp only at hc hd hc2 hd2
  subst hc hd hc2 hd2
  exact concat_meets ⟨_,ho,rfl⟩ ⟨_,ho2,rfl⟩ noFill_tuple_add seq_tuple_add PySem.F.slot_tuple_add PySem.F.entry_tuple_add (PySem.F.args_tuple_add_2 _ _)
   (tuple_addW0 a b #[] its'.toArray n n2 dd dd2 sl sl2 rfl) ⟨ho,ho2,⟨.ref b,H,I,rfl,q0 rfl⟩⟩
 .refine ziq pins s σ H (.ref a) (.ref b) v u Q I rx ry ⟨a,b,xs,ys,rfl,rfl,ha,hb,hx,hz,?_⟩
  exact⟨λe=>q1 hx e,λe=>q2 hx e⟩
inductive YI:St->St->Prop where
 | nil:YI [] []
 | non {a:Option V} {s t:St}:YI s t->YI (none::s) (a::t)
 | same {a:Option V} {s t:St}:YI s t->YI (a::s) (a::t)
theorem YI.refl:∀ s:St,YI s s
 | []=>.nil
 | _::r=>.same (YI.refl r)
theorem YI.length {s t:St}(h:YI s t):s.length=t.length:=by
 induction h with
 | nil=>rfl
 | non _ ih=>simp[ih]
 | same _ ih=>simp[ih]
theorem YI.get {s t:St}(h:YI s t):∀ (i:Nat) (v:V),s[i]?=some (some v)->t[i]?=some (some v):=by
 induction h with
 | nil=>intro i v e;exact e
 | non _ ih =>
  intro i v e
  cases i with
  | zero=>simp at e
  | succ i=>simpa using ih i v (by simpa using e)
 | same _ ih =>
  intro i v e
  cases i with
  | zero=>simpa using e
  | succ i=>simpa using ih i v (by simpa using e)
theorem YI.set {n:Nat}{v:V}:∀ {s t:St},YI s t->s[n]?=some none->YI s (t.set n (some v))
 | _,_,.nil,_=>.nil
 | _,_,.non (a:=a) h,e=>by
  cases n with
  | zero=>exact .non h
  | succ n=>exact .non (YI.set h (by simpa using e))
 | _,_,.same (a:=a) h,e=>by
  cases n with
  | zero =>
   have e':a=none:=by simpa using e
   subst e'
   exact .non h
  | succ n=>exact .same (YI.set h (by simpa using e))
theorem Inv.sub {X:Cx}{pins:List (Addr × Obj)}{σ σ':St}{H:Hp}{s:Shared}(I:Inv X pins σ H s)(h:YI σ' σ):Inv X pins σ' H s:=I.weak h.length h.get
noncomputable def PIf (X:Cx)(ifs:List Expr)(t:TT):Prop :=
 ∀ (pins:List (Addr × Obj)) (s:Shared) (σ:St) (H:Hp) (Q:Bool->Hp->Prop),Inv X pins σ H s->t σ H Q ->
  wpAny (model X.prog X.w) X.A (forIn ifs true λc r=>if r=true then do let ok<-isTrue c X.env (eval c X.env);pure (ForInStep.yield ok)else pure (ForInStep.yield r)) (TP X pins σ Q) X.xe s
noncomputable def zgT:TT:=λ_ H Q=>Q true H
theorem zaJ {X:Cx}:PIf X [] zgT:=by
 intro pins s σ H Q I h
 rw[List.forIn_nil]
 exact wpAny_pure ⟨H,I,h⟩
theorem zhd {X:Cx}{c:Expr}{t:TT}(hc:PT X c t):PIf X [c] t:=by
 intro pins s σ H Q I h
 rw[List.forIn_cons]
 refine wpAny_bind ?_
 rw[if_pos rfl]
 refine wpAny_bind (thn (hc pins s σ H Q I h) λb s1 q=>wpAny_pure ?_)
 show wpAny _ _ (forIn [] b _) _ _ _
 rw[List.forIn_nil]
 exact wpAny_pure q
section
variable {prog:Program}{w:World}{A:Around}{R:Result->Shared->Prop}{s:Shared}
theorem vM {elt target iter:Expr}{ifs:List Expr}{scope:Scope}{pos:Pos}{it acc:Value}{env:Env}(I:Nat->Shared->Prop)
 (turn:∀ n s,I n s->wpAny (model prog w) A (pyNext it) (λr s₁=>match r with
  | none=>R (.ok .next) s₁
  | some v=>wpAny (model prog w) A (letOwnedTupleGo target it v) (λ_ s₁'=>wpAny (model prog w) A (assign target env v) (λ_ s₂ =>
   wpAny (model prog w) A (forIn ifs true λc r=>if r=true then do let ok<-isTrue c env (eval c env);pure (ForInStep.yield ok)else pure (ForInStep.yield r)) (λok s₃ =>
    if ok=true then wpAny (model prog w) A (eval elt env) (λx s₄ =>
     wpAny (model prog w) A (call (.builtin "list.append") [acc,x]) (λ_ s₅=>∃ m,m < n/\I m s₅) (λ_ _=>False) s₄) (λ_ _=>False) s₃
    else ∃ m,m < n/\I m s₃) (λ_ _=>False) s₂) (λ_ _=>False) s₁') (λ_ _=>False) s₁) (λ_ _=>False) s)
 (n:Nat) (h:I n s) :
 codeAny (model prog w) A (.compLoop (.ListComp elt [⟨target,iter,ifs,0⟩] scope pos) 0 it acc env) R s:=by
 refine codeAny_loop rfl I (λn s hI=>?_) n h
 show wpAny _ A ((compTurn (.ListComp elt [⟨target,iter,ifs,0⟩] scope pos) 0 it acc env).onRaise (λx=>do noteFrame x env;theTreesLotGoes x)) _ _ s
 refine wpAny_noted ?_
 rw[compTurn_list]
 refine wpAny_bind (wpAny_standAt (wpAny_bind (wpAny_mono (turn n s hI) (λr s₁ h₁=>?_) λ_ _ h'=>h'.elim)))
 cases r with
 | none=>exact wpAny_pure h₁
 | some v =>
  refine wpAny_bind (wpAny_mono h₁ (λ_ s₁' h₁'=>?_) λ_ _ h'=>h'.elim)
  refine wpAny_bind (wpAny_mono h₁' (λ_ s₂ h₂=>wpAny_bind (wpAny_mono h₂ (λok s₃ h₃=>?_) λ_ _ h'=>h'.elim)) λ_ _ h'=>h'.elim)
  cases ok with
  | false=>exact wpAny_pure ⟨rfl,h₃⟩
  | true =>
   exact wpAny_bind (wpAny_bind (wpAny_mono h₃ (λx s₄ h₄=>wpAny_bind (wpAny_mono h₄ (λ_ s₅ h₅=>wpAny_pure (wpAny_pure ⟨rfl,h₅⟩)) λ_ _ h'=>h'.elim)) λ_ _ h'=>h'.elim))
end
noncomputable def tLC (wi:TI)(n:Nat)(g:TG)(tt:TT)(te:TE):TE:=fun σ H Q=>wi σ H λJ H1=>∀ D,H1 D=none->∃ W:Nat->Nat->List V->Hp->Prop,(∃ m,W 0 m [] (upd H1 D (.lst []))) /\
 ∀ i m ys H2,W i m ys H2->(J.stop i H2/\Q (.ref D) H2)\/(J.go i H2/\ys.length < sizeLine/\∀ x H3,J.yld i H2 x H3->g x (List.replicate n none++σ) H3 fun σ2 H4=>tt σ2 H4 λb H5 =>
  if b=true then te σ2 H5 λy H6=>H6 D=some (.lst ys)/\∃ m',m' < m/\W (i+1) m' (ys++[y]) (upd H6 D (.lst (ys++[y])))else ∃ m',m' < m/\W (i+1) m' ys H5)
theorem vU {α:Type}:∀ {l:List (Str × α)} {y:Str},y∈l.map Prod.fst->∃ c,l.lookup y=some c
 | [],_,h=>by simp at h
 | (k,v)::r,y,h=>by
  by_cases e:y=k
  .exact⟨v,by simp[List.lookup,e]⟩
  .obtain⟨c,hc⟩:=vU (l:=r) (y:=y) (by simpa [e]using h)
   have hb:(y == k)=false:=beq_eq_false_iff_ne.mpr e
   exact⟨c,by simp only[List.lookup,hb];exact hc⟩
theorem all_nil {α:Type}{P:α->Prop}:∀ p∈([]:List α),P p:=λ_ h=>nomatch h
theorem all_cons {α:Type}{P:α->Prop}{a:α}{l:List α}(h:P a)(t:∀ p∈l,P p):∀ p∈a::l,P p:=λp hp=>by
 rcases List.mem_cons.mp hp with e | hp
 .rw[e];exact h
 .exact t p hp
theorem gs1 (σ:St)(v:V)(H:Hp)(Q:St->Hp->Prop)(h:xT 0 v (List.replicate 1 none++σ) H Q):xT 0 v (List.replicate 1 none++σ) H (fun σ2 H2=>YI (List.replicate 1 none++σ) σ2/\Q σ2 H2):=⟨.set (.refl _) rfl,h⟩
theorem gs2 {K:W.Frag}(σ:St)(v:V)(H:Hp)(Q:St->Hp->Prop)(h:zkR K 2 (zaM (xT 0) (zaM (xT 1) zkS)) v (List.replicate 2 none++σ) H Q) :
 zkR K 2 (zaM (xT 0) (zaM (xT 1) zkS)) v (List.replicate 2 none++σ) H (fun σ2 H2=>YI (List.replicate 2 none++σ) σ2/\Q σ2 H2):=by
 obtain⟨a,xs,e,hq,hl,x,r,e1,y,r2,e2,e3,q⟩:=h
 exact⟨a,xs,e,hq,hl,x,r,e1,y,r2,e2,e3,.set (.set (.refl _) rfl) rfl,q⟩
noncomputable def Wh (X:Cx)(L M:List Str)(scope:Scope)(cl:List (Str × Addr))(s₀:Shared)(H₀:Hp)(ex:List Addr)(pn:List (Addr × Obj)):Cx :=
 { X with N:=L++M,s₀:=s₀,H₀:=H₀,env:=compEnvC scope cl s₀.heap.objs.size X.env,outer:=X.stack,stack:=X.stack,ex:=ex,fn:=λ_=>false,pn:=pn,xe:=λ_ _=>False }
structure yQ (X:Cx) (L M:List Str) (scope:Scope) (cl:List (Str × Addr)):Prop where
 clos:closureFor scope X.env=pure cl
 cell:∀ y∈scope.names,y.2≠.cell
 kind:scope.kind=.function
 names:∀ y∈scope.names,y.2=.local->scope.names.lookup y.1=some .local
 sub:∀ y c,cl.lookup y=some c->X.env.cells.lookup y=some c
 has:∀ y,((relabel scope X.env).names.lookup y=some .cell\/(relabel scope X.env).names.lookup y=some .free)->∃ c,cl.lookup y=some c
 mlen:M.length=X.N.length
 msk:∀ (i:Nat) y,M[i]?=some y->Vis (relabel scope X.env) y->X.N[i]?=some y
 vis:∀ (i:Nat) y,M[i]?=some y->Vis (relabel scope X.env) y->((relabel scope X.env).names.lookup y=some .cell\/(relabel scope X.env).names.lookup y=some .free)
 out:∀ (i:Nat) y,M[i]?=some y->Vis (relabel scope X.env) y->Vis X.env.scope y/\X.env.kindOf y≠some .local
theorem Inv.letGo {X:Cx}{pins:List (Addr × Obj)}{σ:St}{H:Hp}{s:Shared}{C:Addr}{h':Heap}(I:Inv X pins σ H s)(f:zco X pins H C)(sb:Heap.SameBut C s.heap h'):Inv X pins σ H { s with heap:=h' }:=by
 obtain⟨f0,f1,f2,f3,f4,f5⟩:=f
 have ne:∀ b,b∉[C]->b≠C:=λb hb z=>hb (by rw[z];exact List.mem_singleton.mpr rfl)
 refine I.call' (s':={ s with heap:=h' }) (ch:=[C]) rfl ⟨λb o e _ _ hx=>(sb.2 b (ne b hx)).trans e,λb o e _ _ hx=>⟨o.slots,(sb.2 b (ne b hx)).trans e⟩,λ_ _ _ n _=>n,λb o e hx=>⟨o,(sb.2 b (ne b hx)).trans e⟩,λ_ _ q=>q,λ_ _ _ q=>q,λ_ ps q=>⟨#[],by rw[q];simp⟩⟩ ?_ I.bare λb hb=>?_
 .intro b ob e
  refine(I.hok b ob e).stay (λc v hc q=>(sb.2 c ?_).trans q) (λ_ q=>q) λ_ _ q=>q
  rintro rfl
  rcases hc with z | z
  .rw[<-z,f0]at e;cases e
  .rw[f0]at z;cases z
 .rw[List.mem_singleton.mp hb]
  exact⟨f3,f1,f4,f5⟩
theorem zef {use:Option (Value->Sem Unit)}{Qf:Value->Shared->Prop}{X:Cx}{elt tg iter:Expr}{ifs:List Expr}{L M:List Str}{scope:Scope}{cl:List (Str × Addr)}{pos:Pos}{wi:TI}{g:TG}{tt:TT}{te:TE}
 (hc:X.calm=true) (S:yQ X L M scope cl) (hi:PI X tg iter wi)
 (hgS:∀ (σ:St) (v:V) (H:Hp) (Q:St->Hp->Prop),g v (List.replicate L.length none++σ) H Q->g v (List.replicate L.length none++σ) H (fun σ2 H2=>YI (List.replicate L.length none++σ) σ2/\Q σ2 H2))
 (hg:∀ s₀ H₀ ex pn,PG (Wh X L M scope cl s₀ H₀ ex pn) tg g) (ht:∀ s₀ H₀ ex pn,PIf (Wh X L M scope cl s₀ H₀ ex pn) ifs tt) (he:∀ s₀ H₀ ex pn,PE (Wh X L M scope cl s₀ H₀ ex pn) elt te)
 (hs:∀ x,foldedSetIterable iter X.env x=pure x:=by intro _;rfl) :
 ∀ (pos':Pos) (pins:List (Addr × Obj)) (s:Shared) (σ:St) (H:Hp) (Q:VK),Inv X pins σ H s->tLC wi L.length g tt te σ H Q ->
  (∀ (D C:Addr) (H':Hp) (s':Shared),Inv X pins σ H' s'->(∃ m,s'.heap.Ns C m)->zco X pins H' C->Q (.ref D) H'->compPost (model X.prog X.w) X.A X.xe use Qf (.ref D) C (.ok .next) s') ->
  wpAny (model X.prog X.w) X.A (comprehension (.ListComp elt [⟨tg,iter,ifs,0⟩] scope pos) scope X.env pos' (newList []) false (eval iter X.env) use) Qf X.xe s:=by
 intro pos' pins s σ H Q I h fin
 refine wpAny_comprehension_free (use:=use) rfl hs S.clos S.kind S.names (thn (hi pins s σ H _ I h) λv s1 h1=>thn h1 λitv s2 h2=>?_)
 obtain⟨it,fp,tn,J,H2,e,I2,T,st2,f2,q⟩:=h2
 subst e
 have hD:H2 s2.heap.objs.size=none:=I2.hok.fresh (Nat.le_refl _)
 obtain⟨W,⟨m0,w0⟩,turn⟩:=q _ hD
 refine wpAny_newObj_type (wpAny_newFunctionEnv S.cell (by intro y hy;simp at hy) (λh₁ hns₁ hsb₁=>?_) S.kind)
 have I3:Inv X pins σ (upd H2 s2.heap.objs.size (.lst [])) { s2 with heap:=s2.heap.push { cls:=.type "list",data:=.seq ([]:List Value).toArray } }:=by
  refine I2.laid (t':=s2.toks) (λb u e=>Heap.get?_push_of_some _ e) (Nat.le_refl _) ?_
  exact⟨Nat.zero_le _,[],0,.nil,Heap.get?_push_size _ rfl⟩
 generalize hs3:({ s2 with heap:=s2.heap.push { cls:=.type "list",data:=.seq ([]:List Value).toArray } }:Shared)=s3 at I3 hns₁ hsb₁ ⊢
 have hobj:∀ b∈fp,b < s2.heap.objs.size:=λb hb=>by
  obtain⟨o,ho,_⟩:=T.obj _ _ st2 b hb
  exact Heap.lt_size ho
 have hz3:s3.heap.objs.size=s2.heap.objs.size+1:=by rw[<-hs3];exact Heap.size_push ..
 have k23:∀ b o,s2.heap.get? b=some o->s3.heap.get? b=some o:=λb o e=>by rw[<-hs3];exact Heap.get?_push_of_some _ e
 have k34:∀ b o,s3.heap.get? b=some o->h₁.get? b=some o:=λb o e=>(hsb₁.2 b (Nat.ne_of_lt (Heap.lt_size e))).trans (Heap.get?_push_of_some _ e)
 generalize hH3:upd H2 s2.heap.objs.size (.lst [])=H3 at I3 w0
 have hfp3:∀ b∈fp,H3 b=none:=λb hb=>by
  rw[<-hH3,zm (Nat.ne_of_lt (hobj b hb))]
  exact(f2 b hb).1
 have nfs:∀ b∈fp,b∉frs X.stack:=λb hb z=>by
  obtain⟨_,n1,n2,_⟩:=f2 b hb
  rcases List.mem_cons.mp (I3.stkSub b z)with e | e
  .exact n1 e
  .exact n2 e
 let Y:Cx:=Wh X L M scope cl s3 H3 fp (X.pn++pins)
 have OkY:Y.Ok:=by
  refine⟨I.ok.mod,S.kind,I.ok.glob,I.ok.blt,Nat.le_refl _,λx y c h1 h2=>I.ok.inj x y c (S.sub x c h1) (S.sub y c h2),λx hx=>S.has x hx,(λx c h _=>absurd h Bool.false_ne_true),I.ok.hd,I.ok.frames,.inl rfl,λb hb=>⟨?_,λx c e z=>?_⟩,
   λb o e=>I3.bs b o e,Nat.le_trans I.ok.bsz I3.sz,λb o e hb=>?_,nfs,I3.stack,I3.stkFree⟩
  .show b≠s3.heap.objs.size
   exact Nat.ne_of_lt (Nat.lt_of_lt_of_le (hobj b hb) (by rw[hz3];exact Nat.le_succ _))
  .exact(f2 b hb).2.2.2.2.1 x c (S.sub x c e) z
  .rcases(f2 b hb).2.2.2.1 with z | z
   .exact I.ok.noex b o e z
   .have h1:=Heap.lt_size e
    have h2:=I.ok.bsz
    exact absurd (Nat.lt_of_lt_of_le h1 (Nat.le_trans h2 z)) (Nat.lt_irrefl _)
 have I4:Inv Y [] (List.replicate L.length none++σ) H3 { s3 with heap:=h₁,toks:=s3.toks+([]:List (Str × Value)).length }:=by
  refine⟨OkY,rfl,I3.bare,Un.kept k34,⟨_,hns₁,λi y v e1 e2 e3=>?_⟩,λx c e=>?_,I3.hok.fresh (Nat.le_refl _),λx c e=>I3.freeC x c (S.sub x c e),λp hp=>?_,I3.hok.kept k34,?_⟩
  .have hi:¬ i < L.length:=λhlt=>by
    rw[List.getElem?_append_left (by simpa using hlt),List.getElem?_replicate]at e2
    split at e2 <;> cases e2
   have e0':M[i - L.length]?=some y:=by
    have e1:(L++M)[i]?=some y:=e1
    rw[List.getElem?_append_right (by omega)]at e1
    exact e1
   have e2':σ[i - L.length]?=some (some v):=by rw[List.getElem?_append_right (by simpa using Nat.le_of_not_lt hi)]at e2;simpa using e2
   have e1':=S.msk _ y e0' e3
   obtain⟨ov,ok⟩:=S.out _ y e0' e3
   obtain⟨m,hn,hl⟩:=I3.loc
   obtain⟨u,ru,lk⟩:=hl _ y v e1' e2' ov
   refine⟨u,ru,?_⟩
   rcases lk with ⟨hk,_⟩ | ⟨_,c,hc',hcell⟩
   .exact absurd hk ok
   .have kn:=S.vis _ y e0' e3
    obtain⟨c',hc2⟩:=S.has y kn
    have:=S.sub y c' hc2
    rw[hc']at this
    cases this
    refine .inr ⟨kn,c,hc2,?_⟩
    obtain⟨o,ho,hd⟩:=hcell
    exact⟨o,k34 _ _ ho,hd⟩
  .obtain⟨v,o,ho,hd⟩:=I3.cell x c (S.sub x c e)
   exact⟨v,o,k34 _ _ ho,hd⟩
  .have hp':p∈X.pn++pins:=List.append_nil (X.pn++pins) ▸ hp
   obtain⟨a1,a2,a3,a4,a5⟩:=I3.pin p hp'
   refine⟨k34 _ _ a1,a2,Nat.ne_of_lt (Heap.lt_size a1),λz=>?_,a5⟩
   rcases List.mem_cons.mp (I3.stkSub p.1 z)with e | e
   .exact a3 e
   .exact a4 e
  .show(List.replicate L.length none++σ).length=(L++M).length
   rw[List.length_append,List.length_append,List.length_replicate,I.len,S.mlen]
 have fpY:∀ {H':Hp},(∀ b∈fp,H' b=none)->∀ b∈fp,zco Y [] H' b:=λ{H'} hn b hb=>by
  refine⟨hn b hb,(OkY.exf b hb).1,nfs b hb,.inl hb,(OkY.exf b hb).2,λp hp=>?_⟩
  have hp':p∈X.pn++pins:=List.append_nil (X.pn++pins) ▸ hp
  exact(f2 b hb).2.2.2.2.2 p hp'
 have st4:tn 0 h₁:=T.keep _ _ _ st2 λb hb o e=>k34 b o (k23 b o e)
 -- behind the loop
 have back:∀ (H':Hp) (s':Shared),Inv Y [] (List.replicate L.length none++σ) H' s'->Q (.ref s2.heap.objs.size) H'->compPost (model X.prog X.w) X.A X.xe use Qf (.ref s2.heap.objs.size) s3.heap.objs.size (.ok .next) s':=λH' s' J' q'=>by
  obtain⟨m,hn,_⟩:=J'.loc
  refine fin _ _ H' s' (I3.call' (ch:=fp) J'.os J'.base J'.hok J'.bare λb hb=>?_) ⟨m,hn⟩ (I3.fpOk (Nat.le_refl _) J'.free) q'
  obtain⟨_,n1,_,n3,n4,n5⟩:=f2 b hb
  exact⟨n3,n1,n4,n5⟩
 have loop:codeAny (model X.prog X.w) X.A (.compLoop (.ListComp elt [⟨tg,iter,ifs,0⟩] scope pos) 0 (.ref it) (.ref s2.heap.objs.size) (compEnvC scope cl s3.heap.objs.size X.env))
  (compPost (model X.prog X.w) X.A X.xe use Qf (.ref s2.heap.objs.size) s3.heap.objs.size) { s3 with heap:=h₁,toks:=s3.toks+([]:List (Str × Value)).length }:=by
  refine vM (λn s'=>∃ i ys H',Inv Y [] (List.replicate L.length none++σ) H' s'/\tn i s'.heap/\(∀ b∈fp,H' b=none)/\W i n ys H') ?_ m0 ⟨0,[],H3,I4,st4,hfp3,w0⟩
  rintro n s5 ⟨i,ys,H5,I5,st5,fr5,w5⟩
  rcases turn i n ys H5 w5 with ⟨stop,qn⟩ | ⟨go,hlen,step⟩
  .refine thn (T.done Y rfl rfl rfl hc i [] s5 _ H5 _ I5 (fpY fr5) st5 stop) λr s6 hh9=>?_
   obtain⟨hr,I6⟩:=hh9
   subst hr
   exact back H5 s6 I6 qn
  .refine thn (T.item Y rfl rfl rfl hc i [] s5 _ H5 _ I5 (fpY fr5) st5 go) λr s6 hh9=>?_
   obtain⟨u,hr,h6⟩:=hh9
   subst hr
   refine thn h6 λ_ s7 hh9=>?_
   obtain⟨x,H7,I7,r7,y7,st7,fr7⟩:=hh9
   have I7':=I7.pinned (fpY fr7) (T.obj _ _ st7)
   have g7:=hgS σ x H7 _ (step x H7 y7)
   refine thn (hg _ _ _ _ _ s7 _ H7 x u _ I7' r7 g7) λ_ s8 hh9=>?_
   obtain⟨σ8,H8,I8,sub8,q8⟩:=hh9
   have again:∀ {σ9:St} {H9:Hp} {s9:Shared} {zs:List V},Inv Y ([]++XZ fp s7.heap) σ9 H9 s9->YI (List.replicate L.length none++σ) σ9->(∃ m',m' < n/\W (i+1) m' zs H9) ->
    ∃ m,m < n/\∃ i ys H',Inv Y [] (List.replicate L.length none++σ) H' s9/\tn i s9.heap/\(∀ b∈fp,H' b=none)/\W i m ys H':=λ{σ9 H9 s9 zs} I9 sub9 w9=>by
    obtain⟨m',hm,w9⟩:=w9
    refine⟨m',hm,i+1,zs,H9,(I9.sub sub9).unpinned,T.keep _ _ _ st7 λb hb o e=>(I9.pin (b,o) (List.mem_append_right _ (List.mem_append_right _ (ww hb e)))).1,λb hb=>?_,w9⟩
    obtain⟨o,e,d⟩:=T.obj _ _ st7 b hb
    exact(I9.pin (b,o) (List.mem_append_right _ (List.mem_append_right _ (ww hb e)))).2.1
   refine thn (ht _ _ _ _ _ s8 σ8 H8 _ I8 q8) λb s9 hh9=>?_
   obtain⟨H9,I9,q9⟩:=hh9
   cases b with
   | false =>
    rw[if_neg Bool.false_ne_true]at q9
    rw[if_neg Bool.false_ne_true]
    exact again I9 sub8 q9
   | true =>
    rw[if_pos rfl]at q9
    rw[if_pos rfl]
    refine thn (he _ _ _ _ _ s9 σ8 H9 _ I9 q9) λy s10 hh9=>?_
    obtain⟨yv,H10,I10,r10,hD10,w10⟩:=hh9
    obtain⟨z10,its,k,rv,e10⟩:ys.length<=sizeLine/\∃ (its:List Value) (n:Nat),ya ys its/\s10.heap.get? s2.heap.objs.size=some { cls:=.type "list",data:=.seq its.toArray n }:=I10.hok _ _ hD10
    have hl10:s10.heap.PlainList s2.heap.objs.size its.toArray:=⟨k,e10⟩
    refine wpAny_list_append_plain (hsz:=by rw[List.size_toArray,<- rv.length];exact z10) hl10 λh11 hl11 sb11=>?_
    obtain⟨k',e11⟩:=hl11
    have I11:Inv Y ([]++XZ fp s7.heap) σ8 (upd H10 s2.heap.objs.size (.lst (ys++[yv]))) { s10 with heap:=h11 }:=by
     refine I10.write (x:=s2.heap.objs.size) (e:=s2.heap.objs.size) (t':=s10.toks) (by rw[hD10];exact True.intro) (.inl rfl) (λb u hb e=>(sb11.2 b hb).trans e) ⟨_,e11⟩ ?_
     refine⟨by rw[List.length_append];show ys.length+1<=sizeLine;exact hlen,its++[y],k',rv.append (.cons r10 .nil),?_⟩
     rw[e11]
     simp
    exact again I11 sub8 w10
 exact codeAny_compStart_list loop (T.self _ 0 _ _ _ st4 loop)
theorem zgw {X:Cx}{elt tg iter:Expr}{ifs:List Expr}{L M:List Str}{scope:Scope}{cl:List (Str × Addr)}{pos:Pos}{wi:TI}{g:TG}{tt:TT}{te:TE}
 (hc:X.calm=true) (S:yQ X L M scope cl) (hi:PI X tg iter wi)
 (hgS:∀ (σ:St) (v:V) (H:Hp) (Q:St->Hp->Prop),g v (List.replicate L.length none++σ) H Q->g v (List.replicate L.length none++σ) H (fun σ2 H2=>YI (List.replicate L.length none++σ) σ2/\Q σ2 H2))
 (hg:∀ s₀ H₀ ex pn,PG (Wh X L M scope cl s₀ H₀ ex pn) tg g) (ht:∀ s₀ H₀ ex pn,PIf (Wh X L M scope cl s₀ H₀ ex pn) ifs tt) (he:∀ s₀ H₀ ex pn,PE (Wh X L M scope cl s₀ H₀ ex pn) elt te)
 (hs:∀ x,foldedSetIterable iter X.env x=pure x:=by intro _;rfl) :
 PE X (.ListComp elt [⟨tg,iter,ifs,0⟩] scope pos) (tLC wi L.length g tt te):=by
 intro pins s σ H Q I h
 rw[eval_ListComp]
 refine zef hc S hi hgS hg ht he hs _ pins s σ H Q I h λD C H' s' I' ⟨m,hn⟩ f q=>⟨m,hn,λh' sb=>⟨.ref D,_,I'.letGo f sb,rfl,q⟩⟩
theorem zgI {i:Nat}{x:Str}{px spos:Pos}{X:Cx}{elt tg iter:Expr}{ifs:List Expr}{L M:List Str}{scope:Scope}{cl:List (Str × Addr)}{pos:Pos}{wi:TI}{g:TG}{tt:TT}{te:TE}
 (hN:X.N.Nodup) (hi':X.N[i]?=some x) (hx:Loc X.env.scope x) (hc:X.calm=true) (S:yQ X L M scope cl) (hi:PI X tg iter wi)
 (hgS:∀ (σ:St) (v:V) (H:Hp) (Q:St->Hp->Prop),g v (List.replicate L.length none++σ) H Q->g v (List.replicate L.length none++σ) H (fun σ2 H2=>YI (List.replicate L.length none++σ) σ2/\Q σ2 H2))
 (hg:∀ s₀ H₀ ex pn,PG (Wh X L M scope cl s₀ H₀ ex pn) tg g) (ht:∀ s₀ H₀ ex pn,PIf (Wh X L M scope cl s₀ H₀ ex pn) ifs tt) (he:∀ s₀ H₀ ex pn,PE (Wh X L M scope cl s₀ H₀ ex pn) elt te)
 (hs:∀ x,foldedSetIterable iter X.env x=pure x:=by intro _;rfl)
 (hsw:swapsWith (.ListComp elt [⟨tg,iter,ifs,0⟩] scope pos) (some (.Name x px)) spos.line X.env=pure true:=by rfl)
 (hf:X.fn x=true\/X.env.scope.names.lookup x=some .local:=by first | exact .inl rfl | exact .inr rfl | assumption) :
 PS X (.Assign [.Name x px] (.ListComp elt [⟨tg,iter,ifs,0⟩] scope pos) spos) (Vn (tLC wi L.length g tt te) (xT i)):=by
 intro pins s σ H D I h
 rw[exec_Assign_Name_used _ _ _ _ hsw]
 refine wpAny_bind (wpAny_standAt (wpAny_bind ?_))
 show wpAny _ X.A (do let _<-comprehension (.ListComp elt [⟨tg,iter,ifs,0⟩] scope pos) scope X.env _ (newList []) false (eval iter X.env) (some (assign (.Name x px) X.env))) _ _ s
 refine wpAny_bind (thn (zef (use:=some (assign (.Name x px) X.env)) (Qf:=λ_ s'=>SP X pins D .next s') hc S hi hgS hg ht he hs _ pins s σ H _ I h λD' C H' s' I' ⟨m,hn⟩ f q=>?_) λ_ s' hq=>wpAny_pure (wpAny_pure hq))
 have hob:∀ b∈[C],∃ o,s'.heap.get? b=some o/\∀ v,o.data≠.cell v:=λb hb=>by
  rw[List.mem_singleton.mp hb]
  obtain⟨o,es,ep,e,d,_⟩:=hn
  exact⟨o,e,λv z=>by rw[z]at d;cases d⟩
 have I2:=I'.pinned (fp:=[C]) (λb hb=>by rw[List.mem_singleton.mp hb];exact f) hob
 refine thn (zI (pos:=px) hN hi' hx hf _ s' σ H' (.ref D') (.ref D') _ I2 rfl q) λ_ s2 hh9=>?_
 obtain⟨σ2,H2,I3,q3⟩:=hh9
 obtain⟨o,es,ep,e,d⟩:=hn
 have pn:=I3.pin (C,o) (List.mem_append_right _ (List.mem_append_right _ (ww (List.mem_singleton.mpr rfl) e)))
 exact⟨m,⟨o,es,ep,pn.1,d⟩,λh' sb=>⟨σ2,H2,I3.unpinned.letGo ⟨pn.2.1,f.2⟩ sb,q3⟩⟩
noncomputable def X5 (names rn dn:List (Str × NameKind))(N M cn:List Str):Bool :=
 names.all (λy=>decide (y.2≠.cell))&&names.all (λy=>decide (y.2=.local->names.lookup y.1=some .local)) &&
 rn.all (λy=>decide ((y.2=.cell\/y.2=.free)->y.1∈cn)) &&
 (M.length == N.length)&&(M.zip N).all (λp=>decide ((rn.lookup p.1=some .local\/rn.lookup p.1=some .cell\/rn.lookup p.1=some .free)->p.1=p.2)) &&
 M.all (λy=>decide ((rn.lookup y=some .local\/rn.lookup y=some .cell\/rn.lookup y=some .free) ->
  (rn.lookup y=some .cell\/rn.lookup y=some .free)/\(dn.lookup y=some .local\/dn.lookup y=some .cell\/dn.lookup y=some .free)/\dn.lookup y≠some .local))
theorem vQ {X:Cx}{L N M cn:List Str}{scope:Scope}{cl:List (Str × Addr)}{rn dn:List (Str × NameKind)}(hr:(relabel scope X.env).names=rn)(hd:X.env.scope.names=dn)(hN:X.N=N)
 (clos:closureFor scope X.env=pure cl) (kind:scope.kind=.function) (hc:cl.map Prod.fst=cn) (good:X5 scope.names rn dn N M cn=true) (sub:∀ p∈cl,X.env.cells.lookup p.1=some p.2):yQ X L M scope cl:=by
 unfold X5 at good
 simp only[Bool.and_eq_true,List.all_eq_true,decide_eq_true_eq]at good
 obtain⟨⟨⟨⟨⟨g1,g2⟩,g3⟩,g5⟩,g6⟩,g4⟩:=good
 have g5:M.length=N.length:=by simpa using g5
 refine⟨clos,g1,kind,g2,λy c h=>sub (y,c) (PySem.mem_of_lookup h),λy h=>?_,by rw[hN];exact g5,λi y e v=>?_,λi y e v=>?_,λi y e v=>?_⟩
 .rw[hr]at h
  have hy:y∈cn:=by
   rcases h with h | h
   .exact g3 _ (PySem.mem_of_lookup h) (.inl rfl)
   .exact g3 _ (PySem.mem_of_lookup h) (.inr rfl)
  exact vU (by rw[hc];exact hy)
 .unfold Vis at v
  rw[hr]at v
  have hi:=(List.getElem?_eq_some_iff.mp e).1
  have hj:i < N.length:=by rw[<-g5];exact hi
  have hz:(M.zip N)[i]?=some (y,N[i]):=by
   rw[List.getElem?_zip_eq_some]
   exact⟨e,List.getElem?_eq_getElem hj⟩
  have:=g6 _ (List.mem_of_getElem? hz) v
  rw[hN,List.getElem?_eq_getElem hj]
  exact congrArg some this.symm
 .unfold Vis at v
  rw[hr]at v ⊢
  exact(g4 y (List.mem_of_getElem? e) v).1
 .unfold Vis at v
  rw[hr]at v
  obtain⟨_,k1,k2⟩:=g4 y (List.mem_of_getElem? e) v
  refine⟨?_,?_⟩
  .unfold Vis;rw[hd];exact k1
  .show X.env.scope.names.lookup y≠_;rw[hd];exact k2
end L2
namespace PySem
open Sem (wp)
open AutoSeq1 (wpAny_loadPart')
section
variable {prog:Program}{w:World}{A:Around}{E:Value->Shared->Prop}{s:Shared}
theorem vh {it l:Addr}{i:Nat}{items}{x:Value}{Q:Value->Shared->Prop}(hit:s.heap.IsTupleIter it l i)
 (hl:s.heap.IsTuple l items) (hx:items[i]?=some x)
 (hQ:∀ h',h'.IsTupleIter it l (i+1)->Heap.SameBut it s.heap h'->Q x { s with heap:=h' }) :
 wpAny (model prog w) A (Builtin.SmallTypes.nextOf (.ref it)) Q E s:=by
 obtain⟨o,ho,hc,hd⟩:=id hit
 obtain⟨ol,hol,_,nl,hdl⟩:=hl
 unfold Builtin.SmallTypes.nextOf
 refine wpAny_bind (wpAny_callSpecial?_slot (name:=Str.ofString "__next__") hit.typeIs F.slot_tuple_iterator_next
  (wpAny_call_entry F.slot_tuple_iterator_next hit.typeIs F.entry_tuple_iterator_next ?_ (F.args_tuple_iterator_next_1 _)))
 show wpAny _ _ (field (.ref it) 0>>=_) _ _ s
 refine wpAny_bind (wpAny_field ho hd (x:=.ref l) rfl ?_)
 show wpAny _ _ (if (Value.ref l == Value.none)=true then _ else _) _ _ s
 rw[if_neg (show ¬ ((Value.ref l == Value.none)=true)from Bool.false_ne_true)]
 show wpAny _ _ (field (.ref it) 1>>=_) _ _ s
 refine wpAny_bind (wpAny_field ho hd (x:=.int i 0) rfl ?_)
 show wpAny _ _ (seqItems? (.ref l)>>=_) _ _ s
 refine wpAny_bind (wpAny_seqItems hol hdl ?_)
 simp only[Int.toNat_natCast,hx]
 refine wpAny_bind (wpAny_setField ho hd (by simp) (wpAny_pure ⟨x,rfl,wpAny_pure (hQ _ ?_ (Heap.SameBut.update ..))⟩))
 exact⟨_,Heap.get?_update_self _ ho (Obj.isFreed_of_fields (Obj.data_mapFields hd _)),(Obj.cls_mapFields ..).trans hc,by
  rw[Obj.data_mapFields hd];simp[rawInt]⟩
theorem vO {it l:Addr}{i:Nat}{items}{Q:Value->Shared->Prop}(hh:A.handled=none)
 (hit:s.heap.IsTupleIter it l i) (hl:s.heap.IsTuple l items) (hx:items[i]?=none)
 (hE:∀ h' e,Heap.ExtBut it s.heap h'->(∃ o,h'.get? e=some o/\o.cls=.type "StopIteration")->E (.ref e) { s with heap:=h' }) :
 wpAny (model prog w) A (Builtin.SmallTypes.nextOf (.ref it)) Q E s:=by
 obtain⟨o,ho,hc,hd⟩:=id hit
 obtain⟨ol,hol,_,nl,hdl⟩:=hl
 unfold Builtin.SmallTypes.nextOf
 refine wpAny_bind (wpAny_callSpecial?_slot (name:=Str.ofString "__next__") hit.typeIs F.slot_tuple_iterator_next
  (wpAny_call_entry F.slot_tuple_iterator_next hit.typeIs F.entry_tuple_iterator_next ?_ (F.args_tuple_iterator_next_1 _)))
 show wpAny _ _ (field (.ref it) 0>>=_) _ _ s
 refine wpAny_bind (wpAny_field ho hd (x:=.ref l) rfl ?_)
 show wpAny _ _ (if (Value.ref l == Value.none)=true then _ else _) _ _ s
 rw[if_neg (show ¬ ((Value.ref l == Value.none)=true)from Bool.false_ne_true)]
 show wpAny _ _ (field (.ref it) 1>>=_) _ _ s
 refine wpAny_bind (wpAny_field ho hd (x:=.int i 0) rfl ?_)
 show wpAny _ _ (seqItems? (.ref l)>>=_) _ _ s
 refine wpAny_bind (wpAny_seqItems hol hdl ?_)
 simp only[Int.toNat_natCast,hx]
 refine wpAny_bind (wpAny_rule (wpAny_bind (wpAny_setField ho hd (by simp) ?_)))
 show wpAny _ _ (newExc (.type "StopIteration") []>>=_) _ _ _
 refine wpAny_bind ?_
 simp only[newExc,newTuple]
 refine wpAny_bind (wpAny_newObj_type ?_ (by size_fits))
 refine wpAny_bind (m:=firstArgMember _ _) (wpAny_of_eq (a:=Value.none) (by first | rfl | (simp only[firstArgMember];rfl)) ?_)
 refine wpAny_newObj_type ?_ (by size_fits)
 simp only[raiseNew]
 refine wpAny_bind (wpAny_handled ?_)
 first | rw[show A.in1.handled=none from hh] | rw[hh]
 refine wpAny_bind (wpAny_pure (wpAny_throw ?_))
 exact hE _ _ (((Heap.SameBut.update ..).extBut.push _).push _) ⟨_,Heap.get?_push_size _ rfl,rfl⟩
end
theorem ZS {prog:Program}{w:World}{A:Around}(hh:A.handled=none)(it l:Addr)(hne:l≠it)(items:Array Value) :
 Draws prog w A it [it,l] items.size (λi v=>items[i]?=some v) (λi h=>h.IsTupleIter it l i/\h.IsTuple l items) where
 live:=λ_ _ st=>let ⟨o,ho,_⟩:=st.1;⟨o,ho⟩
 frame:=λ_ _ _ st hk=>by
  obtain⟨⟨o,ho,r⟩,⟨o2,ho2,r2⟩⟩:=st
  exact⟨⟨o,hk it (by simp) o ho,r⟩,⟨o2,hk l (by simp) o2 ho2,r2⟩⟩
 item:=λi s Q E hi st hQ=>by
  refine vh st.1 st.2 (x:=items[i]) (by simp[hi]) λh' hit' hs'=>?_
  exact hQ _ h' s.toks (by simp[hi]) ⟨hit',st.2.extBut hs'.extBut hne⟩ hs'
 done:=λs Q E st hE=>vO hh st.1 st.2 (by simp) hE
end PySem
namespace L2
open PySem PySem.Spec PyProof.Rows
section
variable {X:Cx}{pins:List (Addr × Obj)}{σ:St}{H:Hp}{s:Shared}{h':Heap}
theorem Inv.grown {ch:List Addr}{T:Addr}{o:HO}{t':Nat}(I:Inv X pins σ H s)(hch:∀ b∈ch,zco X pins H b)(hT:s.heap.objs.size<=T)(k:∀ b u,b∉ch->s.heap.get? b=some u->h'.get? b=some u)
 (new:yw X.prog X.w (upd H T o) h' T o):Inv X pins σ (upd H T o) { s with heap:=h',toks:=t' }:=by
 have hn:H T=none:=I.hok.fresh hT
 have neT:∀ b u,s.heap.get? b=some u->b≠T:=λb u e=>Nat.ne_of_lt (Nat.lt_of_lt_of_le (Heap.lt_size e) hT)
 have nch:∀ b u,H b=some u->b∉ch:=λb u e z=>by rw[(hch b z).1]at e;cases e
 refine I.step (g':=s.gens) (d':=s.drawn) (ch:=ch) (λb hb=>?_) (λb u _ _ hc e _=>k b u hc e) (λb u _ _ hc e _=>⟨u.slots,k b u hc e⟩) (λb u _ e n=>by rw[zm (neT b u e)];exact n)
  (λb u hc e=>⟨u,k b u hc e⟩) (λb xs e=>by rw[zm (zj e hn)];exact e) (λb u xs e=>by rw[zm (zj e hn)];exact e) (λb ps e=>⟨#[],by rw[zm (zj e hn),e];simp⟩) (λm hm=>?_) (λb u e=>?_) I.bare
 .obtain⟨_,n1,_,n3,n4,n5⟩:=hch b hb
  exact⟨n3,n1,n4,n5⟩
 .obtain⟨ob,es,ep,ho,r⟩:=hm
  exact⟨ob,es,ep,k _ ob (λz=>(hch _ z).2.1 rfl) ho,r⟩
 .by_cases hb:b=T
  .subst hb;rw[zk]at e;cases e;exact new
  .rw[zm hb]at e
   refine(I.hok b u e).stay (λc v hc q=>k c v ?_ q) (λc q=>by rw[zm (zj q hn)];exact q) λc xs q=>by rw[zm (zj q hn)];exact q
   rcases hc with z | z
   .rw[z];exact nch b u e
   .exact nch c _ z
theorem Inv.turnedN {ch:List Addr}{t':Nat}(I:Inv X pins σ H s)(hch:∀ b∈ch,zco X pins H b)(k:∀ b u,b∉ch->s.heap.get? b=some u->h'.get? b=some u):Inv X pins σ H { s with heap:=h',toks:=t' }:=by
 have nch:∀ b u,H b=some u->b∉ch:=λb u e z=>by rw[(hch b z).1]at e;cases e
 refine I.step (g':=s.gens) (d':=s.drawn) (ch:=ch) (λb hb=>?_) (λb u _ _ hc e _=>k b u hc e) (λb u _ _ hc e _=>⟨u.slots,k b u hc e⟩) (λb u _ e n=>n)
  (λb u hc e=>⟨u,k b u hc e⟩) (λb xs e=>e) (λb u xs e=>e) (λb ps e=>⟨#[],by rw[e];simp⟩) (λm hm=>?_) (λb u e=>?_) I.bare
 .obtain⟨_,n1,_,n3,n4,n5⟩:=hch b hb
  exact⟨n3,n1,n4,n5⟩
 .obtain⟨ob,es,ep,ho,r⟩:=hm
  exact⟨ob,es,ep,k _ ob (λz=>(hch _ z).2.1 rfl) ho,r⟩
 .refine(I.hok b u e).stay (λc v hc q=>k c v ?_ q) (λc q=>q) λc xs q=>q
  rcases hc with z | z
  .rw[z];exact nch b u e
  .exact nch c _ z
end
end L2
namespace HT
open PySem PyProof.Rows
section
variable {prog:Program}{w:World}{A:Around}{E:Value->Shared->Prop}{s:Shared}
theorem own_getItem_whole {t sl:Addr}{items:Array Value}{vl vu:Value}{lo hi:Option Int}{Q:Value->Shared->Prop}(ht:IsTup s.heap t items)(hs:s.heap.IsSliceOf sl vl vu .none)(pl:IsPart vl lo)(pu:IsPart vu hi)
 (hw:sIx items.size 0 lo=0/\sIx items.size items.size hi=items.size) (h:Q (.ref t) s):wpAny (model prog w) A (getItem (.ref t) (.ref sl)) Q E s:=by
 obtain⟨os,hos,hcs,hds⟩:=id hs
 have hTs:s.TypeIs (.ref sl) "slice":=⟨os,hos,hcs⟩
 unfold getItem
 try with_reducible refine wpAny_holding ?_
 first | refine wpAny_bind (wpAny_pure ?_) | skip
 refine wpAny_bind (wpAny_sequenceKey ht.typeIs (by decide) ?_)
 refine wpAny_bind (wpAny_callSpecial?_slot (name:=Str.ofString "__getitem__") ht.typeIs PyProof.Rows.slot_tuple_getitem
  (wpAny_call_entry PyProof.Rows.slot_tuple_getitem ht.typeIs entry_tuple_getitem ?_ (args_tuple_getitem _ _)))
 show wpAny _ _ (Builtin.Tuple.tupleItemsOf (.ref t)>>=_) _ _ s
 refine wpAny_bind (tupleItemsOf_ ht ?_)
 refine wpAny_bind (wpAny_typeOf hTs ?_)
 rw[if_pos (by decide)]
 refine wpAny_bind (wZ hs pl pu ?_)
 have hyes:(((sIx items.size 0 lo:Nat):Int) == 0&&(1:Int) == 1&&(sIx items.size items.size hi - sIx items.size 0 lo) == items.size)=true:=by
  rw[hw.1,hw.2]
  simp
 show wpAny _ _ (if (((sIx items.size 0 lo:Nat):Int) == 0&&(1:Int) == 1&&(sIx items.size items.size hi - sIx items.size 0 lo) == items.size)=true then _ else _) _ _ s
 rw[if_pos hyes]
 refine wpAny_bind (m:=Builtin.Tuple.tupleIsExact (.ref t)) ?_
 unfold Builtin.Tuple.tupleIsExact
 refine wpAny_bind (wpAny_typeOf ht.typeIs (wpAny_pure ?_))
 rw[if_pos (by decide)]
 refine wpAny_bind (wpAny_rule ?_)
 first
  | exact wpAny_pure ⟨_,rfl,wpAny_pure h⟩
  | exact wpAny_bind (wpAny_pure (wpAny_pure ⟨_,rfl,wpAny_pure h⟩))
end
end HT
namespace PySem
open Sem (wp)
theorem zt {prog:Program}{w:World}{A:Around}{it a:Addr}{fp:List Addr}{n k:Nat}{P:Nat->Value->Prop}{St:Nat->Heap->Prop}(D:Draws prog w A it fp n P St){h h':Heap}(st:St k h)(sb:Heap.SameBut a h h')(na:a∉fp):St k h' :=
 D.frame _ _ _ st λb hb o e=>(sb.2 b λz=>na (z ▸ hb)).trans e
structure zeT (z TI TO i1 i2:Addr) (fp1 fp2:List Addr):Prop where
 nd:[z,TI,TO,i1,i2].Nodup
 z1:z∉fp1
 z2:z∉fp2
 o1:TO∉fp1
 o2:TO∉fp2
 i12:i1∉fp2
 i21:i2∉fp1
section
variable {prog:Program}{w:World}{A:Around}{E:Value->Shared->Prop}{s:Shared}{z TI TO i1 i2:Addr}{fp1 fp2:List Addr}{n1 n2 k1 k2:Nat}{P1 P2:Nat->Value->Prop}{St1 St2:Nat->Heap->Prop}{a b:Value}
theorem zak {Q:Value->Shared->Prop}(D1:Draws prog w A i1 fp1 n1 P1 St1)(D2:Draws prog w A i2 fp2 n2 P2 St2)(ap:zeT z TI TO i1 i2 fp1 fp2)
 (hz:IsZip s.heap z TI TO .none) (hTI:IsPair s.heap TI (.ref i1) (.ref i2)) (hTO:IsPair s.heap TO a b) (h1:St1 k1 s.heap) (h2:St2 k2 s.heap) (l1:k1 < n1) (l2:k2 < n2)
 (hQ:∀ x y h' tk,P1 k1 x->P2 k2 y->IsZip h' z TI TO (rawInt s.heap.objs.size)->IsPair h' TO x y->St1 (k1+1) h'->St2 (k2+1) h'->IsPair h' s.heap.objs.size x y ->
  (∀ c o,c∉[z,TO,i1,i2]->s.heap.get? c=some o->h'.get? c=some o)->Q (.ref s.heap.objs.size) { s with heap:=h',toks:=tk }) :
 wpAny (model prog w) A (Builtin.«zip.__next__» ⟨[.ref z],[]⟩) (λfin s'=>∃ v,fin=.done (.ret v)/\Q v s') E s:=by
 obtain⟨nd,az1,az2,ao1,ao2,a12,a21⟩:=ap
 simp only[List.nodup_cons,List.mem_cons,List.not_mem_nil,or_false,not_or,not_false_eq_true,List.nodup_nil,and_true]at nd
 obtain⟨⟨n1',n2',n3',n4'⟩,⟨n5,n6,n7⟩,⟨n8,n9⟩,n10⟩:=nd
 show wpAny _ _ (field (.ref z) 2>>=_) _ _ _
 refine wpAny_bind (wpAny_field hz rfl (x:=.bool false) rfl ?_)
 show wpAny _ _ (field (.ref z) 3>>=_) _ _ _
 refine wpAny_bind (wpAny_field hz rfl (x:=.ref TI) rfl (wpAny_bind (wpAny_seqItems hTI rfl ?_)))
 show wpAny _ _ (Builtin.SmallTypes.ownedTupleIsFree (.ref z)>>=_) _ _ _
 refine wpAny_bind ?_
 unfold Builtin.SmallTypes.ownedTupleIsFree
 refine wpAny_bind (wpAny_field hz rfl (x:=.none) rfl (wpAny_pure ?_))
 simp only[if_true]
 refine wpAny_bind (wpAny_rule (wpAny_bind (wpAny_field hz rfl (x:=.ref TO) rfl (wpAny_bind (wpAny_setField_rec hz (by simp) λg1 z1 b1=>?_)))))
 refine wpAny_bind ?_
 simp only[List.zipIdx_cons,List.zipIdx_nil,List.forIn_cons,List.forIn_nil]
 refine wpAny_bind (wpAny_bind (wpAny_onRaise ?_))
 show wpAny _ _ (Builtin.SmallTypes.nextOf (.ref i1)>>=_) _ _ _
 refine wpAny_bind (D1.item k1 _ _ _ l1 (zt D1 h1 b1 az1) λx g2 tk2 px st2 b2=>wpAny_pure ?_)
 have o2:IsPair g2 TO a b:=(b2.2 TO n8).trans ((b1.2 TO (Ne.symm n2')).trans hTO)
 refine wpAny_bind (wpAny_seqItems o2 rfl (wpAny_bind (wpAny_updateSeq_pair o2 λg3 o3 b3=>?_)))
 refine wpAny_bind (wpAny_letGo (wpAny_pure ?_))
 refine wpAny_bind (wpAny_bind (wpAny_onRaise ?_))
 show wpAny _ _ (Builtin.SmallTypes.nextOf (.ref i2)>>=_) _ _ _
 have s23:St2 k2 g3:=zt D2 (zt D2 (zt D2 h2 b1 az2) b2 a12) b3 ao2
 refine wpAny_bind (D2.item k2 _ _ _ l2 s23 λy g4 tk4 py st4 b4=>wpAny_pure ?_)
 have o4:IsPair g4 TO x b:=(b4.2 TO n9).trans o3
 refine wpAny_bind (wpAny_seqItems o4 rfl (wpAny_bind (wpAny_updateSeq_pair o4 λg5 o5 b5=>?_)))
 replace o5:IsPair g5 TO x y:=o5
 refine wpAny_bind (wpAny_letGo (wpAny_pure (wpAny_pure ?_)))
 refine wpAny_bind (wpAny_seqItems o5 rfl ?_)
 show wpAny _ _ (newTuple [x,y]>>=_) _ _ _
 refine wpAny_bind (wpAny_newTuple ?_)
 have hsz:g5.objs.size=s.heap.objs.size:=by rw[b5.1,b4.1,b3.1,b2.1,b1.1]
 have z5:IsZip g5 z TI TO .ellipsis:=(b5.2 z n2').trans ((b4.2 z n4').trans ((b3.2 z n2').trans ((b2.2 z n3').trans z1)))
 have zlt:z < g5.objs.size:=Heap.lt_size z5
 show wpAny _ _ (Builtin.SmallTypes.ownedTupleHandOut (.ref z) (.ref g5.objs.size)>>=_) _ _ _
 refine wpAny_bind ?_
 unfold Builtin.SmallTypes.ownedTupleHandOut
 have z6:IsZip (g5.push { cls:=.type "tuple",data:=.seq #[x,y] }) z TI TO .ellipsis:=Heap.get?_push_of_some _ z5
 refine wpAny_bind (wpAny_setField_rec z6 (by simp) λg7 z7 b7=>?_)
 refine wpAny_setField_rec z7 (by simp) λg8 z8 b8=>?_
 have up:∀ c o,c≠z->g5.get? c=some o->g8.get? c=some o:=λc o n e=>(b8.2 c n).trans ((b7.2 c n).trans (Heap.get?_push_of_some _ e))
 have t8:IsPair g8 g5.objs.size x y:=(b8.2 _ (Nat.ne_of_gt zlt)).trans ((b7.2 _ (Nat.ne_of_gt zlt)).trans (Heap.get?_push_size _ rfl))
 have e8:IsZip g8 z TI TO (rawInt g5.objs.size):=z8
 rw[hsz]at e8 t8
 refine wpAny_pure ⟨_,rfl,?_⟩
 show Q (.ref g5.objs.size) _
 rw[hsz]
 have f1:St1 (k1+1) g5:=zt D1 (zt D1 (zt D1 st2 b3 ao1) b4 a21) b5 ao1
 have f2:St2 (k2+1) g5:=zt D2 st4 b5 ao2
 refine hQ x y g8 _ px py e8 (up _ _ (Ne.symm n2') o5) (D1.frame _ _ _ f1 λc hc o e=>up c o (λq=>az1 (q ▸ hc)) e) (D2.frame _ _ _ f2 λc hc o e=>up c o (λq=>az2 (q ▸ hc)) e) t8 λc o hc e=>?_
 simp only[List.mem_cons,List.not_mem_nil,or_false,not_or]at hc
 obtain⟨c1,c2,c3,c4⟩:=hc
 exact up c o c1 ((b5.2 c c2).trans ((b4.2 c c4).trans ((b3.2 c c2).trans ((b2.2 c c3).trans ((b1.2 c c1).trans e)))))
theorem za5 {Q:Fin->Shared->Prop}(D1:Draws prog w A i1 fp1 n1 P1 St1)(az1:z∉fp1)(nz:i1≠z)
 (hz:IsZip s.heap z TI TO .none) (hTI:IsPair s.heap TI (.ref i1) (.ref i2)) (h1:St1 n1 s.heap)
 (hE:∀ h' e,(∀ c o,c≠z->c≠i1->s.heap.get? c=some o->h'.get? c=some o)->(∃ o,h'.get? e=some o/\o.cls=.type "StopIteration")->E (.ref e) { s with heap:=h' }) :
 wpAny (model prog w) A (Builtin.«zip.__next__» ⟨[.ref z],[]⟩) Q E s:=by
 show wpAny _ _ (field (.ref z) 2>>=_) _ _ _
 refine wpAny_bind (wpAny_field hz rfl (x:=.bool false) rfl ?_)
 show wpAny _ _ (field (.ref z) 3>>=_) _ _ _
 refine wpAny_bind (wpAny_field hz rfl (x:=.ref TI) rfl (wpAny_bind (wpAny_seqItems hTI rfl ?_)))
 show wpAny _ _ (Builtin.SmallTypes.ownedTupleIsFree (.ref z)>>=_) _ _ _
 refine wpAny_bind ?_
 unfold Builtin.SmallTypes.ownedTupleIsFree
 refine wpAny_bind (wpAny_field hz rfl (x:=.none) rfl (wpAny_pure ?_))
 simp only[if_true]
 refine wpAny_bind (wpAny_rule (wpAny_bind (wpAny_field hz rfl (x:=.ref TO) rfl (wpAny_bind (wpAny_setField_rec hz (by simp) λg1 z1 b1=>?_)))))
 refine wpAny_bind ?_
 simp only[List.zipIdx_cons,List.zipIdx_nil,List.forIn_cons,List.forIn_nil]
 refine wpAny_bind (wpAny_bind (wpAny_onRaise ?_))
 show wpAny _ _ (Builtin.SmallTypes.nextOf (.ref i1)>>=_) _ _ _
 refine wpAny_bind (D1.done _ _ _ (zt D1 h1 b1 az1) λg2 e b2 he=>?_)
 obtain⟨oe,hoe,hce⟩:=he
 have z2:IsZip g2 z TI TO .ellipsis:=b2 _ _ (Ne.symm nz) z1
 have nez:e≠z:=λq=>by subst q;rw[z2]at hoe;cases hoe;simp at hce
 exact wpAny_setField_rec z2 (by simp) λg3 _ b3=>hE g3 e (λc o c1 c2 q=>(b3.2 c c1).trans (b2 c o c2 ((b1.2 c c1).trans q))) ⟨oe,(b3.2 e nez).trans hoe,hce⟩
end
noncomputable def vY (b:Bool)(h:Heap)(it l:Addr)(k:Nat):Prop:=if b=true then h.IsListIter it l k else h.IsTupleIter it l k
noncomputable def zcF (b:Bool)(h:Heap)(l:Addr)(items:Array Value):Prop:=if b=true then h.IsList l items else h.IsTuple l items
theorem x8 {prog:Program}{w:World}{A:Around}(hh:A.handled=none)(b:Bool)(it l:Addr)(hne:l≠it)(items:Array Value) :
 Draws prog w A it [it,l] items.size (λi v=>items[i]?=some v) (λi h=>vY b h it l i/\zcF b h l items):=by
 cases b with
 | true=>exact Draws.list hh it l hne items
 | false=>exact ZS hh it l hne items
noncomputable def Xi (b:Bool) (l:Addr):Obj:={ cls:=.type (if b=true then "list_iterator" else "tuple_iterator"),data:=.fields #[.ref l,.int 0 0] }
noncomputable abbrev zpA (h:Heap)(b1:Bool)(l1:Addr):Heap:=h.push (Xi b1 l1)
noncomputable abbrev zpB (h:Heap)(b1 b2:Bool)(l1 l2:Addr):Heap:=(zpA h b1 l1).push (Xi b2 l2)
noncomputable abbrev zpC (h:Heap) (b1 b2:Bool) (l1 l2:Addr):Heap:=(zpB h b1 b2 l1 l2).push (Obj.mk (.type "tuple") none (.seq #[.ref h.objs.size,.ref (zpA h b1 l1).objs.size]) #[])
noncomputable abbrev zpD (h:Heap) (b1 b2:Bool) (l1 l2:Addr):Heap:=(zpC h b1 b2 l1 l2).push (Obj.mk (.type "tuple") none (.seq #[.none,.none]) #[])
noncomputable abbrev zpE (h:Heap) (b1 b2:Bool) (l1 l2:Addr):Heap:=(zpD h b1 b2 l1 l2).push (Obj.mk (.type "zip") none (.fields #[.none,.bool false,.bool false,.ref (zpB h b1 b2 l1 l2).objs.size,.ref (zpC h b1 b2 l1 l2).objs.size]) #[])
theorem zar (b1 b2:Bool)(l1 l2:Addr)(xs ys:Array Value) :
 Meets (Builtin.«zip.__new__» ⟨[.type "zip",.ref l1,.ref l2],[]⟩) (λ_ R s=>zcF b1 s.heap l1 xs/\zcF b2 s.heap l2 ys /\
  R (.ok (.ret (.ref (zpD s.heap b1 b2 l1 l2).objs.size))) { s with heap:=zpE s.heap b1 b2 l1 l2 }) :=
 .of_wp λprog w A R s h=>by
  obtain⟨hp,g,d,tk,os⟩:=s;obtain⟨hl1,hl2,h⟩:=h
  have hsub:=sub_zip
  cases b1 with
  | true =>
   have hL1:Heap.IsList (Shared.heap ⟨hp,g,d,tk,os⟩) l1 xs:=hl1
   cases b2 with
   | true =>
    have hL2:Heap.IsList (Shared.heap ⟨hp.push { cls:=.type "list_iterator",data:=.fields #[.ref l1,.int 0 0] },g,d,tk,os⟩) l2 ys:=Heap.IsList.push hl2 _
    wp_walk using wpAny_pyIter_list hL1,wpAny_pyIter_list hL2
    exact⟨_,rfl,h⟩
   | false =>
    have hL2:Heap.IsTuple (Shared.heap ⟨hp.push { cls:=.type "list_iterator",data:=.fields #[.ref l1,.int 0 0] },g,d,tk,os⟩) l2 ys:=Heap.IsTuple.push hl2 _
    wp_walk using wpAny_pyIter_list hL1,wpAny_pyIter_tuple hL2
    exact⟨_,rfl,h⟩
  | false =>
   have hL1:Heap.IsTuple (Shared.heap ⟨hp,g,d,tk,os⟩) l1 xs:=hl1
   cases b2 with
   | true =>
    have hL2:Heap.IsList (Shared.heap ⟨hp.push { cls:=.type "tuple_iterator",data:=.fields #[.ref l1,.int 0 0] },g,d,tk,os⟩) l2 ys:=Heap.IsList.push hl2 _
    wp_walk using wpAny_pyIter_tuple hL1,wpAny_pyIter_list hL2
    exact⟨_,rfl,h⟩
   | false =>
    have hL2:Heap.IsTuple (Shared.heap ⟨hp.push { cls:=.type "tuple_iterator",data:=.fields #[.ref l1,.int 0 0] },g,d,tk,os⟩) l2 ys:=Heap.IsTuple.push hl2 _
    wp_walk using wpAny_pyIter_tuple hL1,wpAny_pyIter_tuple hL2
    exact⟨_,rfl,h⟩
end PySem
namespace PySem
section
variable {prog:Program}{w:World}{A:Around}{E:Value->Shared->Prop}{s:Shared}
theorem Vf {b1 b2:Bool}{l1 l2:Addr}{xs ys:Array Value}{Q:Value->Shared->Prop}(hl1:zcF b1 s.heap l1 xs)(hl2:zcF b2 s.heap l2 ys)
 (h:∀ h',IsZip h' (s.heap.objs.size+4) (s.heap.objs.size+2) (s.heap.objs.size+3) .none->IsPair h' (s.heap.objs.size+2) (.ref s.heap.objs.size) (.ref (s.heap.objs.size+1)) ->
  IsPair h' (s.heap.objs.size+3) .none .none->vY b1 h' s.heap.objs.size l1 0->vY b2 h' (s.heap.objs.size+1) l2 0 ->
  (∀ c o,s.heap.get? c=some o->h'.get? c=some o)->Q (.ref (s.heap.objs.size+4)) { s with heap:=h' }) :
 wpAny (model prog w) A (call (.type "zip") [.ref l1,.ref l2]) Q E s:=by
 refine callType_new F.called_zip (by decide) (F.typeCall_zip_2 _ _) (F.newCall_zip_2 _ _) (λobj=>F.args_object_init_3 obj _ _) F.entry_zip_new
  (zar b1 b2 l1 l2 xs ys) ⟨hl1,hl2,?_⟩
 have z1:(zpA s.heap b1 l1).objs.size=s.heap.objs.size+1:=Heap.size_push ..
 have z2:(zpB s.heap b1 b2 l1 l2).objs.size=s.heap.objs.size+2:=by rw[Heap.size_push,z1]
 have z3:(zpC s.heap b1 b2 l1 l2).objs.size=s.heap.objs.size+3:=by rw[Heap.size_push,z2]
 have z4:(zpD s.heap b1 b2 l1 l2).objs.size=s.heap.objs.size+4:=by rw[Heap.size_push,z3]
 have g5:(zpE s.heap b1 b2 l1 l2).get? (zpD s.heap b1 b2 l1 l2).objs.size=some _:=Heap.get?_push_size _ rfl
 have g4:(zpE s.heap b1 b2 l1 l2).get? (zpC s.heap b1 b2 l1 l2).objs.size=some _:=Heap.get?_push_of_some _ (Heap.get?_push_size _ rfl)
 have g3:(zpE s.heap b1 b2 l1 l2).get? (zpB s.heap b1 b2 l1 l2).objs.size=some _:=Heap.get?_push_of_some _ (Heap.get?_push_of_some _ (Heap.get?_push_size _ rfl))
 have g2:(zpE s.heap b1 b2 l1 l2).get? (zpA s.heap b1 l1).objs.size=some (Xi b2 l2):=Heap.get?_push_of_some _ (Heap.get?_push_of_some _ (Heap.get?_push_of_some _ (Heap.get?_push_size _ rfl)))
 have g1:(zpE s.heap b1 b2 l1 l2).get? s.heap.objs.size=some (Xi b1 l1):=Heap.get?_push_of_some _ (Heap.get?_push_of_some _ (Heap.get?_push_of_some _ (Heap.get?_push_of_some _ (Heap.get?_push_size _ rfl))))
 show _/\_
 rw[z2,z3,z4]at g5
 rw[z1,z2]at g3
 rw[z3]at g4
 rw[z1]at g2
 rw[z4]
 have it0:∀ {b:Bool} {l c:Addr},(zpE s.heap b1 b2 l1 l2).get? c=some (Xi b l)->vY b (zpE s.heap b1 b2 l1 l2) c l 0:=λ{b l c} e=>by
  cases b
  .exact⟨_,e,rfl,rfl⟩
  .exact⟨_,e,rfl,rfl⟩
 exact⟨⟨_,g5,rfl⟩,h _ g5 g3 g4 (it0 g1) (it0 g2) λc o x =>
  Heap.get?_push_of_some _ (Heap.get?_push_of_some _ (Heap.get?_push_of_some _ (Heap.get?_push_of_some _ (Heap.get?_push_of_some _ x))))⟩
variable {z TI TO i1 i2:Addr}{fp1 fp2:List Addr}{n1 n2 k1 k2:Nat}{P1 P2:Nat->Value->Prop}{St1 St2:Nat->Heap->Prop}{a b:Value}
theorem v8 {Q:Option Value->Shared->Prop}(D1:Draws prog w A.in1 i1 fp1 n1 P1 St1)(D2:Draws prog w A.in1 i2 fp2 n2 P2 St2)(ap:zeT z TI TO i1 i2 fp1 fp2)
 (hz:IsZip s.heap z TI TO .none) (hTI:IsPair s.heap TI (.ref i1) (.ref i2)) (hTO:IsPair s.heap TO a b) (h1:St1 k1 s.heap) (h2:St2 k2 s.heap) (l1:k1 < n1) (l2:k2 < n2)
 (hQ:∀ x y h' tk,P1 k1 x->P2 k2 y->IsZip h' z TI TO (rawInt s.heap.objs.size)->IsPair h' TO x y->St1 (k1+1) h'->St2 (k2+1) h'->IsPair h' s.heap.objs.size x y ->
  (∀ c o,c∉[z,TO,i1,i2]->s.heap.get? c=some o->h'.get? c=some o)->Q (some (.ref s.heap.objs.size)) { s with heap:=h',toks:=tk }) :
 wpAny (model prog w) A (pyNext (.ref z)) Q E s:=by
 have hT:s.TypeIs (.ref z) "zip":=⟨_,hz,rfl⟩
 unfold pyNext
 exact wpAny_bind (wpAny_attempt (wpAny_callSpecial?_slot (name:=Str.ofString "__next__") hT F.slot_zip_next
  (wpAny_call_entry F.slot_zip_next hT F.entry_zip_next
   (zak D1 D2 ap hz hTI hTO h1 h2 l1 l2 λx y h' tk a1 a2 a3 a4 a5 a6 a7 a8=>wpAny_pure (hQ x y h' tk a1 a2 a3 a4 a5 a6 a7 a8)) (F.args_zip_next_1 _))))
theorem Yn {Q:Option Value->Shared->Prop}(D1:Draws prog w A.in1 i1 fp1 n1 P1 St1)(az1:z∉fp1)(nz:i1≠z)
 (hz:IsZip s.heap z TI TO .none) (hTI:IsPair s.heap TI (.ref i1) (.ref i2)) (h1:St1 n1 s.heap)
 (hQ:∀ h',(∀ c o,c≠z->c≠i1->s.heap.get? c=some o->h'.get? c=some o)->Q none { s with heap:=h' }):wpAny (model prog w) A (pyNext (.ref z)) Q E s:=by
 have hT:s.TypeIs (.ref z) "zip":=⟨_,hz,rfl⟩
 unfold pyNext
 refine wpAny_bind (wpAny_attempt (wpAny_callSpecial?_slot (name:=Str.ofString "__next__") hT F.slot_zip_next
  (wpAny_call_entry F.slot_zip_next hT F.entry_zip_next (za5 D1 az1 nz hz hTI h1 λh' e hk he=>?_) (F.args_zip_next_1 _))))
 obtain⟨o,ho,hc⟩:=he
 refine wpAny_bind (wpAny_isInstance (T:="StopIteration") (b:=true) ⟨o,ho,hc⟩ isSubtype_stop ?_)
 exact wpAny_pure (hQ _ hk)
end
end PySem
namespace L2
open PySem PySem.Spec PyProof.Rows
noncomputable def Sq (b:Bool)(K:W.Frag)(H:Hp)(a:Addr)(xs:List V):Prop:=if b=true then SqL K H a xs else SqT K H a xs
theorem Inv.sq {X:Cx}{pins:List (Addr × Obj)}{σ:St}{H:Hp}{s:Shared}{a:Addr}{xs:List V}{b:Bool}(I:Inv X pins σ H s)(h:Sq b X.K H a xs):∃ its:List Value,ya xs its/\zcF b s.heap a its.toArray/\a < s.heap.objs.size:=by
 cases b with
 | true =>
  obtain⟨its,r,p,_⟩:=I.list (show SqL X.K H a xs from h)
  exact⟨its,r,p.isList,by obtain⟨o,n,ho,_⟩:=p;exact Heap.lt_size ho⟩
 | false =>
  obtain⟨its,r,p,_⟩:=I.tuple (show SqT X.K H a xs from h)
  exact⟨its,r,p,by obtain⟨o,ho,_⟩:=p;exact Heap.lt_size ho⟩
theorem Inv.sq_inj {X:Cx}{pins:List (Addr × Obj)}{σ:St}{H:Hp}{s:Shared}{a:Addr}{xs ys:List V}{b:Bool}(I:Inv X pins σ H s)(h:Sq b X.K H a xs)(h':Sq b X.K H a ys):xs=ys:=by
 cases b with
 | true=>exact I.list_inj h h'
 | false=>exact I.tuple_inj h h'
noncomputable def Izp (K:W.Frag)(b1 b2:Bool)(l1 l2:Addr):It :=
 ⟨λi H=>∃ xs ys x y,Sq b1 K H l1 xs/\Sq b2 K H l2 ys/\xs[i]?=some x/\ys[i]?=some y,
  λi H v H'=>∃ T x y,v=.ref T/\H T=none/\H'=upd H T (.tup [x,y])/\(∀ xs,Sq b1 K H l1 xs->xs[i]?=some x)/\(∀ ys,Sq b2 K H l2 ys->ys[i]?=some y),
  λi H=>∃ xs,Sq b1 K H l1 xs/\i=xs.length⟩
theorem yI {b:Bool}{h:Heap}{it l:Addr}{k:Nat}(x:vY b h it l k):∃ o,h.get? it=some o/\∀ v,o.data≠.cell v:=by
 cases b
 .obtain⟨o,ho,_,hd⟩:=x
  exact⟨o,ho,λv z=>by rw[hd]at z;cases z⟩
 .obtain⟨o,ho,_,hd⟩:=x
  exact⟨o,ho,λv z=>by rw[hd]at z;cases z⟩
theorem xr {b:Bool}{h h':Heap}{it l:Addr}{k:Nat}(x:vY b h it l k)(e:∀ o,h.get? it=some o->h'.get? it=some o):vY b h' it l k:=by
 cases b
 .obtain⟨o,ho,r⟩:=x
  exact⟨o,e o ho,r⟩
 .obtain⟨o,ho,r⟩:=x
  exact⟨o,e o ho,r⟩
theorem zfK {P:Program}{w:World}{K:W.Frag}{es:List Expr}{k:Nat}{tp:Pos}(b1 b2:Bool)(l1 l2 z TI TO i1 i2:Addr)(ap:zeT z TI TO i1 i2 [i1,l1] [i2,l2])(n1:l1≠i1)(n2:l2≠i2) :
 ziz P w K (.Tuple es k tp) (Izp K b1 b2 l1 l2) [z,TI,TO,i1,i2] z (λi h=>IsZip h z TI TO .none/\IsPair h TI (.ref i1) (.ref i2)/\(∃ a b,IsPair h TO a b)/\vY b1 h i1 l1 i/\vY b2 h i2 l2 i) where
 mem:=by simp
 obj:=λi h st b hb=>by
  obtain⟨hz,hTI,⟨a,c,hTO⟩,h1,h2⟩:=st
  simp only[List.mem_cons,List.not_mem_nil,or_false]at hb
  rcases hb with rfl | rfl | rfl | rfl | rfl
  .exact⟨_,hz,λv z=>by cases z⟩
  .exact⟨_,hTI,λv z=>by cases z⟩
  .exact⟨_,hTO,λv z=>by cases z⟩
  .exact yI h1
  .exact yI h2
 keep:=λi h h' st kk=>by
  obtain⟨hz,hTI,⟨a,c,hTO⟩,h1,h2⟩:=st
  exact⟨kk z (by simp) _ hz,kk TI (by simp) _ hTI,⟨a,c,kk TO (by simp) _ hTO⟩,xr h1 λo q=>kk i1 (by simp) o q,xr h2 λo q=>kk i2 (by simp) o q⟩
 item:=by
  intro X hP hw hK hc i pins s σ H E I hf st hg
  subst hP hw hK
  obtain⟨hz,hTI,⟨a,c,hTO⟩,h1,h2⟩:=st
  obtain⟨xs,ys,x,y,hq1,hq2,hx,hy⟩:=hg
  obtain⟨its,rv,p,_⟩:=I.sq hq1
  obtain⟨its2,rv2,p2,_⟩:=I.sq hq2
  obtain⟨u,hu,ru⟩:=rv.get hx
  obtain⟨u2,hu2,ru2⟩:=rv2.get hy
  have hl1:i < its.toArray.size:=by simpa using (List.getElem?_eq_some_iff.mp hu).1
  have hl2:i < its2.toArray.size:=by simpa using (List.getElem?_eq_some_iff.mp hu2).1
  have hh:X.A.in1.handled=none:=I.ok.hd hc
  refine v8 (x8 hh b1 i1 l1 n1 its.toArray) (x8 hh b2 i2 l2 n2 its2.toArray) ap hz hTI hTO ⟨h1,p⟩ ⟨h2,p2⟩ hl1 hl2 λv1 v2 h' tk e1 e2 hz' hTO' s1 s2 hT' hk=>?_
  have eu:v1=u:=by
   have:its[i]?=some v1:=by simpa using e1
   rw[hu]at this
   exact(Option.some.inj this).symm
  have eu2:v2=u2:=by
   have:its2[i]?=some v2:=by simpa using e2
   rw[hu2]at this
   exact(Option.some.inj this).symm
  subst eu eu2
  obtain⟨nd,az1,az2,ao1,ao2,a12,a21⟩:=ap
  simp only[List.nodup_cons,List.mem_cons,List.not_mem_nil,or_false,not_or,not_false_eq_true,List.nodup_nil,and_true]at nd
  obtain⟨⟨m1,m2,m3,m4⟩,⟨m5,m6,m7⟩,⟨m8,m9⟩,m10⟩:=nd
  refine⟨_,rfl,wpAny_letOwnedTupleGo_zip hz' λh2' hz2 hs2=>?_⟩
  have hfr:H s.heap.objs.size=none:=I.hok.fresh (Nat.le_refl _)
  have neZ:s.heap.objs.size≠z:=Nat.ne_of_gt (Heap.lt_size hz)
  have hT2:IsPair h2' s.heap.objs.size v1 v2:=(hs2.2 _ neZ).trans hT'
  have hTI':IsPair h' TI (.ref i1) (.ref i2):=hk TI _ (by simp[Ne.symm m1,m5,m6,m7]) hTI
  have lt:∀ b∈[z,TI,TO,i1,i2],b < s.heap.objs.size:=λb hb=>by
   simp only[List.mem_cons,List.not_mem_nil,or_false]at hb
   rcases hb with rfl | rfl | rfl | rfl | rfl
   .exact Heap.lt_size hz
   .exact Heap.lt_size hTI
   .exact Heap.lt_size hTO
   .obtain⟨o,ho,_⟩:=yI h1;exact Heap.lt_size ho
   .obtain⟨o,ho,_⟩:=yI h2;exact Heap.lt_size ho
  refine⟨.ref s.heap.objs.size,upd H s.heap.objs.size (.tup [x,y]),?_,rfl,⟨_,x,y,rfl,hfr,rfl,λzs hz=>by rw[I.sq_inj hz hq1];exact hx,λzs hz=>by rw[I.sq_inj hz hq2];exact hy⟩,
   ⟨hz2,(hs2.2 TI (Ne.symm m1)).trans hTI',⟨_,_,(hs2.2 TO (Ne.symm m2)).trans hTO'⟩,xr s1.1 λo q=>(hs2.2 i1 (Ne.symm m3)).trans q,xr s2.1 λo q=>(hs2.2 i2 (Ne.symm m4)).trans q⟩,λb hb=>?_⟩
  .refine I.grown (ch:=[z,TI,TO,i1,i2]) hf (Nat.le_refl _) (λb v hb q=>?_) ?_
   .have nb:b≠z:=λw=>hb (by simp[w])
    refine(hs2.2 b nb).trans (hk b v (λw=>hb ?_) q)
    simp only[List.mem_cons,List.not_mem_nil,or_false]at w ⊢
    rcases w with w | w | w | w
    .exact .inl w
    .exact .inr (.inr (.inl w))
    .exact .inr (.inr (.inr (.inl w)))
    .exact .inr (.inr (.inr (.inr w)))
   .exact⟨by show 2<=sizeLine;decide,[v1,v2],.cons ru (.cons ru2 .nil),⟨_,hT2,rfl,0,rfl⟩⟩
  .rw[zm (Nat.ne_of_lt (lt b hb))]
   exact(hf b hb).1
 done:=by
  intro X hP hw hK hc i pins s σ H E I hf st hg
  subst hP hw hK
  obtain⟨hz,hTI,⟨a,c,hTO⟩,h1,h2⟩:=st
  obtain⟨xs,hq,rfl⟩:=hg
  obtain⟨its,rv,p,_⟩:=I.sq hq
  have hl:=rv.length
  have hh:X.A.in1.handled=none:=I.ok.hd hc
  have D:=x8 (prog:=X.prog) (w:=X.w) hh b1 i1 l1 n1 its.toArray
  refine Yn D ap.z1 ?_ hz hTI ⟨by rw[List.size_toArray,<- hl];exact h1,p⟩ λh' hk=>⟨rfl,I.turnedN (ch:=[z,TI,TO,i1,i2]) (t':=s.toks) hf λb v hb q=>hk b v (λw=>hb (by simp[w])) (λw=>hb (by simp[w])) q⟩
  have nd:=ap.nd
  simp only[List.nodup_cons,List.mem_cons,List.not_mem_nil,or_false,not_or,not_false_eq_true,List.nodup_nil,and_true]at nd
  exact Ne.symm nd.1.2.2.1
 self:=λ_ _ _ _ _ st h=>wpAny_pyIter_zip st.1 h
noncomputable def iZip (K:W.Frag)(ta:TA):TI:=fun σ H R=>ta σ H λvs H1=>∃ b1 b2 l1 l2 xs ys,vs=[.ref l1,.ref l2]/\Sq b1 K H1 l1 xs/\Sq b2 K H1 l2 ys/\R (Izp K b1 b2 l1 l2) H1
theorem zj5 {X:Cx} {es:List Expr} {k:Nat} {tp:Pos} {a b:Expr} {ta:TA} {p pos:Pos} (hg:Gl X "zip") (hm:X.mg "zip"=none) (hb:bootBuiltins "zip"=some (.type "zip")) (ha:PA X [a,b] ta)
 (hs:starEach [a,b] X.env=[(false,eval a X.env),(false,eval b X.env)]:=by rfl) (hs2:starEach [b] X.env=[(false,eval b X.env)]:=by rfl):PI X (.Tuple es k tp) (.Call (.Name "zip" p) [a,b] [] pos) (iZip X.K ta):=by
 intro pins s σ H R I h
 refine Call_ (Yx I hg hm hb (PyProof.Rows.callWith_type1 (thn (ha pos pins s σ H _ I h) λus s1 hh9=>?_) (by rw[hs,hs2]) (by rw[hs2];rfl)))
 obtain⟨vs,H1,I1,r1,q1⟩:=hh9
 obtain⟨b1,b2,l1,l2,xs,ys,e,hq1,hq2,q⟩:=q1
 subst e
 obtain⟨u,u2,rfl,ru,ru2⟩:=zcv r1
 cases ru
 cases ru2
 obtain⟨its,rv,p1,lt1⟩:=I1.sq hq1
 obtain⟨its2,rv2,p2,lt2⟩:=I1.sq hq2
 refine Vf p1 p2 λh2 hz hTI hTO hi1 hi2 hk=>wpAny_pyIter_zip hz ?_
 have hn:∀ b,s1.heap.objs.size<=b->zco X pins H1 b:=λb hb=>I1.fpOk hb (I1.hok.fresh hb)
 have ap:zeT (s1.heap.objs.size+4) (s1.heap.objs.size+2) (s1.heap.objs.size+3) s1.heap.objs.size (s1.heap.objs.size+1) [s1.heap.objs.size,l1] [s1.heap.objs.size+1,l2]:=by
  have q1:l1≠s1.heap.objs.size:=Nat.ne_of_lt lt1
  have q2:∀ j:Nat,s1.heap.objs.size+j≠l1:=λj e=>Nat.lt_irrefl _ (Nat.lt_of_lt_of_le (by rw[<-e]at lt1;exact lt1) (Nat.le_add_right _ _))
  have q3:∀ j:Nat,s1.heap.objs.size+j≠l2:=λj e=>Nat.lt_irrefl _ (Nat.lt_of_lt_of_le (by rw[<-e]at lt2;exact lt2) (Nat.le_add_right _ _))
  have ne:∀ i j:Nat,i≠j->s1.heap.objs.size+i≠s1.heap.objs.size+j:=λi j h e=>h (Nat.add_left_cancel e)
  have n0:∀ i:Nat,i≠0->s1.heap.objs.size+i≠s1.heap.objs.size:=λi h e=>h (Nat.add_left_cancel (n:=s1.heap.objs.size) (m:=i) (k:=0) e)
  refine⟨?_,?_,?_,?_,?_,?_,?_⟩
  .simp only[List.nodup_cons,List.mem_cons,List.not_mem_nil,or_false,not_or,not_false_eq_true,List.nodup_nil,and_true]
   exact⟨⟨ne 4 2 (by decide),ne 4 3 (by decide),n0 4 (by decide),ne 4 1 (by decide)⟩,⟨ne 2 3 (by decide),n0 2 (by decide),ne 2 1 (by decide)⟩,⟨n0 3 (by decide),ne 3 1 (by decide)⟩,Ne.symm (n0 1 (by decide))⟩
  .simp only[List.mem_cons,List.not_mem_nil,or_false,not_or];exact⟨n0 4 (by decide),q2 4⟩
  .simp only[List.mem_cons,List.not_mem_nil,or_false,not_or];exact⟨ne 4 1 (by decide),q3 4⟩
  .simp only[List.mem_cons,List.not_mem_nil,or_false,not_or];exact⟨n0 3 (by decide),q2 3⟩
  .simp only[List.mem_cons,List.not_mem_nil,or_false,not_or];exact⟨ne 3 1 (by decide),q3 3⟩
  .simp only[List.mem_cons,List.not_mem_nil,or_false,not_or];exact⟨Ne.symm (n0 1 (by decide)),q3 0⟩
  .simp only[List.mem_cons,List.not_mem_nil,or_false,not_or];exact⟨n0 1 (by decide),q2 1⟩
 refine⟨_,_,_,_,H1,rfl,I1.kept (t':=s1.toks) hk,zfK b1 b2 l1 l2 _ _ _ _ _ ap (Nat.ne_of_lt lt1) (Nat.ne_of_lt (Nat.lt_succ_of_lt lt2)),⟨hz,hTI,⟨_,_,hTO⟩,hi1,hi2⟩,λb hb=>?_,q⟩
 simp only[List.mem_cons,List.not_mem_nil,or_false]at hb
 rcases hb with rfl | rfl | rfl | rfl | rfl
 .exact hn _ (Nat.le_add_right _ _)
 .exact hn _ (Nat.le_add_right _ _)
 .exact hn _ (Nat.le_add_right _ _)
 .exact hn _ (Nat.le_refl _)
 .exact hn _ (Nat.le_add_right _ _)
end L2
namespace OwnSort
open PySem PyProof.Rows
section pure
variable {κ:KeyKind}{xs:Array Keyed}
theorem turned {n:Nat}(hn:n<=xs.size)(h:NonIncK κ xs n):SortedToK κ (mirror xs 0 n ((n - 0) / 2)) n:=λi j hij hj=>by
 rw[KK_mirror hn,KK_mirror hn,if_pos ⟨by omega,by omega⟩,if_pos ⟨by omega,by omega⟩]
 exact h _ _ (by omega) (by omega)
end pure
noncomputable abbrev Pr:=Int × Int
noncomputable def bltP (s t:Pr):Bool:=decide (s.1 < t.1\/(s.1=t.1/\s.2 < t.2))
noncomputable def TP (h:Heap) (v:Value) (t:Pr):Prop:=∃ a o n tx ty,v=.ref a/\h.get? a=some o/\o.cls=.type "tuple"/\o.data=.seq #[.int t.1 tx,.int t.2 ty] n
theorem TP.uniq {h:Heap}{v:Value}{s t:Pr}(x:TP h v s)(y:TP h v t):s=t:=by
 obtain⟨a,o,n,tx,ty,rfl,e1,_,d1⟩:=x
 obtain⟨b,o2,n2,ux,uy,e,e2,_,d2⟩:=y
 cases e
 rw[e1]at e2
 cases e2
 rw[d1]at d2
 injection d2 with d2 _
 have:=congrArg Array.toList d2
 simp at this
 exact Prod.ext this.1.1 this.2.1
theorem TP.keep {h h':Heap}{v:Value}{t:Pr}(x:TP h v t)(k:∀ b o,h.get? b=some o->h'.get? b=some o):TP h' v t:=by
 obtain⟨a,o,n,tx,ty,e,e1,r⟩:=x
 exact⟨a,o,n,tx,ty,e,k _ _ e1,r⟩
open Classical in
noncomputable def keyP (h:Heap)(v:Value):Option Pr:=if x:∃ t,TP h v t then some x.choose else none
theorem keyP_of {h:Heap}{v:Value}{t:Pr}(x:TP h v t):keyP h v=some t:=by
 unfold keyP
 have y:∃ t,TP h v t:=⟨t,x⟩
 rw[dif_pos y,y.choose_spec.uniq x]
@[reducible] noncomputable def kindP (h:Heap):KeyKind where
 α:=Pr
 blt:=bltP
 irrefl a:=by unfold bltP;exact decide_eq_false (by omega)
 trans a b c h1 h2:=by unfold bltP at *;rw[decide_eq_true_eq]at *;omega
 negTrans a b c h:=by unfold bltP at *;rw[decide_eq_true_eq]at *;rw[decide_eq_true_eq];omega
 total a b h1 h2:=by
  unfold bltP at *
  rw[decide_eq_false_iff_not]at *
  exact Prod.ext (by omega) (by omega)
 keyOf:=keyP h
 dflt:=(0,0)
theorem zcO (b:Bool)(x y:Value):keyLt' (tuples' b) x y=(do
 let xs<-Builtin.List.listItems x
 let ys<-Builtin.List.listItems y
 for ((p,q),i)in (xs.toList.zip ys.toList).zipIdx do
  if !(<- eqBool p q)then return<-oneLt' (b&&i == 0) p q
 return xs.size < ys.size):=rfl
theorem zeh (v:Value):firstOfTuple' v=(do
 if (<- typeOf v) != .type "tuple" then return none
 return (<- Builtin.List.listItems v)[0]?):=rfl
section
variable {prog:Program}{w:World}{A:Around}{E:Value->Shared->Prop}{s:Shared}
theorem lt0 {a b:Int}{t u:Tok}{Q:Bool->Shared->Prop}(h:Q (decide (a < b)) s):wpAny (model prog w) A (oneLt' false (.int a t) (.int b u)) Q E s:=by
 rw[oneLt'_eq]
 rw[if_neg Bool.false_ne_true]
 exact wpAny_bind (PyProof.Rows.lt_int (wpAny_truthy_bool h))
theorem zbn:∀ {fs:List Value},(∀ f∈fs,∃ i t,f=.int i t)->fs.mapM typeOf=pure (fs.map λ_=>Value.type "int")
 | [],_=>by simp
 | f::fs,h=>by
  obtain⟨i,t,rfl⟩:=h f List.mem_cons_self
  rw[List.mapM_cons,zbn λg hg=>h g (List.mem_cons_of_mem _ hg),show typeOf (.int i t)=pure (.type "int")from rfl]
  simp
end
end OwnSort
namespace OwnTim
open PySem PyProof.Rows
noncomputable abbrev SM:=StateT SortSt Sem
noncomputable def gal:Bool->Keyed->Array Keyed->Nat->Nat->Nat->SM (Option Nat):=sortPriv% PySem.Builtin.gallop
noncomputable def bey (l:Bool)(q:Keyed)(v:Array Keyed)(b i:Nat):SM (Option Bool):=do
 let x<-elem' v (b+i)
 if l then lt' x q else
  return (<- lt' q x).map (!·)
noncomputable def zb8 (l:Bool)(q:Keyed)(v:Array Keyed)(b n x0 y0:Nat):SM (Option Nat):=do
 let mut x:=x0
 let mut y:=y0
 for _ in [0:n] do
  if x >= y then break
  let c:=x+(y - x) / 2
  let some z<-bey l q v b c | return none
  if z then x:=c+1 else y:=c
 return some y
theorem ziH (l:Bool)(q:Keyed)(v:Array Keyed)(b n t:Nat):gal l q v b n t=(do
 let some r<-bey l q v b t | return none
 let mut u:=0
 let mut o:=1
 if r then
  let w:=n - t
  for _ in [0:n] do
   if o >= w then break
   let some z<-bey l q v b (t+o) | return none
   if !z then break
   u:=o
   o:=2*o+1
  zb8 l q v b n (t+u+1) (t+min o w)
 else
  let w:=t+1
  for _ in [0:n] do
   if o >= w then break
   let some z<-bey l q v b (t - o) | return none
   if z then break
   u:=o
   o:=2*o+1
  zb8 l q v b n (t+1 - min o w) (t - u)):=rfl
section
variable {prog:Program}{w:World}{A:Around}{E:Value->Shared->Prop}{s:Shared}{st:SortSt}
theorem zd7 {l:Bool}{q:Keyed}{v:Array Keyed}{b n t:Nat}{f:Nat->Bool}{P:Option Nat->SortSt->Prop}(BY:∀ i,i < n->∀ Q:Option Bool->SortSt->Prop,Q (some (f i)) st->wpS (model prog w) A E s (bey l q v b i) Q st)
 (hm:∀ i j,i<=j->j < n->f j=true->f i=true) (ht:t < n) (h:∀ k,k<=n->(∀ i,i < k->f i=true)->(∀ i,k<=i->i < n->f i=false)->P (some k) st):wpS (model prog w) A E s (gal l q v b n t) P st:=by
 have hm':∀ i j,i<=j->j < n->f i=false->f j=false:=λi j hij hj hf=>by
  cases e:f j with
  | false=>rfl
  | true=>rw[hm i j hij hj e]at hf;cases hf
 rw[ziH]
 dsimp only
 have last:∀ x y:Nat,x<=y->y<=n->(∀ i,i < x->f i=true)->(∀ i,y<=i->i < n->f i=false)->wpS (model prog w) A E s (zb8 l q v b n x y) P st:=λx y hxy hy h1 h2=>by
  unfold zb8
  dsimp only
  refine wpS_bind (wpS_mono (wpS_forRange (I:=λi c t'=>t'=st/\∃ x y,c=(none,x,y)/\x<=y/\y<=n/\y - x<=n - i/\(∀ i,i < x->f i=true)/\∀ i,y<=i->i < n->f i=false) (Q:=λc t'=>t'=st/\∃ y,c=(none,y,y)/\y<=n/\(∀ i,i < y->f i=true)/\∀ i,y<=i->i < n->f i=false)
   (λi c t' _ hi hI=>?_) (λc t' hI=>?_) ⟨rfl,x,y,rfl,hxy,hy,by omega,h1,h2⟩) λc t' hI=>?_)
  .obtain⟨rfl,x,y,rfl,a1,a2,a3,a4,a5⟩:=hI
   dsimp only
   by_cases c1:x >= y
   .rw[if_pos c1]
    obtain rfl:x=y:=by omega
    exact wpS_pure ⟨rfl,x,rfl,a2,a4,a5⟩
   .rw[if_neg c1]
    obtain⟨c,hc⟩:∃ c,x+(y - x) / 2=c:=⟨_,rfl⟩
    rw[hc]
    have c2:x<=c/\c < y:=by omega
    refine wpS_bind (BY c (by omega) _ ?_)
    dsimp only
    cases e:f c with
    | true =>
     rw[if_pos rfl]
     exact wpS_pure ⟨rfl,c+1,y,rfl,by omega,a2,by omega,λj hj=>hm j c (by omega) (by omega) e,a5⟩
    | false =>
     rw[if_neg Bool.false_ne_true]
     exact wpS_pure ⟨rfl,x,c,rfl,by omega,by omega,by omega,a4,λj hj hn=>hm' c j hj hn e⟩
  .obtain⟨rfl,x,y,rfl,a1,a2,a3,a4,a5⟩:=hI
   obtain rfl:x=y:=by omega
   exact⟨rfl,x,rfl,a2,a4,a5⟩
  .obtain⟨rfl,y,rfl,a2,a4,a5⟩:=hI
   exact wpS_pure (h y a2 a4 a5)
 refine wpS_bind (BY t ht _ ?_)
 dsimp only
 cases e:f t with
 | true =>
  rw[if_pos rfl]
  refine wpS_bind (wpS_mono (wpS_forRange (I:=λi c t'=>t'=st/\∃ u o,c=(none,u,o)/\t+u < n/\u+1<=o/\i+1<=o/\f (t+u)=true) (Q:=λc t'=>t'=st/\∃ u o,c=(none,u,o)/\t+u < n/\u+1<=o/\f (t+u)=true/\(n - t<=o\/(t+o < n/\f (t+o)=false)))
   (λi c t' _ hi hI=>?_) (λc t' hI=>?_) ⟨rfl,0,1,rfl,ht,by omega,by omega,e⟩) λc t' hI=>?_)
  .obtain⟨rfl,u,o,rfl,a1,a2,a3,a4⟩:=hI
   dsimp only
   by_cases c1:o >= n - t
   .rw[if_pos c1]
    exact wpS_pure ⟨rfl,u,o,rfl,a1,a2,a4,.inl c1⟩
   .rw[if_neg c1]
    refine wpS_bind (BY (t+o) (by omega) _ ?_)
    dsimp only
    cases e2:f (t+o) with
    | false=>exact wpS_pure ⟨rfl,u,o,rfl,a1,a2,a4,.inr ⟨by omega,e2⟩⟩
    | true=>exact wpS_pure ⟨rfl,o,2*o+1,rfl,by omega,by omega,by omega,e2⟩
  .obtain⟨rfl,u,o,rfl,a1,a2,a3,a4⟩:=hI
   exact⟨rfl,u,o,rfl,a1,a2,a4,.inl (by omega)⟩
  .obtain⟨rfl,u,o,rfl,a1,a2,a4,a5⟩:=hI
   have e3:min o (n - t)<=n - t:=Nat.min_le_right _ _
   have e5:u+1<=min o (n - t):=Nat.le_min.mpr ⟨a2,by omega⟩
   have e6:(min o (n - t)=n - t/\n - t<=o)\/(min o (n - t)=o/\t+o < n/\f (t+o)=false):=by
    rcases a5 with a5 | a5
    .exact .inl ⟨Nat.min_eq_right a5,a5⟩
    .exact .inr ⟨Nat.min_eq_left (by omega),a5⟩
   dsimp only
   refine last (t+u+1) (t+min o (n - t)) (by omega) (by omega) (λi hi=>hm i (t+u) (by omega) a1 a4) λi hi hn=>?_
   rcases e6 with ⟨a5,_⟩ | ⟨a5,a6,a7⟩
   .rw[a5]at hi
    omega
   .rw[a5]at hi
    exact hm' (t+o) i hi hn a7
 | false =>
  rw[if_neg Bool.false_ne_true]
  refine wpS_bind (wpS_mono (wpS_forRange (I:=λi c t'=>t'=st/\∃ u o,c=(none,u,o)/\u<=t/\u+1<=o/\i+1<=o/\f (t - u)=false) (Q:=λc t'=>t'=st/\∃ u o,c=(none,u,o)/\u<=t/\u+1<=o/\f (t - u)=false/\(t+1<=o\/(o<=t/\f (t - o)=true)))
   (λi c t' _ hi hI=>?_) (λc t' hI=>?_) ⟨rfl,0,1,rfl,by omega,by omega,by omega,e⟩) λc t' hI=>?_)
  .obtain⟨rfl,u,o,rfl,a1,a2,a3,a4⟩:=hI
   dsimp only
   by_cases c1:o >= t+1
   .rw[if_pos c1]
    exact wpS_pure ⟨rfl,u,o,rfl,a1,a2,a4,.inl c1⟩
   .rw[if_neg c1]
    refine wpS_bind (BY (t - o) (by omega) _ ?_)
    dsimp only
    cases e2:f (t - o) with
    | true=>exact wpS_pure ⟨rfl,u,o,rfl,a1,a2,a4,.inr ⟨by omega,e2⟩⟩
    | false=>exact wpS_pure ⟨rfl,o,2*o+1,rfl,by omega,by omega,by omega,e2⟩
  .obtain⟨rfl,u,o,rfl,a1,a2,a3,a4⟩:=hI
   exact⟨rfl,u,o,rfl,a1,a2,a4,.inl (by omega)⟩
  .obtain⟨rfl,u,o,rfl,a1,a2,a4,a5⟩:=hI
   have e3:min o (t+1)<=t+1:=Nat.min_le_right _ _
   have e5:u+1<=min o (t+1):=Nat.le_min.mpr ⟨a2,by omega⟩
   have e6:min o (t+1)=t+1\/(min o (t+1)=o/\o<=t/\f (t - o)=true):=by
    rcases a5 with a5 | a5
    .exact .inl (Nat.min_eq_right a5)
    .exact .inr ⟨Nat.min_eq_left (by omega),a5⟩
   dsimp only
   refine last (t+1 - min o (t+1)) (t - u) (by omega) (by omega) (λi hi=>?_) λi hi hn=>hm' (t - u) i hi hn a4
   rcases e6 with a5 | ⟨a5,a6,a7⟩
   .rw[a5]at hi
    omega
   .rw[a5]at hi
    exact hm i (t - o) (by omega) (by omega) a7
end
structure WI {α:Type} (R:α->α->Prop) (xs ys o:List α) (i j:Nat):Prop where
 pi:i<=xs.length
 pj:j<=ys.length
 pm:o.Perm (xs.take i++ys.take j)
 so:o.Pairwise R
 bx:∀ z∈o,∀ x∈xs.drop i,R z x
 by_:∀ z∈o,∀ y∈ys.drop j,R z y
section
variable {α:Type}{R:α->α->Prop}{xs ys o:List α}{i j k:Nat}
theorem WI.swap (w:WI R xs ys o i j):WI R ys xs o j i:=⟨w.pj,w.pi,w.pm.trans List.perm_append_comm,w.so,w.by_,w.bx⟩
theorem WI.runA (w:WI R xs ys o i j)(sx:xs.Pairwise R)(hk:i+k<=xs.length)(h:∀ x∈(xs.drop i).take k,∀ y∈ys.drop j,R x y):WI R xs ys (o++(xs.drop i).take k) (i+k) j:=by
 have hs:(xs.drop i).Pairwise R:=sx.sublist (List.drop_sublist _ _)
 have hd:xs.drop (i+k)=(xs.drop i).drop k:=by rw[List.drop_drop]
 refine⟨hk,w.pj,?_,?_,λz hz x hx=>?_,λz hz y hy=>?_⟩
 .rw[List.take_add]
  refine(w.pm.append_right _).trans ?_
  rw[List.append_assoc,List.append_assoc]
  exact List.Perm.append_left _ List.perm_append_comm
 .rw[List.pairwise_append]
  exact⟨w.so,hs.sublist (List.take_sublist _ _),λa ha b hb=>w.bx a ha b (List.mem_of_mem_take hb)⟩
 .rw[hd]at hx
  rcases List.mem_append.mp hz with hz | hz
  .exact w.bx z hz x (List.mem_of_mem_drop hx)
  .have e:=List.take_append_drop k (xs.drop i)
   rw[<-e,List.pairwise_append]at hs
   exact hs.2.2 z hz x hx
 .rcases List.mem_append.mp hz with hz | hz
  .exact w.by_ z hz y hy
  .exact h z hz y hy
theorem WI.runB (w:WI R xs ys o i j)(sy:ys.Pairwise R)(hk:j+k<=ys.length)(h:∀ y∈(ys.drop j).take k,∀ x∈xs.drop i,R y x):WI R xs ys (o++(ys.drop j).take k) i (j+k):=(w.swap.runA sy hk h).swap
theorem zi0 {l:List α}{x:α}{i:Nat}(h:l[i]?=some x):(l.drop i).take 1=[x]:=by
 obtain⟨hi,rfl⟩:=List.getElem?_eq_some_iff.mp h
 rw[List.drop_eq_getElem_cons hi]
 rfl
theorem WI.pushA {x:α}(w:WI R xs ys o i j)(sx:xs.Pairwise R)(hx:xs[i]?=some x)(h:∀ y∈ys.drop j,R x y):WI R xs ys (o++[x]) (i+1) j:=by
 have hi:=(List.getElem?_eq_some_iff.mp hx).1
 have:=w.runA (k:=1) sx (by omega) (by rw[zi0 hx];intro z hz y hy;rw[List.mem_singleton.mp hz];exact h y hy)
 rw[zi0 hx]at this
 exact this
theorem WI.pushB {y:α}(w:WI R xs ys o i j)(sy:ys.Pairwise R)(hy:ys[j]?=some y)(h:∀ x∈xs.drop i,R y x):WI R xs ys (o++[y]) i (j+1):=(w.swap.pushA sy hy h).swap
theorem WI.done (w:WI R xs ys o i j)(sx:xs.Pairwise R)(sy:ys.Pairwise R)(h:∀ x∈xs.drop i,∀ y∈ys.drop j,R x y):(o++xs.drop i++ys.drop j).Perm (xs++ys)/\(o++xs.drop i++ys.drop j).Pairwise R:=by
 constructor
 .have e1:=List.take_append_drop i xs
  have e2:=List.take_append_drop j ys
  have p:(o++xs.drop i++ys.drop j).Perm (xs.take i++ys.take j++xs.drop i++ys.drop j):=(w.pm.append_right _).append_right _
  refine p.trans ?_
  have q:(xs.take i++ys.take j++xs.drop i++ys.drop j).Perm (xs.take i++xs.drop i++(ys.take j++ys.drop j)):=by
   rw[List.append_assoc (xs.take i),List.append_assoc (xs.take i),List.append_assoc (xs.take i)]
   refine List.Perm.append_left _ ?_
   rw[<-List.append_assoc]
   exact List.perm_append_comm.append_right _
  rw[e1,e2]at q
  exact q
 .rw[List.pairwise_append,List.pairwise_append]
  refine⟨⟨w.so,sx.sublist (List.drop_sublist _ _),w.bx⟩,sy.sublist (List.drop_sublist _ _),λa ha b hb=>?_⟩
  rcases List.mem_append.mp ha with ha | ha
  .exact w.by_ a ha b hb
  .exact h a ha b hb
theorem Xp (hr:∀ a:α,R a a)(sx:xs.Pairwise R){x:α}(hx:xs[i]?=some x):∀ z∈xs.drop i,R x z:=by
 obtain⟨hi,rfl⟩:=List.getElem?_eq_some_iff.mp hx
 intro z hz
 have hs:(xs.drop i).Pairwise R:=sx.sublist (List.drop_sublist _ _)
 rw[List.drop_eq_getElem_cons hi]at hs hz
 rcases List.mem_cons.mp hz with rfl | hz
 .exact hr _
 .exact(List.pairwise_cons.mp hs).1 z hz
end
noncomputable def mlo:Array Keyed->Array Keyed->SM (Array Keyed):=sortPriv% PySem.Builtin.mergeLo
noncomputable def Vi:Nat->SM Unit:=sortPriv% PySem.Builtin.setMinGallop
theorem zf2 (g:Nat):Vi g=modify λs=>SortSt.mk' (kindOf s) (arrOf s) (pendingOf s) g (failedOf s):=rfl
noncomputable abbrev KA:=Array Keyed
noncomputable abbrev Z1:=Option KA × KA × Nat × Nat × Nat × Nat
noncomputable abbrev Z2:=Option KA × KA × Nat × Nat × Nat × Nat × Nat
noncomputable abbrev Z3:=Option KA × KA × Nat × Nat × Nat
noncomputable abbrev dn (v u o:KA)(i j:Nat):KA:=o++v.extract i v.size++u.extract j u.size
noncomputable abbrev ls (v u o:KA)(i j:Nat):KA:=o++u.extract j u.size++v.extract i v.size
noncomputable def zkO (v u:KA)(g:Nat)(z:Z1):SM (ForInStep Z1):=do
 let e<-elem' u z.2.2.2.1
 let f<-elem' v z.2.2.1
 let some b<-lt' e f | pure (.done (some (dn v u z.2.1 z.2.2.1 z.2.2.2.1),z.2.1,z.2.2.1,z.2.2.2.1,z.2.2.2.2.1,z.2.2.2.2.2))
 if b=true then do
  let e<-elem' u z.2.2.2.1
  if (z.2.2.2.1+1 == u.size)=true then pure (.done (some (dn v u (z.2.1.push e) z.2.2.1 (z.2.2.2.1+1)),z.2.1.push e,z.2.2.1,z.2.2.2.1+1,0,z.2.2.2.2.2+1))
  else if z.2.2.2.2.2+1 >= g then pure (.done (none,z.2.1.push e,z.2.2.1,z.2.2.2.1+1,0,z.2.2.2.2.2+1))
  else pure (.yield (none,z.2.1.push e,z.2.2.1,z.2.2.2.1+1,0,z.2.2.2.2.2+1))
 else do
  let f<-elem' v z.2.2.1
  if (z.2.2.1+1+1 == v.size)=true then pure (.done (some (ls v u (z.2.1.push f) (z.2.2.1+1) z.2.2.2.1),z.2.1.push f,z.2.2.1+1,z.2.2.2.1,z.2.2.2.2.1+1,0))
  else if z.2.2.2.2.1+1 >= g then pure (.done (none,z.2.1.push f,z.2.2.1+1,z.2.2.2.1,z.2.2.2.2.1+1,0))
  else pure (.yield (none,z.2.1.push f,z.2.2.1+1,z.2.2.2.1,z.2.2.2.2.1+1,0))
noncomputable def loC (v u o:KA)(i j g c d:Nat):SM (ForInStep Z2):=do
 let f<-elem' v i
 if (i+1+1 == v.size)=true then pure (.done (some (ls v u (o.push f) (i+1) j),o.push f,i+1,j,g,c,d))
 else if (decide (c < 7)&&decide (d < 7))=true then pure (.done (none,o.push f,i+1,j,g,c,d))
 else pure (.yield (none,o.push f,i+1,j,g,c,d))
noncomputable def loB (v u o:KA)(i j g c d:Nat):SM (ForInStep Z2):=do
 let e<-elem' u j
 if (j+1 == u.size)=true then pure (.done (some (dn v u (o.push e) i (j+1)),o.push e,i,j+1,g,c,d))
 else do
  let f<-elem' v i
  let some k<-gal true f u (j+1) (u.size - (j+1)) 0 | pure (.done (some (dn v u (o.push e) i (j+1)),o.push e,i,j+1,g,c,d))
  if k > 0 then
   if (j+1+k == u.size)=true then pure (.done (some (dn v u (o.push e++u.extract (j+1) (j+1+k)) i (j+1+k)),o.push e++u.extract (j+1) (j+1+k),i,j+1+k,g,c,k))
   else loC v u (o.push e++u.extract (j+1) (j+1+k)) i (j+1+k) g c k
  else loC v u (o.push e) i (j+1) g c k
noncomputable def loA (v u o:KA)(i j g c d:Nat):SM (ForInStep Z2):=do
 Vi g
 let e<-elem' u j
 let some k<-gal false e v i (v.size - i) 0 | pure (.done (some (dn v u o i j),o,i,j,g,c,d))
 if k > 0 then
  if (i+k+1 == v.size)=true then pure (.done (some (ls v u (o++v.extract i (i+k)) (i+k) j),o++v.extract i (i+k),i+k,j,g,k,d))
  else if (i+k == v.size)=true then pure (.done (some (dn v u (o++v.extract i (i+k)) (i+k) j),o++v.extract i (i+k),i+k,j,g,k,d))
  else loB v u (o++v.extract i (i+k)) (i+k) j g k d
 else loB v u o i j g k d
noncomputable def zkB (v u:KA)(z:Z2):SM (ForInStep Z2) :=
 if z.2.2.2.2.1 > 1 then loA v u z.2.1 z.2.2.1 z.2.2.2.1 (z.2.2.2.2.1 - 1) z.2.2.2.2.2.1 z.2.2.2.2.2.2
 else loA v u z.2.1 z.2.2.1 z.2.2.2.1 z.2.2.2.2.1 z.2.2.2.2.2.1 z.2.2.2.2.2.2
noncomputable def zkN (v u:KA)(z:Z3):SM (ForInStep Z3):=do
 let y<-forIn [0:v.size+u.size] ((none,z.2.1,z.2.2.1,z.2.2.2.1,0,0):Z1) λ_ q=>zkO v u z.2.2.2.2 q
 match y.1 with
 | some r=>pure (.done (some r,y.2.1,y.2.2.1,y.2.2.2.1,z.2.2.2.2))
 | none=>do
  rule "list.sort.gallop"
  let x<-forIn [0:v.size+u.size] ((none,y.2.1,y.2.2.1,y.2.2.2.1,z.2.2.2.2+1,y.2.2.2.2.1,y.2.2.2.2.2):Z2) λ_ q=>zkB v u q
  match x.1 with
  | some r=>pure (.done (some r,x.2.1,x.2.2.1,x.2.2.2.1,x.2.2.2.2.1))
  | none=>do
   Vi (x.2.2.2.2.1+1)
   pure (.yield (none,x.2.1,x.2.2.1,x.2.2.2.1,x.2.2.2.2.1+1))
theorem ziV (v u:KA):mlo v u=(do
 rule "list.sort.merge-lo"
 let e<-elem' u 0
 if (1 == u.size)=true then pure (dn v u #[e] 0 1)
 else if (0+1 == v.size)=true then pure (ls v u #[e] 0 1)
 else do
  let g<-get
  let z<-forIn [0:v.size+u.size] ((none,#[e],0,1,gallopOf g):Z3) λ_ q=>zkN v u q
  match z.1 with
  | some r=>pure r
  | none=>(unsupported ("internal:list.sort.merge-bound"))):=by
 show @bind SM _ _ _ _ _=_
 dsimp only[zkN,zkB,loA,loB,loC,zkO,elem',lt',gal,Vi,gallopOf]
 congr 1;funext _;congr 1;funext e
 congr 1;congr 1;congr 1;funext g;congr 1
 .congr 1;funext _ z;congr 1
  funext x
  obtain⟨r,x⟩:=x
  cases r with
  | some r=>rfl
  | none =>
   dsimp only
   congr 1;funext _;congr 1
   funext y;obtain⟨r,y⟩:=y;cases r <;> rfl
 .funext y;obtain⟨r,y⟩:=y;cases r <;> rfl
noncomputable def ky (κ:KeyKind)(x:Keyed):κ.α:=(κ.keyOf x.1).getD κ.dflt
noncomputable def LE (κ:KeyKind)(x y:Keyed):Prop:=κ.kle (ky κ x) (ky κ y)
theorem LE.refl {κ:KeyKind}(x:Keyed):LE κ x x:=KeyOrd.kle_refl _
theorem LE.trans {κ:KeyKind}{x y z:Keyed}(h:LE κ x y)(h2:LE κ y z):LE κ x z:=KeyOrd.kle_trans h h2
noncomputable def LtE (prog:Program)(w:World)(A:Around)(E:Value->Shared->Prop)(s:Shared)(κ:KeyKind)(k:SortKind)(D:Keyed->Prop):Prop :=
 ∀ (st:SortSt) (x y:Keyed) (Q:Option Bool->SortSt->Prop),kindOf st=k->D x->D y->Q (some (κ.blt (ky κ x) (ky κ y))) st->wpS (model prog w) A E s (lt' x y) Q st
structure Sm (st t:SortSt):Prop where
 kd:kindOf t=kindOf st
 ar:arrOf t=arrOf st
 pd:pendingOf t=pendingOf st
 fl:failedOf t=failedOf st
theorem Sm.refl (st:SortSt):Sm st st:=⟨rfl,rfl,rfl,rfl⟩
theorem Sm.trans {a b c:SortSt}(h:Sm a b)(h2:Sm b c):Sm a c:=⟨h2.kd.trans h.kd,h2.ar.trans h.ar,h2.pd.trans h.pd,h2.fl.trans h.fl⟩
section
variable {prog:Program}{w:World}{A:Around}{E:Value->Shared->Prop}{s:Shared}{st:SortSt}{κ:KeyKind}{k:SortKind}{D:Keyed->Prop}
theorem zJ {v:KA}{i:Nat}{x:Keyed}{Q:Keyed->SortSt->Prop}(h:v.toList[i]?=some x)(q:Q x st):wpS (model prog w) A E s (elem' v i) Q st:=by
 rw[elem'_eq,show v[i]?=some x by rw[<-h];simp]
 exact wpS_pure q
theorem YA {g:Nat}{Q:Unit->SortSt->Prop}(h:∀ t,Sm st t->Q () t):wpS (model prog w) A E s (Vi g) Q st:=by
 rw[zf2]
 exact wpS_modify (h _ ⟨rfl,rfl,rfl,rfl⟩)
theorem Y0 {xs:List Keyed}{b n i:Nat}(hi:i < n)(hn:b+n<=xs.length):∃ x,xs[b+i]?=some x/\((xs.drop b).take n)[i]?=some x:=by
 have:b+i < xs.length:=by omega
 refine⟨xs[b+i],List.getElem?_eq_getElem this,?_⟩
 rw[List.getElem?_take_of_lt hi,List.getElem?_drop,List.getElem?_eq_getElem this]
theorem wN {α:Type}{l:List α}{k:Nat}{x:α}(h:x∈l.take k):∃ i,i < k/\l[i]?=some x:=by
 obtain⟨i,hi⟩:=List.mem_iff_getElem?.mp h
 by_cases c:i < k
 .exact⟨i,c,by rw[<-hi,List.getElem?_take_of_lt c]⟩
 .rw[List.getElem?_eq_none (by rw[List.length_take];omega)]at hi
  cases hi
theorem v4 {α:Type}{l:List α}{k:Nat}{x:α}(h:x∈l.drop k):∃ i,k<=i/\l[i]?=some x:=by
 obtain⟨i,hi⟩:=List.mem_iff_getElem?.mp h
 rw[List.getElem?_drop]at hi
 exact⟨k+i,by omega,hi⟩
theorem WE {l:List Keyed}(sx:l.Pairwise (LE κ)){i j:Nat}{x y:Keyed}(hij:i<=j)(hx:l[i]?=some x)(hy:l[j]?=some y):LE κ x y:=by
 by_cases e:i=j
 .subst e
  rw[hx]at hy
  cases hy
  exact LE.refl _
 .obtain⟨h1,rfl⟩:=List.getElem?_eq_some_iff.mp hx
  obtain⟨h2,rfl⟩:=List.getElem?_eq_some_iff.mp hy
  exact List.pairwise_iff_getElem.mp sx i j h1 h2 (by omega)
theorem Wp {q:Keyed}{v:KA}{b n t:Nat}{P:Option Nat->SortSt->Prop}(L:LtE prog w A E s κ k D)(hk:kindOf st=k)(hq:D q)(hd:∀ x∈(v.toList.drop b).take n,D x)(hn:b+n<=v.toList.length)(ht:t < n)(sx:((v.toList.drop b).take n).Pairwise (LE κ))
 (h:∀ m,m<=n->(∀ x∈((v.toList.drop b).take n).take m,LE κ x q)->(∀ x∈((v.toList.drop b).take n).drop m,κ.klt (ky κ q) (ky κ x))->P (some m) st):wpS (model prog w) A E s (gal false q v b n t) P st:=by
 let f:Nat->Bool:=λi=>match ((v.toList.drop b).take n)[i]? with
  | some x=>!(κ.blt (ky κ q) (ky κ x))
  | none=>false
 have fx:∀ {i x},((v.toList.drop b).take n)[i]?=some x->f i=!(κ.blt (ky κ q) (ky κ x)):=λ{i x} e=>by show(match ((v.toList.drop b).take n)[i]? with | some x=>!(κ.blt (ky κ q) (ky κ x)) | none=>false)=_;rw[e]
 refine zd7 (f:=f) (λi hi Q hQ=>?_) (λi j hij hj hf=>?_) ht λm hm h1 h2=>h m hm (λx hx=>?_) λx hx=>?_
 .obtain⟨x,e1,e2⟩:=Y0 hi hn
  rw[fx e2]at hQ
  unfold bey
  refine wpS_bind (zJ e1 ?_)
  rw[if_neg Bool.false_ne_true]
  exact wpS_bind (L _ _ _ _ hk hq (hd x (List.mem_of_getElem? e2)) (wpS_pure hQ))
 .obtain⟨x,_,e1⟩:=Y0 (i:=i) (by omega) hn
  obtain⟨y,_,e2⟩:=Y0 hj hn
  rw[fx e2,Bool.not_eq_true']at hf
  rw[fx e1,Bool.not_eq_true']
  exact LE.trans (κ:=κ) (y:=y) (WE sx hij e1 e2) hf
 .obtain⟨i,hi,e⟩:=wN hx
  have:=h1 i hi
  rw[fx e,Bool.not_eq_true']at this
  exact this
 .obtain⟨i,hi,e⟩:=v4 hx
  have hil:i < n:=by
   have:=(List.getElem?_eq_some_iff.mp e).1
   rw[List.length_take]at this
   omega
  have:=h2 i hi hil
  rw[fx e,Bool.not_eq_false']at this
  exact this
theorem Wm {q:Keyed}{v:KA}{b n t:Nat}{P:Option Nat->SortSt->Prop}(L:LtE prog w A E s κ k D)(hk:kindOf st=k)(hq:D q)(hd:∀ x∈(v.toList.drop b).take n,D x)(hn:b+n<=v.toList.length)(ht:t < n)(sx:((v.toList.drop b).take n).Pairwise (LE κ))
 (h:∀ m,m<=n->(∀ x∈((v.toList.drop b).take n).take m,κ.klt (ky κ x) (ky κ q))->(∀ x∈((v.toList.drop b).take n).drop m,LE κ q x)->P (some m) st):wpS (model prog w) A E s (gal true q v b n t) P st:=by
 let f:Nat->Bool:=λi=>match ((v.toList.drop b).take n)[i]? with
  | some x=>κ.blt (ky κ x) (ky κ q)
  | none=>false
 have fx:∀ {i x},((v.toList.drop b).take n)[i]?=some x->f i=κ.blt (ky κ x) (ky κ q):=λ{i x} e=>by show(match ((v.toList.drop b).take n)[i]? with | some x=>κ.blt (ky κ x) (ky κ q) | none=>false)=_;rw[e]
 refine zd7 (f:=f) (λi hi Q hQ=>?_) (λi j hij hj hf=>?_) ht λm hm h1 h2=>h m hm (λx hx=>?_) λx hx=>?_
 .obtain⟨x,e1,e2⟩:=Y0 hi hn
  rw[fx e2]at hQ
  unfold bey
  refine wpS_bind (zJ e1 ?_)
  rw[if_pos rfl]
  exact L _ _ _ _ hk (hd x (List.mem_of_getElem? e2)) hq hQ
 .obtain⟨x,_,e1⟩:=Y0 (i:=i) (by omega) hn
  obtain⟨y,_,e2⟩:=Y0 hj hn
  rw[fx e2]at hf
  rw[fx e1]
  exact KeyOrd.klt_of_kle_of_klt (WE sx hij e1 e2) hf
 .obtain⟨i,hi,e⟩:=wN hx
  have:=h1 i hi
  rw[fx e]at this
  exact this
 .obtain⟨i,hi,e⟩:=v4 hx
  have hil:i < n:=by
   have:=(List.getElem?_eq_some_iff.mp e).1
   rw[List.length_take]at this
   omega
  have:=h2 i hi hil
  rw[fx e]at this
  exact this
end
structure Two (κ:KeyKind) (D:Keyed->Prop) (v u:KA):Prop where
 dv:∀ x∈v.toList,D x
 du:∀ y∈u.toList,D y
 sv:v.toList.Pairwise (LE κ)
 su:u.toList.Pairwise (LE κ)
noncomputable def Fn (κ:KeyKind)(v u r:KA):Prop:=r.toList.Perm (v.toList++u.toList)/\r.toList.Pairwise (LE κ)
structure MI (κ:KeyKind) (v u o:KA) (i j:Nat):Prop where
 li:i+1 < v.size
 lj:j < u.size
 wi:WI (LE κ) v.toList u.toList o.toList i j
section
variable {prog:Program}{w:World}{A:Around}{E:Value->Shared->Prop}{s:Shared}{st:SortSt}{κ:KeyKind}{k:SortKind}{D:Keyed->Prop}{v u o:KA}{i j:Nat}
theorem xN (v:KA)(i j:Nat):(v.extract i j).toList=(v.toList.drop i).take (j - i):=by simp
theorem WP (v:KA)(i:Nat):(v.extract i v.size).toList=v.toList.drop i:=by
 rw[xN,List.take_of_length_le (by rw[List.length_drop,Array.length_toList];omega)]
theorem zab (T:Two κ D v u)(w:WI (LE κ) v.toList u.toList o.toList i j)(h:j=u.size\/i=v.size):Fn κ v u (dn v u o i j):=by
 have:=w.done T.sv T.su λx hx y hy=>by
  rcases h with rfl | rfl
  .rw[<-Array.length_toList,List.drop_length]at hy;cases hy
  .rw[<-Array.length_toList,List.drop_length]at hx;cases hx
 unfold Fn dn
 rw[Array.toList_append,Array.toList_append,WP,WP]
 exact this
theorem zbO (T:Two κ D v u)(w:WI (LE κ) v.toList u.toList o.toList i j)(hi:i+1=v.size)(top:∀ y∈u.toList,∀ x,v.toList[v.size - 1]?=some x->LE κ y x):Fn κ v u (ls v u o i j):=by
 have:=w.swap.done T.su T.sv λy hy x hx=>by
  refine top y (List.mem_of_mem_drop hy) x ?_
  obtain⟨a,ha,e⟩:=v4 hx
  have hl:=(List.getElem?_eq_some_iff.mp e).1
  rw[Array.length_toList]at hl
  rw[show v.size - 1=a by omega]
  exact e
 unfold Fn ls
 rw[Array.toList_append,Array.toList_append,WP,WP]
 exact⟨this.1.trans List.perm_append_comm,this.2⟩
theorem XM {v:KA}{i:Nat}(h:i < v.size):∃ x,v.toList[i]?=some x:=⟨_,List.getElem?_eq_getElem (by rw[Array.length_toList];exact h)⟩
noncomputable def Ok2 (κ:KeyKind)(v u:KA)(n:Nat)(c:Z2):Prop:=(∃ r,c.1=some r/\Fn κ v u r)\/(c.1=none/\MI κ v u c.2.1 c.2.2.1 c.2.2.2.1/\n<=c.2.2.1+c.2.2.2.1)
noncomputable def Go2 (κ:KeyKind)(v u:KA)(n:Nat):ForInStep Z2->Prop
 | .done c=>Ok2 κ v u n c
 | .yield c=>c.1=none/\MI κ v u c.2.1 c.2.2.1 c.2.2.2.1/\n<=c.2.2.1+c.2.2.2.1
variable {top:∀ y∈u.toList,∀ x,v.toList[v.size - 1]?=some x->LE κ y x}{g c d n:Nat}
theorem zet (T:Two κ D v u)(top:∀ y∈u.toList,∀ x,v.toList[v.size - 1]?=some x->LE κ y x)(m:MI κ v u o i j){x:Keyed}(hx:v.toList[i]?=some x)(h:∀ y∈u.toList.drop j,LE κ x y)(hn:n<=i+j):wpS (model prog w) A E s (loC v u o i j g c d) (λr t=>t=st/\Go2 κ v u n r) st:=by
 unfold loC
 refine wpS_bind (zJ hx ?_)
 have w':=m.wi.pushA T.sv hx h
 rw[<-Array.toList_push]at w'
 have li:=m.li
 by_cases e:i+1+1=v.size
 .rw[if_pos (beq_iff_eq.mpr e)]
  exact wpS_pure ⟨rfl,.inl ⟨_,rfl,zbO T w' e top⟩⟩
 .rw[if_neg (λz=>e (beq_iff_eq.mp z))]
  have m':MI κ v u (o.push x) (i+1) j:=⟨by omega,m.lj,w'⟩
  split
  .exact wpS_pure ⟨rfl,.inr ⟨rfl,m',by show n<=i+1+j;omega⟩⟩
  .exact wpS_pure ⟨rfl,rfl,m',by show n<=i+1+j;omega⟩
theorem zeM (L:LtE prog w A E s κ k D)(hk:kindOf st=k)(T:Two κ D v u)(top:∀ y∈u.toList,∀ x,v.toList[v.size - 1]?=some x->LE κ y x)(m:MI κ v u o i j){y:Keyed}(hy:u.toList[j]?=some y)(h:∀ x∈v.toList.drop i,LE κ y x)(hn:n<=i+j):wpS (model prog w) A E s (loB v u o i j g c d) (λr t=>t=st/\Go2 κ v u n r) st:=by
 unfold loB
 refine wpS_bind (zJ hy ?_)
 have w':=m.wi.pushB T.su hy h
 rw[<-Array.toList_push]at w'
 have li:=m.li
 have lj:=m.lj
 by_cases e:j+1=u.size
 .rw[if_pos (beq_iff_eq.mpr e)]
  exact wpS_pure ⟨rfl,.inl ⟨_,rfl,zab T w' (.inl e)⟩⟩
 .rw[if_neg (λz=>e (beq_iff_eq.mp z))]
  obtain⟨x,hx⟩:=XM (v:=v) (i:=i) (by omega)
  refine wpS_bind (zJ hx ?_)
  have hul:u.toList.length=u.size:=Array.length_toList
  have eseg:(u.toList.drop (j+1)).take (u.size - (j+1))=u.toList.drop (j+1):=List.take_of_length_le (by rw[List.length_drop];omega)
  refine wpS_bind (Wm L hk (T.dv x (List.mem_of_getElem? hx)) (λz hz=>T.du z (List.mem_of_mem_drop (List.mem_of_mem_take hz))) (by omega) (by omega) (by rw[eseg];exact T.su.sublist (List.drop_sublist _ _)) λq hq h1 h2=>?_)
  rw[eseg]at h1 h2
  dsimp only
  have hx2:=Xp (LE.refl (κ:=κ)) T.sv hx
  have w2:=w'.runB (k:=q) T.su (by omega) λz hz a ha=>LE.trans (KeyOrd.kle_of_klt (h1 z hz)) (hx2 a ha)
  have h3:∀ z∈u.toList.drop (j+1+q),LE κ x z:=λz hz=>h2 z (by rw[List.drop_drop];exact hz)
  by_cases e0:q > 0
  .rw[if_pos e0]
   have ee:(o.push y++u.extract (j+1) (j+1+q)).toList=(o.push y).toList++(u.toList.drop (j+1)).take q:=by rw[Array.toList_append,xN,Nat.add_sub_cancel_left]
   rw[<-ee]at w2
   by_cases e1:j+1+q=u.size
   .rw[if_pos (beq_iff_eq.mpr e1)]
    exact wpS_pure ⟨rfl,.inl ⟨_,rfl,zab T w2 (.inl e1)⟩⟩
   .rw[if_neg (λz=>e1 (beq_iff_eq.mp z))]
    exact zet T top ⟨li,by omega,w2⟩ hx h3 (by omega)
  .rw[if_neg e0]
   obtain rfl:q=0:=by omega
   exact zet T top ⟨li,by omega,w'⟩ hx h3 (by omega)
theorem zem (L:LtE prog w A E s κ k D)(hk:kindOf st=k)(T:Two κ D v u)(top:∀ y∈u.toList,∀ x,v.toList[v.size - 1]?=some x->LE κ y x)(m:MI κ v u o i j)(hn:n<=i+j):wpS (model prog w) A E s (loA v u o i j g c d) (λr t=>Sm st t/\Go2 κ v u n r) st:=by
 unfold loA
 refine wpS_bind (YA λt ht=>?_)
 obtain⟨y,hy⟩:=XM m.lj
 refine wpS_bind (zJ hy ?_)
 have li:=m.li
 have lj:=m.lj
 have hvl:v.toList.length=v.size:=Array.length_toList
 have eseg:(v.toList.drop i).take (v.size - i)=v.toList.drop i:=List.take_of_length_le (by rw[List.length_drop];omega)
 refine wpS_bind (Wp L (ht.kd.trans hk) (T.du y (List.mem_of_getElem? hy)) (λz hz=>T.dv z (List.mem_of_mem_drop (List.mem_of_mem_take hz))) (by omega) (by omega) (by rw[eseg];exact T.sv.sublist (List.drop_sublist _ _)) λq hq h1 h2=>?_)
 rw[eseg]at h1 h2
 dsimp only
 have hy2:=Xp (LE.refl (κ:=κ)) T.su hy
 have w2:=m.wi.runA (k:=q) T.sv (by omega) λz hz a ha=>LE.trans (h1 z hz) (hy2 a ha)
 have h3:∀ z∈v.toList.drop (i+q),LE κ y z:=λz hz=>KeyOrd.kle_of_klt (h2 z (by rw[List.drop_drop];exact hz))
 by_cases e0:q > 0
 .rw[if_pos e0]
  have ee:(o++v.extract i (i+q)).toList=o.toList++(v.toList.drop i).take q:=by rw[Array.toList_append,xN,Nat.add_sub_cancel_left]
  rw[<-ee]at w2
  by_cases e1:i+q+1=v.size
  .rw[if_pos (beq_iff_eq.mpr e1)]
   exact wpS_pure ⟨ht,.inl ⟨_,rfl,zbO T w2 e1 top⟩⟩
  .rw[if_neg (λz=>e1 (beq_iff_eq.mp z))]
   by_cases e2:i+q=v.size
   .rw[if_pos (beq_iff_eq.mpr e2)]
    exact wpS_pure ⟨ht,.inl ⟨_,rfl,zab T w2 (.inr e2)⟩⟩
   .rw[if_neg (λz=>e2 (beq_iff_eq.mp z))]
    exact wpS_mono (zeM L (ht.kd.trans hk) T top ⟨by omega,lj,w2⟩ hy h3 (by omega)) λr t' h=>⟨h.1 ▸ ht,h.2⟩
 .rw[if_neg e0]
  obtain rfl:q=0:=by omega
  exact wpS_mono (zeM L (ht.kd.trans hk) T top m hy h3 hn) λr t' h=>⟨h.1 ▸ ht,h.2⟩
noncomputable def Ok1 (κ:KeyKind)(v u:KA)(n:Nat)(c:Z1):Prop:=(∃ r,c.1=some r/\Fn κ v u r)\/(c.1=none/\MI κ v u c.2.1 c.2.2.1 c.2.2.2.1/\n<=c.2.2.1+c.2.2.2.1)
noncomputable def Go1 (κ:KeyKind)(v u:KA)(n:Nat):ForInStep Z1->Prop
 | .done c=>Ok1 κ v u n c
 | .yield c=>c.1=none/\MI κ v u c.2.1 c.2.2.1 c.2.2.2.1/\n<=c.2.2.1+c.2.2.2.1
theorem zfd (L:LtE prog w A E s κ k D)(hk:kindOf st=k)(T:Two κ D v u)(top:∀ y∈u.toList,∀ x,v.toList[v.size - 1]?=some x->LE κ y x){z:Z1}(m:MI κ v u z.2.1 z.2.2.1 z.2.2.2.1):wpS (model prog w) A E s (zkO v u g z) (λr t=>t=st/\Go1 κ v u (z.2.2.1+z.2.2.2.1+1) r) st:=by
 obtain⟨r,o,i,j,c,d⟩:=z
 dsimp only at m ⊢
 have li:=m.li
 have lj:=m.lj
 unfold zkO
 obtain⟨y,hy⟩:=XM lj
 obtain⟨x,hx⟩:=XM (v:=v) (i:=i) (by omega)
 refine wpS_bind (zJ hy (wpS_bind (zJ hx (wpS_bind (L _ _ _ _ hk (T.du y (List.mem_of_getElem? hy)) (T.dv x (List.mem_of_getElem? hx)) ?_)))))
 dsimp only
 have hx2:=Xp (LE.refl (κ:=κ)) T.sv hx
 have hy2:=Xp (LE.refl (κ:=κ)) T.su hy
 cases e:κ.blt (ky κ y) (ky κ x) with
 | true =>
  rw[if_pos rfl]
  refine wpS_bind (zJ hy ?_)
  have w':=m.wi.pushB T.su hy λa ha=>LE.trans (KeyOrd.kle_of_klt e) (hx2 a ha)
  rw[<-Array.toList_push]at w'
  by_cases e1:j+1=u.size
  .rw[if_pos (beq_iff_eq.mpr e1)]
   exact wpS_pure ⟨rfl,.inl ⟨_,rfl,zab T w' (.inl e1)⟩⟩
  .rw[if_neg (λz=>e1 (beq_iff_eq.mp z))]
   have m':MI κ v u (o.push y) i (j+1):=⟨li,by omega,w'⟩
   split
   .exact wpS_pure ⟨rfl,.inr ⟨rfl,m',by show i+j+1<=i+(j+1);omega⟩⟩
   .exact wpS_pure ⟨rfl,rfl,m',by show i+j+1<=i+(j+1);omega⟩
 | false =>
  rw[if_neg Bool.false_ne_true]
  refine wpS_bind (zJ hx ?_)
  have w':=m.wi.pushA T.sv hx λa ha=>LE.trans (κ:=κ) (y:=y) e (hy2 a ha)
  rw[<-Array.toList_push]at w'
  by_cases e1:i+1+1=v.size
  .rw[if_pos (beq_iff_eq.mpr e1)]
   exact wpS_pure ⟨rfl,.inl ⟨_,rfl,zbO T w' e1 top⟩⟩
  .rw[if_neg (λz=>e1 (beq_iff_eq.mp z))]
   have m':MI κ v u (o.push x) (i+1) j:=⟨by omega,lj,w'⟩
   split
   .exact wpS_pure ⟨rfl,.inr ⟨rfl,m',by show i+j+1<=i+1+j;omega⟩⟩
   .exact wpS_pure ⟨rfl,rfl,m',by show i+j+1<=i+1+j;omega⟩
end
section
variable {prog:Program}{w:World}{A:Around}{E:Value->Shared->Prop}{s:Shared}{st:SortSt}{κ:KeyKind}{k:SortKind}{D:Keyed->Prop}{v u o:KA}{i j:Nat}
noncomputable def Go3 (κ:KeyKind)(v u:KA)(n:Nat):ForInStep Z3->Prop
 | .done c=>∃ r,c.1=some r/\Fn κ v u r
 | .yield c=>c.1=none/\MI κ v u c.2.1 c.2.2.1 c.2.2.2.1/\n<=c.2.2.1+c.2.2.2.1
theorem zeY {z:Z2}{n:Nat}(L:LtE prog w A E s κ k D)(hk:kindOf st=k)(T:Two κ D v u)(top:∀ y∈u.toList,∀ x,v.toList[v.size - 1]?=some x->LE κ y x)(m:MI κ v u z.2.1 z.2.2.1 z.2.2.2.1)(hn:n<=z.2.2.1+z.2.2.2.1):wpS (model prog w) A E s (zkB v u z) (λr t=>Sm st t/\Go2 κ v u n r) st:=by
 unfold zkB
 split
 .exact zem L hk T top m hn
 .exact zem L hk T top m hn
theorem ze3 {z:Z3}(L:LtE prog w A E s κ k D)(hk:kindOf st=k)(T:Two κ D v u)(top:∀ y∈u.toList,∀ x,v.toList[v.size - 1]?=some x->LE κ y x)(m:MI κ v u z.2.1 z.2.2.1 z.2.2.2.1):wpS (model prog w) A E s (zkN v u z) (λr t=>Sm st t/\Go3 κ v u (z.2.2.1+z.2.2.2.1+1) r) st:=by
 unfold zkN
 have li:=m.li
 refine wpS_bind (wpS_mono (wpS_forRange (I:=λx c t=>t=st/\c.1=none/\MI κ v u c.2.1 c.2.2.1 c.2.2.2.1/\(x=0\/z.2.2.1+z.2.2.2.1+1<=c.2.2.1+c.2.2.2.1)/\z.2.2.1+z.2.2.2.1<=c.2.2.1+c.2.2.2.1) (Q:=λc t=>t=st/\Ok1 κ v u (z.2.2.1+z.2.2.2.1+1) c)
  (λx c t _ _ hI=>?_) (λc t hI=>?_) ⟨rfl,rfl,m,.inl rfl,Nat.le_refl _⟩) λy t hI=>?_)
 .obtain⟨rfl,h1,h2,h3,h4⟩:=hI
  refine wpS_mono (zfd L hk T top h2) λr t' h=>?_
  obtain⟨rfl,hr⟩:=h
  cases r with
  | done c' =>
   rcases hr with hr | ⟨a1,a2,a3⟩
   .exact⟨rfl,.inl hr⟩
   .exact⟨rfl,.inr ⟨a1,a2,by omega⟩⟩
  | yield c' =>
   obtain⟨a1,a2,a3⟩:=hr
   exact⟨rfl,a1,a2,.inr (by omega),by omega⟩
 .obtain⟨rfl,h1,h2,h3,h4⟩:=hI
  refine⟨rfl,.inr ⟨h1,h2,?_⟩⟩
  rcases h3 with h3 | h3
  .exfalso
   have:max 0 (v.size+u.size)=v.size+u.size:=by omega
   omega
  .exact h3
 .obtain⟨rfl,hy⟩:=hI
  rcases hy with ⟨r,e,hr⟩ | ⟨e,m1,h1⟩
  .rw[e]
   exact wpS_pure ⟨Sm.refl _,r,rfl,hr⟩
  .rw[e]
   dsimp only
   refine wpS_bind (wpS_lift (wpAny_rule ⟨rfl,?_⟩))
   refine wpS_bind (wpS_mono (wpS_forRange (I:=λx c t'=>Sm t t'/\c.1=none/\MI κ v u c.2.1 c.2.2.1 c.2.2.2.1/\z.2.2.1+z.2.2.2.1+1<=c.2.2.1+c.2.2.2.1) (Q:=λc t'=>Sm t t'/\Ok2 κ v u (z.2.2.1+z.2.2.2.1+1) c)
    (λx c t' _ _ hI=>?_) (λc t' hI=>?_) ⟨Sm.refl _,rfl,m1,h1⟩) λx t' hI=>?_)
   .obtain⟨hs,b1,b2,b3⟩:=hI
    refine wpS_mono (zeY L (hs.kd.trans hk) T top b2 b3) λr t2 h=>?_
    obtain⟨hs2,hr⟩:=h
    cases r with
    | done c'=>exact⟨hs.trans hs2,hr⟩
    | yield c'=>exact⟨hs.trans hs2,hr⟩
   .obtain⟨hs,b1,b2,b3⟩:=hI
    exact⟨hs,.inr ⟨b1,b2,b3⟩⟩
   .obtain⟨hs,hx⟩:=hI
    rcases hx with ⟨r,e,hr⟩ | ⟨e,m2,h2⟩
    .rw[e]
     exact wpS_pure ⟨hs,r,rfl,hr⟩
    .rw[e]
     exact wpS_bind (YA λt2 hs2=>wpS_pure ⟨hs.trans hs2,rfl,m2,h2⟩)
theorem zhf {P:KA->SortSt->Prop}(L:LtE prog w A E s κ k D)(hk:kindOf st=k)(T:Two κ D v u)(hv:0 < v.size)(hu:0 < u.size)(top:∀ y∈u.toList,∀ x,v.toList[v.size - 1]?=some x->LE κ y x)(bot:∀ x∈v.toList,∀ y,u.toList[0]?=some y->LE κ y x)
 (h:∀ r t,Sm st t->Fn κ v u r->P r t):wpS (model prog w) A E s (mlo v u) P st:=by
 rw[ziV]
 refine wpS_bind (wpS_lift (wpAny_rule ⟨rfl,?_⟩))
 obtain⟨y,hy⟩:=XM hu
 refine wpS_bind (zJ hy ?_)
 have w0:WI (LE κ) v.toList u.toList [] 0 0:=⟨Nat.zero_le _,Nat.zero_le _,List.Perm.refl _,List.Pairwise.nil,(λz hz=>by cases hz),(λz hz=>by cases hz)⟩
 have w1:WI (LE κ) v.toList u.toList (#[y]:KA).toList 0 1:=w0.pushB T.su hy λx hx=>bot x (List.mem_of_mem_drop hx) y hy
 by_cases e1:1=u.size
 .rw[if_pos (beq_iff_eq.mpr e1)]
  exact wpS_pure (h _ _ (Sm.refl _) (zab T w1 (.inl e1)))
 rw[if_neg (λz=>e1 (beq_iff_eq.mp z))]
 by_cases e2:0+1=v.size
 .rw[if_pos (beq_iff_eq.mpr e2)]
  exact wpS_pure (h _ _ (Sm.refl _) (zbO T w1 e2 top))
 rw[if_neg (λz=>e2 (beq_iff_eq.mp z))]
 refine wpS_bind (wpS_get ?_)
 refine wpS_bind (wpS_mono (wpS_forRange (I:=λx c t=>Sm st t/\c.1=none/\MI κ v u c.2.1 c.2.2.1 c.2.2.2.1/\x+1<=c.2.2.1+c.2.2.2.1) (Q:=λc t=>Sm st t/\∃ r,c.1=some r/\Fn κ v u r)
  (λx c t _ _ hI=>?_) (λc t hI=>?_) ⟨Sm.refl _,rfl,⟨by show 0+1 < v.size;omega,by show 1 < u.size;omega,w1⟩,by show 0+1<=0+1;omega⟩) λy t hI=>?_)
 .obtain⟨hs,b1,b2,b3⟩:=hI
  refine wpS_mono (ze3 L (hs.kd.trans hk) T top b2) λr t2 h=>?_
  obtain⟨hs2,hr⟩:=h
  cases r with
  | done c'=>exact⟨hs.trans hs2,hr⟩
  | yield c'=>exact⟨hs.trans hs2,hr.1,hr.2.1,by have:=hr.2.2;omega⟩
 .obtain⟨hs,b1,b2,b3⟩:=hI
  exfalso
  have:=b2.li
  have:=b2.lj
  have:max 0 (v.size+u.size)=v.size+u.size:=by omega
  omega
 .obtain⟨hs,r,e,hr⟩:=hI
  rw[e]
  exact wpS_pure (h r t hs hr)
end
noncomputable def mhi:Array Keyed->Array Keyed->SM (Array Keyed):=sortPriv% PySem.Builtin.mergeHi
noncomputable abbrev Y1:=Option KA × Nat × Nat × KA × Nat × Nat
noncomputable abbrev Y2:=Option KA × Nat × Nat × KA × Nat × Nat × Nat
noncomputable abbrev Y3:=Option KA × Nat × Nat × KA × Nat
noncomputable abbrev dh (v u o:KA)(i j:Nat):KA:=v.extract 0 i++u.extract 0 j++o.reverse
noncomputable abbrev fh (v u o:KA)(i j:Nat):KA:=u.extract 0 j++v.extract 0 i++o.reverse
noncomputable def zkC (v u:KA)(g:Nat)(z:Y1):SM (ForInStep Y1):=do
 let e<-elem' u (z.2.2.1 - 1)
 let f<-elem' v (z.2.1 - 1)
 let some b<-lt' e f | pure (.done (some (dh v u z.2.2.2.1 z.2.1 z.2.2.1),z.2.1,z.2.2.1,z.2.2.2.1,z.2.2.2.2.1,z.2.2.2.2.2))
 if b=true then do
  let f<-elem' v (z.2.1 - 1)
  if (z.2.1 - 1 == 0)=true then pure (.done (some (dh v u (z.2.2.2.1.push f) (z.2.1 - 1) z.2.2.1),z.2.1 - 1,z.2.2.1,z.2.2.2.1.push f,z.2.2.2.2.1+1,0))
  else if z.2.2.2.2.1+1 >= g then pure (.done (none,z.2.1 - 1,z.2.2.1,z.2.2.2.1.push f,z.2.2.2.2.1+1,0))
  else pure (.yield (none,z.2.1 - 1,z.2.2.1,z.2.2.2.1.push f,z.2.2.2.2.1+1,0))
 else do
  let e<-elem' u (z.2.2.1 - 1)
  if (z.2.2.1 - 1 == 1)=true then pure (.done (some (fh v u (z.2.2.2.1.push e) z.2.1 (z.2.2.1 - 1)),z.2.1,z.2.2.1 - 1,z.2.2.2.1.push e,0,z.2.2.2.2.2+1))
  else if z.2.2.2.2.2+1 >= g then pure (.done (none,z.2.1,z.2.2.1 - 1,z.2.2.2.1.push e,0,z.2.2.2.2.2+1))
  else pure (.yield (none,z.2.1,z.2.2.1 - 1,z.2.2.2.1.push e,0,z.2.2.2.2.2+1))
noncomputable def hiC (v u o:KA)(i j g c d:Nat):SM (ForInStep Y2):=do
 let f<-elem' v (i - 1)
 if (i - 1 == 0)=true then pure (.done (some (dh v u (o.push f) (i - 1) j),i - 1,j,o.push f,g,c,d))
 else if (decide (c < 7)&&decide (d < 7))=true then pure (.done (none,i - 1,j,o.push f,g,c,d))
 else pure (.yield (none,i - 1,j,o.push f,g,c,d))
noncomputable def hiB (v u o:KA)(i j g c d:Nat):SM (ForInStep Y2):=do
 let e<-elem' u (j - 1)
 if (j - 1 == 1)=true then pure (.done (some (fh v u (o.push e) i (j - 1)),i,j - 1,o.push e,g,c,d))
 else do
  let f<-elem' v (i - 1)
  let some p<-gal true f u 0 (j - 1) (j - 1 - 1) | pure (.done (some (dh v u (o.push e) i (j - 1)),i,j - 1,o.push e,g,c,d))
  if j - 1 - p > 0 then
   if (p == 1)=true then pure (.done (some (fh v u (o.push e++(u.extract p (j - 1)).reverse) i p),i,p,o.push e++(u.extract p (j - 1)).reverse,g,c,j - 1 - p))
   else if (p == 0)=true then pure (.done (some (dh v u (o.push e++(u.extract p (j - 1)).reverse) i p),i,p,o.push e++(u.extract p (j - 1)).reverse,g,c,j - 1 - p))
   else hiC v u (o.push e++(u.extract p (j - 1)).reverse) i p g c (j - 1 - p)
  else hiC v u (o.push e) i (j - 1) g c (j - 1 - p)
noncomputable def hiA (v u o:KA)(i j g c d:Nat):SM (ForInStep Y2):=do
 Vi g
 let e<-elem' u (j - 1)
 let some p<-gal false e v 0 i (i - 1) | pure (.done (some (dh v u o i j),i,j,o,g,c,d))
 if i - p > 0 then
  if (p == 0)=true then pure (.done (some (dh v u (o++(v.extract p i).reverse) p j),p,j,o++(v.extract p i).reverse,g,i - p,d))
  else hiB v u (o++(v.extract p i).reverse) p j g (i - p) d
 else hiB v u o i j g (i - p) d
noncomputable def zkU (v u:KA)(z:Y2):SM (ForInStep Y2) :=
 if z.2.2.2.2.1 > 1 then hiA v u z.2.2.2.1 z.2.1 z.2.2.1 (z.2.2.2.2.1 - 1) z.2.2.2.2.2.1 z.2.2.2.2.2.2
 else hiA v u z.2.2.2.1 z.2.1 z.2.2.1 z.2.2.2.2.1 z.2.2.2.2.2.1 z.2.2.2.2.2.2
noncomputable def zkA (v u:KA)(z:Y3):SM (ForInStep Y3):=do
 let y<-forIn [0:v.size+u.size] ((none,z.2.1,z.2.2.1,z.2.2.2.1,0,0):Y1) λ_ q=>zkC v u z.2.2.2.2 q
 match y.1 with
 | some r=>pure (.done (some r,y.2.1,y.2.2.1,y.2.2.2.1,z.2.2.2.2))
 | none=>do
  rule "list.sort.gallop"
  let x<-forIn [0:v.size+u.size] ((none,y.2.1,y.2.2.1,y.2.2.2.1,z.2.2.2.2+1,y.2.2.2.2.1,y.2.2.2.2.2):Y2) λ_ q=>zkU v u q
  match x.1 with
  | some r=>pure (.done (some r,x.2.1,x.2.2.1,x.2.2.2.1,x.2.2.2.2.1))
  | none=>do
   Vi (x.2.2.2.2.1+1)
   pure (.yield (none,x.2.1,x.2.2.1,x.2.2.2.1,x.2.2.2.2.1+1))
theorem zjH (v u:KA):mhi v u=(do
 rule "list.sort.merge-hi"
 let e<-elem' v (v.size - 1)
 if (v.size - 1 == 0)=true then pure (dh v u #[e] (v.size - 1) u.size)
 else if (u.size == 1)=true then pure (fh v u #[e] (v.size - 1) u.size)
 else do
  let g<-get
  let z<-forIn [0:v.size+u.size] ((none,v.size - 1,u.size,#[e],gallopOf g):Y3) λ_ q=>zkA v u q
  match z.1 with
  | some r=>pure r
  | none=>(unsupported ("internal:list.sort.merge-bound"))):=by
 show @bind SM _ _ _ _ _=_
 dsimp only[zkA,zkU,hiA,hiB,hiC,zkC,elem',lt',gal,Vi,gallopOf]
 congr 1;funext _;congr 1;funext e
 congr 1;congr 1;congr 1;funext g;congr 1
 .congr 1;funext _ z;congr 1
  funext x
  obtain⟨r,x⟩:=x
  cases r with
  | some r=>rfl
  | none =>
   dsimp only
   congr 1;funext _;congr 1
   funext y;obtain⟨r,y⟩:=y;cases r <;> rfl
 .funext y;obtain⟨r,y⟩:=y;cases r <;> rfl
structure MH (κ:KeyKind) (v u o:KA) (i j:Nat):Prop where
 li:i<=v.size
 lj:j<=u.size
 wi:WI (λa b=>LE κ b a) v.toList.reverse u.toList.reverse o.toList (v.size - i) (u.size - j)
section
variable {κ:KeyKind}{D:Keyed->Prop}{v u o:KA}{i j:Nat}
theorem yy {v:KA}{i:Nat}(h:i<=v.size):v.toList.reverse.drop (v.size - i)=(v.toList.take i).reverse:=by
 rw[List.drop_reverse,Array.length_toList,Nat.sub_sub_self h]
theorem yS {l:List Keyed}(h:l.Pairwise (LE κ)):l.reverse.Pairwise λa b=>LE κ b a:=List.pairwise_reverse.mpr h
theorem zdZ {v:KA}{i:Nat}(h0:0 < i)(h:i<=v.size):v.toList.reverse[v.size - i]?=v.toList[i - 1]?:=by
 rw[List.getElem?_reverse (by rw[Array.length_toList];omega),Array.length_toList,show v.size - 1 - (v.size - i)=i - 1 by omega]
theorem MH.pushA (T:Two κ D v u)(m:MH κ v u o i j)(h0:0 < i){x:Keyed}(hx:v.toList[i - 1]?=some x)(h:∀ y∈u.toList.take j,LE κ y x):MH κ v u (o.push x) (i - 1) j:=by
 have li:=m.li
 refine⟨by omega,m.lj,?_⟩
 have:=m.wi.pushA (x:=x) (yS T.sv) (by rw[zdZ h0 li];exact hx) λy hy=>h y (by rw[yy m.lj]at hy;exact List.mem_reverse.mp hy)
 rw[<-Array.toList_push,show v.size - i+1=v.size - (i - 1) by omega]at this
 exact this
theorem MH.pushB (T:Two κ D v u)(m:MH κ v u o i j)(h0:0 < j){y:Keyed}(hy:u.toList[j - 1]?=some y)(h:∀ x∈v.toList.take i,LE κ x y):MH κ v u (o.push y) i (j - 1):=by
 have lj:=m.lj
 refine⟨m.li,by omega,?_⟩
 have:=m.wi.pushB (y:=y) (yS T.su) (by rw[zdZ h0 lj];exact hy) λx hx=>h x (by rw[yy m.li]at hx;exact List.mem_reverse.mp hx)
 rw[<-Array.toList_push,show u.size - j+1=u.size - (j - 1) by omega]at this
 exact this
theorem WA {v:KA}{p i:Nat}(hp:p<=i)(h:i<=v.size):(v.toList.reverse.drop (v.size - i)).take (i - p)=(v.extract p i).reverse.toList:=by
 rw[yy h,List.take_reverse,Array.toList_reverse,xN,List.length_take,Array.length_toList,Nat.min_eq_left h,Nat.sub_sub_self hp,List.drop_take]
theorem MH.runA (T:Two κ D v u)(m:MH κ v u o i j){p:Nat}(hp:p<=i)(h:∀ x∈(v.toList.take i).drop p,∀ y∈u.toList.take j,LE κ y x):MH κ v u (o++(v.extract p i).reverse) p j:=by
 have li:=m.li
 refine⟨by omega,m.lj,?_⟩
 have:=m.wi.runA (k:=i - p) (yS T.sv) (by rw[List.length_reverse,Array.length_toList];omega) λx hx y hy=>by
  rw[WA hp li,Array.toList_reverse,xN]at hx
  rw[yy m.lj]at hy
  exact h x (by rw[List.drop_take];exact List.mem_reverse.mp hx) y (List.mem_reverse.mp hy)
 rw[WA hp li,<- Array.toList_append,show v.size - i+(i - p)=v.size - p by omega]at this
 exact this
theorem MH.runB (T:Two κ D v u)(m:MH κ v u o i j){p:Nat}(hp:p<=j)(h:∀ y∈(u.toList.take j).drop p,∀ x∈v.toList.take i,LE κ x y):MH κ v u (o++(u.extract p j).reverse) i p:=by
 have lj:=m.lj
 refine⟨m.li,by omega,?_⟩
 have:=m.wi.runB (k:=j - p) (yS T.su) (by rw[List.length_reverse,Array.length_toList];omega) λx hx y hy=>by
  rw[WA hp lj,Array.toList_reverse,xN]at hx
  rw[yy m.li]at hy
  exact h x (by rw[List.drop_take];exact List.mem_reverse.mp hx) y (List.mem_reverse.mp hy)
 rw[WA hp lj,<- Array.toList_append,show u.size - j+(j - p)=u.size - p by omega]at this
 exact this
theorem ZN (v:KA)(i:Nat):(v.extract 0 i).toList=v.toList.take i:=by rw[xN,List.drop_zero,Nat.sub_zero]
theorem VN (T:Two κ D v u)(m:MH κ v u o i j)(h:i=0\/j=0):Fn κ v u (dh v u o i j):=by
 have e:=m.wi.swap.done (yS T.su) (yS T.sv) λy hy x hx=>by
  rw[yy m.lj]at hy
  rw[yy m.li]at hx
  rcases h with rfl | rfl
  .rw[List.take_zero]at hx;cases hx
  .rw[List.take_zero]at hy;cases hy
 rw[yy m.lj,yy m.li]at e
 have er:(dh v u o i j).toList=(o.toList++(u.toList.take j).reverse++(v.toList.take i).reverse).reverse:=by
  unfold dh
  rw[Array.toList_append,Array.toList_append,ZN,ZN,Array.toList_reverse,List.reverse_append,List.reverse_append,List.reverse_reverse,List.reverse_reverse,List.append_assoc]
 constructor
 .rw[er]
  refine(List.reverse_perm _).trans (e.1.trans ?_)
  exact(List.perm_append_comm).trans ((List.reverse_perm _).append (List.reverse_perm _))
 .rw[er,List.pairwise_reverse]
  exact e.2
theorem zbV (T:Two κ D v u)(m:MH κ v u o i j)(hj:j=1)(bot:∀ x∈v.toList,∀ y,u.toList[0]?=some y->LE κ y x):Fn κ v u (fh v u o i j):=by
 have e:=m.wi.done (yS T.sv) (yS T.su) λx hx y hy=>by
  rw[yy m.lj]at hy
  rw[yy m.li]at hx
  refine bot x (List.mem_of_mem_take (List.mem_reverse.mp hx)) y ?_
  obtain⟨a,ha,ea⟩:=wN (List.mem_reverse.mp hy)
  obtain rfl:a=0:=by omega
  exact ea
 rw[yy m.lj,yy m.li]at e
 have er:(fh v u o i j).toList=(o.toList++(v.toList.take i).reverse++(u.toList.take j).reverse).reverse:=by
  unfold fh
  rw[Array.toList_append,Array.toList_append,ZN,ZN,Array.toList_reverse,List.reverse_append,List.reverse_append,List.reverse_reverse,List.reverse_reverse,List.append_assoc]
 constructor
 .rw[er]
  exact(List.reverse_perm _).trans (e.1.trans ((List.reverse_perm _).append (List.reverse_perm _)))
 .rw[er,List.pairwise_reverse]
  exact e.2
theorem VM {l:List Keyed}(s:l.Pairwise (LE κ)){i:Nat}{x:Keyed}(h0:0 < i)(hx:l[i - 1]?=some x):∀ z∈l.take i,LE κ z x:=λz hz=>by
 obtain⟨a,ha,e⟩:=wN hz
 exact WE s (by omega) e hx
noncomputable def Oj2 (κ:KeyKind)(v u:KA)(n:Nat)(c:Y2):Prop:=(∃ r,c.1=some r/\Fn κ v u r)\/(c.1=none/\(0 < c.2.1/\1 < c.2.2.1)/\MH κ v u c.2.2.2.1 c.2.1 c.2.2.1/\c.2.1+c.2.2.1<=n)
noncomputable def Gj2 (κ:KeyKind)(v u:KA)(n:Nat):ForInStep Y2->Prop
 | .done c=>Oj2 κ v u n c
 | .yield c=>c.1=none/\(0 < c.2.1/\1 < c.2.2.1)/\MH κ v u c.2.2.2.1 c.2.1 c.2.2.1/\c.2.1+c.2.2.1<=n
end
section
variable {prog:Program}{w:World}{A:Around}{E:Value->Shared->Prop}{s:Shared}{st:SortSt}{κ:KeyKind}{k:SortKind}{D:Keyed->Prop}{v u o:KA}{i j g c d n:Nat}
theorem zdl (T:Two κ D v u)(m:MH κ v u o i j)(h0:0 < i)(h1:1 < j){x:Keyed}(hx:v.toList[i - 1]?=some x)(h:∀ y∈u.toList.take j,LE κ y x)(hn:i+j<=n):wpS (model prog w) A E s (hiC v u o i j g c d) (λr t=>t=st/\Gj2 κ v u n r) st:=by
 unfold hiC
 refine wpS_bind (zJ hx ?_)
 have m':=m.pushA T h0 hx h
 by_cases e:i - 1=0
 .rw[if_pos (beq_iff_eq.mpr e)]
  exact wpS_pure ⟨rfl,.inl ⟨_,rfl,VN T m' (.inl e)⟩⟩
 .rw[if_neg (λz=>e (beq_iff_eq.mp z))]
  split
  .exact wpS_pure ⟨rfl,.inr ⟨rfl,⟨by show 0 < i - 1;omega,h1⟩,m',by show i - 1+j<=n;omega⟩⟩
  .exact wpS_pure ⟨rfl,rfl,⟨by show 0 < i - 1;omega,h1⟩,m',by show i - 1+j<=n;omega⟩
theorem zeB (L:LtE prog w A E s κ k D)(hk:kindOf st=k)(T:Two κ D v u)(bot:∀ x∈v.toList,∀ y,u.toList[0]?=some y->LE κ y x)(m:MH κ v u o i j)(h0:0 < i)(h1:1 < j){y:Keyed}(hy:u.toList[j - 1]?=some y)(h:∀ x∈v.toList.take i,LE κ x y)(hn:i+j<=n):wpS (model prog w) A E s (hiB v u o i j g c d) (λr t=>t=st/\Gj2 κ v u n r) st:=by
 unfold hiB
 refine wpS_bind (zJ hy ?_)
 have m':=m.pushB T (by omega) hy h
 have li:=m.li
 have lj:=m.lj
 by_cases e:j - 1=1
 .rw[if_pos (beq_iff_eq.mpr e)]
  exact wpS_pure ⟨rfl,.inl ⟨_,rfl,zbV T m' e bot⟩⟩
 .rw[if_neg (λz=>e (beq_iff_eq.mp z))]
  obtain⟨x,hx⟩:=XM (v:=v) (i:=i - 1) (by omega)
  refine wpS_bind (zJ hx ?_)
  have hul:u.toList.length=u.size:=Array.length_toList
  have eseg:(u.toList.drop 0).take (j - 1)=u.toList.take (j - 1):=by rw[List.drop_zero]
  refine wpS_bind (Wm L hk (T.dv x (List.mem_of_getElem? hx)) (λz hz=>T.du z (List.mem_of_mem_drop (List.mem_of_mem_take hz))) (by omega) (by omega) (by rw[eseg];exact T.su.sublist (List.take_sublist _ _)) λp hp g1 g2=>?_)
  rw[eseg]at g1 g2
  dsimp only
  have hx2:=VM T.sv h0 hx
  have m2:=m'.runB T hp λz hz a ha=>LE.trans (hx2 a ha) (g2 z hz)
  have h3:∀ z∈u.toList.take p,LE κ z x:=λz hz=>KeyOrd.kle_of_klt (g1 z (by rw[List.take_take,Nat.min_eq_left hp];exact hz))
  by_cases e0:j - 1 - p > 0
  .rw[if_pos e0]
   by_cases e1:p=1
   .rw[if_pos (beq_iff_eq.mpr e1)]
    exact wpS_pure ⟨rfl,.inl ⟨_,rfl,zbV T m2 e1 bot⟩⟩
   .rw[if_neg (λz=>e1 (beq_iff_eq.mp z))]
    by_cases e2:p=0
    .rw[if_pos (beq_iff_eq.mpr e2)]
     exact wpS_pure ⟨rfl,.inl ⟨_,rfl,VN T m2 (.inr e2)⟩⟩
    .rw[if_neg (λz=>e2 (beq_iff_eq.mp z))]
     exact zdl T m2 h0 (by omega) hx h3 (by omega)
  .rw[if_neg e0]
   obtain rfl:p=j - 1:=by omega
   exact zdl T m' h0 (by omega) hx h3 (by omega)
theorem zed (L:LtE prog w A E s κ k D)(hk:kindOf st=k)(T:Two κ D v u)(bot:∀ x∈v.toList,∀ y,u.toList[0]?=some y->LE κ y x)(m:MH κ v u o i j)(h0:0 < i)(h1:1 < j)(hn:i+j<=n):wpS (model prog w) A E s (hiA v u o i j g c d) (λr t=>Sm st t/\Gj2 κ v u n r) st:=by
 unfold hiA
 refine wpS_bind (YA λt ht=>?_)
 have li:=m.li
 have lj:=m.lj
 obtain⟨y,hy⟩:=XM (v:=u) (i:=j - 1) (by omega)
 refine wpS_bind (zJ hy ?_)
 have hvl:v.toList.length=v.size:=Array.length_toList
 have eseg:(v.toList.drop 0).take i=v.toList.take i:=by rw[List.drop_zero]
 refine wpS_bind (Wp L (ht.kd.trans hk) (T.du y (List.mem_of_getElem? hy)) (λz hz=>T.dv z (List.mem_of_mem_drop (List.mem_of_mem_take hz))) (by omega) (by omega) (by rw[eseg];exact T.sv.sublist (List.take_sublist _ _)) λp hp g1 g2=>?_)
 rw[eseg]at g1 g2
 dsimp only
 have hy2:=VM T.su (i:=j) (by omega) hy
 have m2:=m.runA T hp λz hz a ha=>LE.trans (hy2 a ha) (KeyOrd.kle_of_klt (g2 z hz))
 have h3:∀ z∈v.toList.take p,LE κ z y:=λz hz=>g1 z (by rw[List.take_take,Nat.min_eq_left hp];exact hz)
 by_cases e0:i - p > 0
 .rw[if_pos e0]
  by_cases e1:p=0
  .rw[if_pos (beq_iff_eq.mpr e1)]
   exact wpS_pure ⟨ht,.inl ⟨_,rfl,VN T m2 (.inl e1)⟩⟩
  .rw[if_neg (λz=>e1 (beq_iff_eq.mp z))]
   exact wpS_mono (zeB L (ht.kd.trans hk) T bot m2 (by omega) h1 hy h3 (by omega)) λr t' h=>⟨h.1 ▸ ht,h.2⟩
 .rw[if_neg e0]
  obtain rfl:p=i:=by omega
  exact wpS_mono (zeB L (ht.kd.trans hk) T bot m h0 h1 hy h3 hn) λr t' h=>⟨h.1 ▸ ht,h.2⟩
noncomputable def Oj1 (κ:KeyKind)(v u:KA)(n:Nat)(c:Y1):Prop:=(∃ r,c.1=some r/\Fn κ v u r)\/(c.1=none/\(0 < c.2.1/\1 < c.2.2.1)/\MH κ v u c.2.2.2.1 c.2.1 c.2.2.1/\c.2.1+c.2.2.1<=n)
noncomputable def Gj1 (κ:KeyKind)(v u:KA)(n:Nat):ForInStep Y1->Prop
 | .done c=>Oj1 κ v u n c
 | .yield c=>c.1=none/\(0 < c.2.1/\1 < c.2.2.1)/\MH κ v u c.2.2.2.1 c.2.1 c.2.2.1/\c.2.1+c.2.2.1<=n
theorem zfw (L:LtE prog w A E s κ k D)(hk:kindOf st=k)(T:Two κ D v u)(bot:∀ x∈v.toList,∀ y,u.toList[0]?=some y->LE κ y x){z:Y1}(m:MH κ v u z.2.2.2.1 z.2.1 z.2.2.1)(h0:0 < z.2.1/\1 < z.2.2.1):wpS (model prog w) A E s (zkC v u g z) (λr t=>t=st/\Gj1 κ v u (z.2.1+z.2.2.1 - 1) r) st:=by
 obtain⟨r,i,j,o,c,d⟩:=z
 dsimp only at m h0 ⊢
 obtain⟨h0,h1⟩:=h0
 have li:=m.li
 have lj:=m.lj
 unfold zkC
 obtain⟨y,hy⟩:=XM (v:=u) (i:=j - 1) (by omega)
 obtain⟨x,hx⟩:=XM (v:=v) (i:=i - 1) (by omega)
 refine wpS_bind (zJ hy (wpS_bind (zJ hx (wpS_bind (L _ _ _ _ hk (T.du y (List.mem_of_getElem? hy)) (T.dv x (List.mem_of_getElem? hx)) ?_)))))
 dsimp only
 have hx2:=VM T.sv h0 hx
 have hy2:=VM T.su (i:=j) (by omega) hy
 cases e:κ.blt (ky κ y) (ky κ x) with
 | true =>
  rw[if_pos rfl]
  refine wpS_bind (zJ hx ?_)
  have m':=m.pushA T h0 hx λa ha=>LE.trans (hy2 a ha) (KeyOrd.kle_of_klt e)
  by_cases e1:i - 1=0
  .rw[if_pos (beq_iff_eq.mpr e1)]
   exact wpS_pure ⟨rfl,.inl ⟨_,rfl,VN T m' (.inl e1)⟩⟩
  .rw[if_neg (λz=>e1 (beq_iff_eq.mp z))]
   split
   .exact wpS_pure ⟨rfl,.inr ⟨rfl,⟨by show 0 < i - 1;omega,h1⟩,m',by show i - 1+j<=i+j - 1;omega⟩⟩
   .exact wpS_pure ⟨rfl,rfl,⟨by show 0 < i - 1;omega,h1⟩,m',by show i - 1+j<=i+j - 1;omega⟩
 | false =>
  rw[if_neg Bool.false_ne_true]
  refine wpS_bind (zJ hy ?_)
  have m':=m.pushB T (by omega) hy λa ha=>LE.trans (κ:=κ) (y:=x) (hx2 a ha) e
  by_cases e1:j - 1=1
  .rw[if_pos (beq_iff_eq.mpr e1)]
   exact wpS_pure ⟨rfl,.inl ⟨_,rfl,zbV T m' e1 bot⟩⟩
  .rw[if_neg (λz=>e1 (beq_iff_eq.mp z))]
   split
   .exact wpS_pure ⟨rfl,.inr ⟨rfl,⟨h0,by show 1 < j - 1;omega⟩,m',by show i+(j - 1)<=i+j - 1;omega⟩⟩
   .exact wpS_pure ⟨rfl,rfl,⟨h0,by show 1 < j - 1;omega⟩,m',by show i+(j - 1)<=i+j - 1;omega⟩
theorem zf7 {z:Y2}(L:LtE prog w A E s κ k D)(hk:kindOf st=k)(T:Two κ D v u)(bot:∀ x∈v.toList,∀ y,u.toList[0]?=some y->LE κ y x)(m:MH κ v u z.2.2.2.1 z.2.1 z.2.2.1)(h0:0 < z.2.1/\1 < z.2.2.1)(hn:z.2.1+z.2.2.1<=n):wpS (model prog w) A E s (zkU v u z) (λr t=>Sm st t/\Gj2 κ v u n r) st:=by
 unfold zkU
 split
 .exact zed L hk T bot m h0.1 h0.2 hn
 .exact zed L hk T bot m h0.1 h0.2 hn
noncomputable def Gj3 (κ:KeyKind)(v u:KA)(n:Nat):ForInStep Y3->Prop
 | .done c=>∃ r,c.1=some r/\Fn κ v u r
 | .yield c=>c.1=none/\(0 < c.2.1/\1 < c.2.2.1)/\MH κ v u c.2.2.2.1 c.2.1 c.2.2.1/\c.2.1+c.2.2.1<=n
theorem zf3 {z:Y3}(L:LtE prog w A E s κ k D)(hk:kindOf st=k)(T:Two κ D v u)(bot:∀ x∈v.toList,∀ y,u.toList[0]?=some y->LE κ y x)(m:MH κ v u z.2.2.2.1 z.2.1 z.2.2.1)(h0:0 < z.2.1/\1 < z.2.2.1):wpS (model prog w) A E s (zkA v u z) (λr t=>Sm st t/\Gj3 κ v u (z.2.1+z.2.2.1 - 1) r) st:=by
 unfold zkA
 have li:=m.li
 have lj:=m.lj
 refine wpS_bind (wpS_mono (wpS_forRange (I:=λx c t=>t=st/\c.1=none/\(0 < c.2.1/\1 < c.2.2.1)/\MH κ v u c.2.2.2.1 c.2.1 c.2.2.1/\(x=0\/c.2.1+c.2.2.1<=z.2.1+z.2.2.1 - 1)/\c.2.1+c.2.2.1<=z.2.1+z.2.2.1) (Q:=λc t=>t=st/\Oj1 κ v u (z.2.1+z.2.2.1 - 1) c)
  (λx c t _ _ hI=>?_) (λc t hI=>?_) ⟨rfl,rfl,h0,m,.inl rfl,Nat.le_refl _⟩) λy t hI=>?_)
 .obtain⟨rfl,h1,h2,h3,h4,h5⟩:=hI
  refine wpS_mono (zfw L hk T bot h3 h2) λr t' h=>?_
  obtain⟨rfl,hr⟩:=h
  cases r with
  | done c' =>
   rcases hr with hr | ⟨a1,a2,a3,a4⟩
   .exact⟨rfl,.inl hr⟩
   .exact⟨rfl,.inr ⟨a1,a2,a3,by omega⟩⟩
  | yield c' =>
   obtain⟨a1,a2,a3,a4⟩:=hr
   exact⟨rfl,a1,a2,a3,.inr (by omega),by omega⟩
 .obtain⟨rfl,h1,h2,h3,h4,h5⟩:=hI
  refine⟨rfl,.inr ⟨h1,h2,h3,?_⟩⟩
  rcases h4 with h4 | h4
  .exfalso
   have:max 0 (v.size+u.size)=v.size+u.size:=by omega
   omega
  .exact h4
 .obtain⟨rfl,hy⟩:=hI
  rcases hy with ⟨r,e,hr⟩ | ⟨e,p1,m1,h1⟩
  .rw[e]
   exact wpS_pure ⟨Sm.refl _,r,rfl,hr⟩
  .rw[e]
   dsimp only
   refine wpS_bind (wpS_lift (wpAny_rule ⟨rfl,?_⟩))
   refine wpS_bind (wpS_mono (wpS_forRange (I:=λx c t'=>Sm t t'/\c.1=none/\(0 < c.2.1/\1 < c.2.2.1)/\MH κ v u c.2.2.2.1 c.2.1 c.2.2.1/\c.2.1+c.2.2.1<=z.2.1+z.2.2.1 - 1) (Q:=λc t'=>Sm t t'/\Oj2 κ v u (z.2.1+z.2.2.1 - 1) c)
    (λx c t' _ _ hI=>?_) (λc t' hI=>?_) ⟨Sm.refl _,rfl,p1,m1,h1⟩) λx t' hI=>?_)
   .obtain⟨hs,b1,b2,b3,b4⟩:=hI
    refine wpS_mono (zf7 L (hs.kd.trans hk) T bot b3 b2 b4) λr t2 h=>?_
    obtain⟨hs2,hr⟩:=h
    cases r with
    | done c'=>exact⟨hs.trans hs2,hr⟩
    | yield c'=>exact⟨hs.trans hs2,hr⟩
   .obtain⟨hs,b1,b2,b3,b4⟩:=hI
    exact⟨hs,.inr ⟨b1,b2,b3,b4⟩⟩
   .obtain⟨hs,hx⟩:=hI
    rcases hx with ⟨r,e,hr⟩ | ⟨e,p2,m2,h2⟩
    .rw[e]
     exact wpS_pure ⟨hs,r,rfl,hr⟩
    .rw[e]
     exact wpS_bind (YA λt2 hs2=>wpS_pure ⟨hs.trans hs2,rfl,p2,m2,h2⟩)
theorem zhV {P:KA->SortSt->Prop}(L:LtE prog w A E s κ k D)(hk:kindOf st=k)(T:Two κ D v u)(hv:0 < v.size)(hu:0 < u.size)(top:∀ y∈u.toList,∀ x,v.toList[v.size - 1]?=some x->LE κ y x)(bot:∀ x∈v.toList,∀ y,u.toList[0]?=some y->LE κ y x)
 (h:∀ r t,Sm st t->Fn κ v u r->P r t):wpS (model prog w) A E s (mhi v u) P st:=by
 rw[zjH]
 refine wpS_bind (wpS_lift (wpAny_rule ⟨rfl,?_⟩))
 obtain⟨x,hx⟩:=XM (v:=v) (i:=v.size - 1) (by omega)
 refine wpS_bind (zJ hx ?_)
 have m0:MH κ v u #[] v.size u.size:=⟨Nat.le_refl _,Nat.le_refl _,by
  rw[Nat.sub_self,Nat.sub_self]
  exact⟨Nat.zero_le _,Nat.zero_le _,List.Perm.refl _,List.Pairwise.nil,(λz hz=>by cases hz),(λz hz=>by cases hz)⟩⟩
 have m1:MH κ v u #[x] (v.size - 1) u.size:=m0.pushA T hv hx λy hy=>top y (List.mem_of_mem_take hy) x hx
 by_cases e1:v.size - 1=0
 .rw[if_pos (beq_iff_eq.mpr e1)]
  exact wpS_pure (h _ _ (Sm.refl _) (VN T m1 (.inl e1)))
 rw[if_neg (λz=>e1 (beq_iff_eq.mp z))]
 by_cases e2:u.size=1
 .rw[if_pos (beq_iff_eq.mpr e2)]
  exact wpS_pure (h _ _ (Sm.refl _) (zbV T m1 e2 bot))
 rw[if_neg (λz=>e2 (beq_iff_eq.mp z))]
 refine wpS_bind (wpS_get ?_)
 refine wpS_bind (wpS_mono (wpS_forRange (I:=λx c t=>Sm st t/\c.1=none/\(0 < c.2.1/\1 < c.2.2.1)/\MH κ v u c.2.2.2.1 c.2.1 c.2.2.1/\x+(c.2.1+c.2.2.1)<=v.size+u.size) (Q:=λc t=>Sm st t/\∃ r,c.1=some r/\Fn κ v u r)
  (λx c t _ _ hI=>?_) (λc t hI=>?_) ⟨Sm.refl _,rfl,⟨by show 0 < v.size - 1;omega,by show 1 < u.size;omega⟩,m1,by show 0+(v.size - 1+u.size)<=v.size+u.size;omega⟩) λy t hI=>?_)
 .obtain⟨hs,b1,b2,b3,b4⟩:=hI
  refine wpS_mono (zf3 L (hs.kd.trans hk) T bot b3 b2) λr t2 h=>?_
  obtain⟨hs2,hr⟩:=h
  cases r with
  | done c'=>exact⟨hs.trans hs2,hr⟩
  | yield c'=>exact⟨hs.trans hs2,hr.1,hr.2.1,hr.2.2.1,by have:=hr.2.2.2;omega⟩
 .obtain⟨hs,b1,b2,b3,b4⟩:=hI
  exfalso
  have:max 0 (v.size+u.size)=v.size+u.size:=by omega
  omega
 .obtain⟨hs,r,e,hr⟩:=hI
  rw[e]
  exact wpS_pure (h r t hs hr)
end
noncomputable abbrev Pd:=Array (Nat × Nat × Nat)
theorem ziS (i:Nat):mergeAt' i=(do
 let z<-get
 let (some (a,m,p),some (b,n,_)):=((pendingOf z)[i]?,(pendingOf z)[i+1]?) | (unsupported ("internal:list.sort.pending"))
 set (setPending z (((pendingOf z).setIfInBounds i (a,m+n,p)).eraseIdxIfInBounds (i+1)))
 let some k<-gal false (<- elem' (arrOf z) b) (arrOf z) a m 0 | return false
 let (a,m):=(a+k,m - k)
 if m == 0 then return true
 let some n<-gal true (<- elem' (arrOf z) (a+m - 1)) (arrOf z) b n (n - 1) | return false
 if n == 0 then return true
 let x:=(arrOf z).extract a b
 let y:=(arrOf z).extract b (b+n)
 let r<-if m<=n then mlo x y else mhi x y
 modify λs=>setArr s (r.toList.zipIdx.foldl (λx (y,j)=>x.setIfInBounds (a+j) y) (arrOf s))
 return (failedOf (<- get)).isNone):=rfl
theorem zfo:∀ (m:List Keyed) (x:KA) (b n:Nat),b+n+m.length<=x.size->((m.zipIdx n).foldl (λx z=>x.setIfInBounds (b+z.2) z.1) x).toList=x.toList.take (b+n)++m++x.toList.drop (b+n+m.length):=by
 intro m
 induction m with
 | nil=>intro x b n h;simp
 | cons y m ih =>
  intro x b n h
  rw[List.length_cons]at h
  rw[List.zipIdx_cons,List.foldl_cons]
  rw[ih (x.setIfInBounds (b+n) y) b (n+1) (by rw[Array.size_setIfInBounds];omega)]
  rw[Array.toList_setIfInBounds,List.length_cons,show b+(n+1)=b+n+1 by omega,show b+n+1+m.length=b+n+(m.length+1) by omega]
  have hl:b+n < x.toList.length:=by rw[Array.length_toList];omega
  rw[List.drop_set_of_lt (by omega),List.take_set]
  have e1:(x.toList.take (b+n+1)).set (b+n) y=x.toList.take (b+n)++[y]:=by
   rw[List.take_add_one,List.getElem?_eq_getElem hl]
   have:(x.toList.take (b+n)).length=b+n:=by rw[List.length_take];omega
   rw[List.set_append_right _ _ (by omega),this,Nat.sub_self]
   rfl
  rw[e1,List.append_assoc,List.append_assoc,List.append_assoc]
  rfl
theorem YB {l:List Keyed}{a m k:Nat}(h:k<=m):l.take (a+k)=l.take a++((l.drop a).take m).take k:=by
 rw[List.take_add,List.take_take,Nat.min_eq_left h]
theorem ze9 {l:List Keyed}{b n q:Nat}(h:q<=n)(hl:b+n<=l.length):l.drop (b+q)=((l.drop b).take n).drop q++l.drop (b+n):=by
 have e:(l.drop b).take n++(l.drop b).drop n=l.drop b:=List.take_append_drop n (l.drop b)
 rw[<-List.drop_drop,<- List.drop_drop]
 have e2:(l.drop b).drop q=((l.drop b).take n++(l.drop b).drop n).drop q:=by rw[e]
 rw[e2,List.drop_append_of_le_length (by rw[List.length_take,List.length_drop];omega)]
theorem zhe {prog:Program}{w:World}{A:Around}{E:Value->Shared->Prop}{s:Shared}{st z:SortSt}{Q:PUnit->SortSt->Prop}(h:Q ⟨⟩ z):wpS (model prog w) A E s (set z:SM PUnit) Q st:=wpS_modify (f:=λ_=>z) h
section
variable {prog:Program}{w:World}{A:Around}{E:Value->Shared->Prop}{s:Shared}{st:SortSt}{κ:KeyKind}{k:SortKind}{D:Keyed->Prop}
theorem zka {l r:List Keyed}{q:Keyed}(sl:l.Pairwise (LE κ))(sr:r.Pairwise (LE κ))(h1:∀ x∈l,LE κ x q)(h2:∀ y∈r,LE κ q y):(l++r).Pairwise (LE κ):=by
 rw[List.pairwise_append]
 exact⟨sl,sr,λx hx y hy=>LE.trans (h1 x hx) (h2 y hy)⟩
theorem zhy {P:Bool->SortSt->Prop}{i a m p b n x:Nat}{l S1 S2:List Keyed}(L:LtE prog w A E s κ k D)(hk:kindOf st=k)(hf:failedOf st=none)(h1:(pendingOf st)[i]?=some (a,m,p))(h2:(pendingOf st)[i+1]?=some (b,n,x))
 (el:(arrOf st).toList=l) (hd:∀ x∈l,D x) (hb:a+m=b) (hn:b+n<=l.length) (m0:0 < m) (n0:0 < n) (e1:(l.drop a).take m=S1) (e2:(l.drop b).take n=S2) (s1:S1.Pairwise (LE κ)) (s2:S2.Pairwise (LE κ))
 (h:∀ t M,kindOf t=k->failedOf t=none->pendingOf t=((pendingOf st).setIfInBounds i (a,m+n,p)).eraseIdxIfInBounds (i+1)->(arrOf t).toList=l.take a++M++l.drop (b+n)->M.Perm (S1++S2)->M.Pairwise (LE κ)->P true t):wpS (model prog w) A E s (mergeAt' i) P st:=by
 have hsz:(arrOf st).size=l.length:=by rw[<-el,Array.length_toList]
 have l1:S1.length=m:=by rw[<-e1,List.length_take,List.length_drop];omega
 have l2:S2.length=n:=by rw[<-e2,List.length_take,List.length_drop];omega
 have whole:l=l.take a++(S1++S2)++l.drop (b+n):=by
  have q1:=YB (l:=l) (a:=a) (Nat.le_refl m)
  rw[e1,show S1.take m=S1 from List.take_of_length_le (by omega),hb]at q1
  have q2:=YB (l:=l) (a:=b) (Nat.le_refl n)
  rw[e2,show S2.take n=S2 from List.take_of_length_le (by omega),q1]at q2
  have q3:=List.take_append_drop (b+n) l
  rw[q2]at q3
  rw[<-List.append_assoc]
  exact q3.symm
 have get1:∀ {i x},S1[i]?=some x->l[a+i]?=some x:=λ{i x} e=>by
  have hi:i < m:=by have:=(List.getElem?_eq_some_iff.mp e).1;omega
  rw[<-e1,List.getElem?_take_of_lt hi,List.getElem?_drop]at e
  exact e
 have get2:∀ {i x},S2[i]?=some x->l[b+i]?=some x:=λ{i x} e=>by
  have hi:i < n:=by have:=(List.getElem?_eq_some_iff.mp e).1;omega
  rw[<-e2,List.getElem?_take_of_lt hi,List.getElem?_drop]at e
  exact e
 have d1:∀ x∈S1,D x:=λx hx=>hd x (by rw[<-e1]at hx;exact List.mem_of_mem_drop (List.mem_of_mem_take hx))
 have d2:∀ x∈S2,D x:=λx hx=>hd x (by rw[<-e2]at hx;exact List.mem_of_mem_drop (List.mem_of_mem_take hx))
 rw[ziS]
 refine wpS_bind (wpS_get ?_)
 dsimp only
 rw[h1,h2]
 dsimp only
 refine wpS_bind (zhe ?_)
 obtain⟨y0,hy0⟩:∃ y,S2[0]?=some y:=⟨_,List.getElem?_eq_getElem (by omega)⟩
 refine wpS_bind (zJ (by rw[el];exact get2 hy0) ?_)
 have hy2:∀ y∈S2,LE κ y0 y:=λy hy=>Xp (LE.refl (κ:=κ)) s2 hy0 y (by rw[List.drop_zero];exact hy)
 have hkz:kindOf (setPending st (((pendingOf st).setIfInBounds i (a,m+n,p)).eraseIdxIfInBounds (i+1)))=k:=hk
 refine wpS_bind (Wp L hkz (d2 y0 (List.mem_of_getElem? hy0)) (λz hz=>d1 z (by rw[el,e1]at hz;exact hz)) (by rw[el];omega) (by omega) (by rw[el,e1];exact s1) λc hc g1 g2=>?_)
 rw[el,e1]at g1 g2
 dsimp only
 by_cases c0:m - c=0
 .rw[if_pos (beq_iff_eq.mpr c0)]
  refine wpS_pure (h _ (S1++S2) hk hf rfl (by show(arrOf st).toList=_;rw[el];exact whole) (List.Perm.refl _) (zka s1 s2 (λx hx=>g1 x ?_) hy2))
  rw[List.take_of_length_le (by omega)]
  exact hx
 rw[if_neg (λz=>c0 (beq_iff_eq.mp z))]
 obtain⟨x0,hx0⟩:∃ x,S1[m - 1]?=some x:=⟨_,List.getElem?_eq_getElem (by omega)⟩
 refine wpS_bind (zJ (x:=x0) (by rw[el,show a+c+(m - c) - 1=a+(m - 1) by omega];exact get1 hx0) ?_)
 have hx2:∀ x∈S1,LE κ x x0:=λx hx=>VM s1 (i:=m) (by omega) hx0 x (by rw[List.take_of_length_le (by omega)];exact hx)
 refine wpS_bind (Wm L hkz (d1 x0 (List.mem_of_getElem? hx0)) (λz hz=>d2 z (by rw[el,e2]at hz;exact hz)) (by rw[el];omega) (by omega) (by rw[el,e2];exact s2) λq hq g3 g4=>?_)
 rw[el,e2]at g3 g4
 dsimp only
 by_cases q0:q=0
 .rw[if_pos (beq_iff_eq.mpr q0)]
  subst q0
  exact wpS_pure (h _ (S1++S2) hk hf rfl (by show(arrOf st).toList=_;rw[el];exact whole) (List.Perm.refl _) (zka s1 s2 hx2 g4))
 rw[if_neg (λz=>q0 (beq_iff_eq.mp z))]
 have ev:((arrOf st).extract (a+c) b).toList=S1.drop c:=by
  rw[xN,el,<- e1,List.drop_take,List.drop_drop,show b - (a+c)=m - c by omega]
 have eu:((arrOf st).extract b (b+q)).toList=S2.take q:=by
  rw[xN,el,<- e2,List.take_take,Nat.add_sub_cancel_left,Nat.min_eq_left hq]
 have T:Two κ D ((arrOf st).extract (a+c) b) ((arrOf st).extract b (b+q)):=by
  refine⟨?_,?_,?_,?_⟩
  .rw[ev];exact λx hx=>d1 x (List.mem_of_mem_drop hx)
  .rw[eu];exact λx hx=>d2 x (List.mem_of_mem_take hx)
  .rw[ev];exact s1.sublist (List.drop_sublist _ _)
  .rw[eu];exact s2.sublist (List.take_sublist _ _)
 have zv:((arrOf st).extract (a+c) b).size=m - c:=by rw[<-Array.length_toList,ev,List.length_drop];omega
 have zu:((arrOf st).extract b (b+q)).size=q:=by rw[<-Array.length_toList,eu,List.length_take];omega
 have top:∀ y∈((arrOf st).extract b (b+q)).toList,∀ x,((arrOf st).extract (a+c) b).toList[((arrOf st).extract (a+c) b).size - 1]?=some x->LE κ y x:=by
  intro y hy x hx
  rw[eu]at hy
  rw[zv,ev,List.getElem?_drop,show c+(m - c - 1)=m - 1 by omega,hx0]at hx
  cases hx
  exact KeyOrd.kle_of_klt (g3 y hy)
 have bot:∀ x∈((arrOf st).extract (a+c) b).toList,∀ y,((arrOf st).extract b (b+q)).toList[0]?=some y->LE κ y x:=by
  intro x hx y hy
  rw[ev]at hx
  rw[eu,List.getElem?_take_of_lt (by omega),hy0]at hy
  cases hy
  exact KeyOrd.kle_of_klt (g2 x hx)
 have fin:∀ r t,Sm (setPending st (((pendingOf st).setIfInBounds i (a,m+n,p)).eraseIdxIfInBounds (i+1))) t->Fn κ ((arrOf st).extract (a+c) b) ((arrOf st).extract b (b+q)) r->wpS (model prog w) A E s (do
  modify λs=>setArr s (r.toList.zipIdx.foldl (λx z=>x.setIfInBounds (a+c+z.2) z.1) (arrOf s))
  let z<-get
  pure (failedOf z).isNone:SM Bool) P t:=λr t hs hr=>by
  refine wpS_bind (wpS_modify (wpS_bind (wpS_get ?_)))
  have hf':failedOf t=none:=hs.fl.trans hf
  show wpS _ _ _ _ (pure (failedOf t).isNone) _ _
  rw[hf']
  have ha:arrOf t=arrOf st:=hs.ar
  obtain⟨rp,rs⟩:=hr
  rw[ev,eu]at rp
  have rl:r.toList.length=m - c+q:=by rw[rp.length_eq,List.length_append,List.length_drop,List.length_take];omega
  refine wpS_pure (h _ (S1.take c++r.toList++S2.drop q) (hs.kd.trans hk) hf' hs.pd ?_ ?_ ?_)
  .show((r.toList.zipIdx.foldl (λx z=>x.setIfInBounds (a+c+z.2) z.1) (arrOf t))).toList=_
   rw[ha,zfo r.toList (arrOf st) (a+c) 0 (by rw[rl,hsz];omega),el,Nat.add_zero,rl,show a+c+(m - c+q)=b+q by omega,YB (l:=l) (a:=a) hc,e1,ze9 hq hn,e2]
   simp only[List.append_assoc]
  .refine((rp.append_left (S1.take c)).append_right (S2.drop q)).trans ?_
   rw[<-List.append_assoc,List.take_append_drop,List.append_assoc,List.take_append_drop]
  .rw[List.append_assoc]
   have s3:(r.toList++S2.drop q).Pairwise (LE κ):=by
    rw[List.pairwise_append]
    refine⟨rs,s2.sublist (List.drop_sublist _ _),λx hx y hy=>?_⟩
    rcases List.mem_append.mp (rp.mem_iff.mp hx)with hx | hx
    .exact LE.trans (hx2 x (List.mem_of_mem_drop hx)) (g4 y hy)
    .have:=List.take_append_drop q S2
     rw[<-this,List.pairwise_append]at s2
     exact s2.2.2 x hx y hy
   rw[List.pairwise_append]
   refine⟨s1.sublist (List.take_sublist _ _),s3,λx hx y hy=>?_⟩
   rcases List.mem_append.mp hy with hy | hy
   .rcases List.mem_append.mp (rp.mem_iff.mp hy)with hy | hy
    .have:=List.take_append_drop c S1
     rw[<-this,List.pairwise_append]at s1
     exact s1.2.2 x hx y hy
    .exact LE.trans (g1 x hx) (hy2 y (List.mem_of_mem_take hy))
   .exact LE.trans (g1 x hx) (hy2 y (List.mem_of_mem_drop hy))
 by_cases cc:m - c<=q
 .rw[if_pos cc]
  exact wpS_bind (zhf L hkz T (by omega) (by omega) top bot fin)
 .rw[if_neg cc]
  exact wpS_bind (zhV L hkz T (by omega) (by omega) top bot fin)
end
noncomputable def zjU (lo a n:Nat):SM AscSt :=
 forIn [a:n] ((none,a):AscSt) λ_ c=>do
  let some z<-ltAt' (lo+c.2) (lo+c.2 - 1) | pure (.done (some none,c.2))
  if z=true then pure (.done (none,c.2))else pure (.yield (none,c.2+1))
noncomputable def zeF (lo n m:Nat):SM (Option Nat):=do
 reverseSlice' lo (lo+n)
 let c<-zjU lo n m
 match c.1 with
 | some r=>pure r
 | none=>pure (some c.2)
noncomputable def zfb (lo n m:Nat):SM DescSt :=
 forIn [n:m] ((none,n,0):DescSt) λ_ c=>do
  let some z<-ltAt' (lo+c.2.1) (lo+c.2.1 - 1) | pure (.done (some none,c.2.1,c.2.2))
  if z=true then
   if c.2.2 > 0 then do
    reverseSlice' (lo+c.2.1 - (c.2.2+1)) (lo+c.2.1)
    pure (.yield (none,c.2.1+1,0))
   else pure (.yield (none,c.2.1+1,0))
  else do
   let some y<-ltAt' (lo+c.2.1 - 1) (lo+c.2.1) | pure (.done (some none,c.2.1,c.2.2))
   if y=true then pure (.done (none,c.2.1,c.2.2))else pure (.yield (none,c.2.1+1,c.2.2+1))
noncomputable def zd4 (lo n m:Nat):SM (Option Nat):=do
 (rule ("list.sort.descending-run"))
 let c<-zfb lo (n+1) m
 match c.1 with
 | some r=>pure r
 | none =>
  if c.2.2 > 0 then do
   reverseSlice' (lo+c.2.1 - (c.2.2+1)) (lo+c.2.1)
   zeF lo c.2.1 m
  else zeF lo c.2.1 m
theorem zdD (lo m:Nat):countRun' lo m=(do
 let c<-zjU lo 1 m
 match c.1 with
 | some r=>pure r
 | none =>
  if (c.2 == m)=true then pure (some c.2)
  else if c.2 > 1 then do
   let some z<-ltAt' lo (lo+c.2 - 1) | pure none
   if z=true then pure (some c.2)else do
    reverseSlice' lo (lo+c.2)
    zd4 lo c.2 m
  else zd4 lo c.2 m):=by
 rw[countRun'_eq]
 unfold zd4 zeF zfb zjU
 dsimp only
 congr 1
 funext c
 obtain⟨r,n⟩:=c
 cases r with
 | some r=>rfl
 | none =>
  dsimp only
  split
  .rfl
  .split
   .congr 1
    funext x
    cases x with
    | none=>rfl
    | some z =>
     dsimp only
     split
     .rfl
     .congr 1;funext _;congr 1;funext _;congr 1;funext d
      obtain⟨r2,n2,q2⟩:=d
      cases r2 with
      | some r2=>rfl
      | none =>
       dsimp only
       split
       .congr 1;funext _;congr 1;funext _;congr 1;funext e
        obtain⟨r3,n3⟩:=e
        cases r3 <;> rfl
       .congr 1;funext _;congr 1;funext e
        obtain⟨r3,n3⟩:=e
        cases r3 <;> rfl
   .congr 1;funext _;congr 1;funext d
    obtain⟨r2,n2,q2⟩:=d
    cases r2 with
    | some r2=>rfl
    | none =>
     dsimp only
     split
     .congr 1;funext _;congr 1;funext _;congr 1;funext e
      obtain⟨r3,n3⟩:=e
      cases r3 <;> rfl
     .congr 1;funext _;congr 1;funext e
      obtain⟨r3,n3⟩:=e
      cases r3 <;> rfl
structure SL (k:SortKind) (a₀ X:KA) (lo:Nat) (p:Pd) (st:SortSt):Prop where
 pm:(arrOf st).Perm a₀
 kd:kindOf st=k
 fl:failedOf st=none
 pd:pendingOf st=p
 bl:∀ i,i < lo->(arrOf st)[i]?=X[i]?
noncomputable def SO (κ:KeyKind)(xs:KA)(lo n:Nat):Prop:=∀ i j,i<=j->j < n->κ.kle (KK κ xs (lo+i)) (KK κ xs (lo+j))
noncomputable def NO (κ:KeyKind)(xs:KA)(lo n:Nat):Prop:=∀ i j,i<=j->j < n->κ.kle (KK κ xs (lo+j)) (KK κ xs (lo+i))
section
variable {prog:Program}{w:World}{A:Around}{E:Value->Shared->Prop}{s:Shared}{st:SortSt}{κ:KeyKind}{k:SortKind}{a₀ X:KA}{lo:Nat}{p:Pd}
theorem SL.sz (S:SL k a₀ X lo p st):(arrOf st).size=a₀.size:=S.pm.size_eq
theorem SL.put (S:SL k a₀ X lo p st){ys:KA}(h:ys.Perm (arrOf st))(b:∀ i,i < lo->ys[i]?=(arrOf st)[i]?):SL k a₀ X lo p (setArr st ys):=⟨h.trans S.pm,S.kd,S.fl,S.pd,λi hi=>(b i hi).trans (S.bl i hi)⟩
theorem SL.mirror (S:SL k a₀ X lo p st){i j:Nat}(hi:lo<=i)(hj:j<=a₀.size):SL k a₀ X lo p (setArr st (mirror (arrOf st) i j ((j - i) / 2))) :=
 S.put (mirror_perm _ _ _ _) λq hq=>by rw[getElem?_mirror_all (by rw[S.sz];exact hj),if_neg (by omega)]
theorem zep {xs:KA}{i:Nat}{x:Keyed}(h:xs[i]?=some x):KK κ xs i=ky κ x:=by
 unfold KK
 rw[h]
 rfl
theorem Yq {i j:Nat}{Q:Option Bool->SortSt->Prop}(L:LtE prog w A E s κ k (·∈a₀.toList))(S:SL k a₀ X lo p st)(hi:i < a₀.size)(hj:j < a₀.size)(q:Q (some (κ.blt (KK κ (arrOf st) i) (KK κ (arrOf st) j))) st):wpS (model prog w) A E s (ltAt' i j) Q st:=by
 have look:∀ {i},i < a₀.size->∃ x,(arrOf st)[i]?=some x/\x∈a₀.toList:=λ{i} hi=>by
  have hi':i < (arrOf st).size:=by rw[S.sz];exact hi
  exact⟨(arrOf st)[i],getElem?_pos _ i hi',(Array.perm_iff_toList_perm.mp S.pm).mem_iff.mp (by simp)⟩
 obtain⟨x,e1,m1⟩:=look hi
 obtain⟨y,e2,m2⟩:=look hj
 rw[zep e1,zep e2]at q
 rw[ltAt'_eq]
 refine wpS_bind (wpS_get ?_)
 show wpS _ _ _ _ (elem' (arrOf st) i>>=λx=>elem' (arrOf st) j>>=λy=>lt' x y) Q st
 rw[elem'_eq,elem'_eq,e1,e2]
 exact wpS_bind (wpS_pure (wpS_bind (wpS_pure (L _ _ _ _ S.kd m1 m2 q))))
theorem SO.up {xs:KA}{x:Nat}(h:SO κ xs lo x)(hx:1<=x)(e:κ.kle (KK κ xs (lo+x - 1)) (KK κ xs (lo+x))):SO κ xs lo (x+1):=λi j hij hj=>by
 by_cases c:j < x
 .exact h i j hij c
 .obtain rfl:j=x:=by omega
  by_cases d:i=j
  .rw[d];exact KeyOrd.kle_refl _
  .have:=h i (j - 1) (by omega) (by omega)
   rw[show lo+(j - 1)=lo+j - 1 by omega]at this
   exact KeyOrd.kle_trans this e
theorem NO.down {xs:KA}{x:Nat}(h:NO κ xs lo x)(hx:1<=x)(e:κ.kle (KK κ xs (lo+x)) (KK κ xs (lo+x - 1))):NO κ xs lo (x+1):=λi j hij hj=>by
 by_cases c:j < x
 .exact h i j hij c
 .obtain rfl:j=x:=by omega
  by_cases d:i=j
  .rw[d];exact KeyOrd.kle_refl _
  .have:=h i (j - 1) (by omega) (by omega)
   rw[show lo+(j - 1)=lo+j - 1 by omega]at this
   exact KeyOrd.kle_trans e this
theorem SO.one {xs:KA}:SO κ xs lo 1:=λi j hij hj=>by
 obtain rfl:i=j:=by omega
 exact KeyOrd.kle_refl _
theorem NO.one {xs:KA}:NO κ xs lo 1:=λi j hij hj=>by
 obtain rfl:i=j:=by omega
 exact KeyOrd.kle_refl _
theorem NO.of {xs ys:KA}{n:Nat}(h:NO κ xs lo n)(e:∀ i,KK κ ys i=KK κ xs i):NO κ ys lo n:=λi j hij hj=>by rw[e,e];exact h i j hij hj
theorem NO.turn {xs:KA}{n:Nat}(h:NO κ xs lo n)(hn:lo+n<=xs.size):SO κ (mirror xs lo (lo+n) ((lo+n - lo) / 2)) lo n:=λi j hij hj=>by
 rw[KK_mirror hn,KK_mirror hn,if_pos ⟨by omega,by omega⟩,if_pos ⟨by omega,by omega⟩]
 have:=h (n - 1 - j) (n - 1 - i) (by omega) (by omega)
 rw[show lo+(n - 1 - i)=lo+(lo+n) - 1 - (lo+i) by omega,show lo+(n - 1 - j)=lo+(lo+n) - 1 - (lo+j) by omega]at this
 exact this
theorem zb4 {a n:Nat}{Q:AscSt->SortSt->Prop}(L:LtE prog w A E s κ k (·∈a₀.toList))(hn:lo+n<=a₀.size)(ha:1<=a)(han:a<=n)(S:SL k a₀ X lo p st)(hs:SO κ (arrOf st) lo a)
 (h:∀ m,a<=m->m<=n->SO κ (arrOf st) lo m->(m=n\/κ.klt (KK κ (arrOf st) (lo+m)) (KK κ (arrOf st) (lo+m - 1)))->Q (none,m) st):wpS (model prog w) A E s (zjU lo a n) Q st:=by
 unfold zjU
 refine wpS_forRange (I:=λx c t=>(t=st/\c=(none,x))/\SO κ (arrOf st) lo x) (λx c t h1 h2 hI=>?_) (λc t hI=>?_) ⟨⟨rfl,rfl⟩,hs⟩
 .obtain⟨⟨rfl,rfl⟩,hx⟩:=hI
  refine wpS_bind (Yq L S (by omega) (by omega) ?_)
  dsimp only
  cases c:κ.blt (KK κ (arrOf t) (lo+x)) (KK κ (arrOf t) (lo+x - 1)) with
  | true=>exact wpS_pure (h x h1 (by omega) hx (.inr c))
  | false=>exact wpS_pure ⟨⟨rfl,rfl⟩,hx.up (by omega) c⟩
 .obtain⟨⟨rfl,rfl⟩,hx⟩:=hI
  have e:max a n=n:=by omega
  rw[e]at hx ⊢
  exact h n han (Nat.le_refl _) hx (.inl rfl)
theorem V5 {n m:Nat}{Q:Option Nat->SortSt->Prop}(L:LtE prog w A E s κ k (·∈a₀.toList))(hm:lo+m<=a₀.size)(h1:1<=n)(hnm:n<=m)(S:SL k a₀ X lo p st)(hs:NO κ (arrOf st) lo n)
 (h:∀ r t,SL k a₀ X lo p t->1<=r->r<=m->SO κ (arrOf t) lo r->Q (some r) t):wpS (model prog w) A E s (zeF lo n m) Q st:=by
 unfold zeF
 have S':=S.mirror (i:=lo) (j:=lo+n) (Nat.le_refl _) (by omega)
 exact wpS_bind (wpS_reverse (wpS_bind (zb4 L hm h1 hnm S' (hs.turn (by rw[S.sz];omega)) λr g1 g2 g3 _=>wpS_pure (h r _ S' (by omega) g2 g3))))
theorem zcQ {n m:Nat}{Q:DescSt->SortSt->Prop}(L:LtE prog w A E s κ k (·∈a₀.toList))(hm:lo+m<=a₀.size)(h1:1<=n)(hnm:n<=m)(S:SL k a₀ X lo p st)(hs:NO κ (arrOf st) lo n)
 (h:∀ r q t,SL k a₀ X lo p t->n<=r->r<=m->NO κ (arrOf t) lo r->q+1<=r->(∀ i,lo+r - (q+1)<=i->i < lo+r->KK κ (arrOf t) i=KK κ (arrOf t) (lo+r - 1))->Q (none,r,q) t):wpS (model prog w) A E s (zfb lo n m) Q st:=by
 unfold zfb
 refine wpS_forRange (I:=λx c t=>∃ q,c=(none,x,q)/\SL k a₀ X lo p t/\NO κ (arrOf t) lo x/\q+1<=x/\∀ i,lo+x - (q+1)<=i->i < lo+x->KK κ (arrOf t) i=KK κ (arrOf t) (lo+x - 1))
  (λx c t g1 g2 hI=>?_) (λc t hI=>?_) ⟨0,rfl,S,hs,h1,λi c1 c2=>by rw[show i=lo+n - 1 by omega]⟩
 .obtain⟨q,rfl,S1,ni,hq,he⟩:=hI
  dsimp only
  refine wpS_bind (Yq L S1 (by omega) (by omega) ?_)
  dsimp only
  cases c:κ.blt (KK κ (arrOf t) (lo+x)) (KK κ (arrOf t) (lo+x - 1)) with
  | true =>
   have d:=ni.down (by omega) (KeyOrd.kle_of_klt c)
   rw[if_pos rfl]
   by_cases hq0:q > 0
   .rw[if_pos hq0]
    exact wpS_bind (wpS_reverse (wpS_pure ⟨0,rfl,S1.mirror (by omega) (by omega),d.of (KK_mirror_equal (by rw[S1.sz];omega) he),by omega,λi c1 c2=>by rw[show i=lo+(x+1) - 1 by omega]⟩))
   .rw[if_neg hq0]
    exact wpS_pure ⟨0,rfl,S1,d,by omega,λi c1 c2=>by rw[show i=lo+(x+1) - 1 by omega]⟩
  | false =>
   rw[if_neg Bool.false_ne_true]
   refine wpS_bind (Yq L S1 (by omega) (by omega) ?_)
   dsimp only
   cases c2:κ.blt (KK κ (arrOf t) (lo+x - 1)) (KK κ (arrOf t) (lo+x)) with
   | true=>exact wpS_pure (h x q t S1 g1 (by omega) ni hq he)
   | false =>
    have same:KK κ (arrOf t) (lo+x)=KK κ (arrOf t) (lo+x - 1):=KeyOrd.kle_antisymm c2 c
    refine wpS_pure ⟨q+1,rfl,S1,ni.down (by omega) c2,by omega,λi d1 d2=>?_⟩
    show KK κ (arrOf t) i=KK κ (arrOf t) (lo+x)
    by_cases di:i=lo+x
    .rw[di]
    .rw[same];exact he i (by omega) (by omega)
 .obtain⟨q,rfl,S1,ni,hq,he⟩:=hI
  have e:max n m=m:=by omega
  rw[e]at ni hq he ⊢
  exact h m q t S1 hnm (Nat.le_refl _) ni hq he
theorem Vg {n m:Nat}{Q:Option Nat->SortSt->Prop}(L:LtE prog w A E s κ k (·∈a₀.toList))(hm:lo+m<=a₀.size)(hnm:n+1<=m)(S:SL k a₀ X lo p st)(hs:NO κ (arrOf st) lo (n+1))
 (h:∀ r t,SL k a₀ X lo p t->1<=r->r<=m->SO κ (arrOf t) lo r->Q (some r) t):wpS (model prog w) A E s (zd4 lo n m) Q st:=by
 unfold zd4
 refine wpS_bind (wpS_lift (wpAny_rule ⟨rfl,wpS_bind (zcQ L hm (by omega) hnm S hs λr q t S1 r1 r2 ni hq he=>?_)⟩))
 dsimp only
 by_cases hq0:q > 0
 .rw[if_pos hq0]
  exact wpS_bind (wpS_reverse (V5 (n:=r) L hm (by omega) r2 (S1.mirror (by omega) (by omega)) (ni.of (KK_mirror_equal (by rw[S1.sz];omega) he)) h))
 .rw[if_neg hq0]
  exact V5 (n:=r) L hm (by omega) r2 S1 ni h
theorem zcK {m:Nat}{Q:Option Nat->SortSt->Prop}(L:LtE prog w A E s κ k (·∈a₀.toList))(hm:lo+m<=a₀.size)(h1:1<=m)(S:SL k a₀ X lo p st)
 (h:∀ r t,SL k a₀ X lo p t->1<=r->r<=m->SO κ (arrOf t) lo r->Q (some r) t):wpS (model prog w) A E s (countRun' lo m) Q st:=by
 rw[zdD]
 refine wpS_bind (zb4 L hm (Nat.le_refl 1) h1 S SO.one λn n1 n2 sn or=>?_)
 dsimp only
 by_cases e:n=m
 .rw[if_pos (by rw[e];exact beq_self_eq_true m)]
  exact wpS_pure (h n st S n1 n2 sn)
 .rw[if_neg (λz=>e (eq_of_beq z))]
  have lt:=or.resolve_left e
  by_cases g:n > 1
  .rw[if_pos g]
   refine wpS_bind (Yq L S (by omega) (by omega) ?_)
   dsimp only
   cases c:κ.blt (KK κ (arrOf st) lo) (KK κ (arrOf st) (lo+n - 1)) with
   | true=>exact wpS_pure (h n st S n1 n2 sn)
   | false =>
    have eq:∀ i,lo<=i->i < lo+n->KK κ (arrOf st) i=KK κ (arrOf st) (lo+n - 1):=λi hl hi=>by
     have z1:=sn (i - lo) (n - 1) (by omega) (by omega)
     have z2:=sn 0 (i - lo) (by omega) (by omega)
     rw[show lo+(i - lo)=i by omega,show lo+(n - 1)=lo+n - 1 by omega]at z1
     rw[show lo+(i - lo)=i by omega,Nat.add_zero]at z2
     exact KeyOrd.kle_antisymm z1 (KeyOrd.kle_trans c z2)
    have ni:NO κ (arrOf st) lo n:=λi j _ hj=>by rw[eq (lo+i) (by omega) (by omega),eq (lo+j) (by omega) (by omega)];exact KeyOrd.kle_refl _
    rw[if_neg Bool.false_ne_true]
    exact wpS_bind (wpS_reverse (Vg L hm (by omega) (S.mirror (Nat.le_refl _) (by omega)) ((ni.down (by omega) (KeyOrd.kle_of_klt lt)).of (KK_mirror_equal (by rw[S.sz];omega) eq)) h))
  .rw[if_neg g]
   obtain rfl:n=1:=by omega
   exact Vg L hm (by omega) S (NO.one.down (Nat.le_refl 1) (KeyOrd.kle_of_klt lt)) h
theorem SL.bubble (S:SL k a₀ X lo p st){x l:Nat}(hl:l<=x)(hx:lo+x < a₀.size):SL k a₀ X lo p (setArr st (bubble (arrOf st) (lo+x) (lo+x - (lo+l)))) :=
 S.put (bubble_perm _ _ _) λq hq=>by rw[getElem?_bubble (by rw[S.sz];exact hx) _ (by omega),if_neg (by omega),if_neg (by omega)]
theorem zg5 {xs:KA}{x l:Nat}(hz:lo+x < xs.size)(hl:l<=x)(sx:SO κ xs lo x)(low:∀ i,i < l->κ.kle (KK κ xs (lo+i)) (KK κ xs (lo+x)))(up:∀ i,l<=i->i < x->κ.klt (KK κ xs (lo+x)) (KK κ xs (lo+i))):SO κ (bubble xs (lo+x) (lo+x - (lo+l))) lo (x+1):=by
 have key:∀ i,i < x+1->KK κ (bubble xs (lo+x) (lo+x - (lo+l))) (lo+i)=if i=l then KK κ xs (lo+x)else if l < i then KK κ xs (lo+(i - 1))else KK κ xs (lo+i):=λi hi=>by
  rw[KK_bubble hz (by omega)]
  by_cases c:i=l
  .rw[if_pos (by omega),if_pos c]
  .rw[if_neg (by omega),if_neg c]
   by_cases c2:l < i
   .rw[if_pos ⟨by omega,by omega⟩,if_pos c2,show lo+i - 1=lo+(i - 1) by omega]
   .rw[if_neg (by omega),if_neg c2]
 intro i j hij hj
 rw[key i (by omega),key j hj]
 by_cases i1:i=l
 .rw[if_pos i1]
  by_cases j1:j=l
  .rw[if_pos j1];exact KeyOrd.kle_refl _
  .rw[if_neg j1,if_pos (by omega)]
   exact KeyOrd.kle_of_klt (up (j - 1) (by omega) (by omega))
 .rw[if_neg i1]
  by_cases i2:l < i
  .rw[if_pos i2,if_neg (by omega),if_pos (by omega)]
   exact sx (i - 1) (j - 1) (by omega) (by omega)
  .rw[if_neg i2]
   by_cases j1:j=l
   .rw[if_pos j1];exact low i (by omega)
   .rw[if_neg j1]
    by_cases j2:l < j
    .rw[if_pos j2];exact sx i (j - 1) (by omega) (by omega)
    .rw[if_neg j2];exact sx i j hij (by omega)
theorem zeV {n r:Nat}{Q:Bool->SortSt->Prop}(L:LtE prog w A E s κ k (·∈a₀.toList))(hn:lo+n<=a₀.size)(hr:r<=n)(h1:1<=r)(S:SL k a₀ X lo p st)(hs:SO κ (arrOf st) lo r)
 (h:∀ t,SL k a₀ X lo p t->SO κ (arrOf t) lo n->Q true t):wpS (model prog w) A E s (binarySort' lo n r) Q st:=by
 rw[binarySort'_eq]
 rw[show max r 1=r by omega]
 refine wpS_bind (wpS_mono (wpS_forRange (I:=λx c t=>c=(none,())/\SL k a₀ X lo p t/\SO κ (arrOf t) lo x) (Q:=λc t=>c=(none,())/\SL k a₀ X lo p t/\SO κ (arrOf t) lo n)
  (λx c t g1 g2 hI=>?_) (λc t hI=>?_) ⟨rfl,S,hs⟩) λc t hI=>?_)
 .obtain⟨rfl,S1,sx⟩:=hI
  refine wpS_bind (wpS_mono (wpS_forRange
   (I:=λy c t'=>t'=t/\∃ l u,c=(none,l,u)/\(l<=u/\u<=x/\u - l<=x - y)/\(∀ i,i < l->κ.kle (KK κ (arrOf t) (lo+i)) (KK κ (arrOf t) (lo+x)))/\∀ i,u<=i->i < x->κ.klt (KK κ (arrOf t) (lo+x)) (KK κ (arrOf t) (lo+i)))
   (Q:=λc t'=>t'=t/\∃ l u,c=(none,l,u)/\l<=x/\(∀ i,i < l->κ.kle (KK κ (arrOf t) (lo+i)) (KK κ (arrOf t) (lo+x)))/\∀ i,l<=i->i < x->κ.klt (KK κ (arrOf t) (lo+x)) (KK κ (arrOf t) (lo+i)))
   (λy c t' y1 y2 hJ=>?_) (λc t' hJ=>?_) ⟨rfl,0,x,rfl,⟨Nat.zero_le _,Nat.le_refl _,Nat.le_refl _⟩,λi hi=>absurd hi (Nat.not_lt_zero _),λi i1 i2=>absurd (Nat.lt_of_le_of_lt i1 i2) (Nat.lt_irrefl _)⟩) λc t' hJ=>?_)
  .obtain⟨rfl,l,u,rfl,⟨e1,e2,e3⟩,low,up⟩:=hJ
   dsimp only
   by_cases c1:l >= u
   .rw[if_pos c1]
    obtain rfl:l=u:=by omega
    exact wpS_pure ⟨rfl,l,l,rfl,e2,low,up⟩
   .rw[if_neg c1]
    obtain⟨md,hmd⟩:∃ md,(l+u) / 2=md:=⟨_,rfl⟩
    rw[hmd]
    have m1:l<=md/\md < u:=by omega
    refine wpS_bind (Yq L S1 (by omega) (by omega) ?_)
    dsimp only
    cases c2:κ.blt (KK κ (arrOf t') (lo+x)) (KK κ (arrOf t') (lo+md)) with
    | true=>exact wpS_pure ⟨rfl,l,md,rfl,⟨m1.1,by omega,by omega⟩,low,λi i1 i2=>KeyOrd.klt_of_klt_of_kle c2 (sx md i i1 i2)⟩
    | false=>exact wpS_pure ⟨rfl,md+1,u,rfl,⟨by omega,e2,by omega⟩,λi i1=>KeyOrd.kle_trans (sx i md (by omega) (by omega)) c2,up⟩
  .obtain⟨rfl,l,u,rfl,⟨e1,e2,e3⟩,low,up⟩:=hJ
   obtain rfl:l=u:=by omega
   exact⟨rfl,l,l,rfl,e2,low,up⟩
  .obtain⟨rfl,l,u,rfl,e2,low,up⟩:=hJ
   dsimp only
   rw[moveDown'_eq]
   exact wpS_bind (wpS_modify (wpS_pure ⟨rfl,S1.bubble e2 (by omega),zg5 (by rw[S1.sz];omega) e2 sx low up⟩))
 .obtain⟨e1,S1,sx⟩:=hI
  rw[show max r n=n by omega]at sx
  exact⟨e1,S1,sx⟩
 .obtain⟨rfl,S1,sx⟩:=hI
  exact wpS_pure (h t S1 sx)
end
noncomputable abbrev U1:=Option Unit × Unit
noncomputable abbrev U2:=Option Unit × Nat
noncomputable def zkL (q:Nat)(_:U1):SM (ForInStep U1):=do
 let z<-get
 let some (_,_,o):=(if (pendingOf z).size > 1 then (pendingOf z)[(pendingOf z).size - 2]? else none) | pure (.done (none,()))
 if o<=q then pure (.done (none,()))else do
  let b<-mergeAt' ((pendingOf z).size - 2)
  if (!b)=true then pure (.done (some (),()))else pure (.yield (none,()))
noncomputable def zal (N lo n:Nat):SM (ForInStep U2):=do
 let z<-get
 let some (a,m,_):=(pendingOf z).back? | do
  modify λs=>setPending s ((pendingOf s).push (lo,n,0))
  pure (.yield (none,lo+n))
 let c<-forIn [0:N] ((none,()):U1) λ_ c=>zkL (power' N (2*a+m) (2*a+m+m+n) N) c
 match c.1 with
 | some r=>pure (.done (some r,lo))
 | none=>do
  modify λs=>setPending s ((pendingOf s).modify ((pendingOf s).size - 1) λx=>(x.1,x.2.1,power' N (2*a+m) (2*a+m+m+n) N))
  modify λs=>setPending s ((pendingOf s).push (lo,n,0))
  pure (.yield (none,lo+n))
noncomputable def zkQ (N M:Nat)(c:U2):SM (ForInStep U2) :=
 if c.2 >= N then pure (.done (none,c.2))else do
  let some f<-countRun' c.2 (N - c.2) | pure (.done (some (),c.2))
  if f < M then do
   (rule ("list.sort.binary-insertion"))
   let b<-binarySort' c.2 (min (N - c.2) M) f
   if (!b)=true then pure (.done (some (),c.2))else zal N c.2 (min (N - c.2) M)
  else zal N c.2 f
noncomputable def zlc (p:Pd):Nat:=if ((if p.size - 2 > 0 then p[p.size - 2 - 1]?.map (·.2.1)else none).any (· < (p[p.size - 2+1]?.elim 0 (·.2.1))))=true then p.size - 2 - 1 else p.size - 2
noncomputable def zlQ (_:U1):SM (ForInStep U1):=do
 let z<-get
 if (pendingOf z).size<=1 then pure (.done (none,()))else do
  let b<-mergeAt' (zlc (pendingOf z))
  if (!b)=true then pure (.done (some (),()))else pure (.yield (none,()))
theorem ziu:sortRuns'=(do
 let z<-get
 let c<-forIn [0:(arrOf z).size] ((none,0):U2) λ_ c=>zkQ (arrOf z).size (minRun' (arrOf z).size (arrOf z).size 0) c
 match c.1 with
 | some r=>pure r
 | none=>do
  let d<-forIn [0:(arrOf z).size] ((none,()):U1) λ_ d=>zlQ d
  match d.1 with
  | some r=>pure r
  | none=>pure ()):=by
 rw[sortRuns'_eq]
 dsimp only[zkQ,zal,zkL,zlQ,zlc]
 congr 1;funext z;congr 1
 .congr 1;funext _ c
  congr 1;congr 1;funext f
  cases f with
  | none=>rfl
  | some f =>
   dsimp only
   split
   .congr 1;funext _;congr 1;funext b
    congr 1;congr 1;funext y
    cases (pendingOf y).back? with
    | none=>rfl
    | some r =>
     dsimp only
     congr 1;funext d;obtain⟨r,d⟩:=d;cases r <;> rfl
   .congr 1;funext y
    cases (pendingOf y).back? with
    | none=>rfl
    | some r =>
     dsimp only
     congr 1;funext d;obtain⟨r,d⟩:=d;cases r <;> rfl
 .funext c;obtain⟨r,c⟩:=c
  cases r with
  | some r=>rfl
  | none =>
   dsimp only
   congr 1;funext d;obtain⟨r,d⟩:=d;cases r <;> rfl
noncomputable def Zr (κ:KeyKind)(l:List Keyed):Nat->List (Nat × Nat)->Nat->Prop
 | a,[],b=>a=b
 | a,r::p,b=>r.1=a/\0 < r.2/\((l.drop a).take r.2).Pairwise (LE κ)/\Zr κ l (a+r.2) p b
section
variable {κ:KeyKind}{l l':List Keyed}
theorem Zr.le:∀ {p:List (Nat × Nat)} {a b:Nat},Zr κ l a p b->a+p.length<=b
 | [],a,b,h=>by have:a=b:=h;rw[this];exact Nat.le_refl _
 | r::p,a,b,h=>by have:=Zr.le h.2.2.2;have:=h.2.1;rw[List.length_cons];omega
theorem Zr.split:∀ {p q:List (Nat × Nat)} {a b:Nat},Zr κ l a (p++q) b->∃ c,Zr κ l a p c/\Zr κ l c q b
 | [],q,a,b,h=>⟨a,rfl,h⟩
 | r::p,q,a,b,h=>by
  obtain⟨c,h1,h2⟩:=Zr.split (p:=p) h.2.2.2
  exact⟨c,⟨h.1,h.2.1,h.2.2.1,h1⟩,h2⟩
theorem Zr.join:∀ {p q:List (Nat × Nat)} {a b c:Nat},Zr κ l a p c->Zr κ l c q b->Zr κ l a (p++q) b
 | [],q,a,b,c,h,h2=>by have:a=c:=h;rw[this];exact h2
 | r::p,q,a,b,c,h,h2=>⟨h.1,h.2.1,h.2.2.1,Zr.join h.2.2.2 h2⟩
theorem Zr.low:∀ {p:List (Nat × Nat)} {a b:Nat},Zr κ l a p b->l'.take b=l.take b->Zr κ l' a p b
 | [],a,b,h,_=>h
 | r::p,a,b,h,e=>by
  have hl:=h.2.2.2.le
  refine⟨h.1,h.2.1,?_,h.2.2.2.low e⟩
  have key:∀ m:List Keyed,(m.drop a).take r.2=((m.take b).drop a).take r.2:=λm=>by
   rw[List.drop_take,List.take_take,Nat.min_eq_left (by omega)]
  rw[key,e,<- key]
  exact h.2.2.1
theorem Zr.high:∀ {p:List (Nat × Nat)} {a b:Nat},Zr κ l a p b->l'.drop a=l.drop a->Zr κ l' a p b
 | [],a,b,h,_=>h
 | r::p,a,b,h,e=>by
  refine⟨h.1,h.2.1,by rw[e];exact h.2.2.1,h.2.2.2.high ?_⟩
  rw[<-List.drop_drop,e,List.drop_drop]
end
noncomputable abbrev g2 (r:Nat × Nat × Nat):Nat × Nat:=(r.1,r.2.1)
structure ST (κ:KeyKind) (k:SortKind) (a₀:KA) (hi:Nat) (st:SortSt):Prop where
 pm:(arrOf st).Perm a₀
 kd:kindOf st=k
 fl:failedOf st=none
 sg:Zr κ (arrOf st).toList 0 ((pendingOf st).toList.map g2) hi
section
variable {prog:Program}{w:World}{A:Around}{E:Value->Shared->Prop}{s:Shared}{st:SortSt}{κ:KeyKind}{k:SortKind}{a₀:KA}{hi:Nat}
theorem ST.sz (S:ST κ k a₀ hi st):(arrOf st).size=a₀.size:=S.pm.size_eq
theorem ST.mem (S:ST κ k a₀ hi st):∀ x∈(arrOf st).toList,x∈a₀.toList:=λx hx=>(Array.perm_iff_toList_perm.mp S.pm).mem_iff.mp hx
theorem zdj {α:Type}{l:List α}{i:Nat}(h:i+1 < l.length):∃ P x y Q,l=P++x::y::Q/\P.length=i:=by
 refine⟨l.take i,l[i],l[i+1],l.drop (i+2),?_,by rw[List.length_take];omega⟩
 have e1:l.drop i=l[i]::l[i+1]::l.drop (i+2):=by rw[List.drop_eq_getElem_cons (by omega),List.drop_eq_getElem_cons h]
 rw[<-e1,List.take_append_drop]
theorem zad {i:Nat}{Q:Bool->SortSt->Prop}(L:LtE prog w A E s κ k (·∈a₀.toList))(S:ST κ k a₀ hi st)(hi2:i+1 < (pendingOf st).size)(hle:hi<=a₀.size)
 (h:∀ t,ST κ k a₀ hi t->(pendingOf t).size+1=(pendingOf st).size->(arrOf t).toList.drop hi=(arrOf st).toList.drop hi->Q true t):wpS (model prog w) A E s (mergeAt' i) Q st:=by
 obtain⟨P,⟨a,m,p⟩,⟨b,n,x⟩,R,e,hP⟩:=zdj (l:=(pendingOf st).toList) (i:=i) (by rw[Array.length_toList];exact hi2)
 have sg:=S.sg
 rw[e,List.map_append,List.map_cons,List.map_cons]at sg
 obtain⟨c,s1,sa,m0,so1,sb,n0,so2,s2⟩:=sg.split
 have sa':a=c:=sa
 have sb':b=c+m:=sb
 subst sa' sb'
 dsimp only at m0 n0 so1 so2 s2
 have hl2:=s2.le
 have hz:(arrOf st).toList.length=a₀.size:=by rw[Array.length_toList,S.sz]
 have p1:(pendingOf st)[i]?=some (a,m,p):=by
  rw[<-Array.getElem?_toList,e,List.getElem?_append_right (by omega),hP,Nat.sub_self]
  rfl
 have p2:(pendingOf st)[i+1]?=some (a+m,n,x):=by
  rw[<-Array.getElem?_toList,e,List.getElem?_append_right (by omega),hP,Nat.add_sub_cancel_left]
  rfl
 refine zhy L S.kd S.fl p1 p2 rfl S.mem rfl (by omega) m0 n0 rfl rfl so1 so2 λt M t1 t2 t3 t4 t5 t6=>?_
 have ep:(pendingOf t).toList=P++(a,m+n,p)::R:=by
  rw[t3,Array.toList_eraseIdxIfInBounds,Array.toList_setIfInBounds,e,List.set_append_right _ _ (by omega),hP,Nat.sub_self,List.eraseIdx_append_of_length_le (by omega),hP,Nat.add_sub_cancel_left]
  rfl
 have lP:((arrOf st).toList.take a).length=a:=by rw[List.length_take];omega
 have lM:M.length=m+n:=by rw[t5.length_eq,List.length_append,List.length_take,List.length_take,List.length_drop,List.length_drop];omega
 have d1:(arrOf t).toList.take a=(arrOf st).toList.take a:=by rw[t4,List.append_assoc,List.take_append_of_le_length (by omega),List.take_of_length_le (by omega)]
 have d2:(arrOf t).toList.drop (a+m+n)=(arrOf st).toList.drop (a+m+n):=by
  rw[t4,List.drop_append_of_le_length (by rw[List.length_append];omega),List.drop_eq_nil_of_le (by rw[List.length_append];omega),List.nil_append]
 have d3:((arrOf t).toList.drop a).take (m+n)=M:=by
  rw[t4,List.append_assoc,List.drop_append_of_le_length (by omega),List.drop_eq_nil_of_le (by omega),List.nil_append,List.take_append_of_le_length (by omega),List.take_of_length_le (by omega)]
 refine h t ⟨?_,t1,t2,?_⟩ ?_ ?_
 .refine Array.perm_iff_toList_perm.mpr (List.Perm.trans ?_ (Array.perm_iff_toList_perm.mp S.pm))
  rw[t4]
  have q1:=YB (l:=(arrOf st).toList) (a:=a) (Nat.le_refl m)
  rw[List.take_take,Nat.min_self]at q1
  have q2:=YB (l:=(arrOf st).toList) (a:=a+m) (Nat.le_refl n)
  rw[List.take_take,Nat.min_self,q1]at q2
  have q3:=List.take_append_drop (a+m+n) (arrOf st).toList
  rw[q2]at q3
  have q4:(arrOf st).toList.Perm (List.take a (arrOf st).toList++(List.take m (List.drop a (arrOf st).toList)++List.take n (List.drop (a+m) (arrOf st).toList))++List.drop (a+m+n) (arrOf st).toList):=by
   rw[<-List.append_assoc,q3]
  exact((t5.append_left _).append_right _).trans q4.symm
 .rw[ep,List.map_append,List.map_cons]
  refine(s1.low d1).join ⟨rfl,by show 0 < m+n;omega,by show(((arrOf t).toList.drop a).take (m+n)).Pairwise _;rw[d3];exact t6,?_⟩
  have:Zr κ (arrOf t).toList (a+m+n) (R.map g2) hi:=s2.high d2
  show Zr κ (arrOf t).toList (a+(m+n)) (R.map g2) hi
  rw[<-Nat.add_assoc]
  exact this
 .rw[<-Array.length_toList,<- Array.length_toList,ep,e]
  simp only[List.length_append,List.length_cons]
  omega
 .rw[show hi=a+m+n+(hi - (a+m+n)) by omega,<- List.drop_drop,d2,List.drop_drop]
theorem zdS {xs:KA}{lo n:Nat}(h:SO κ xs lo n):((xs.toList.drop lo).take n).Pairwise (LE κ):=by
 rw[List.pairwise_iff_getElem]
 intro i j hi hj hij
 have hj2:j < n:=by rw[List.length_take]at hj;omega
 have z:=h i j (by omega) hj2
 have e:∀ {q} (hq:q < ((xs.toList.drop lo).take n).length),KK κ xs (lo+q)=ky κ ((xs.toList.drop lo).take n)[q]:=λ{q} hq=>by
  refine zep ?_
  have hq2:q < n:=by rw[List.length_take]at hq;omega
  rw[<-Array.getElem?_toList,<- List.getElem?_drop,<- List.getElem?_take_of_lt hq2,List.getElem?_eq_getElem hq]
 rw[e hi,e hj]at z
 exact z
theorem ST.push (S:ST κ k a₀ hi st){n:Nat}(hn:0 < n)(h:(((arrOf st).toList.drop hi).take n).Pairwise (LE κ)):ST κ k a₀ (hi+n) (setPending st ((pendingOf st).push (hi,n,0))):=by
 refine⟨S.pm,S.kd,S.fl,?_⟩
 show Zr κ (arrOf st).toList 0 (((pendingOf st).push (hi,n,0)).toList.map g2) (hi+n)
 rw[Array.toList_push,List.map_append]
 exact S.sg.join ⟨rfl,hn,h,rfl⟩
theorem zic {f:Nat × Nat × Nat->Nat × Nat × Nat}(hf:∀ r,g2 (f r)=g2 r)(p:Pd)(i:Nat):(p.modify i f).toList.map g2=p.toList.map g2:=by
 refine List.ext_getElem? λj=>?_
 rw[Array.toList_modify,List.getElem?_map,List.getElem?_map,List.getElem?_modify]
 cases p.toList[j]? with
 | none=>rfl
 | some r =>
  show Option.map g2 (some (if i=j then f r else r))=_
  split
  .exact congrArg some (hf r)
  .rfl
theorem ST.mod (S:ST κ k a₀ hi st){f:Nat × Nat × Nat->Nat × Nat × Nat}(hf:∀ r,g2 (f r)=g2 r)(i:Nat):ST κ k a₀ hi (setPending st ((pendingOf st).modify i f)):=by
 refine⟨S.pm,S.kd,S.fl,?_⟩
 show Zr κ (arrOf st).toList 0 (((pendingOf st).modify i f).toList.map g2) hi
 rw[zic hf]
 exact S.sg
theorem X3 {N n:Nat}(L:LtE prog w A E s κ k (·∈a₀.toList))(S:ST κ k a₀ hi st)(hn:0 < n)(hle:hi+n<=a₀.size)(so:(((arrOf st).toList.drop hi).take n).Pairwise (LE κ)) :
 wpS (model prog w) A E s (zal N hi n) (λr t=>r=.yield (none,hi+n)/\ST κ k a₀ (hi+n) t) st:=by
 unfold zal
 refine wpS_bind (wpS_get ?_)
 cases e:(pendingOf st).back? with
 | none=>exact wpS_bind (wpS_modify (wpS_pure ⟨rfl,S.push hn so⟩))
 | some r =>
  obtain⟨a,m,q⟩:=r
  dsimp only
  refine wpS_bind (wpS_mono (wpS_forRange (I:=λ_ c t=>c=(none,())/\ST κ k a₀ hi t/\(arrOf t).toList.drop hi=(arrOf st).toList.drop hi) (Q:=λc t=>c=(none,())/\ST κ k a₀ hi t/\(arrOf t).toList.drop hi=(arrOf st).toList.drop hi)
   (λx c t _ _ hI=>?_) (λc t hI=>hI) ⟨rfl,S,rfl⟩) λc t hI=>?_)
  .obtain⟨rfl,S1,d1⟩:=hI
   unfold zkL
   refine wpS_bind (wpS_get ?_)
   by_cases c1:(pendingOf t).size > 1
   .rw[if_pos c1]
    cases e2:(pendingOf t)[(pendingOf t).size - 2]? with
    | none=>exact wpS_pure ⟨rfl,S1,d1⟩
    | some r =>
     obtain⟨r1,r2,o⟩:=r
     dsimp only
     split
     .exact wpS_pure ⟨rfl,S1,d1⟩
     .refine wpS_bind (zad L S1 (by omega) (by omega) λt2 S2 _ d2=>?_)
      exact wpS_pure ⟨rfl,S2,d2.trans d1⟩
   .rw[if_neg c1]
    exact wpS_pure ⟨rfl,S1,d1⟩
  .obtain⟨rfl,S1,d1⟩:=hI
   dsimp only
   refine wpS_bind (wpS_modify (wpS_bind (wpS_modify (wpS_pure ⟨rfl,?_⟩))))
   exact(S1.mod (f:=λx=>(x.1,x.2.1,power' N (2*a+m) (2*a+m+m+n) N)) (λ_=>rfl) ((pendingOf t).size - 1)).push hn (by show(((arrOf t).toList.drop hi).take n).Pairwise (LE κ);rw[d1];exact so)
theorem ze4 {xs ys:KA}{lo:Nat}(h:∀ i,i < lo->ys[i]?=xs[i]?):ys.toList.take lo=xs.toList.take lo:=by
 refine List.ext_getElem? λi=>?_
 by_cases c:i < lo
 .rw[List.getElem?_take_of_lt c,List.getElem?_take_of_lt c,Array.getElem?_toList,Array.getElem?_toList]
  exact h i c
 .rw[List.getElem?_eq_none (by rw[List.length_take];omega),List.getElem?_eq_none (by rw[List.length_take];omega)]
theorem ST.sl (S:ST κ k a₀ hi st):SL k a₀ (arrOf st) hi (pendingOf st) st:=⟨S.pm,S.kd,S.fl,rfl,λ_ _=>rfl⟩
theorem ST.from (S:ST κ k a₀ hi st){t:SortSt}(T:SL k a₀ (arrOf st) hi (pendingOf st) t):ST κ k a₀ hi t:=⟨T.pm,T.kd,T.fl,by rw[T.pd];exact S.sg.low (ze4 T.bl)⟩
theorem zfi {M:Nat}{c:U2}(L:LtE prog w A E s κ k (·∈a₀.toList))(S:ST κ k a₀ c.2 st)(hc:c.1=none)(hle:c.2<=a₀.size) :
 wpS (model prog w) A E s (zkQ a₀.size M c) (λr t=>(c.2=a₀.size/\r=.done (none,c.2)/\t=st)\/∃ n,0 < n/\c.2+n<=a₀.size/\r=.yield (none,c.2+n)/\ST κ k a₀ (c.2+n) t) st:=by
 unfold zkQ
 by_cases c1:c.2 >= a₀.size
 .rw[if_pos c1]
  exact wpS_pure (.inl ⟨by omega,rfl,rfl⟩)
 .rw[if_neg c1]
  refine wpS_bind (zcK (m:=a₀.size - c.2) L (by omega) (by omega) S.sl λf t T f1 f2 so=>?_)
  dsimp only
  have S1:=S.from T
  by_cases c2:f < M
  .rw[if_pos c2]
   refine wpS_bind (wpS_lift (wpAny_rule ⟨rfl,?_⟩))
   have hm:f<=min (a₀.size - c.2) M:=Nat.le_min.mpr ⟨f2,by omega⟩
   have hm2:min (a₀.size - c.2) M<=a₀.size - c.2:=Nat.min_le_left _ _
   refine wpS_bind (zeV (n:=min (a₀.size - c.2) M) L (by omega) hm f1 S1.sl so λt2 T2 so2=>?_)
   exact wpS_mono (X3 L (S1.from T2) (by omega) (by omega) (zdS so2)) λr t3 h=>.inr ⟨_,by omega,by omega,h.1,h.2⟩
  .rw[if_neg c2]
   exact wpS_mono (X3 L S1 (by omega) (by omega) (zdS so)) λr t3 h=>.inr ⟨f,by omega,by omega,h.1,h.2⟩
theorem zhq {p:Pd}(h:1 < p.size):zlc p+1 < p.size:=by
 have key:∀ b:Bool,(if b=true then p.size - 2 - 1 else p.size - 2)+1 < p.size:=λb=>by
  cases b with
  | true=>rw[if_pos rfl];omega
  | false=>rw[if_neg Bool.false_ne_true];omega
 exact key _
theorem own_runsE {Q:Unit->SortSt->Prop}(L:LtE prog w A E s κ k (·∈a₀.toList))(pm:(arrOf st).Perm a₀)(kd:kindOf st=k)(fl:failedOf st=none)(pd:pendingOf st=#[])
 (h:∀ t,(arrOf t).Perm a₀->failedOf t=none->SortedToK κ (arrOf t) a₀.size->Q () t):wpS (model prog w) A E s sortRuns' Q st:=by
 rw[ziu]
 refine wpS_bind (wpS_get ?_)
 have hz:(arrOf st).size=a₀.size:=pm.size_eq
 rw[hz]
 have S0:ST κ k a₀ 0 st:=⟨pm,kd,fl,by rw[pd];exact rfl⟩
 refine wpS_bind (wpS_mono (wpS_forRange (I:=λx c t=>c.1=none/\ST κ k a₀ c.2 t/\c.2<=a₀.size/\(x<=c.2\/c.2=a₀.size)) (Q:=λc t=>c.1=none/\ST κ k a₀ a₀.size t)
  (λx c t _ hx hI=>?_) (λc t hI=>?_) ⟨rfl,S0,Nat.zero_le _,.inl (Nat.le_refl _)⟩) λc t hI=>?_)
 .obtain⟨h1,h2,h3,h4⟩:=hI
  refine wpS_mono (zfi L h2 h1 h3) λr t2 hr=>?_
  rcases hr with ⟨e,rfl,rfl⟩ | ⟨n,n0,n1,rfl,S2⟩
  .exact⟨rfl,by rw[e]at h2;exact h2⟩
  .exact⟨rfl,S2,n1,by rcases h4 with h4 | h4 <;> (show x+1<=c.2+n\/c.2+n=a₀.size;omega)⟩
 .obtain⟨h1,h2,h3,h4⟩:=hI
  refine⟨h1,?_⟩
  have e:c.2=a₀.size:=by
   rcases h4 with h4 | h4
   .have:max 0 a₀.size=a₀.size:=by omega
    omega
   .exact h4
  rw[e]at h2
  exact h2
 .obtain⟨h1,S1⟩:=hI
  rw[h1]
  dsimp only
  have len:=S1.sg.le
  rw[List.length_map,Array.length_toList]at len
  refine wpS_bind (wpS_mono (wpS_forRange (I:=λx d t=>d=(none,())/\ST κ k a₀ a₀.size t/\(pendingOf t).size+x<=a₀.size) (Q:=λd t=>d=(none,())/\ST κ k a₀ a₀.size t/\(pendingOf t).size<=1)
   (λx d t _ hx hI=>?_) (λd t hI=>?_) ⟨rfl,S1,by omega⟩) λd t hI=>?_)
  .obtain⟨rfl,S2,h2⟩:=hI
   unfold zlQ
   refine wpS_bind (wpS_get ?_)
   by_cases c1:(pendingOf t).size<=1
   .rw[if_pos c1]
    exact wpS_pure ⟨rfl,S2,c1⟩
   .rw[if_neg c1]
    refine wpS_bind (zad L S2 (zhq (by omega)) (Nat.le_refl _) λt2 S3 e3 _=>?_)
    exact wpS_pure ⟨rfl,S3,by omega⟩
  .obtain⟨rfl,S2,h2⟩:=hI
   refine⟨rfl,S2,?_⟩
   have:max 0 a₀.size=a₀.size:=by omega
   omega
  .obtain⟨rfl,S2,h2⟩:=hI
   refine wpS_pure (h t S2.pm S2.fl ?_)
   have sz:(arrOf t).toList.length=a₀.size:=by rw[Array.length_toList,S2.sz]
   have so:(arrOf t).toList.Pairwise (LE κ):=by
    have sg:=S2.sg
    have hl:((pendingOf t).toList.map g2).length<=1:=by rw[List.length_map,Array.length_toList];exact h2
    match e:(pendingOf t).toList.map g2 with
    | [] =>
     rw[e]at sg
     have z:0=a₀.size:=sg
     have:(arrOf t).toList=[]:=List.length_eq_zero_iff.mp (by omega)
     rw[this]
     exact List.Pairwise.nil
    | [r] =>
     rw[e]at sg
     obtain⟨_,_,s3,s4⟩:=sg
     have z:0+r.2=a₀.size:=s4
     rw[List.drop_zero,List.take_of_length_le (by omega)]at s3
     exact s3
    | r::r2::q=>rw[e]at hl;simp at hl
   intro i j hij hj
   obtain⟨y,hy⟩:∃ y,(arrOf t).toList[j]?=some y:=⟨_,List.getElem?_eq_getElem (by omega)⟩
   obtain⟨x,hx⟩:∃ x,(arrOf t).toList[i]?=some x:=⟨_,List.getElem?_eq_getElem (by omega)⟩
   rw[zep (by rw[<-Array.getElem?_toList];exact hx),zep (by rw[<-Array.getElem?_toList];exact hy)]
   exact WE so hij hx hy
end
end OwnTim
namespace OwnSortT
open PySem PyProof.Rows OwnSort
theorem lex_irr:∀ a:List Int,HT.lexLt a a=false:=by
 intro a
 induction a with
 | nil=>rfl
 | cons x xs ih=>rw[HT.lexLt_cons,if_pos rfl,ih]
theorem lex_trans:∀ a b c:List Int,HT.lexLt a b=true->HT.lexLt b c=true->HT.lexLt a c=true:=by
 intro a
 induction a with
 | nil =>
  intro b c h1 h2
  cases c with
  | nil=>cases b <;> cases h2
  | cons _ _=>rfl
 | cons x xs ih =>
  intro b c h1 h2
  cases b with
  | nil=>cases h1
  | cons y ys=>cases c with
   | nil=>cases h2
   | cons z zs =>
    rw[HT.lexLt_cons]at h1 h2 ⊢
    by_cases e1:x=y
    .rw[if_pos e1]at h1
     by_cases e2:y=z
     .rw[if_pos e2]at h2;rw[if_pos (e1.trans e2)];exact ih _ _ h1 h2
     .rw[if_neg e2,decide_eq_true_eq]at h2;rw[if_neg (by omega),decide_eq_true_eq];omega
    .rw[if_neg e1,decide_eq_true_eq]at h1
     by_cases e2:y=z
     .rw[if_neg (by omega),decide_eq_true_eq];omega
     .rw[if_neg e2,decide_eq_true_eq]at h2;rw[if_neg (by omega),decide_eq_true_eq];omega
theorem lex_total:∀ a b:List Int,HT.lexLt a b=false->HT.lexLt b a=false->a=b:=by
 intro a
 induction a with
 | nil =>
  intro b h1 h2
  cases b with
  | nil=>rfl
  | cons _ _=>cases h1
 | cons x xs ih =>
  intro b h1 h2
  cases b with
  | nil=>cases h2
  | cons y ys =>
   rw[HT.lexLt_cons]at h1 h2
   by_cases e:x=y
   .rw[if_pos e]at h1;rw[if_pos e.symm]at h2;rw[e,ih _ h1 h2]
   .rw[if_neg e,decide_eq_false_iff_not]at h1;rw[if_neg (Ne.symm e),decide_eq_false_iff_not]at h2;omega
theorem lex_neg (a b c:List Int)(h:HT.lexLt a c=true):HT.lexLt a b=true\/HT.lexLt b c=true:=by
 cases h1:HT.lexLt a b with
 | true=>exact .inl rfl
 | false =>
  refine .inr ?_
  cases h2:HT.lexLt b a with
  | true=>exact lex_trans _ _ _ h2 h
  | false=>rw[<-lex_total _ _ h1 h2];exact h
noncomputable def TT (h:Heap) (v:Value) (t:List Int):Prop:=∃ a o n its,v=.ref a/\h.get? a=some o/\o.cls=.type "tuple"/\o.data=.seq its.toArray n/\IntsAre its t/\t≠[]
theorem zdk:∀ {vs:List Value} {ns ms:List Int},IntsAre vs ns->IntsAre vs ms->ns=ms:=by
 intro vs ns ms h
 induction h generalizing ms with
 | nil=>intro h2;cases h2;rfl
 | cons n t h ih=>intro h2;cases h2 with | cons n' t' h'=>rw[ih h']
theorem TT.uniq {h:Heap}{v:Value}{s t:List Int}(x:TT h v s)(y:TT h v t):s=t:=by
 obtain⟨a,o,n,its,rfl,e1,_,d1,i1,_⟩:=x
 obtain⟨b,p,m,its',e,e2,_,d2,i2,_⟩:=y
 cases e
 rw[e1]at e2
 cases e2
 rw[d1]at d2
 have e3:its.toArray=its'.toArray:=by injection d2
 cases List.toArray_inj e3
 exact zdk i1 i2
theorem TT.keep {h h':Heap}{v:Value}{t:List Int}(x:TT h v t)(k:∀ b o,h.get? b=some o->h'.get? b=some o):TT h' v t:=by
 obtain⟨a,o,n,its,e,e1,r⟩:=x
 exact⟨a,o,n,its,e,k _ _ e1,r⟩
theorem TT.keepT {h h':Heap} {v:Value} {t:List Int} (x:TT h v t) (k:∀ b o,o.cls=.type "tuple"->h.get? b=some o->h'.get? b=some o):TT h' v t:=by
 obtain⟨a,o,n,its,e,e1,c,r⟩:=x
 exact⟨a,o,n,its,e,k _ _ c e1,c,r⟩
open Classical in
noncomputable def keyTT (h:Heap)(v:Value):Option (List Int):=if x:∃ t,TT h v t then some x.choose else none
theorem keyTT_of {h:Heap}{v:Value}{t:List Int}(x:TT h v t):keyTT h v=some t:=by
 unfold keyTT
 have y:∃ t,TT h v t:=⟨t,x⟩
 rw[dif_pos y,y.choose_spec.uniq x]
@[reducible] noncomputable def zb9 (h:Heap):KeyKind where
 α:=List Int
 blt:=HT.lexLt
 irrefl:=lex_irr
 trans:=lex_trans
 negTrans:=lex_neg
 total:=lex_total
 keyOf:=keyTT h
 dflt:=[]
section
variable {prog:Program}{w:World}{A:Around}{E:Value->Shared->Prop}{s:Shared}
noncomputable def ziy (d:Bool):List Int->List Int->Bool
 | x::xs,y::ys=>if x=y then ziy d xs ys else decide (x < y)
 | _,_=>d
theorem zht:∀ a b:List Int,ziy (decide (a.length < b.length)) a b=HT.lexLt a b:=by
 intro a
 induction a with
 | nil=>intro b;cases b with
  | nil=>rfl
  | cons _ _=>rfl
 | cons x xs ih=>intro b;cases b with
  | nil=>rfl
  | cons y ys =>
   rw[HT.lexLt_cons,<- ih ys]
   show(if x=y then ziy (decide (xs.length+1 < ys.length+1)) xs ys else decide (x < y))=_
   rw[show decide (xs.length+1 < ys.length+1)=decide (xs.length < ys.length) by congr 1;apply propext;omega]
noncomputable def zeD (x:(Value × Value) × Nat)(_:Option Bool × Unit):Sem (ForInStep (Option Bool × Unit)):=do
 let b<-eqBool x.1.1 x.1.2
 if (!b)=true then do
  let c<-oneLt' (true&&x.2 == 0) x.1.1 x.1.2
  pure (ForInStep.done (some c,()))
 else pure (ForInStep.yield (none,()))
theorem zfY {d:Bool}:∀ {xs:List Value} {ns:List Int} {ys:List Value} {ms:List Int} {k:Nat} {Q:Option Bool × Unit->Shared->Prop},IntsAre xs ns->IntsAre ys ms->(∀ r:Option Bool × Unit,r.1.getD d=ziy d ns ms->Q r s) ->
 wpAny (model prog w) A (forIn ((xs.zip ys).zipIdx k) ((none,()):Option Bool × Unit) zeD) Q E s:=by
 intro xs ns ys ms k Q h1
 induction h1 generalizing ys ms k with
 | nil=>intro h2 q;exact wpAny_pure (q (none,()) rfl)
 | cons x t h1 ih =>
  intro h2 q
  cases h2 with
  | nil=>exact wpAny_pure (q (none,()) rfl)
  | cons y u h2 =>
   rw[List.zip_cons_cons,List.zipIdx_cons,List.forIn_cons]
   refine wpAny_bind (wpAny_bind (SeqAt.EqAt.int_int x t y u prog w E _ ?_))
   by_cases c:x=y
   .rw[show(x == y)=true by rw[c];exact beq_self_eq_true _]
    refine wpAny_pure (ih h2 λr hr=>q r (hr.trans ?_))
    show _=(if x=y then ziy d _ _ else decide (x < y))
    rw[if_pos c]
   .rw[show(x == y)=false by simpa using c]
    have q0:Q (some (decide (x < y)),()) s:=q _ (by
     show decide (x < y)=(if x=y then ziy d _ _ else decide (x < y))
     rw[if_neg c])
    cases k with
    | zero=>exact wpAny_bind (oneLt_int (wpAny_pure (wpAny_pure q0)))
    | succ k=>exact wpAny_bind (lt0 (wpAny_pure (wpAny_pure q0)))
theorem zgW {x y:Value}{a b:List Int}{Q:Bool->Shared->Prop}(hx:TT s.heap x a)(hy:TT s.heap y b)(h:Q (HT.lexLt a b) s):wpAny (model prog w) A (keyLt' (tuples' true) x y) Q E s:=by
 obtain⟨p,o,n,xs,rfl,e1,_,d1,i1,_⟩:=hx
 obtain⟨q,o2,n2,ys,rfl,e2,_,d2,i2,_⟩:=hy
 rw[zcO]
 refine wpAny_bind (listItems_at e1 d1 (wpAny_bind (listItems_at e2 d2 ?_)))
 show wpAny _ _ (forIn ((xs.zip ys).zipIdx 0) ((none,()):Option Bool × Unit) zeD>>=_) _ _ _
 refine wpAny_bind (zfY (d:=decide (xs.length < ys.length)) i1 i2 λr hr=>?_)
 have e:Q (r.1.getD (decide (xs.length < ys.length))) s:=by
  rw[hr,i1.length,i2.length,zht];exact h
 obtain⟨r1,u⟩:=r
 cases r1 with
 | none=>exact wpAny_pure e
 | some v=>exact wpAny_pure e
theorem zeW {vs:List Value}(hT:∀ v∈vs,∃ t,TT s.heap v t):OwnTim.LtE prog w A E s (zb9 s.heap) (tuples' true) (·∈(pairsOf vs).toList):=by
 intro st x y Q hk hx hy h
 have look:∀ {x:Keyed},x∈(pairsOf vs).toList->∃ t,TT s.heap x.1 t/\OwnTim.ky (zb9 s.heap) x=t:=λ{x} hm=>by
  rw[pairsOf_toList]at hm
  obtain⟨t,ht⟩:=hT _ (mem_zip_self hm).2
  refine⟨t,ht,?_⟩
  unfold OwnTim.ky
  show(keyTT s.heap x.1).getD _=t
  rw[keyTT_of ht]
  rfl
 obtain⟨a,ta,ka⟩:=look hx
 obtain⟨b,tb,kb⟩:=look hy
 rw[ka,kb]at h
 rw[lt'_eq]
 refine wpS_bind (wpS_get ?_)
 rw[hk]
 exact wpS_bind (wpS_lift (wpAny_attempt (zgW ta tb ⟨rfl,wpS_pure h⟩)))
theorem XT:∀ {vs:List Value} {Q:List (Option Value)->Shared->Prop},(∀ v∈vs,∃ t,TT s.heap v t)->(∀ fs:List Value,fs.length=vs.length->(∀ f∈fs,∃ i t,f=.int i t)->Q (fs.map some) s)->wpAny (model prog w) A (vs.mapM firstOfTuple') Q E s
 | [],Q,_,h=>by rw[List.mapM_nil];exact wpAny_pure (h [] rfl (by simp))
 | v::vs,Q,hT,h=>by
  obtain⟨t,a,o,n,its,rfl,e1,c1,d1,hi,hne⟩:=hT v List.mem_cons_self
  obtain⟨z,zs,i0,tk,rfl,rfl⟩:∃ z zs i0 tk,its=z::zs/\z=.int i0 tk:=by
   cases hi with
   | nil=>exact absurd rfl hne
   | cons i0 tk hi=>exact⟨_,_,_,_,rfl,rfl⟩
  rw[List.mapM_cons,zeh]
  refine wpAny_bind (wpAny_bind (wpAny_typeOf (T:="tuple") ⟨o,e1,c1⟩ ?_))
  rw[if_neg (by simp)]
  refine wpAny_bind (listItems_at e1 d1 (wpAny_pure (wpAny_bind (XT (λu hu=>hT u (List.mem_cons_of_mem _ hu)) λfs hl hf=>wpAny_pure ?_))))
  exact h (.int i0 tk::fs) (by simp[hl]) λf hf'=>by
   rcases List.mem_cons.mp hf' with rfl | hf'
   .exact⟨_,_,rfl⟩
   .exact hf f hf'
theorem zd9 {v₁:Value}{vs:List Value}{Q:SortKind->Shared->Prop}(hT:∀ v∈v₁::vs,∃ t,TT s.heap v t)(h:Q (tuples' true) s):wpAny (model prog w) A (keyKind' (v₁::vs).toArray) Q E s:=by
 rw[keyKind'_eq,List.mapM_toArray,<- bind_pure_comp,bind_assoc]
 refine wpAny_bind (XT hT λfs hl hf=>wpAny_bind (wpAny_pure ?_))
 cases fs with
 | nil=>simp at hl
 | cons f fs =>
  rw[if_pos (by simp)]
  have ef:((f::fs).map some).toArray.filterMap id=(f::fs).toArray:=by simp
  refine wpAny_bind (wpAny_rule ?_)
  rw[ef,oneTypeOnly'_eq,List.mapM_toArray,zbn hf]
  simp only[map_pure,pure_bind]
  rw[show(List.map (λ_=>Value.type "int") (f::fs)).toArray[0]?=some (Value.type "int") by simp]
  have al:((List.map (λ_=>Value.type "int") (f::fs)).toArray.all λx=>x == Value.type "int")=true:=by
   simp only[List.all_toArray,List.all_map,List.all_eq_true]
   intro _ _
   rfl
  simp only[al,if_true,pure_bind,Option.any_some]
  rw[show(Value.type "int" != Value.type "tuple")=true by decide +kernel]
  exact wpAny_pure h
end
noncomputable def Rise (h:Heap)(out:List Value):Prop:=∃ ts:List (List Int),out.length=ts.length/\(∀ (i:Nat) (v:Value) (t:(List Int)),out[i]?=some v->ts[i]?=some t->TT h v t)/\ts.Pairwise λa b=>HT.lexLt b a=false
theorem zen {h h':Heap}{vs:List Value}{xs:Array Keyed}(hT:∀ v∈vs,∃ t,TT h v t)(hk:∀ v t,TT h v t->TT h' v t)(pm:xs.Perm (pairsOf vs))(hs:SortedToK (zb9 h') xs (pairsOf vs).size):(xs.map (·.2)).toList.Perm vs/\Rise h (xs.map (·.2)).toList:=by
 have hl:xs.toList.Perm (vs.zip vs):=by rw[<-pairsOf_toList];exact Array.perm_iff_toList_perm.mp pm
 have hm:∀ p∈xs.toList,p.1=p.2/\p.1∈vs:=λp hp=>mem_zip_self (hl.mem_iff.mp hp)
 have e2:(xs.map (·.2)).toList=xs.toList.map (·.2):=by simp
 rw[e2]
 refine⟨?_,xs.toList.map λp=>(keyTT h' p.1).getD ([]:List Int),by simp,λi v t hv ht=>?_,?_⟩
 .have:=hl.map (·.2)
  rwa[show(vs.zip vs).map (·.2)=vs from List.map_snd_zip (Nat.le_refl _)]at this
 .rw[List.getElem?_map]at hv ht
  cases hx:xs.toList[i]? with
  | none=>rw[hx]at hv;cases hv
  | some p =>
   rw[hx]at hv ht
   cases hv
   cases ht
   obtain⟨q1,q2⟩:=hm p (List.mem_of_getElem? hx)
   obtain⟨t,ht⟩:=hT _ q2
   show TT h p.2 ((keyTT h' p.1).getD ([]:List Int))
   rw[keyTT_of (hk _ _ ht),<- q1]
   exact ht
 .rw[List.pairwise_iff_getElem]
  intro i j hi hj hij
  have hi':i < xs.size:=by simpa using hi
  have hj':j < xs.size:=by simpa using hj
  have:=hs i j (Nat.le_of_lt hij) (by rw[<-pm.size_eq];exact hj')
  unfold KK at this
  rw[getElem?_pos xs i hi',getElem?_pos xs j hj']at this
  have this:HT.lexLt ((keyTT h' xs[j].1).getD ([]:List Int)) ((keyTT h' xs[i].1).getD ([]:List Int))=false:=this
  simpa using this
section
variable {prog:Program}{w:World}{A:Around}{E:Value->Shared->Prop}{s:Shared}
theorem ownT_list_sort {a:Addr} {vs:List Value} {n:Nat} {P:Fin->Shared->Prop} (ho:s.heap.get? a=some (seqObj "list" vs.toArray n)) (hT:∀ v∈vs,∃ t,TT s.heap v t) (h64:vs.length < 10000000)
 (h:∀ out:Array Value,out.toList.Perm vs->Rise s.heap out.toList->P (.done (.ret .none)) { s with heap:=sortedHeap s.heap a vs out }):wpAny (model prog w) A (Builtin.«list.sort» ⟨[.ref a],[]⟩) P E s:=by
 have la:a < s.heap.objs.size:=Heap.lt_size ho
 have zl:vs.toArray.size=vs.length:=List.size_toArray
 obtain⟨e1,o1⟩:∃ e1,(s.heap.update a (Obj.mapSeq λ_=>#[])).get? a=some (seqObj "list" #[] e1):=⟨_,get?_update_seq ho (λ_=>#[])⟩
 have o6:(((s.heap.update a (Obj.mapSeq λ_=>#[])).push (seqObj "tuple" vs.toArray 0)).push (seqObj "list" #[] 0)).get? a=some (seqObj "list" #[] e1):=Heap.get?_push_of_some _ (Heap.get?_push_of_some _ o1)
 have up:∀ b o,o.cls=.type "tuple"->s.heap.get? b=some o->(((s.heap.update a (Obj.mapSeq λ_=>#[])).push (seqObj "tuple" vs.toArray 0)).push (seqObj "list" #[] 0)).get? b=some o:=λb o c e=>by
  refine Heap.get?_push_of_some _ (Heap.get?_push_of_some _ ((Heap.get?_update_other _ _ λz=>?_).trans e))
  subst z
  rw[ho]at e
  cases e
  exact absurd (show Value.type "list"=Value.type "tuple" from c) (by decide +kernel)
 have hT6:∀ v∈vs,∃ t,TT (((s.heap.update a (Obj.mapSeq λ_=>#[])).push (seqObj "tuple" vs.toArray 0)).push (seqObj "list" #[] 0)) v t:=λv hv=>let ⟨t,ht⟩:=hT v hv;⟨t,ht.keepT up⟩
 rw[list_sort_plain]
 refine wpAny_bind (listItems_at ho rfl (wpAny_bind (listUpdate_at ho rfl (wpAny_bind (seqEpoch_at o1 rfl (wpAny_bind (wpAny_newTuple (wpAny_bind (wpAny_newList (wpAny_holding ?_))))))))))
 show wpAny (model prog w) A _ P E { s with heap:=((s.heap.update a (Obj.mapSeq λ_=>#[])).push (seqObj "tuple" vs.toArray 0)).push (seqObj "list" #[] 0) }
 by_cases c2:vs.toArray.size < 2
 .rw[if_pos c2,if_pos c2]
  refine wpAny_bind (wpAny_pure ?_)
  dsimp only
  rw[StateT.run_pure]
  refine wpAny_bind (wpAny_pure ?_)
  obtain⟨r1,r2⟩:=zen (xs:=pairsOf vs) hT (λv t ht=>ht) (Array.Perm.refl _) (λi j hij hj=>by
   obtain rfl:i=j:=by rw[pairsOf_size]at hj;omega
   exact KeyOrd.kle_refl _)
  refine wpAny_bind (seqEpoch_at o6 rfl (wpAny_bind (listUpdate_at o6 rfl ?_ (hsz2:=by rw[Array.size_map];show(pairsOf vs).size<=_;rw[pairsOf_size,sizeLine_eq];omega))))
  rw[show(e1 != e1)=false by simp]
  exact wpAny_pure (h _ r1 r2)
 .rw[if_neg c2,if_neg c2]
  cases vs with
  | nil=>simp at c2
  | cons v₁ rest =>
   refine wpAny_bind (zd9 hT6 ?_)
   refine wpAny_bind (wpAny_mono (OwnTim.own_runsE (st:=SortSt.mk' (tuples' true) ((v₁::rest).toArray.zip (v₁::rest).toArray) #[] 7 none) (Q:=λ_ t=>(arrOf t).Perm (pairsOf (v₁::rest))/\failedOf t=none/\SortedToK (zb9 _) (arrOf t) (pairsOf (v₁::rest)).size)
    (zeW hT6) (Array.Perm.refl _) rfl rfl rfl λt p1 p2 p3=>⟨p1,p2,p3⟩) ?_ λ_ _ e=>e)
   rintro⟨⟨⟩,t⟩ s' ⟨rfl,p1,p2,p3⟩
   obtain⟨r1,r2⟩:=zen hT (λv t ht=>ht.keepT up) p1 p3
   refine wpAny_bind (seqEpoch_at o6 rfl (wpAny_bind (listUpdate_at o6 rfl ?_ (hsz2:=by rw[Array.size_map];show(arrOf t).size<=_;rw[p1.size_eq,pairsOf_size,sizeLine_eq];omega))))
   rw[p2,show(e1 != e1)=false by simp]
   exact wpAny_pure (h _ r1 r2)
theorem ownT_sorted {l:Addr}{vs:List Value}{Q:Value->Shared->Prop}(hl:s.heap.IsList l vs.toArray)(hT:∀ v∈vs,∃ t,TT s.heap v t)(h64:vs.length < 10000000)
 (h:∀ out:Array Value,out.toList.Perm vs->Rise s.heap out.toList->Q (.ref (s.heap.objs.size+1)) { s with heap:=sortedAll s.heap vs out }):wpAny (model prog w) A (call (.builtin "sorted") [.ref l]) Q E s:=by
 have z1:((s.heap.push (seqObj "list" #[] 0)).update s.heap.objs.size (Obj.mapSeq (·++vs.toArray))).objs.size=s.heap.objs.size+1:=(Heap.size_update ..).trans (size_push' _ _)
 have oL:(((s.heap.push (seqObj "list" #[] 0)).update s.heap.objs.size (Obj.mapSeq (·++vs.toArray))).push (seqObj "list" vs.toArray 0)).get? (s.heap.objs.size+1)=some (seqObj "list" vs.toArray 0):=z1 ▸ Heap.get?_push_size _ rfl
 have up:∀ b o,s.heap.get? b=some o->(((s.heap.push (seqObj "list" #[] 0)).update s.heap.objs.size (Obj.mapSeq (·++vs.toArray))).push (seqObj "list" vs.toArray 0)).get? b=some o:=λb o e =>
  Heap.get?_push_of_some _ ((Heap.get?_update_other _ _ λz=>by subst z;exact absurd (Heap.lt_size e) (Nat.lt_irrefl _)).trans (Heap.get?_push_of_some _ e))
 refine Calls.call_function_entry kind_sorted plain_sorted entry_sorted (args_sorted1 _) ?_
 unfold Builtin.«sorted»
 refine wpAny_bind (m:=checkCount "sorted" 1 1 _) (wpAny_pure (wpAny_bind (collect_list hl (wpAny_bind (wpAny_newList ?_)))))
 show wpAny _ _ _ _ _ (Shared.mk (((s.heap.push (seqObj "list" #[] 0)).update s.heap.objs.size (Obj.mapSeq (·++vs.toArray))).push (seqObj "list" vs.toArray 0)) s.gens s.drawn s.toks s.os)
 rw[z1]
 refine wpAny_bind (wpAny_holding (wpAny_call_entry slot_list_sort ⟨_,oL,rfl⟩ entry_list_sort (ownT_list_sort oL (λv hv=>let ⟨t,ht⟩:=hT v hv;⟨t,ht.keep up⟩) h64 λout p1 p2=>⟨_,rfl,wpAny_pure ⟨_,rfl,h out p1 ?_⟩⟩) (args_list_sort _)))
 obtain⟨ts,q1,q2,q3⟩:=p2
 refine⟨ts,q1,λi v t hv ht=>?_,q3⟩
 obtain⟨t0,ht0⟩:=hT v (p1.mem_iff.mp (List.mem_of_getElem? hv))
 rw[(q2 i v t hv ht).uniq (ht0.keep up)]
 exact ht0
end
end OwnSortT
namespace OwnSort
open PySem PyProof.Rows
noncomputable def Rise (h:Heap)(out:List Value):Prop:=∃ ts:List Pr,out.length=ts.length/\(∀ (i:Nat) (v:Value) (t:Pr),out[i]?=some v->ts[i]?=some t->TP h v t)/\ts.Pairwise λa b=>bltP b a=false
theorem TP.tt {h:Heap}{v:Value}{t:Pr}(x:TP h v t):OwnSortT.TT h v [t.1,t.2]:=by
 obtain⟨a,o,n,tx,ty,e1,e2,e3,e4⟩:=x
 exact⟨a,o,n,[.int t.1 tx,.int t.2 ty],e1,e2,e3,e4,.cons _ _ (.cons _ _ .nil),List.cons_ne_nil _ _⟩
theorem zf9 (a b:Pr):HT.lexLt [a.1,a.2] [b.1,b.2]=bltP a b:=by
 rw[HT.lexLt_cons,HT.lexLt_cons]
 unfold bltP
 by_cases c:a.1=b.1
 .rw[if_pos c]
  by_cases c2:a.2=b.2
  .rw[if_pos c2,decide_eq_false (by omega)];rfl
  .rw[if_neg c2,decide_eq_decide];omega
 .rw[if_neg c,decide_eq_decide];omega
theorem zeK {h:Heap}{vs out:List Value}(hT:∀ v∈vs,∃ t,TP h v t)(pm:out.Perm vs)(r:OwnSortT.Rise h out):Rise h out:=by
 obtain⟨ts,l1,l2,l3⟩:=r
 have key:∀ (i:Nat) (v:Value) (t:List Int),out[i]?=some v->ts[i]?=some t->∃ p:Pr,TP h v p/\t=[p.1,p.2]:=λi v t h1 h2=>by
  obtain⟨p,hp⟩:=hT v (pm.mem_iff.mp (List.mem_of_getElem? h1))
  exact⟨p,hp,OwnSortT.TT.uniq (l2 i v t h1 h2) hp.tt⟩
 have ex:∀ t∈ts,∃ p:Pr,t=[p.1,p.2]:=λt ht=>by
  obtain⟨i,hi,rfl⟩:=List.getElem_of_mem ht
  obtain⟨p,_,e⟩:=key i out[i] ts[i] (List.getElem?_eq_getElem (by omega)) (List.getElem?_eq_getElem hi)
  exact⟨p,e⟩
 refine⟨ts.map λt=>(t.getD 0 0,t.getD 1 0),by rw[List.length_map,l1],λi v t h1 h2=>?_,?_⟩
 .rw[List.getElem?_map]at h2
  obtain⟨u,hu,rfl⟩:=Option.map_eq_some_iff.mp h2
  obtain⟨p,hp,rfl⟩:=key i v u h1 hu
  exact hp
 .rw[List.pairwise_map]
  refine l3.imp_of_mem λ{a b} ha hb hab=>?_
  obtain⟨p,rfl⟩:=ex a ha
  obtain⟨q,rfl⟩:=ex b hb
  rw[zf9]at hab
  exact hab
section
variable {prog:Program}{w:World}{A:Around}{E:Value->Shared->Prop}{s:Shared}
theorem own_sorted {l:Addr}{vs:List Value}{Q:Value->Shared->Prop}(hl:s.heap.IsList l vs.toArray)(hT:∀ v∈vs,∃ t,TP s.heap v t)(h64:vs.length < 64)
 (h:∀ out:Array Value,out.toList.Perm vs->Rise s.heap out.toList->Q (.ref (s.heap.objs.size+1)) { s with heap:=sortedAll s.heap vs out }):wpAny (model prog w) A (call (.builtin "sorted") [.ref l]) Q E s :=
 OwnSortT.ownT_sorted hl (λv hv=>(hT v hv).imp' (λt=>[t.1,t.2]) λ_ ht=>ht.tt) (by omega) λout p r=>h out p (zeK hT p r)
end
end OwnSort
namespace Dl
open PySem L2
class KK where
 K:W.Frag
inductive D where
 | non | bl (b:Bool) | int (i:Int) | str (x:Str) | tup (ds:List D) | lst (ds:List D) | scr (ns:List Int)
  | dct (z t:Bool) (ks:List (List Key)) (vs:List D)
 deriving Inhabited
section
variable [KK]
noncomputable def zbQ (o:HO)(t:Bool)(ks:List (List Key))(xs:List V):Prop :=
 if t=true then ∃ kvs,o=.dT kvs/\kvs.map (·.1)=ks/\kvs.map (·.2)=xs else ∃ kvs:List (Key × V),o=.dK kvs/\kvs.map (λp=>[p.1])=ks/\kvs.map (·.2)=xs
noncomputable def Wx (H:Hp)(a:Addr)(z t:Bool)(ks:List (List Key))(xs:List V):Prop :=
 ∃ u,zbQ u t ks xs/\if z=true then ∃ ob,H a=some (.frz ob u)else H a=some u
theorem Wx.mono {H H':Hp}{a:Addr}{z t:Bool}{ks:List (List Key)}{xs:List V}(s:yf H H')(h:Wx H a z t ks xs):Wx H' a z t ks xs:=by
 obtain⟨u,h1,h2⟩:=h
 refine⟨u,h1,?_⟩
 cases z with
 | true =>
  rw[if_pos rfl]at h2 ⊢
  obtain⟨ob,h2⟩:=h2
  exact⟨ob,s _ _ h2⟩
 | false =>
  rw[if_neg Bool.false_ne_true]at h2 ⊢
  exact s _ _ h2
theorem Wx.rd {H:Hp}{a:Addr}{z t:Bool}{ks:List (List Key)}{xs:List V}(h:Wx H a z t ks xs):∃ u,zbQ u t ks xs/\Rd H a u:=by
 obtain⟨u,h1,h2⟩:=h
 refine⟨u,h1,?_⟩
 cases z with
 | true =>
  rw[if_pos rfl]at h2
  obtain⟨ob,h2⟩:=h2
  exact .inr ⟨ob,h2⟩
 | false =>
  rw[if_neg Bool.false_ne_true]at h2
  exact .inl h2
mutual
noncomputable def At (H:Hp):D->V->Prop
 | .non,v=>v=.non
 | .bl b,v=>v=.bl b
 | .int i,v=>v=.int i
 | .str x,v=>v=.str x
 | .tup ds,v=>∃ a xs,v=.ref a/\H a=some (.tup xs)/\AtL H ds xs
 | .lst ds,v=>∃ a xs,v=.ref a/\H a=some (.lst xs)/\AtL H ds xs
 | .scr ns,v=>∃ a,v=.ref a/\SqL KK.K H a (ns.map V.int)
 | .dct z t ks vs,v=>∃ a xs,v=.ref a/\Wx H a z t ks xs/\AtL H vs xs
noncomputable def AtL (H:Hp):List D->List V->Prop
 | [],xs=>xs=[]
 | d::ds,xs=>∃ x r,xs=x::r/\At H d x/\AtL H ds r
end
mutual
theorem At.mono {H H':Hp}(s:yf H H'):∀ {d:D} {v:V},At H d v->At H' d v
 | .non,_,h=>by unfold At at h ⊢;exact h
 | .bl _,_,h=>by unfold At at h ⊢;exact h
 | .int _,_,h=>by unfold At at h ⊢;exact h
 | .str _,_,h=>by unfold At at h ⊢;exact h
 | .tup ds,_,h=>by
  unfold At at h ⊢
  obtain⟨a,xs,e,hx,hl⟩:=h
  exact⟨a,xs,e,s _ _ hx,AtL.mono s hl⟩
 | .lst ds,_,h=>by
  unfold At at h ⊢
  obtain⟨a,xs,e,hx,hl⟩:=h
  exact⟨a,xs,e,s _ _ hx,AtL.mono s hl⟩
 | .scr ns,_,h=>by
  unfold At at h ⊢
  obtain⟨a,e,hx⟩:=h
  exact⟨a,e,s.seq hx⟩
 | .dct z t ks vs,_,h=>by
  unfold At at h ⊢
  obtain⟨a,xs,e,hx,hl⟩:=h
  exact⟨a,xs,e,hx.mono s,AtL.mono s hl⟩
theorem AtL.mono {H H':Hp}(s:yf H H'):∀ {ds:List D} {xs:List V},AtL H ds xs->AtL H' ds xs
 | [],_,h=>by unfold AtL at h ⊢;exact h
 | d::ds,_,h=>by
  unfold AtL at h ⊢
  obtain⟨x,r,e,h1,h2⟩:=h
  exact⟨x,r,e,At.mono s h1,AtL.mono s h2⟩
end
mutual
noncomputable def noL:D->Bool
 | .tup ds=>zkF ds
 | .lst _=>false
 | .scr _=>false
 | .dct _ _ _ _=>false
 | _=>true
noncomputable def zkF:List D->Bool
 | []=>true
 | d::ds=>noL d&&zkF ds
end
mutual
theorem At.flat {G F:Hp}(h:∀ q xs,G q=some (.tup xs)->F q=some (.tup xs)):∀ {d:D} {v:V},noL d=true->At G d v->At F d v
 | .non,_,_,a=>by unfold At at a ⊢;exact a
 | .bl _,_,_,a=>by unfold At at a ⊢;exact a
 | .int _,_,_,a=>by unfold At at a ⊢;exact a
 | .str _,_,_,a=>by unfold At at a ⊢;exact a
 | .tup ds,_,n,a=>by
  unfold At at a ⊢
  unfold noL at n
  obtain⟨p,xs,e,hx,hl⟩:=a
  exact⟨p,xs,e,h _ _ hx,AtL.flat h n hl⟩
 | .lst ds,_,n,_=>by unfold noL at n;cases n
 | .scr ds,_,n,_=>by unfold noL at n;cases n
 | .dct _ _ _ _,_,n,_=>by unfold noL at n;cases n
theorem AtL.flat {G F:Hp}(h:∀ q xs,G q=some (.tup xs)->F q=some (.tup xs)):∀ {ds:List D} {xs:List V},zkF ds=true->AtL G ds xs->AtL F ds xs
 | [],_,_,a=>by unfold AtL at a ⊢;exact a
 | d::ds,_,n,a=>by
  unfold AtL at a ⊢
  unfold zkF at n
  rw[Bool.and_eq_true]at n
  obtain⟨x,r,e,h1,h2⟩:=a
  exact⟨x,r,e,At.flat h n.1 h1,AtL.flat h n.2 h2⟩
end
section
variable {H H':Hp}{d:D}{ds es:List D}{v x:V}{xs ys:List V}
theorem At.int {i:Int}:At H (.int i) (.int i):=by unfold At;rfl
theorem At.bl {b:Bool}:At H (.bl b) (.bl b):=by unfold At;rfl
theorem At.non:At H .non .non:=by unfold At;rfl
theorem At.str {y:Str}:At H (.str y) (.str y):=by unfold At;rfl
theorem At.tup {a:Addr}(h:H a=some (.tup xs))(hl:AtL H ds xs):At H (.tup ds) (.ref a):=by unfold At;exact⟨a,xs,rfl,h,hl⟩
theorem At.lst {a:Addr}(h:H a=some (.lst xs))(hl:AtL H ds xs):At H (.lst ds) (.ref a):=by unfold At;exact⟨a,xs,rfl,h,hl⟩
theorem AtL.nil:AtL H [] []:=by unfold AtL;rfl
theorem AtL.cons (h:At H d x)(hl:AtL H ds xs):AtL H (d::ds) (x::xs):=by unfold AtL;exact⟨x,xs,rfl,h,hl⟩
theorem At.int_inv {i:Int}(h:At H (.int i) v):v=.int i:=by unfold At at h;exact h
theorem At.bl_inv {b:Bool}(h:At H (.bl b) v):v=.bl b:=by unfold At at h;exact h
theorem At.non_inv (h:At H .non v):v=.non:=by unfold At at h;exact h
theorem At.str_inv {y:Str}(h:At H (.str y) v):v=.str y:=by unfold At at h;exact h
theorem At.tup_inv (h:At H (.tup ds) v):∃ a xs,v=.ref a/\H a=some (.tup xs)/\AtL H ds xs:=by unfold At at h;exact h
theorem At.lst_inv (h:At H (.lst ds) v):∃ a xs,v=.ref a/\H a=some (.lst xs)/\AtL H ds xs:=by unfold At at h;exact h
theorem At.scr_inv {ns:List Int}(h:At H (.scr ns) v):∃ a,v=.ref a/\SqL KK.K H a (ns.map V.int):=by unfold At at h;exact h
theorem At.dct_inv {z t:Bool}{ks:List (List Key)}{vs:List D}(h:At H (.dct z t ks vs) v):∃ a xs,v=.ref a/\Wx H a z t ks xs/\AtL H vs xs:=by unfold At at h;exact h
theorem AtL.nil_inv (h:AtL H [] xs):xs=[]:=by unfold AtL at h;exact h
theorem AtL.cons_inv (h:AtL H (d::ds) xs):∃ x r,xs=x::r/\At H d x/\AtL H ds r:=by unfold AtL at h;exact h
theorem AtL.length:∀ {ds:List D} {xs:List V},AtL H ds xs->xs.length=ds.length
 | [],_,h=>by rw[h.nil_inv];rfl
 | _::_,_,h=>by
  obtain⟨x,r,rfl,_,h2⟩:=h.cons_inv
  rw[List.length_cons,List.length_cons,AtL.length h2]
theorem AtL.get:∀ {ds:List D} {xs:List V} {i:Nat} {d:D},AtL H ds xs->ds[i]?=some d->∃ x,xs[i]?=some x/\At H d x
 | [],_,_,_,_,e=>by simp at e
 | _::_,_,i,_,h,e=>by
  obtain⟨x,r,rfl,h1,h2⟩:=h.cons_inv
  cases i with
  | zero =>
   simp at e
   subst e
   exact⟨x,rfl,h1⟩
  | succ i =>
   obtain⟨y,hy,ha⟩:=AtL.get (i:=i) h2 (by simpa using e)
   exact⟨y,by simpa using hy,ha⟩
theorem AtL.append:∀ {ds es:List D} {xs ys:List V},AtL H ds xs->AtL H es ys->AtL H (ds++es) (xs++ys)
 | [],_,_,_,h,k=>by rw[h.nil_inv];exact k
 | _::_,_,_,_,h,k=>by
  obtain⟨x,r,rfl,h1,h2⟩:=h.cons_inv
  exact .cons h1 (AtL.append h2 k)
theorem AtL.snoc (h:AtL H ds xs)(k:At H d v):AtL H (ds++[d]) (xs++[v]):=h.append (.cons k .nil)
theorem AtL.take:∀ (n:Nat) {ds:List D} {xs:List V},AtL H ds xs->AtL H (ds.take n) (xs.take n)
 | 0,_,_,_=>by simpa using AtL.nil
 | n+1,[],_,h=>by rw[h.nil_inv];simpa using AtL.nil
 | n+1,_::_,_,h=>by
  obtain⟨x,r,rfl,h1,h2⟩:=h.cons_inv
  rw[List.take_succ_cons,List.take_succ_cons]
  exact .cons h1 (AtL.take n h2)
theorem AtL.drop:∀ (n:Nat) {ds:List D} {xs:List V},AtL H ds xs->AtL H (ds.drop n) (xs.drop n)
 | 0,_,_,h=>h
 | n+1,[],_,h=>by rw[h.nil_inv];simpa using AtL.nil
 | n+1,_::_,_,h=>by
  obtain⟨x,r,rfl,h1,h2⟩:=h.cons_inv
  rw[List.drop_succ_cons,List.drop_succ_cons]
  exact AtL.drop n h2
theorem AtL.set:∀ (n:Nat) {ds:List D} {xs:List V},AtL H ds xs->At H d v->AtL H (ds.set n d) (xs.set n v)
 | _,[],_,h,_=>by rw[h.nil_inv];simpa using AtL.nil
 | 0,_::_,_,h,k=>by
  obtain⟨x,r,rfl,h1,h2⟩:=h.cons_inv
  exact .cons k h2
 | n+1,_::_,_,h,k=>by
  obtain⟨x,r,rfl,h1,h2⟩:=h.cons_inv
  exact .cons h1 (AtL.set n h2 k)
theorem AtL.reverse:∀ {ds:List D} {xs:List V},AtL H ds xs->AtL H ds.reverse xs.reverse
 | [],_,h=>by rw[h.nil_inv];exact .nil
 | _::_,_,h=>by
  obtain⟨x,r,rfl,h1,h2⟩:=h.cons_inv
  rw[List.reverse_cons,List.reverse_cons]
  exact(AtL.reverse h2).snoc h1
theorem AtL.rep (h:AtL H ds xs):∀ k:Nat,AtL H (List.replicate k ds).flatten (List.replicate k xs).flatten
 | 0=>.nil
 | k+1=>by
  rw[List.replicate_succ,List.replicate_succ,List.flatten_cons,List.flatten_cons]
  exact h.append (AtL.rep h k)
theorem AtL.ints (ns:List Int):AtL H (ns.map D.int) (ns.map V.int):=by
 induction ns with
 | nil=>exact .nil
 | cons n r ih=>exact .cons .int ih
theorem AtL.of_ints:∀ {ns:List Int} {xs:List V},AtL H (ns.map D.int) xs->xs=ns.map V.int
 | [],_,h=>h.nil_inv
 | n::r,_,h=>by
  obtain⟨x,r',rfl,h1,h2⟩:=AtL.cons_inv (by simpa using h)
  rw[h1.int_inv,AtL.of_ints h2]
  rfl
end
noncomputable def tyN:D->String
 | .non=>"NoneType" | .bl _=>"bool" | .int _=>"int" | .str _=>"str" | .tup _=>"tuple" | .lst _=>"list" | .scr _=>"list" | .dct _ _ _ _=>"dict"
noncomputable def Hid (F':Hp)(p:Addr)(o:HO):Prop:=F' p=none\/((∃ xs,o=.tup xs)/\F' p=some o)
noncomputable def Keep (F H F' H':Hp):Prop:=∀ p o,F p=none->H p=some o->Hid F' p o/\H' p=some o
structure Gr (F H F' H':Hp):Prop where
 ff:yf F F'
 fh:yf F' H'
 kp:Keep F H F' H'
theorem Gr.refl {F H:Hp}(s:yf F H):Gr F H F H:=⟨yf.refl _,s,λ_ _ a b=>⟨.inl a,b⟩⟩
theorem Gr.trans {F H F1 H1 F2 H2:Hp}(a:Gr F H F1 H1)(b:Gr F1 H1 F2 H2):Gr F H F2 H2 :=
 ⟨a.ff.trans b.ff,b.fh,λp o e1 e2=>by
  obtain⟨x,y⟩:=a.kp p o e1 e2
  rcases x with x | ⟨x1,x2⟩
  .exact b.kp p o x y
  .exact⟨.inr ⟨x1,b.ff _ _ x2⟩,b.fh _ _ (b.ff _ _ x2)⟩⟩
theorem Gr.kl {F H F' H':Hp}{p:Addr}{o:HO}(g:Gr F H F' H')(n:∀ xs,o≠.tup xs)(e1:F p=none)(e2:H p=some o):F' p=none/\H' p=some o:=by
 obtain⟨x,y⟩:=g.kp p o e1 e2
 rcases x with x | ⟨⟨xs,x1⟩,_⟩
 .exact⟨x,y⟩
 .exact absurd x1 (n xs)
theorem Gr.alloc {F H:Hp}{p:Addr}(s:yf F H)(h:H p=none)(o:HO):Gr F H (upd F p o) (upd H p o):=by
 have hF:F p=none:=s.free h
 refine⟨λb u q=>?_,λb u q=>?_,λb u q r=>?_⟩
 .rw[zm (zj q hF)];exact q
 .by_cases e:b=p
  .subst e;rw[zk]at q ⊢;exact q
  .rw[zm e]at q ⊢;exact s b u q
 .have e:b≠p:=zj r h
  rw[zm e];exact⟨.inl (by rw[zm e];exact q),r⟩
theorem Gr.hide {F H:Hp}{p:Addr}(s:yf F H)(h:H p=none)(o:HO):Gr F H F (upd H p o):=by
 refine⟨yf.refl _,λb u q=>?_,λb u q r=>?_⟩
 .rw[zm (zj (s b u q) h)];exact s b u q
 .have e:b≠p:=zj r h
  rw[zm e];exact⟨.inl q,r⟩
theorem Gr.show {F H:Hp}{p:Addr}{o:HO}{F0 H0:Hp}(g:Gr F0 H0 F H)(h0:H0 p=none)(hF:F p=none)(h:H p=some o):Gr F0 H0 (upd F p o) H:=by
 refine⟨λb u q=>?_,λb u q=>?_,λb u q r=>?_⟩
 .have:=g.ff b u q
  rw[zm (zj this hF)];exact this
 .by_cases e:b=p
  .subst e;rw[zk]at q;rw[<-q];exact h
  .rw[zm e]at q;exact g.fh b u q
 .have e:b≠p:=zj r h0
  obtain⟨x,y⟩:=g.kp b u q r
  refine⟨?_,y⟩
  unfold Hid
  rw[zm e]
  exact x
noncomputable abbrev Ev:=List (Option D)
noncomputable def VAt (F:Hp)(ρ:Ev)(σ:St):Prop:=∀ (i:Nat) (d:D),ρ[i]?=some (some d)->∃ v,σ[i]?=some (some v)/\At F d v
theorem VAt.mono {F F':Hp}{ρ:Ev}{σ:St}(h:VAt F ρ σ)(s:yf F F'):VAt F' ρ σ:=λi d e=>let ⟨v,e1,a⟩:=h i d e;⟨v,e1,a.mono s⟩
noncomputable def RE (t:TE)(f:Ev->Option D):Prop :=
 ∀ (σ:St) (ρ:Ev) (F H:Hp) (d:D) (Q:VK),yf F H->VAt F ρ σ->f ρ=some d->(∀ F' H' v,Gr F H F' H'->At F' d v->Q v H')->t σ H Q
noncomputable def RT (t:TT)(f:Ev->Option Bool):Prop :=
 ∀ (σ:St) (ρ:Ev) (F H:Hp) (b:Bool) (Q:Bool->Hp->Prop),yf F H->VAt F ρ σ->f ρ=some b->(∀ F' H',Gr F H F' H'->Q b H')->t σ H Q
noncomputable def RA (t:TA)(f:Ev->Option (List D)):Prop :=
 ∀ (σ:St) (ρ:Ev) (F H:Hp) (ds:List D) (Q:List V->Hp->Prop),yf F H->VAt F ρ σ->f ρ=some ds->(∀ F' H' vs,Gr F H F' H'->AtL F' ds vs->Q vs H')->t σ H Q
noncomputable def RF (t:TE)(f:Ev->Option (List D)):Prop :=
 ∀ (σ:St) (ρ:Ev) (F H:Hp) (ds:List D) (Q:VK),yf F H->VAt F ρ σ->f ρ=some ds->(∀ F' H' p xs,Gr F H F' H'->H p=none->F' p=none->H' p=some (.lst xs)->AtL F' ds xs->Q (.ref p) H')->t σ H Q
noncomputable def ED (X:Cx)(e:Expr)(f:Ev->Option D):Prop:=∃ t,PE X e t/\RE t f
noncomputable def TD (X:Cx)(e:Expr)(f:Ev->Option Bool):Prop:=∃ t,PT X e t/\RT t f
noncomputable def WD (X:Cx)(e:Expr)(f:Ev->Option Bool):Prop:=∃ t,PW X e t/\RT t f
noncomputable def AD (X:Cx)(es:List Expr)(f:Ev->Option (List D)):Prop:=∃ t,PA X es t/\RA t f
noncomputable def FL (X:Cx)(e:Expr)(f:Ev->Option (List D)):Prop:=∃ t,PE X e t/\RF t f
section
variable {X:Cx}{a b c:Expr}{pos:Pos}
noncomputable def xU (f:Ev->Option (List D)):Ev->Option D:=fun ρ=>(f ρ).map .lst
theorem wz {f:Ev->Option (List D)}(h:FL X a f):ED X a (xU f):=by
 obtain⟨t,ht,r⟩:=h
 refine⟨t,ht,fun σ ρ F H d Q s va e q=>?_⟩
 obtain⟨ds,e1,rfl⟩:=Option.map_eq_some_iff.mp e
 refine r σ ρ F H ds Q s va e1 λF' H' p xs g h0 hF hH hx=>?_
 have g2:=g.show h0 hF hH
 exact q _ _ _ g2 (At.lst zk (hx.mono (λb u e=>by rw[zm (zj e hF)];exact e)))
noncomputable def zc (i:Nat):Ev->Option D:=fun ρ=>(ρ[i]?).getD none
theorem zjq (i:Nat)(h:PE X a (XU i)):ED X a (zc i):=by
 refine⟨_,h,fun σ ρ F H d Q s va e q=>?_⟩
 have e':ρ[i]?=some (some d):=by
  unfold zc at e
  cases h:ρ[i]? with
  | none=>rw[h]at e;cases e
  | some x=>rw[h]at e;cases x with
   | none=>cases e
   | some y=>cases e;rfl
 obtain⟨v,e1,a1⟩:=va i d e'
 exact⟨v,e1,q _ _ _ (.refl s) a1⟩
noncomputable def eC (d:D):Ev->Option D:=λ_=>some d
theorem zf {i:Int}(h:PE X a (tC (.int i))):ED X a (eC (.int i)):=⟨_,h,λ_ _ _ _ _ _ s _ e q=>by cases e;exact q _ _ _ (.refl s) .int⟩
theorem ve {i:Bool}(h:PE X a (tC (.bl i))):ED X a (eC (.bl i)):=⟨_,h,λ_ _ _ _ _ _ s _ e q=>by cases e;exact q _ _ _ (.refl s) .bl⟩
theorem vR {i:Str}(h:PE X a (tC (.str i))):ED X a (eC (.str i)):=⟨_,h,λ_ _ _ _ _ _ s _ e q=>by cases e;exact q _ _ _ (.refl s) .str⟩
theorem zeP (h:PE X a (tC .non)):ED X a (eC .non):=⟨_,h,λ_ _ _ _ _ _ s _ e q=>by cases e;exact q _ _ _ (.refl s) .non⟩
noncomputable def OpD (r:R2)(g:D->D->Option D):Prop :=
 ∀ (F H:Hp) (x y:V) (d e z:D) (Q:VK),yf F H->At F d x->At F e y->g d e=some z->(∀ F' H' v,Gr F H F' H'->At F' z v->Q v H')->r x y H Q
noncomputable def zo (g:D->D->Option D)(f h:Ev->Option D):Ev->Option D:=fun ρ=>(f ρ).bind λx=>(h ρ).bind λy=>g x y
theorem zf8 {r:R2}{g:D->D->Option D}{ta tb:TE}{f h:Ev->Option D}(hg:OpD r g)(ra:RE ta f)(rb:RE tb h):RE (tOp r ta tb) (zo g f h):=by
 intro σ ρ F H z Q s va e q
 obtain⟨x,e1,e⟩:=Option.bind_eq_some_iff.mp e
 obtain⟨y,e2,e⟩:=Option.bind_eq_some_iff.mp e
 refine ra σ ρ F H x _ s va e1 λF1 H1 v g1 a1=>?_
 refine rb σ ρ F1 H1 y _ g1.fh (va.mono g1.ff) e2 λF2 H2 u g2 a2=>?_
 exact hg F2 H2 v u x y z Q g2.fh (a1.mono g2.ff) a2 e λF3 H3 w g3 a3=>q F3 H3 w ((g1.trans g2).trans g3) a3
theorem Wc {op:Operator}{r:R2}{g:D->D->Option D}{f h:Ev->Option D}(ho:OpR X (binaryOp op) r)(hg:OpD r g)(ha:ED X a f)(hb:ED X b h):ED X (.BinOp a op b pos) (zo g f h) :=
 let ⟨_,pa,ra⟩:=ha
 let ⟨_,pb,rb⟩:=hb
 ⟨_,zkt ho pa pb,zf8 hg ra rb⟩
theorem wB {op:CmpOp}{r:R2}{g:D->D->Option D}{f h:Ev->Option D}(ho:OpR X (compareOp op) r)(hg:OpD r g)(hm:behindInMarks op b=false)(ha:ED X a f)(hb:ED X b h):ED X (.Compare a [op] [b] pos) (zo g f h) :=
 let ⟨_,pa,ra⟩:=ha
 let ⟨_,pb,rb⟩:=hb
 ⟨_,zcS ho pa pb hm,zf8 hg ra rb⟩
noncomputable def asB:D->Option Bool
 | .bl b=>some b
 | _=>none
theorem Yr {d:D}{b:Bool}(h:asB d=some b):d=.bl b:=by
 cases d <;> first | (cases h;rfl) | cases h
noncomputable def tOf (f:Ev->Option D):Ev->Option Bool:=fun ρ=>(f ρ).bind asB
theorem ziE {t:TE}{f:Ev->Option D}(r:RE t f):RT (zju t) (tOf f):=by
 intro σ ρ F H b Q s va e q
 obtain⟨x,e1,e⟩:=Option.bind_eq_some_iff.mp e
 cases Yr e
 exact r σ ρ F H _ _ s va e1 λF1 H1 v g1 a1=>⟨b,a1.bl_inv,q F1 H1 g1⟩
theorem zT {op:CmpOp}{r:R2}{g:D->D->Option D}{f h:Ev->Option D}(ho:OpR X (compareOp op) r)(hg:OpD r g)(hm:behindInMarks op b=false)(ha:ED X a f)(hb:ED X b h):TD X (.Compare a [op] [b] pos) (tOf (zo g f h)) :=
 let ⟨_,pa,ra⟩:=ha
 let ⟨_,pb,rb⟩:=hb
 ⟨_,zh8 ho pa pb hm,ziE (zf8 hg ra rb)⟩
theorem wC {f:Ev->Option D}(ha:ED X a f)(he:∀ whole,isTrue a X.env whole=(do let v<-whole;standAt a.pos;holding [v] (truthy v)):=by intro _;rfl):TD X a (tOf f) :=
 let ⟨_,pa,ra⟩:=ha
 ⟨_,zi6 pa he,ziE ra⟩
noncomputable def vE (f g:Ev->Option Bool):Ev->Option Bool:=fun ρ=>(f ρ).bind λc=>if c=true then g ρ else some false
noncomputable def We (f g:Ev->Option Bool):Ev->Option Bool:=fun ρ=>(f ρ).bind λc=>if c=true then some true else g ρ
noncomputable def wb (f:Ev->Option Bool):Ev->Option Bool:=fun ρ=>(f ρ).map (!·)
theorem zdW {f:Ev->Option Bool}(ha:TD X a f):WD X (.BoolOp .And [a] pos) f:=let ⟨_,pa,ra⟩:=ha;⟨_,zhj pa,ra⟩
theorem Vr {f:Ev->Option Bool}(ha:TD X a f):WD X (.BoolOp .Or [a] pos) f:=let ⟨_,pa,ra⟩:=ha;⟨_,ziJ pa,ra⟩
theorem zgr {rest:List Expr}{f g:Ev->Option Bool}(ha:TD X a f)(hb:WD X (.BoolOp .And (b::rest) pos) g):WD X (.BoolOp .And (a::b::rest) pos) (vE f g):=by
 obtain⟨ta,pa,ra⟩:=ha
 obtain⟨tb,pb,rb⟩:=hb
 refine⟨_,zkv pa pb,fun σ ρ F H z Q s va e q=>?_⟩
 obtain⟨x,e1,e⟩:=Option.bind_eq_some_iff.mp e
 refine ra σ ρ F H x _ s va e1 λF1 H1 g1=>?_
 cases x with
 | true =>
  rw[if_pos rfl]at e ⊢
  exact rb σ ρ F1 H1 z Q g1.fh (va.mono g1.ff) e λF2 H2 g2=>q F2 H2 (g1.trans g2)
 | false =>
  rw[if_neg Bool.false_ne_true]at e ⊢
  cases e
  exact q F1 H1 g1
theorem zcz {rest:List Expr}{f g:Ev->Option Bool}(ha:TD X a f)(hb:WD X (.BoolOp .Or (b::rest) pos) g):WD X (.BoolOp .Or (a::b::rest) pos) (We f g):=by
 obtain⟨ta,pa,ra⟩:=ha
 obtain⟨tb,pb,rb⟩:=hb
 refine⟨_,zlD pa pb,fun σ ρ F H z Q s va e q=>?_⟩
 obtain⟨x,e1,e⟩:=Option.bind_eq_some_iff.mp e
 refine ra σ ρ F H x _ s va e1 λF1 H1 g1=>?_
 cases x with
 | false =>
  rw[if_neg Bool.false_ne_true]at e ⊢
  exact rb σ ρ F1 H1 z Q g1.fh (va.mono g1.ff) e λF2 H2 g2=>q F2 H2 (g1.trans g2)
 | true =>
  rw[if_pos rfl]at e ⊢
  cases e
  exact q F1 H1 g1
theorem zhl {f:Ev->Option Bool}(h:WD X a f):TD X a f:=let ⟨_,p,r⟩:=h;⟨_,p.pt,r⟩
theorem vy {f:Ev->Option Bool}(ha:TD X a f):TD X (.UnaryOp .Not a pos) (wb f):=by
 obtain⟨ta,pa,ra⟩:=ha
 refine⟨_,zjO pa,fun σ ρ F H z Q s va e q=>?_⟩
 obtain⟨x,e1,rfl⟩:=Option.map_eq_some_iff.mp e
 exact ra σ ρ F H x _ s va e1 λF1 H1 g1=>q F1 H1 g1
noncomputable def W8 (f g:Ev->Option D):Ev->Option D:=fun ρ=>((f ρ).bind asB).bind λc=>if c=true then g ρ else some (.bl false)
noncomputable def eOr (f g:Ev->Option D):Ev->Option D:=fun ρ=>((f ρ).bind asB).bind λc=>if c=true then some (.bl true)else g ρ
noncomputable def zc0 (f:Ev->Option D):Ev->Option D:=fun ρ=>((f ρ).bind asB).map λc=>.bl (!c)
theorem Zi {op}{f:Ev->Option D}(ha:ED X a f):ED X (.BoolOp op [a] pos) f:=let ⟨_,pa,ra⟩:=ha;⟨_,zko pa,ra⟩
theorem X8 {rest:List Expr}{f g:Ev->Option D}(ha:ED X a f)(hb:ED X (.BoolOp .And (b::rest) pos) g):ED X (.BoolOp .And (a::b::rest) pos) (W8 f g):=by
 obtain⟨ta,pa,ra⟩:=ha
 obtain⟨tb,pb,rb⟩:=hb
 refine⟨_,zjA pa pb,fun σ ρ F H z Q s va e q=>?_⟩
 obtain⟨x,e1,e⟩:=Option.bind_eq_some_iff.mp e
 obtain⟨y,e1,e2⟩:=Option.bind_eq_some_iff.mp e1
 cases Yr e2
 refine ra σ ρ F H _ _ s va e1 λF1 H1 v g1 a1=>⟨x,a1.bl_inv,?_⟩
 cases x with
 | true =>
  rw[if_pos rfl]at e ⊢
  exact rb σ ρ F1 H1 z Q g1.fh (va.mono g1.ff) e λF2 H2 w g2 a2=>q F2 H2 w (g1.trans g2) a2
 | false =>
  rw[if_neg Bool.false_ne_true]at e ⊢
  cases e
  exact q F1 H1 _ g1 .bl
theorem zjR {rest:List Expr}{f g:Ev->Option D}(ha:ED X a f)(hb:ED X (.BoolOp .Or (b::rest) pos) g):ED X (.BoolOp .Or (a::b::rest) pos) (eOr f g):=by
 obtain⟨ta,pa,ra⟩:=ha
 obtain⟨tb,pb,rb⟩:=hb
 refine⟨_,zlv pa pb,fun σ ρ F H z Q s va e q=>?_⟩
 obtain⟨x,e1,e⟩:=Option.bind_eq_some_iff.mp e
 obtain⟨y,e1,e2⟩:=Option.bind_eq_some_iff.mp e1
 cases Yr e2
 refine ra σ ρ F H _ _ s va e1 λF1 H1 v g1 a1=>⟨x,a1.bl_inv,?_⟩
 cases x with
 | false =>
  rw[if_neg Bool.false_ne_true]at e ⊢
  exact rb σ ρ F1 H1 z Q g1.fh (va.mono g1.ff) e λF2 H2 w g2 a2=>q F2 H2 w (g1.trans g2) a2
 | true =>
  rw[if_pos rfl]at e ⊢
  cases e
  exact q F1 H1 _ g1 .bl
theorem zkn {f:Ev->Option D}(ha:ED X a f):ED X (.UnaryOp .Not a pos) (zc0 f):=by
 obtain⟨ta,pa,ra⟩:=ha
 refine⟨_,zj7 pa,fun σ ρ F H z Q s va e q=>?_⟩
 obtain⟨x,e1,rfl⟩:=Option.map_eq_some_iff.mp e
 obtain⟨y,e1,e2⟩:=Option.bind_eq_some_iff.mp e1
 cases Yr e2
 exact ra σ ρ F H _ _ s va e1 λF1 H1 v g1 a1=>⟨x,a1.bl_inv,q F1 H1 _ g1 .bl⟩
noncomputable def eIf (t:Ev->Option Bool)(f g:Ev->Option D):Ev->Option D:=fun ρ=>(t ρ).bind λc=>if c=true then f ρ else g ρ
noncomputable def eUn (g:D->Option D)(f:Ev->Option D):Ev->Option D:=fun ρ=>(f ρ).bind g
noncomputable def zbp:D->Option D
 | .int i=>some (.int (-i))
 | _=>none
theorem zbL {f:Ev->Option D}(ha:ED X a f):ED X (.UnaryOp .USub a pos) (eUn zbp f):=by
 obtain⟨ta,pa,ra⟩:=ha
 refine⟨_,zlx zky pa,fun σ ρ F H z Q s va e q=>?_⟩
 obtain⟨x,e1,e⟩:=Option.bind_eq_some_iff.mp e
 cases x <;> try cases e
 exact ra σ ρ F H _ _ s va e1 λF1 H1 v g1 a1=>⟨_,a1.int_inv,q F1 H1 _ g1 .int⟩
noncomputable def zr:Ev->Option (List D):=λ_=>some []
noncomputable def zb (f:Ev->Option D)(g:Ev->Option (List D)):Ev->Option (List D):=fun ρ=>(f ρ).bind λd=>(g ρ).map (d::·)
theorem zd:AD X [] zr:=⟨_,zb5,λ_ _ _ _ _ _ s _ e q=>by cases e;exact q _ _ _ (.refl s) .nil⟩
theorem za {e:Expr}{es:List Expr}{f:Ev->Option D}{g:Ev->Option (List D)}(ha:ED X e f)(hr:AD X es g)(hs:starEach (e::es) X.env=(false,eval e X.env)::starEach es X.env:=by rfl):AD X (e::es) (zb f g):=by
 obtain⟨ta,pa,ra⟩:=ha
 obtain⟨tb,pb,rb⟩:=hr
 refine⟨_,Xf pa pb hs,fun σ ρ F H z Q s va e q=>?_⟩
 obtain⟨x,e1,e⟩:=Option.bind_eq_some_iff.mp e
 obtain⟨ds,e2,rfl⟩:=Option.map_eq_some_iff.mp e
 refine ra σ ρ F H x _ s va e1 λF1 H1 v g1 a1=>?_
 exact rb σ ρ F1 H1 ds _ g1.fh (va.mono g1.ff) e2 λF2 H2 w g2 a2=>q F2 H2 _ (g1.trans g2) (.cons (a1.mono g2.ff) a2)
noncomputable def lim (n:Nat):Bool:=decide (n<=sizeLine)
noncomputable def vL (g:Ev->Option (List D)):Ev->Option D:=fun ρ=>(g ρ).bind λds=>if lim ds.length=true then some (.tup ds)else none
noncomputable def yD (g:Ev->Option (List D)):Ev->Option (List D):=fun ρ=>(g ρ).bind λds=>if lim ds.length=true then some ds else none
theorem wG {es:List Expr}{x1}{g:Ev->Option (List D)}(h:AD X es g):ED X (.Tuple es x1 pos) (vL g):=by
 obtain⟨ta,pa,ra⟩:=h
 refine⟨_,zj8 pa,fun σ ρ F H z Q s va e q=>?_⟩
 obtain⟨ds,e1,e⟩:=Option.bind_eq_some_iff.mp e
 split at e <;> cases e
 rename_i hl
 refine ra σ ρ F H ds _ s va e1 λF1 H1 vs g1 a1=>⟨by rw[a1.length];exact of_decide_eq_true hl,λp hp=>?_⟩
 have g2:=Gr.alloc g1.fh hp (.tup vs)
 exact q _ _ _ (g1.trans g2) (.tup zk (a1.mono g2.ff))
theorem wf {es:List Expr}{g:Ev->Option (List D)}(h:AD X es g):FL X (.List es pos) (yD g):=by
 obtain⟨ta,pa,ra⟩:=h
 refine⟨_,ziZ pa,fun σ ρ F H z Q s va e q=>?_⟩
 obtain⟨ds,e1,e⟩:=Option.bind_eq_some_iff.mp e
 split at e <;> cases e
 rename_i hl
 refine ra σ ρ F H _ _ s va e1 λF1 H1 vs g1 a1=>⟨by rw[a1.length];exact of_decide_eq_true hl,λp hp=>?_⟩
 have g2:=Gr.hide g1.fh hp (.lst vs)
 have h0:H p=none:=by
  cases e:H p with
  | none=>rfl
  | some o =>
   cases e2:F p with
   | none=>rw[(g1.kp p o e2 e).2]at hp;cases hp
   | some u=>rw[g1.fh _ _ (g1.ff _ _ e2)]at hp;cases hp
 exact q _ _ _ _ (g1.trans g2) h0 (g1.fh.free hp) zk a1
end
end
end Dl
namespace Dl
open PySem L2
variable [KK]
inductive Sl where
 | no | v (d:D) | o (ds:List D) | m (t:Bool) (ks:List (List Key)) (vs:List D)
 deriving Inhabited
noncomputable abbrev SE:=List Sl
noncomputable def Sl.f:Sl->Option D
 | .v d=>some d
 | _=>none
noncomputable def Sl.g:Sl->Option D
 | .v d=>some d
 | .o ds=>some (.lst ds)
 | .m t ks vs=>some (.dct false t ks vs)
 | .no=>none
noncomputable def Sl.isO:Sl->Bool
 | .o _=>true
 | .m _ _ _=>true
 | _=>false
noncomputable def visF (ρ:SE):Ev:=ρ.map Sl.f
noncomputable def visG (ρ:SE):Ev:=ρ.map Sl.g
noncomputable def zcu (F:Hp)(o:HO):Sl->Prop
 | .o ds=>∃ xs,o=.lst xs/\AtL F ds xs
 | .m t ks ds=>∃ xs,zbQ o t ks xs/\AtL F ds xs
 | _=>False
theorem zcu.mono {F F':Hp}{o:HO}{s:Sl}(h:zcu F o s)(k:yf F F'):zcu F' o s:=by
 cases s with
 | no=>exact h
 | v d=>exact h
 | o ds=>obtain⟨xs,e,a⟩:=h;exact⟨xs,e,a.mono k⟩
 | m t ks ds=>obtain⟨xs,e,a⟩:=h;exact⟨xs,e,a.mono k⟩
theorem zcu.isO {F:Hp}{o:HO}{s:Sl}(h:zcu F o s):s.isO=true:=by
 cases s with
 | no=>exact h.elim
 | v d=>exact h.elim
 | o ds=>rfl
 | m t ks ds=>rfl
theorem zcu.ntup {F:Hp}{o:HO}{s:Sl}(h:zcu F o s)(xs:List V):o≠.tup xs:=by
 cases s with
 | no=>exact h.elim
 | v d=>exact h.elim
 | o ds=>obtain⟨ys,rfl,_⟩:=h;intro e;cases e
 | m t ks ds =>
  obtain⟨ys,e,_⟩:=h
  unfold zbQ at e
  split at e
  .obtain⟨kvs,rfl,_⟩:=e;intro e;cases e
  .obtain⟨kvs,rfl,_⟩:=e;intro e;cases e
theorem zcu.at {F G:Hp}{o:HO}{s:Sl}{d:D}{p:Addr}(h:zcu F o s)(e:s.g=some d)(hp:G p=some o)(k:yf F G):At G d (.ref p):=by
 cases s with
 | no=>exact h.elim
 | v d=>exact h.elim
 | o ds =>
  cases e
  obtain⟨xs,rfl,a⟩:=h
  exact .lst hp (a.mono k)
 | m t ks ds =>
  cases e
  obtain⟨xs,e,a⟩:=h
  unfold At
  exact⟨p,xs,rfl,⟨o,e,hp⟩,a.mono k⟩
structure Rl (Fb Hb F H:Hp) (ρ:SE) (σ:St):Prop where
 gr:Gr Fb Hb F H
 vals:∀ (i:Nat) (d:D),ρ[i]?=some (.v d)->∃ v,σ[i]?=some (some v)/\At F d v
 ows:∀ (i:Nat) (s:Sl),ρ[i]?=some s->s.isO=true->∃ p o,σ[i]?=some (some (.ref p))/\Hb p=none/\F p=none/\H p=some o/\zcu F o s
 dis:∀ (i j:Nat) (p:Addr) (s t:Sl),ρ[i]?=some s->ρ[j]?=some t->s.isO=true->t.isO=true->σ[i]?=some (some (.ref p))->σ[j]?=some (some (.ref p))->i=j
 len:ρ.length=σ.length
section
variable {Fb Hb F H F' H':Hp}{ρ ρ':SE}{σ σ':St}
theorem Rl.owns (r:Rl Fb Hb F H ρ σ)(i:Nat)(ds:List D)(e:ρ[i]?=some (.o ds)):∃ p xs,σ[i]?=some (some (.ref p))/\Hb p=none/\F p=none/\H p=some (.lst xs)/\AtL F ds xs:=by
 obtain⟨p,o,e1,e2,e3,e4,xs,rfl,a⟩:=r.ows i _ e rfl
 exact⟨p,xs,e1,e2,e3,e4,a⟩
theorem Rl.grow (r:Rl Fb Hb F H ρ σ)(g:Gr F H F' H'):Rl Fb Hb F' H' ρ σ:=by
 refine⟨r.gr.trans g,λi d e=>?_,λi s e h=>?_,r.dis,r.len⟩
 .obtain⟨v,e1,a⟩:=r.vals i d e
  exact⟨v,e1,a.mono g.ff⟩
 .obtain⟨p,o,e1,e2,e3,e4,a⟩:=r.ows i s e h
  obtain⟨k1,k2⟩:=g.kl a.ntup e3 e4
  exact⟨p,o,e1,e2,k1,k2,a.mono g.ff⟩
theorem Rl.visF (r:Rl Fb Hb F H ρ σ):VAt F (visF ρ) σ:=λi d e=>by
 unfold Dl.visF at e
 rw[List.getElem?_map]at e
 cases h:ρ[i]? with
 | none=>rw[h]at e;cases e
 | some x =>
  rw[h]at e
  cases x with
  | no=>cases e
  | v d' =>
   cases e
   exact r.vals i d h
  | o ds=>cases e
  | m t ks ds=>cases e
noncomputable def Own (ρ:SE)(σ:St)(p:Addr):Prop:=∃ (i:Nat) (s:Sl),ρ[i]?=some s/\s.isO=true/\σ[i]?=some (some (.ref p))
open Classical in
noncomputable def gOf (ρ:SE)(σ:St)(F H:Hp):Hp:=λp=>if Own ρ σ p then H p else F p
open Classical in
noncomputable def fOf (ρ:SE)(σ:St)(G:Hp):Hp:=λp=>if Own ρ σ p then none else G p
theorem Rl.own (r:Rl Fb Hb F H ρ σ){p:Addr}(h:Own ρ σ p):Hb p=none/\F p=none/\∃ o,H p=some o/\∀ xs,o≠.tup xs:=by
 obtain⟨i,s,e1,e2,e3⟩:=h
 obtain⟨q,o,e4,e5,e6,e7,a⟩:=r.ows i s e1 e2
 rw[e3]at e4
 cases e4
 exact⟨e5,e6,o,e7,a.ntup⟩
theorem Rl.notown (r:Rl Fb Hb F H ρ σ){q:Addr}(h:H q=none)(j:Nat)(s:Sl)(e1:ρ[j]?=some s)(e2:s.isO=true):σ[j]?≠some (some (.ref q)):=λe=>by
 obtain⟨p,o,f1,_,_,f4,_⟩:=r.ows j s e1 e2
 rw[e]at f1
 cases f1
 rw[h]at f4
 cases f4
theorem Rl.notbase (r:Rl Fb Hb F H ρ σ){q:Addr}(h:H q=none):Hb q=none:=by
 cases z:Hb q with
 | none=>rfl
 | some o =>
  cases z2:Fb q with
  | none=>rw[(r.gr.kp q o z2 z).2]at h;cases h
  | some u=>rw[r.gr.fh _ _ (r.gr.ff _ _ z2)]at h;cases h
theorem Rl.fg (r:Rl Fb Hb F H ρ σ):yf F (gOf ρ σ F H):=λp o e=>by
 unfold gOf
 split
 .exact r.gr.fh p o e
 .exact e
theorem Rl.gh (r:Rl Fb Hb F H ρ σ):yf (gOf ρ σ F H) H:=λp o e=>by
 unfold gOf at e
 split at e
 .exact e
 .exact r.gr.fh p o e
theorem Rl.visG (r:Rl Fb Hb F H ρ σ):VAt (gOf ρ σ F H) (visG ρ) σ:=λi d e=>by
 unfold Dl.visG at e
 rw[List.getElem?_map]at e
 cases h:ρ[i]? with
 | none=>rw[h]at e;cases e
 | some x =>
  rw[h]at e
  have e:x.g=some d:=Option.some.inj e
  have own:x.isO=true->∃ v,σ[i]?=some (some v)/\At (gOf ρ σ F H) d v:=λhx=>by
   obtain⟨p,o,e1,e2,e3,e4,a⟩:=r.ows i x h hx
   refine⟨_,e1,a.at e ?_ r.fg⟩
   unfold gOf
   rw[if_pos ⟨i,x,h,hx,e1⟩]
   exact e4
  cases x with
  | no=>cases e
  | v d' =>
   cases e
   obtain⟨v,e1,a⟩:=r.vals i d h
   exact⟨v,e1,a.mono r.fg⟩
  | o ds=>exact own rfl
  | m t ks ds=>exact own rfl
theorem Rl.back {G':Hp}(r:Rl Fb Hb F H ρ σ)(g:Gr (gOf ρ σ F H) H G' H'):Gr F H (fOf ρ σ G') H'/\∀ q xs,G' q=some (.tup xs)->fOf ρ σ G' q=some (.tup xs):=by
 refine⟨⟨λp o e=>?_,λp o e=>?_,λp o e1 e2=>?_⟩,λq xs e=>?_⟩
 .unfold fOf
  rw[if_neg (λh=>by rw[(r.own h).2.1]at e;cases e)]
  exact g.ff p o (r.fg p o e)
 .unfold fOf at e
  split at e
  .cases e
  .exact g.fh p o e
 .by_cases h:Own ρ σ p
  .refine⟨.inl (by unfold fOf;rw[if_pos h]),g.fh p o (g.ff p o ?_)⟩
   unfold gOf
   rw[if_pos h]
   exact e2
  .obtain⟨x,y⟩:=g.kp p o (by unfold gOf;rw[if_neg h];exact e1) e2
   refine⟨?_,y⟩
   unfold Hid fOf
   rw[if_neg h]
   exact x
 .unfold fOf
  rw[if_neg (λh=>?_)]
  .exact e
  .obtain⟨_,_,o,e2,n⟩:=r.own h
   have:G' q=some o:=g.ff q _ (by unfold gOf;rw[if_pos h];exact e2)
   rw[this]at e
   cases e
   exact n xs rfl
theorem Rl.out {G':Hp}(r:Rl Fb Hb F H ρ σ)(g:Gr (gOf ρ σ F H) H G' H'):Gr Fb Hb G' H':=by
 refine⟨λp o e=>g.ff p o (r.fg p o (r.gr.ff p o e)),g.fh,λp o e1 e2=>?_⟩
 obtain⟨k1,k2⟩:=r.gr.kp p o e1 e2
 have e3:gOf ρ σ F H p=F p:=by
  unfold gOf
  rw[if_neg (λh=>by rw[(r.own h).1]at e2;cases e2)]
 rcases k1 with k1 | ⟨k1,k3⟩
 .exact g.kp p o (by rw[e3];exact k1) k2
 .have:=g.ff p o (by rw[e3];exact k3)
  exact⟨.inr ⟨k1,this⟩,g.fh _ _ this⟩
theorem Rl.set (r:Rl Fb Hb F H ρ σ){i:Nat}{d:D}{v:V}(a:At F d v):Rl Fb Hb F H (ρ.set i (.v d)) (σ.set i (some v)):=by
 have nj:∀ {j:Nat} {s:Sl},(ρ.set i (.v d))[j]?=some s->s.isO=true->i≠j:=λ{j s} h ho e=>by
  subst e
  rw[List.getElem?_set]at h
  simp only[if_true]at h
  split at h <;> cases h
  cases ho
 refine⟨r.gr,λj e h=>?_,λj s h ho=>?_,λj k p s t h1 h2 o1 o2 h3 h4=>?_,by simp[r.len]⟩
 .by_cases hj:i=j
  .subst hj
   rw[List.getElem?_set]at h
   simp only[if_true]at h
   split at h
   .rename_i hl
    cases h
    refine⟨v,?_,a⟩
    rw[List.getElem?_set]
    simp[<-r.len,hl]
   .cases h
  .rw[List.getElem?_set_ne hj]at h ⊢
   exact r.vals j e h
 .have hj:=nj h ho
  rw[List.getElem?_set_ne hj]at h ⊢
  exact r.ows j s h ho
 .have a1:=nj h1 o1
  have a2:=nj h2 o2
  rw[List.getElem?_set_ne a1]at h1 h3
  rw[List.getElem?_set_ne a2]at h2 h4
  exact r.dis j k p s t h1 h2 o1 o2 h3 h4
theorem Rl.setW (r:Rl Fb Hb F H ρ σ){i:Nat}{w:Sl}{p:Addr}{o:HO}(h0:Hb p=none)(hF:F p=none)(hH:H p=some o)(a:zcu F o w)
 (nw:∀ (j:Nat) (s:Sl),ρ[j]?=some s->s.isO=true->σ[j]?≠some (some (.ref p))):Rl Fb Hb F H (ρ.set i w) (σ.set i (some (.ref p))):=by
 have at_i:∀ {s:Sl},(ρ.set i w)[i]?=some s->i < ρ.length/\s=w:=λ{s} h=>by
  rw[List.getElem?_set]at h
  simp only[if_true]at h
  split at h
  .rename_i hl
   cases h
   exact⟨hl,rfl⟩
  .cases h
 have st_i:i < ρ.length->(σ.set i (some (V.ref p)))[i]?=some (some (.ref p)):=λhl=>by
  rw[List.getElem?_set]
  simp[<-r.len,hl]
 refine⟨r.gr,λj e h=>?_,λj s h ho=>?_,λj k q s t h1 h2 o1 o2 h3 h4=>?_,by simp[r.len]⟩
 .by_cases hj:i=j
  .subst hj
   have e:=(at_i h).2
   have:=a.isO
   rw[<-e]at this
   cases this
  .rw[List.getElem?_set_ne hj]at h ⊢
   exact r.vals j e h
 .by_cases hj:i=j
  .subst hj
   obtain⟨hl,e⟩:=at_i h
   subst e
   exact⟨p,o,st_i hl,h0,hF,hH,a⟩
  .rw[List.getElem?_set_ne hj]at h ⊢
   exact r.ows j s h ho
 .by_cases hj:i=j
  .subst hj
   by_cases hk:i=k
   .exact hk
   .obtain⟨hl,_⟩:=at_i h1
    rw[st_i hl]at h3
    cases h3
    rw[List.getElem?_set_ne hk]at h2 h4
    exact absurd h4 (nw k t h2 o2)
  .by_cases hk:i=k
   .subst hk
    obtain⟨hl,_⟩:=at_i h2
    rw[st_i hl]at h4
    cases h4
    rw[List.getElem?_set_ne hj]at h1 h3
    exact absurd h3 (nw j s h1 o1)
   .rw[List.getElem?_set_ne hj]at h1 h3
    rw[List.getElem?_set_ne hk]at h2 h4
    exact r.dis j k q s t h1 h2 o1 o2 h3 h4
theorem Rl.setO (r:Rl Fb Hb F H ρ σ){i:Nat}{ds:List D}{p:Addr}{xs:List V}(h0:Hb p=none)(hF:F p=none)(hH:H p=some (.lst xs))(a:AtL F ds xs)
 (nw:∀ (j:Nat) (s:Sl),ρ[j]?=some s->s.isO=true->σ[j]?≠some (some (.ref p))):Rl Fb Hb F H (ρ.set i (.o ds)) (σ.set i (some (.ref p))):=r.setW h0 hF hH ⟨xs,rfl,a⟩ nw
theorem Rl.mutW (r:Rl Fb Hb F H ρ σ){i:Nat}{w w':Sl}{p:Addr}{o':HO}(e:ρ[i]?=some w)(hw:w.isO=true)(e1:σ[i]?=some (some (.ref p)))(a:zcu F o' w'):Rl Fb Hb F (upd H p o') (ρ.set i w') σ:=by
 obtain⟨q,o,e2,h0,hF,hH,_⟩:=r.ows i w e hw
 rw[e1]at e2
 cases e2
 have hi:i < ρ.length:=(List.getElem?_eq_some_iff.mp e).1
 have neP:∀ {j:Nat} {s:Sl} {q:Addr},i≠j->ρ[j]?=some s->s.isO=true->σ[j]?=some (some (.ref q))->q≠p:=λ{j s q} hne h1 ho h2 z=>by
  subst z
  exact hne (r.dis i j q w s e h1 hw ho e1 h2)
 refine⟨⟨r.gr.ff,λb o z=>?_,λb o z1 z2=>?_⟩,λj d h=>?_,λj s h ho=>?_,λj k q s t h1 h2 o1 o2 h3 h4=>?_,by simp[r.len]⟩
 .rw[zm (zj z hF)]
  exact r.gr.fh b o z
 .rw[zm (zj z2 h0)]
  exact r.gr.kp b o z1 z2
 .by_cases hj:i=j
  .subst hj
   rw[List.getElem?_set_self hi]at h
   cases h
   exact(Bool.noConfusion a.isO)
  .rw[List.getElem?_set_ne hj]at h
   exact r.vals j d h
 .by_cases hj:i=j
  .subst hj
   rw[List.getElem?_set_self hi]at h
   cases h
   exact⟨p,o',e1,h0,hF,zk,a⟩
  .rw[List.getElem?_set_ne hj]at h
   obtain⟨q,z,f1,f2,f3,f4,f5⟩:=r.ows j s h ho
   refine⟨q,z,f1,f2,f3,?_,f5⟩
   rw[zm (neP hj h ho f1)]
   exact f4
 .have back:∀ {j:Nat} {s:Sl},(ρ.set i w')[j]?=some s->s.isO=true->∃ s',ρ[j]?=some s'/\s'.isO=true:=λ{j s} h ho=>by
   by_cases hj:i=j
   .subst hj;exact⟨w,e,hw⟩
   .rw[List.getElem?_set_ne hj]at h;exact⟨s,h,ho⟩
  obtain⟨f1,g1,g1'⟩:=back h1 o1
  obtain⟨f2,g2,g2'⟩:=back h2 o2
  exact r.dis j k q f1 f2 g1 g2 g1' g2' h3 h4
theorem Rl.mutate (r:Rl Fb Hb F H ρ σ){i:Nat}{ds es:List D}{p:Addr}{ys:List V}(e:ρ[i]?=some (.o ds))(e1:σ[i]?=some (some (.ref p)))(a:AtL F es ys):Rl Fb Hb F (upd H p (.lst ys)) (ρ.set i (.o es)) σ :=
 r.mutW e rfl e1 ⟨ys,rfl,a⟩
noncomputable def Sl.fz:Sl->Sl
 | .o ds=>.v (.lst ds)
 | .m t ks vs=>.v (.dct false t ks vs)
 | s=>s
noncomputable def zkE (ρ:SE)(i:Nat):SE:=ρ.set i ((ρ[i]?).getD .no).fz
theorem Rl.freeze (r:Rl Fb Hb F H ρ σ)(i:Nat):∃ F',Rl Fb Hb F' H (zkE ρ i) σ:=by
 unfold zkE
 cases h:ρ[i]? with
 | none =>
  refine⟨F,?_⟩
  rw[List.set_eq_of_length_le (List.getElem?_eq_none_iff.mp h)]
  exact r
 | some s =>
  have hi:i < ρ.length:=(List.getElem?_eq_some_iff.mp h).1
  have same:s.fz=s->∃ F',Rl Fb Hb F' H (ρ.set i ((some s).getD .no).fz) σ:=λe=>by
   refine⟨F,?_⟩
   show Rl Fb Hb F H (ρ.set i s.fz) σ
   rw[e]
   have:ρ.set i s=ρ:=by
    apply List.ext_getElem?
    intro j
    by_cases hj:i=j
    .subst hj;rw[List.getElem?_set_self hi,h]
    .rw[List.getElem?_set_ne hj]
   rw[this]
   exact r
  have give:∀ d,s.isO=true->s.g=some d->s.fz=.v d->∃ F',Rl Fb Hb F' H (ρ.set i ((some s).getD .no).fz) σ:=λd ho hg hz=>by
   obtain⟨p,o,e1,e2,e3,e4,a⟩:=r.ows i s h ho
   have sF:yf F (upd F p o):=λb u e=>by rw[zm (zj e e3)];exact e
   show ∃ F',Rl Fb Hb F' H (ρ.set i s.fz) σ
   rw[hz]
   have nj:∀ {j:Nat} {t:Sl},(ρ.set i (.v d))[j]?=some t->t.isO=true->i≠j:=λ{j t} h ht e=>by
    subst e
    rw[List.getElem?_set_self hi]at h
    cases h
    cases ht
   refine⟨upd F p o,r.gr.show e2 e3 e4,λj e z=>?_,λj t z ht=>?_,λj k q t u h1 h2 o1 o2 h3 h4=>?_,by simp[r.len]⟩
   .by_cases hj:i=j
    .subst hj
     rw[List.getElem?_set_self hi]at z
     cases z
     exact⟨_,e1,a.at hg zk sF⟩
    .rw[List.getElem?_set_ne hj]at z
     obtain⟨v,f1,f2⟩:=r.vals j e z
     exact⟨v,f1,f2.mono sF⟩
   .have hj:=nj z ht
    rw[List.getElem?_set_ne hj]at z
    obtain⟨q,y,f1,f2,f3,f4,f5⟩:=r.ows j t z ht
    refine⟨q,y,f1,f2,?_,f4,f5.mono sF⟩
    rw[zm (λw=>hj (r.dis i j p s t h z ho ht e1 (by rw[<-w];exact f1)))]
    exact f3
   .have a1:=nj h1 o1
    have a2:=nj h2 o2
    rw[List.getElem?_set_ne a1]at h1
    rw[List.getElem?_set_ne a2]at h2
    exact r.dis j k q t u h1 h2 o1 o2 h3 h4
  cases s with
  | no=>exact same rfl
  | v d=>exact same rfl
  | o ds=>exact give _ rfl rfl rfl
  | m t ks ds=>exact give _ rfl rfl rfl
end
inductive Ctl where
 | nx (ρ:SE) | rt (d:D) | bk (ρ:SE) | ct (ρ:SE) | no
 deriving Inhabited
noncomputable def SOk (Fb Hb:Hp)(E:zeQ):Ctl->Prop
 | .nx ρ=>∀ F H σ,Rl Fb Hb F H ρ σ->E.nx σ H
 | .bk ρ=>∀ F H σ,Rl Fb Hb F H ρ σ->E.bk σ H
 | .ct ρ=>∀ F H σ,Rl Fb Hb F H ρ σ->E.ct σ H
 | .rt d=>∀ F H v,Gr Fb Hb F H->At F d v->E.rt v H
 | .no=>False
noncomputable def RS (t:TS)(g:SE->Ctl):Prop:=∀ (Fb Hb F H:Hp) (ρ:SE) (σ:St) (E:zeQ),Rl Fb Hb F H ρ σ->SOk Fb Hb E (g ρ)->t E σ H
noncomputable def SD (X:Cx)(st:Stmt)(g:SE->Ctl):Prop:=∃ t,PS X st t/\RS t g
noncomputable def SDs (X:Cx)(sts:List Stmt)(g:SE->Ctl):Prop:=∃ t,PSs X sts t/\RS t g
section
variable {X:Cx}{st:Stmt}{sts:List Stmt}{a b c e:Expr}{pos pos':Pos}
noncomputable def zW:SE->Ctl:=.nx
noncomputable def zR (g h:SE->Ctl):SE->Ctl:=fun ρ=>match g ρ with
 | .nx ρ'=>h ρ'
 | .rt d=>.rt d
 | .bk ρ'=>.bk ρ'
 | .ct ρ'=>.ct ρ'
 | .no=>.no
theorem zE:SDs X [] zW:=⟨_,zg0,λ_ _ F H ρ σ E r h=>h F H σ r⟩
theorem ze {g h:SE->Ctl}(h1:SD X st g)(h2:SDs X sts h):SDs X (st::sts) (zR g h):=by
 obtain⟨t,p,r⟩:=h1
 obtain⟨u,p2,r2⟩:=h2
 refine⟨_,Yz p p2,λFb Hb F H ρ σ E rl k=>?_⟩
 refine r Fb Hb F H ρ σ { E with nx:=u E } rl ?_
 unfold zR at k
 cases e:g ρ with
 | nx ρ' =>
  rw[e]at k
  exact λF' H' σ' rl'=>r2 Fb Hb F' H' ρ' σ' E rl' k
 | rt d=>rw[e]at k;exact k
 | bk d=>rw[e]at k;exact k
 | ct d=>rw[e]at k;exact k
 | no=>rw[e]at k;exact k
theorem zh {g:SE->Ctl}(h1:SD X st g):SDs X [st] g:=let ⟨_,p,r⟩:=h1;⟨_,zd6 p,r⟩
noncomputable def sFz (i:Nat)(g:SE->Ctl):SE->Ctl:=fun ρ=>g (zkE ρ i)
theorem Zc {g:SE->Ctl}(i:Nat)(h:SDs X sts g):SDs X sts (sFz i g):=by
 obtain⟨t,p,r⟩:=h
 refine⟨_,p,λFb Hb F H ρ σ E rl k=>?_⟩
 obtain⟨F',rl'⟩:=rl.freeze i
 exact r Fb Hb F' H _ σ E rl' k
noncomputable def sNo:SE->Ctl:=λ_=>.no
theorem Zx:SD X st sNo:=⟨_,zfV,λ_ _ _ _ _ _ _ _ h=>h.elim⟩
noncomputable def yE (f:Ev->Option D):SE->Ctl:=fun ρ=>match f (visG ρ) with
 | some d=>.rt d
 | none=>.no
theorem zx {f:Ev->Option D}(h:ED X e f):SD X (.Return (some e) pos) (yE f):=by
 obtain⟨t,p,r⟩:=h
 refine⟨_,zjo p,λFb Hb F H ρ σ E rl k=>?_⟩
 unfold yE at k
 cases h:f (visG ρ) with
 | none=>rw[h]at k;exact k.elim
 | some d =>
  rw[h]at k
  exact r σ _ _ H d _ rl.gh rl.visG h λF' H' v g av=>k F' H' v (rl.out g) av
noncomputable def Vc:SE->Ctl:=λ_=>.rt .non
noncomputable def vEv (m:Bool)(f:Ev->Option D)(ρ:SE):Option D:=if m=true then (f (visG ρ)).bind λd=>if noL d=true then some d else none else f (visF ρ)
theorem RE.at {Fb Hb F H:Hp}{ρ:SE}{σ:St}{m:Bool}{f:Ev->Option D}{t:TE}{d:D}{Q:VK}(r:RE t f)(rl:Rl Fb Hb F H ρ σ)(h:vEv m f ρ=some d)(q:∀ F' H' v,Gr F H F' H'->At F' d v->Q v H'):t σ H Q:=by
 unfold vEv at h
 cases m with
 | false =>
  rw[if_neg Bool.false_ne_true]at h
  exact r σ _ _ H d _ rl.gr.fh rl.visF h q
 | true =>
  rw[if_pos rfl]at h
  obtain⟨d',h1,h2⟩:=Option.bind_eq_some_iff.mp h
  split at h2 <;> cases h2
  rename_i hn
  refine r σ _ _ H d _ rl.gh rl.visG h1 λF' H' v g av=>?_
  obtain⟨g2,fl⟩:=rl.back g
  exact q _ H' v g2 (av.flat fl hn)
noncomputable def wQ (m:Bool)(i:Nat)(f:Ev->Option D):SE->Ctl:=fun ρ=>match vEv m f ρ with
 | some d=>.nx (ρ.set i (.v d))
 | none=>.no
theorem yA {m:Bool}{i:Nat}{x:Str}{f:Ev->Option D}(hN:X.N.Nodup)(hi:X.N[i]?=some x)(hx:Loc X.env.scope x)(he:ED X e f)(hs:swapsWith e (some (.Name x pos')) pos.line X.env=pure false:=by rfl)
 (hf:X.fn x=true\/X.env.scope.names.lookup x=some .local:=by first | exact .inl rfl | exact .inr rfl | assumption):SD X (.Assign [.Name x pos'] e pos) (wQ m i f):=by
 obtain⟨t,p,r⟩:=he
 refine⟨_,XO hN hi hx p hs hf,λFb Hb F H ρ σ E rl k=>?_⟩
 unfold wQ at k
 cases h:vEv m f ρ with
 | none=>rw[h]at k;exact k.elim
 | some d =>
  rw[h]at k
  exact r.at rl h λF' H' v g av=>k F' H' _ ((rl.grow g).set av)
noncomputable def WN (f:Ev->Option D):SE->Ctl:=fun ρ=>match f (visG ρ) with
 | some _=>.nx ρ
 | none=>.no
theorem YL {f:Ev->Option D}(he:ED X e f)(hs:swapsWith e none pos.line X.env=pure false:=by rfl):SD X (.Expr e pos) (WN f):=by
 obtain⟨t,p,r⟩:=he
 refine⟨_,zbg p hs,λFb Hb F H ρ σ E rl k=>?_⟩
 unfold WN at k
 cases h:f (visG ρ) with
 | none=>rw[h]at k;exact k.elim
 | some d =>
  rw[h]at k
  exact r σ _ _ H d _ rl.gh rl.visG h λF' H' v g av=>k _ H' σ (rl.grow (rl.back g).1)
noncomputable def XF (i:Nat)(f:Ev->Option (List D)):SE->Ctl:=fun ρ=>match f (visF ρ) with
 | some ds=>.nx (ρ.set i (.o ds))
 | none=>.no
theorem Zb {i:Nat}{x:Str}{f:Ev->Option (List D)}(hN:X.N.Nodup)(hi:X.N[i]?=some x)(hx:Loc X.env.scope x)(he:FL X e f)(hs:swapsWith e (some (.Name x pos')) pos.line X.env=pure false:=by rfl)
 (hf:X.fn x=true\/X.env.scope.names.lookup x=some .local:=by first | exact .inl rfl | exact .inr rfl | assumption):SD X (.Assign [.Name x pos'] e pos) (XF i f):=by
 obtain⟨t,p,r⟩:=he
 refine⟨_,XO hN hi hx p hs hf,λFb Hb F H ρ σ E rl k=>?_⟩
 unfold XF at k
 cases h:f (visF ρ) with
 | none=>rw[h]at k;exact k.elim
 | some ds =>
  rw[h]at k
  refine r σ _ _ H ds _ rl.gr.fh rl.visF h λF' H' q xs g h0 hF hH hx=>?_
  have rl2:=rl.grow g
  exact k F' H' _ (rl2.setO (rl.notbase h0) hF hH hx (rl.notown h0))
noncomputable def sIf (t:Ev->Option Bool)(g h:SE->Ctl):SE->Ctl:=fun ρ=>match t (visG ρ) with
 | some true=>g ρ
 | some false=>h ρ
 | none=>.no
theorem yG {as bs:List Stmt}{t:Ev->Option Bool}{g h:SE->Ctl}(hc:TD X c t)(ha:SDs X as g)(hb:SDs X bs h):SD X (.If c as bs pos) (sIf t g h):=by
 obtain⟨tc,pc,rc⟩:=hc
 obtain⟨ta,pa,ra⟩:=ha
 obtain⟨tb,pb,rb⟩:=hb
 refine⟨_,zk1 pc pa pb,λFb Hb F H ρ σ E rl k=>?_⟩
 unfold sIf at k
 cases h:t (visG ρ) with
 | none=>rw[h]at k;exact k.elim
 | some d =>
  rw[h]at k
  refine rc σ _ _ H d _ rl.gh rl.visG h λF' H' g=>?_
  have rl2:=rl.grow (rl.back g).1
  cases d with
  | true=>rw[if_pos rfl];exact ra Fb Hb _ H' ρ σ E rl2 k
  | false=>rw[if_neg Bool.false_ne_true];exact rb Fb Hb _ H' ρ σ E rl2 k
noncomputable def vP (t:Ev->Option Bool)(g:SE->Ctl):Nat->SE->Ctl
 | 0,_=>.no
 | n+1,ρ=>match t (visG ρ) with
  | some true=>match g ρ with
   | .nx ρ'=>vP t g n ρ'
   | .ct ρ'=>vP t g n ρ'
   | .bk ρ'=>.nx ρ'
   | .rt d=>.rt d
   | .no=>.no
  | some false=>.nx ρ
  | none=>.no
theorem zfk {as:List Stmt}{t:Ev->Option Bool}{g:SE->Ctl}(n:Nat)(hp:PassesOwn (model X.prog X.w) X.A X.env X.xe)(hc:TD X c t)(ha:SDs X as g):SD X (.While c as [] pos) (vP t g n):=by
 obtain⟨tc,pc,rc⟩:=hc
 obtain⟨ta,pa,ra⟩:=ha
 refine⟨_,zfn hp pc pa,λFb Hb F H ρ σ E rl k=>?_⟩
 refine⟨λm σ H=>∃ F ρ,Rl Fb Hb F H ρ σ/\SOk Fb Hb E (vP t g m ρ),⟨n,F,ρ,rl,k⟩,?_⟩
 rintro m σ H ⟨F,ρ,rl,k⟩
 cases m with
 | zero=>exact k.elim
 | succ m =>
  unfold vP at k
  cases h:t (visG ρ) with
  | none=>rw[h]at k;exact k.elim
  | some d =>
   rw[h]at k
   refine rc σ _ _ H d _ rl.gh rl.visG h λF' H' gr=>?_
   have rl2:=rl.grow (rl.back gr).1
   cases d with
   | false=>rw[if_neg Bool.false_ne_true];exact k _ H' σ rl2
   | true =>
    rw[if_pos rfl]
    refine⟨fun σ H=>∃ F ρ,Rl Fb Hb F H ρ σ/\SOk Fb Hb E (vP t g m ρ),fun σ' H' w=>⟨m,Nat.lt_succ_self m,w⟩,?_⟩
    refine ra Fb Hb _ H' ρ σ _ rl2 ?_
    dsimp only at k
    cases hg:g ρ with
    | nx ρ'=>rw[hg]at k;exact λF2 H2 σ2 r2=>⟨F2,ρ',r2,k⟩
    | ct ρ'=>rw[hg]at k;exact λF2 H2 σ2 r2=>⟨F2,ρ',r2,k⟩
    | bk ρ'=>rw[hg]at k;exact k
    | rt d=>rw[hg]at k;exact k
    | no=>rw[hg]at k;exact k.elim
noncomputable def RG (t:TG)(b:D->SE->Option SE):Prop:=∀ (Fb Hb F H:Hp) (ρ ρ':SE) (σ:St) (d:D) (v:V) (Q:St->Hp->Prop),Rl Fb Hb F H ρ σ->At F d v->b d ρ=some ρ'->(∀ σ',Rl Fb Hb F H ρ' σ'->Q σ' H)->t v σ H Q
noncomputable def RGs (t:TGs)(b:List D->SE->Option SE):Prop:=∀ (Fb Hb F H:Hp) (ρ ρ':SE) (σ:St) (ds:List D) (vs:List V) (Q:St->Hp->Prop),Rl Fb Hb F H ρ σ->AtL F ds vs->b ds ρ=some ρ'->(∀ σ',Rl Fb Hb F H ρ' σ'->Q σ' H)->t vs σ H Q
noncomputable def BD (X:Cx)(tg:Expr)(b:D->SE->Option SE):Prop:=∃ t,PG X tg t/\RG t b
noncomputable def BDs (X:Cx)(tgs:List Expr)(b:List D->SE->Option SE):Prop:=∃ t,PGs X tgs t/\RGs t b
noncomputable def xj (i:Nat):D->SE->Option SE:=λd ρ=>some (ρ.set i (.v d))
theorem yW {i:Nat}(h:PG X a (xT i)):BD X a (xj i):=by
 refine⟨_,h,λFb Hb F H ρ ρ' σ d v Q rl av e q=>?_⟩
 cases e
 exact q _ (rl.set av)
noncomputable def zbX:List D->SE->Option SE
 | [],ρ=>some ρ
 | _,_=>none
noncomputable def wA (b:D->SE->Option SE)(c:List D->SE->Option SE):List D->SE->Option SE
 | d::ds,ρ=>(b d ρ).bind (c ds)
 | [],_=>none
theorem zaD:BDs X [] zbX:=by
 refine⟨_,zaz,λFb Hb F H ρ ρ' σ ds vs Q rl av e q=>?_⟩
 cases ds with
 | nil=>cases e;exact⟨av.nil_inv,q _ rl⟩
 | cons _ _=>cases e
theorem wK {es:List Expr}{b:D->SE->Option SE}{c:List D->SE->Option SE}(h1:BD X e b)(h2:BDs X es c)
 (hs:(assignEach (e::es) X.env).map (·.2)=assign e X.env::(assignEach es X.env).map (·.2):=by rfl):BDs X (e::es) (wA b c):=by
 obtain⟨t,p,r⟩:=h1
 obtain⟨u,p2,r2⟩:=h2
 refine⟨_,Yt p p2 hs,λFb Hb F H ρ ρ' σ ds vs Q rl av e q=>?_⟩
 cases ds with
 | nil=>cases e
 | cons d ds =>
  obtain⟨x,xs,rfl,a1,a2⟩:=av.cons_inv
  obtain⟨ρ1,e1,e2⟩:=Option.bind_eq_some_iff.mp e
  exact⟨x,xs,rfl,r Fb Hb F H ρ ρ1 σ d x _ rl a1 e1 fun σ1 rl1=>r2 Fb Hb F H ρ1 ρ' σ1 ds xs Q rl1 a2 e2 q⟩
noncomputable def zaO (n:Nat)(c:List D->SE->Option SE):D->SE->Option SE
 | .tup ds,ρ=>if ds.length=n then c ds ρ else none
 | _,_=>none
theorem zei {es:List Expr}{k:Nat}{n:Nat}{c:List D->SE->Option SE}(hc:X.calm=true)(h:BDs X es c)
 (hn:(assignEach es X.env).length=n:=by rfl) (hst:(assignEach es X.env).findIdx? (·.1)=none:=by rfl):BD X (.Tuple es k pos) (zaO n c):=by
 obtain⟨t,p,r⟩:=h
 refine⟨_,zdr hc p hn hst,λFb Hb F H ρ ρ' σ d v Q rl av e q=>?_⟩
 cases d with
 | tup ds =>
  unfold zaO at e
  dsimp only at e
  split at e
  .rename_i hl
   obtain⟨a,xs,rfl,hx,al⟩:=av.tup_inv
   exact⟨a,xs,rfl,SqT.of (rl.gr.fh _ _ hx),by rw[al.length];exact hl,r Fb Hb F H ρ ρ' σ ds xs Q rl al e q⟩
  .cases e
 | _=>cases e
noncomputable def zfR (m:Bool)(f:Ev->Option D)(b:D->SE->Option SE):SE->Ctl:=fun ρ=>match (vEv m f ρ).bind λd=>b d ρ with
 | some ρ'=>.nx ρ'
 | none=>.no
noncomputable def XB (m:Bool)(i:Nat)(fk fe:Ev->Option D):SE->Ctl:=fun ρ=>match (vEv m fe ρ).bind λd=>(fk (visG ρ)).bind λk=>match ρ[i]?,k with
 | some (.o ds),.int k=>(ixN ds.length k).map λj=>ρ.set i (.o (ds.set j d))
 | _,_=>none with
 | some ρ'=>.nx ρ'
 | none=>.no
theorem zb0 {m:Bool}{i:Nat}{ko:Expr}{fk fe:Ev->Option D}(he:ED X e fe)(ho:PE X a (XU i))(hk:ED X ko fk)(hs:swapsWithSole [.Subscript a ko pos'] e pos.line X.env=pure false:=by rfl)(hw:swappedStores [.Subscript a ko pos'] e X.env=pure none:=by rfl)
 (h1:(assignEach [.Subscript a ko pos'] X.env).map (·.2)=[assign (.Subscript a ko pos') X.env]:=by rfl)
 (ha:∀ v,assign (.Subscript a ko pos') X.env v=(do
  let ov<-holding [v] (eval a X.env)
  let iv<-holding [v,ov] (eval ko X.env)
  standAt pos'
  holding [v,ov,iv] (setItem ov iv v)
  release [v,ov,iv] []):=by intro _;rfl):SD X (.Assign [.Subscript a ko pos'] e pos) (XB m i fk fe):=by
 obtain⟨t,p,r⟩:=he
 obtain⟨tk,pk,rk⟩:=hk
 refine⟨_,zgG p (zgO ho pk zbB ha) hs hw h1,λFb Hb F H ρ σ E rl k=>?_⟩
 unfold XB at k
 cases h:(vEv m fe ρ).bind λd=>(fk (visG ρ)).bind λk=>match ρ[i]?,k with
  | some (.o ds),.int k=>(ixN ds.length k).map λj=>ρ.set i (.o (ds.set j d))
  | _,_=>none with
 | none=>rw[h]at k;exact k.elim
 | some ρ' =>
  rw[h]at k
  obtain⟨d,e1,e2⟩:=Option.bind_eq_some_iff.mp h
  obtain⟨kd,e3,e2⟩:=Option.bind_eq_some_iff.mp e2
  cases hs:ρ[i]? with
  | none=>rw[hs]at e2;cases e2
  | some sl =>
   rw[hs]at e2
   cases sl with
   | no=>cases e2
   | v _=>cases e2
   | m _ _ _=>cases e2
   | o ds =>
    cases kd with
    | int kk =>
     obtain⟨j,e4,rfl⟩:=Option.map_eq_some_iff.mp e2
     refine r.at rl e1 λF' H' v g av=>?_
     have rl2:=rl.grow g
     obtain⟨q,xs,f1,_⟩:=rl2.owns i ds hs
     refine⟨_,f1,?_⟩
     refine rk σ _ _ H' _ _ rl2.gh rl2.visG e3 λF3 H3 v3 g3 av3=>?_
     obtain⟨gb,_⟩:=rl2.back g3
     have rl3:=rl2.grow gb
     obtain⟨q3,xs3,f1',_,_,f4,f5⟩:=rl3.owns i ds hs
     rw[f1]at f1'
     cases f1'
     refine⟨q,xs3,kk,j,rfl,av3.int_inv,f4,by rw[f5.length];exact e4,?_⟩
     exact k _ _ σ (rl3.mutate hs f1 (f5.set j (av.mono gb.ff)))
    | _=>cases e2
end
end Dl
namespace L2
open PySem PySem.Spec PyProof.Rows
section
variable {X:Cx}{tg:Expr}
noncomputable def iSeq (K:W.Frag)(tl:TE):TI:=fun σ H R=>tl σ H λx H1=>(∃ a,x=.ref a/\(∃ xs,SqL K H1 a xs)/\R (Itl K a) H1)\/(∃ a,x=.ref a/\(∃ xs,SqT K H1 a xs)/\R (Itt K a) H1)
theorem ziM {l:Expr}{tl:TE}(hl:PE X l tl):PI X tg l (iSeq X.K tl):=by
 intro pins s σ H R I h
 refine thn (hl pins s σ H _ I h) λv s1 hh9=>?_
 obtain⟨x,H1,I1,r1,q1⟩:=hh9
 rcases q1 with ⟨a,e,⟨xs,hq⟩,q⟩ | ⟨a,e,⟨xs,hq⟩,q⟩
 .subst e
  cases r1
  obtain⟨its,rv,p,hz⟩:=I1.list hq
  refine wpAny_pyIter_list p.isList ?_
  refine⟨s1.heap.objs.size,[s1.heap.objs.size],_,_,H1,rfl,I1.kept (t':=s1.toks) λb o e=>Heap.get?_push_of_some _ e,zd1 a _,⟨_,Heap.get?_push_size _ rfl,rfl,rfl⟩,λb hb=>?_,q⟩
  have e:b=s1.heap.objs.size:=by simpa using hb
  subst e
  exact I1.fpOk (Nat.le_refl _) (I1.hok.fresh (Nat.le_refl _))
 .subst e
  cases r1
  obtain⟨its,rv,p,hz⟩:=I1.tuple hq
  refine wpAny_pyIter_tuple (show s1.heap.IsTuple a its.toArray from p) ?_
  refine⟨s1.heap.objs.size,[s1.heap.objs.size],_,_,H1,rfl,I1.kept (t':=s1.toks) λb o e=>Heap.get?_push_of_some _ e,zcI a _,⟨_,Heap.get?_push_size _ rfl,rfl,rfl⟩,λb hb=>?_,q⟩
  have e:b=s1.heap.objs.size:=by simpa using hb
  subst e
  exact I1.fpOk (Nat.le_refl _) (I1.hok.fresh (Nat.le_refl _))
end
end L2
namespace Dl
open PySem L2
variable [KK]
noncomputable def zjt (J:It)(F:Hp)(ds:List D):Prop:=∀ (i:Nat) (F2 H2:Hp),yf F F2->yf F2 H2->(i=ds.length->J.stop i H2) /\
 ∀ d,ds[i]?=some d->J.go i H2/\∀ x H3,J.yld i H2 x H3->∃ F3,Gr F2 H2 F3 H3/\At F3 d x
noncomputable def RI (wi:TI)(f:Ev->Option (List D)):Prop :=
 ∀ (σ:St) (ρ:Ev) (F H:Hp) (ds:List D) (R:It->Hp->Prop),yf F H->VAt F ρ σ->f ρ=some ds->(∀ F' H' J,Gr F H F' H'->zjt J F' ds->R J H')->wi σ H R
noncomputable def ID (X:Cx)(tg iter:Expr)(f:Ev->Option (List D)):Prop:=∃ wi,PI X tg iter wi/\RI wi f
noncomputable def wE:D->Option (List D)
 | .lst ds=>some ds
 | .tup ds=>some ds
 | _=>none
section
variable {X:Cx}{tg a b c e:Expr}{pos:Pos}
theorem zjp {K:W.Frag}{F:Hp}{p:Addr}{xs:List V}{ds:List D}(h:F p=some (.lst xs))(al:AtL F ds xs):zjt (Itl K p) F ds:=by
 intro i F2 H2 s1 s2
 have q:SqL K H2 p xs:=SqL.of (s2 _ _ (s1 _ _ h))
 refine⟨λhl=>⟨xs,q,by rw[al.length,hl];exact Nat.le_refl _⟩,λd hd=>?_⟩
 obtain⟨x,hx,ax⟩:=al.get hd
 refine⟨⟨xs,x,q,hx⟩,λy H3 hy=>?_⟩
 obtain⟨rfl,hy⟩:=hy
 have:=hy xs q
 rw[hx]at this
 cases this
 exact⟨F2,.refl s2,ax.mono s1⟩
theorem zjC {K:W.Frag}{F:Hp}{p:Addr}{xs:List V}{ds:List D}(h:F p=some (.tup xs))(al:AtL F ds xs):zjt (Itt K p) F ds:=by
 intro i F2 H2 s1 s2
 have q:SqT K H2 p xs:=SqT.of (s2 _ _ (s1 _ _ h))
 refine⟨λhl=>⟨xs,q,by rw[al.length,hl];exact Nat.le_refl _⟩,λd hd=>?_⟩
 obtain⟨x,hx,ax⟩:=al.get hd
 refine⟨⟨xs,x,q,hx⟩,λy H3 hy=>?_⟩
 obtain⟨rfl,hy⟩:=hy
 have:=hy xs q
 rw[hx]at this
 cases this
 exact⟨F2,.refl s2,ax.mono s1⟩
noncomputable def iOf (f:Ev->Option D):Ev->Option (List D):=fun ρ=>(f ρ).bind wE
theorem Ym {f:Ev->Option D}(ha:ED X a f):ID X tg a (iOf f):=by
 obtain⟨t,p,r⟩:=ha
 refine⟨_,ziM p,fun σ ρ F H ds R s va e q=>?_⟩
 obtain⟨d,e1,e2⟩:=Option.bind_eq_some_iff.mp e
 refine r σ ρ F H d _ s va e1 λF1 H1 v g1 a1=>?_
 cases d <;> try cases e2
 .obtain⟨p,xs,rfl,hx,al⟩:=a1.tup_inv
  exact .inr ⟨p,rfl,⟨xs,SqT.of (g1.fh _ _ hx)⟩,q F1 H1 _ g1 (zjC hx al)⟩
 .obtain⟨p,xs,rfl,hx,al⟩:=a1.lst_inv
  exact .inl ⟨p,rfl,⟨xs,SqL.of (g1.fh _ _ hx)⟩,q F1 H1 _ g1 (zjp hx al)⟩
noncomputable def WK (lo:Int)(n:Nat):List D:=(List.range n).map λk:Nat=>.int (lo+k)
theorem zbv {F:Hp}(lo:Int)(n:Nat):zjt (Itr lo n) F (WK lo n):=by
 intro i F2 H2 s1 s2
 have hlen:(WK lo n).length=n:=by unfold WK;simp
 refine⟨λhl=>by rw[hlen]at hl;rw[hl];exact Nat.le_refl _,λd hd=>?_⟩
 have hi:i < n:=by
  have:=(List.getElem?_eq_some_iff.mp hd).1
  omega
 refine⟨hi,λy H3 hy=>?_⟩
 obtain⟨rfl,rfl⟩:=hy
 refine⟨F2,.refl s2,?_⟩
 unfold WK at hd
 rw[List.getElem?_map,List.getElem?_range hi]at hd
 cases hd
 exact .int
@[irreducible] noncomputable def zgQ (j:Int):Bool:=decide (-(2 ^ 62)<=j/\j < 2 ^ 62)
omit [KK] in
theorem yi {j:Int}:zgQ j=true↔-(2 ^ 62)<=j/\j < 2 ^ 62:=by unfold zgQ;exact decide_eq_true_iff
noncomputable def v5:List D->Option (List D)
 | [.int j]=>if zgQ j=true then some (WK 0 j.toNat)else none
 | _=>none
noncomputable def XJ:List D->Option (List D)
 | [.int i,.int j]=>if zgQ i=true/\zgQ j=true then some (WK i (j - i).toNat)else none
 | _=>none
noncomputable def Zd (g:List D->Option (List D))(f:Ev->Option (List D)):Ev->Option (List D):=fun ρ=>(f ρ).bind g
theorem Vm {p:Pos} {f:Ev->Option (List D)} (hg:Gl X "range") (hm:X.mg "range"=none) (ha:AD X [a] f) (hs:starEach [a] X.env=[(false,eval a X.env)]:=by rfl):ID X tg (.Call (.Name "range" p) [a] [] pos) (Zd v5 f):=by
 obtain⟨t,pa,r⟩:=ha
 refine⟨_,VY hg hm pa hs,fun σ ρ F H ds R s va e q=>?_⟩
 obtain⟨d,e1,e2⟩:=Option.bind_eq_some_iff.mp e
 refine r σ ρ F H d _ s va e1 λF1 H1 v g1 a1=>?_
 unfold v5 at e2
 split at e2
 .split at e2
  .cases e2
   rename_i hc
   obtain⟨x,r',rfl,ax,ar⟩:=a1.cons_inv
   cases ar.nil_inv
   exact⟨_,by rw[ax.int_inv],(yi.mp hc).1,(yi.mp hc).2,q F1 H1 _ g1 (zbv 0 _)⟩
  .cases e2
 .cases e2
theorem Xm {p:Pos} {f:Ev->Option (List D)} (hg:Gl X "range") (hm:X.mg "range"=none) (ha:AD X [a,b] f) (hs:starEach [a,b] X.env=[(false,eval a X.env),(false,eval b X.env)]:=by rfl) (hs2:starEach [b] X.env=[(false,eval b X.env)]:=by rfl) :
 ID X tg (.Call (.Name "range" p) [a,b] [] pos) (Zd XJ f):=by
 obtain⟨t,pa,r⟩:=ha
 refine⟨_,zaj hg hm pa hs hs2,fun σ ρ F H ds R s va e q=>?_⟩
 obtain⟨d,e1,e2⟩:=Option.bind_eq_some_iff.mp e
 refine r σ ρ F H d _ s va e1 λF1 H1 v g1 a1=>?_
 unfold XJ at e2
 split at e2
 .split at e2
  .cases e2
   rename_i hc
   obtain⟨x,r',rfl,ax,ar⟩:=a1.cons_inv
   obtain⟨y,r',rfl,ay,ar⟩:=ar.cons_inv
   cases ar.nil_inv
   exact⟨_,_,by rw[ax.int_inv,ay.int_inv],⟨(yi.mp hc.1).1,(yi.mp hc.1).2,(yi.mp hc.2).1,(yi.mp hc.2).2⟩,q F1 H1 _ g1 (zbv _ _)⟩
  .cases e2
 .cases e2
noncomputable def zj9 (n:Nat):List D->List D
 | []=>[]
 | d::ds=>.tup [.int n,d]::zj9 (n+1) ds
noncomputable def YD (f:Ev->Option (List D)):Ev->Option (List D):=fun ρ=>(f ρ).bind λas=>match as with
 | [d]=>(wE d).map (zj9 0)
 | _=>none
noncomputable def hb2 (F1 Hb:Hp):Hp:=λp=>match F1 p with
 | some o=>some o
 | none=>Hb p
theorem ZL {F1 Hb:Hp}{p:Addr}(h:F1 p=none):hb2 F1 Hb p=Hb p:=by unfold hb2;rw[h]
theorem zfh {F1 Hb:Hp}{p:Addr}{o:HO}(h:F1 p=some o):hb2 F1 Hb p=some o:=by unfold hb2;rw[h]
theorem Gr.up {Fb Hb F1 H1 F H:Hp}(g1:Gr Fb Hb F1 H1)(g:Gr F1 (hb2 F1 Hb) F H):Gr Fb Hb F H:=by
 refine⟨g1.ff.trans g.ff,g.fh,λp o e1 e2=>?_⟩
 rcases(g1.kp p o e1 e2).1 with n | ⟨n1,n2⟩
 .exact g.kp p o n (by rw[ZL n];exact e2)
 .exact⟨.inr ⟨n1,g.ff _ _ n2⟩,g.fh _ _ (g.ff _ _ n2)⟩
theorem Gr.dn {Fb Hb F1 F H:Hp}(g:Gr Fb Hb F H)(s1:yf Fb F1)(s:yf F1 F):Gr F1 (hb2 F1 Hb) F H:=by
 refine⟨s,g.fh,λp o e1 e2=>?_⟩
 rw[ZL e1]at e2
 exact g.kp p o (s1.free e1) e2
theorem Rl.up {Fb Hb F1 H1 F H:Hp}{ρ:SE}{σ:St}(g1:Gr Fb Hb F1 H1)(r:Rl F1 (hb2 F1 Hb) F H ρ σ):Rl Fb Hb F H ρ σ:=by
 refine⟨g1.up r.gr,r.vals,λi s e ho=>?_,r.dis,r.len⟩
 obtain⟨p,o,e1,e2,e3⟩:=r.ows i s e ho
 refine⟨p,o,e1,?_,e3⟩
 cases h:F1 p with
 | none=>rw[ZL h]at e2;exact e2
 | some o=>rw[zfh h]at e2;cases e2
theorem Rl.dn {Fb Hb F1 F H:Hp}{ρ:SE}{σ:St}(r:Rl Fb Hb F H ρ σ)(s1:yf Fb F1)(s:yf F1 F):Rl F1 (hb2 F1 Hb) F H ρ σ:=by
 refine⟨r.gr.dn s1 s,r.vals,λi t e ho=>?_,r.dis,r.len⟩
 obtain⟨p,o,e1,e2,e3,e4⟩:=r.ows i t e ho
 refine⟨p,o,e1,?_,e3,e4⟩
 rw[ZL (s.free e3)]
 exact e2
noncomputable def zcP (b:D->SE->Option SE)(g:SE->Ctl):List D->SE->Ctl
 | [],ρ=>.nx ρ
 | d::ds,ρ=>match b d ρ with
  | none=>.no
  | some ρ1=>match g ρ1 with
   | .nx ρ'=>zcP b g ds ρ'
   | .ct ρ'=>zcP b g ds ρ'
   | .bk ρ'=>.nx ρ'
   | .rt d=>.rt d
   | .no=>.no
noncomputable def XS (f:Ev->Option (List D))(b:D->SE->Option SE)(g:SE->Ctl):SE->Ctl:=fun ρ=>match f (visF ρ) with
 | some ds=>zcP b g ds ρ
 | none=>.no
theorem zdM {Fb Hb F1 H1:Hp}{ρ:SE}{σ:St}{E:zeQ}{J:It}{g:TG}{tb:TS}{ds:List D}{b:D->SE->Option SE}{gb:SE->Ctl}(hit:zjt J F1 ds)(rg:RG g b)(rb:RS tb gb)(rl0:Rl Fb Hb F1 H1 ρ σ)(k:SOk Fb Hb E (zcP b gb ds ρ)) :
 ∃ W:Nat->Nat->St->Hp->Prop,(∃ m,W 0 m σ H1)/\∀ i m σ H,W i m σ H ->
  (J.stop i H/\E.nx σ H)\/(J.go i H/\∃ N:St->Hp->Prop,(∀ σ' H',N σ' H'->∃ m',m' < m/\W (i+1) m' σ' H')/\∀ x H',J.yld i H x H'->g x σ H' fun σ2 H2=>tb { E with nx:=N,ct:=N,bk:=E.nx } σ2 H2):=by
 refine⟨λi m σ H=>m=ds.length - i/\i<=ds.length/\∃ F ρ,yf F1 F/\Rl Fb Hb F H ρ σ/\SOk Fb Hb E (zcP b gb (ds.drop i) ρ),⟨ds.length,by simp,Nat.zero_le _,F1,ρ,yf.refl _,rl0,k⟩,?_⟩
 rintro i m σ H ⟨rfl,hi,F,ρ,s1,rl,k⟩
 obtain⟨stop,go⟩:=hit i F H s1 rl.gr.fh
 by_cases hlt:i < ds.length
 .have hd:ds.drop i=ds[i]::ds.drop (i+1):=List.drop_eq_getElem_cons hlt
  rw[hd]at k
  unfold zcP at k
  obtain⟨g1,g2⟩:=go ds[i] (by simp[hlt])
  refine .inr ⟨g1,fun σ H=>∃ F ρ,yf F1 F/\Rl Fb Hb F H ρ σ/\SOk Fb Hb E (zcP b gb (ds.drop (i+1)) ρ),fun σ' H' w=>⟨ds.length - (i+1),by omega,rfl,hlt,w⟩,λx H' hy=>?_⟩
  obtain⟨F3,g3,a3⟩:=g2 x H' hy
  cases hb:b ds[i] ρ with
  | none=>rw[hb]at k;exact k.elim
  | some ρ1 =>
   rw[hb]at k
   dsimp only at k
   refine rg Fb Hb F3 H' ρ ρ1 σ _ x _ (rl.grow g3) a3 hb fun σ2 rl2=>?_
   have s3:=s1.trans g3.ff
   refine rb F1 (hb2 F1 Hb) F3 H' ρ1 σ2 _ (rl2.dn rl0.gr.ff s3) ?_
   cases hg:gb ρ1 with
   | nx ρ'=>rw[hg]at k;exact λF4 H4 σ4 r4=>⟨F4,ρ',r4.gr.ff,r4.up rl0.gr,k⟩
   | ct ρ'=>rw[hg]at k;exact λF4 H4 σ4 r4=>⟨F4,ρ',r4.gr.ff,r4.up rl0.gr,k⟩
   | bk ρ'=>rw[hg]at k;exact λF4 H4 σ4 r4=>k F4 H4 σ4 (r4.up rl0.gr)
   | rt d=>rw[hg]at k;exact λF4 H4 v g4 a4=>k F4 H4 v (rl0.gr.up g4) a4
   | no=>rw[hg]at k;exact k.elim
 .have e:i=ds.length:=by omega
  subst e
  rw[List.drop_length]at k
  exact .inl ⟨stop rfl,k F H σ rl⟩
theorem XQ {iter:Expr}{body:List Stmt}{f:Ev->Option (List D)}{b:D->SE->Option SE}{g:SE->Ctl}(hp:PassesOwn (model X.prog X.w) X.A X.env X.xe)(hc:X.calm=true)(hi:ID X tg iter f)(hg:BD X tg b)(hb:SDs X body g)
 (hs:∀ x,foldedSetIterable iter X.env x=pure x:=by intro _;rfl):SD X (.For tg iter body [] pos) (XS f b g):=by
 obtain⟨wi,pi,ri⟩:=hi
 obtain⟨tg',pg,rg⟩:=hg
 obtain⟨tb,pb,rb⟩:=hb
 refine⟨_,zca hp hc pi pg pb hs,λFb Hb F H ρ σ E rl k=>?_⟩
 unfold XS at k
 cases h:f (visF ρ) with
 | none=>rw[h]at k;exact k.elim
 | some ds =>
  rw[h]at k
  exact ri σ _ _ H ds _ rl.gr.fh rl.visF h λF1 H1 J g1 ok=>zdM ok rg rb (rl.grow g1) k
end
noncomputable def lcD (b:D->Option (List (Option D)))(t:Ev->Option Bool)(f:Ev->Option D)(ρ:Ev):List D->Option (List D)
 | []=>some []
 | d::ds=>(b d).bind λown=>(t (own++ρ)).bind λc=>if c=true then (f (own++ρ)).bind λy=>(lcD b t f ρ ds).map (y::·)else lcD b t f ρ ds
noncomputable def fLC (i:Ev->Option (List D))(b:D->Option (List (Option D)))(t:Ev->Option Bool)(f:Ev->Option D):Ev->Option (List D):=fun ρ=>(i ρ).bind λds=>if lim ds.length=true then lcD b t f ρ ds else none
noncomputable def b1:D->Option (List (Option D)):=λd=>some [some d]
noncomputable def b2:D->Option (List (Option D))
 | .tup [x,y]=>some [some x,some y]
 | _=>none
noncomputable def RB (n:Nat)(t:TG)(b:D->Option (List (Option D))):Prop:=∀ (σ:St) (ρ:Ev) (F H:Hp) (d:D) (v:V) (own:List (Option D)) (Q:St->Hp->Prop),yf F H->VAt F ρ σ->At F d v->b d=some own->(∀ σ',VAt F (own++ρ) σ'->Q σ' H)->t v (List.replicate n none++σ) H Q
noncomputable def yU:Ev->Option Bool:=λ_=>some true
theorem zgL:RT zgT yU:=λ_ _ _ _ _ _ s _ e q=>by cases e;exact q _ _ (.refl s)
theorem zib {wi:TI}{n:Nat}{g:TG}{tt:TT}{te:TE}{fi:Ev->Option (List D)}{b:D->Option (List (Option D))}{ft:Ev->Option Bool}{fe:Ev->Option D}(ri:RI wi fi)(rg:RB n g b)(rt:RT tt ft)(re:RE te fe) :
 RF (tLC wi n g tt te) (fLC fi b ft fe):=by
 intro σ ρ F H out Q s va e q
 obtain⟨ds,e1,e2⟩:=Option.bind_eq_some_iff.mp e
 split at e2 <;> try cases e2
 rename_i hlim
 have hlim:ds.length<=sizeLine:=of_decide_eq_true hlim
 refine ri σ ρ F H ds _ s va e1 λF1 H1 J g1 ok=>?_
 intro P hP
 have hF1:F1 P=none:=g1.fh.free hP
 have hH0:H P=none:=by
  cases e:H P with
  | none=>rfl
  | some o =>
   cases e2:F P with
   | none=>rw[(g1.kp P o e2 e).2]at hP;cases hP
   | some u=>rw[g1.fh _ _ (g1.ff _ _ e2)]at hP;cases hP
 refine⟨λi m ys H2=>m=ds.length - i/\i<=ds.length/\∃ F2 done,Gr F1 H1 F2 H2/\Gr F1 (upd H1 P (.lst [])) F2 (upd H2 P (.lst []))/\F2 P=none/\H2 P=some (.lst ys)/\AtL F2 done ys/\done.length<=i/\∃ more,lcD b ft fe ρ (ds.drop i)=some more/\done++more=out,⟨ds.length,by simp,Nat.zero_le _,F1,[],Gr.hide g1.fh hP _,?_,hF1,zk,.nil,Nat.zero_le _,out,e2,rfl⟩,?_⟩
 .rw[zav]
  exact .refl λb u z=>by rw[zm (zj z hF1)];exact g1.fh b u z
 rintro i m ys H2 ⟨rfl,hi,F2,done,g2,g2',hF2,hH2,al,hdl,more,hm,hout⟩
 obtain⟨stop,go⟩:=ok i F2 H2 g2.ff g2.fh
 by_cases hlt:i < ds.length
 .have hd:ds.drop i=ds[i]::ds.drop (i+1):=List.drop_eq_getElem_cons hlt
  rw[hd]at hm
  unfold lcD at hm
  obtain⟨own,hb,hm⟩:=Option.bind_eq_some_iff.mp hm
  obtain⟨cb,hc,hm⟩:=Option.bind_eq_some_iff.mp hm
  obtain⟨k1,k2⟩:=go ds[i] (by simp[hlt])
  refine .inr ⟨k1,by rw[al.length];omega,λx H3 hy=>?_⟩
  obtain⟨F3,g3,a3⟩:=k2 x H3 hy
  refine rg σ ρ F3 H3 ds[i] x own _ g3.fh (va.mono (g1.ff.trans (g2.ff.trans g3.ff))) a3 hb fun σ4 va4=>?_
  refine rt σ4 _ F3 H3 cb _ g3.fh va4 hc λF5 H5 g5=>?_
  have g35:=g3.trans g5
  obtain⟨n5,h5⟩:=g35.kl (λ_ e=>by cases e) hF2 hH2
  have keep2:∀ {F6 H6:Hp} {o:HO},Gr F2 H2 F6 H6->F6 P=none->Gr F1 (upd H1 P (.lst [])) F6 (upd (upd H6 P o) P (.lst [])):=λ{F6 H6 o} g6 n6=>by
   rw[zav]
   refine⟨g2.ff.trans g6.ff,λb u z=>?_,λb u z1 z2=>?_⟩
   .rw[zm (zj z n6)];exact g6.fh b u z
   .by_cases hbP:b=P
    .subst hbP
     rw[zk]at z2 ⊢
     exact⟨.inl n6,z2⟩
    .rw[zm hbP]at z2 ⊢
     exact(g2.trans g6).kp b u z1 z2
  have keep1:∀ {F6 H6:Hp} {o:HO},Gr F2 H2 F6 H6->F6 P=none->Gr F1 H1 F6 (upd H6 P o):=λ{F6 H6 o} g6 n6=>by
   refine⟨g2.ff.trans g6.ff,λb u z=>?_,λb u z1 z2=>?_⟩
   .rw[zm (zj z n6)];exact g6.fh b u z
   .rw[zm (zj z2 hP)]
    exact(g2.trans g6).kp b u z1 z2
  cases cb with
  | false =>
   rw[if_neg Bool.false_ne_true]at hm ⊢
   have ups:H5=upd H5 P (.lst ys):=by
    funext b
    by_cases hbP:b=P
    .subst hbP;rw[zk];exact h5
    .rw[zm hbP]
   refine⟨ds.length - (i+1),by omega,rfl,hlt,F5,done,?_,?_,n5,h5,al.mono g35.ff,by omega,more,hm,hout⟩
   .rw[ups];exact keep1 g35 n5
   .have:=keep2 (o:=.lst ys) g35 n5
    rw[<-ups]at this
    exact this
  | true =>
   rw[if_pos rfl]at hm ⊢
   obtain⟨y,hy,hm⟩:=Option.bind_eq_some_iff.mp hm
   obtain⟨rest,hm',rfl⟩:=Option.map_eq_some_iff.mp hm
   refine re σ4 _ F5 H5 y _ g5.fh (va4.mono g5.ff) hy λF6 H6 v g6 a6=>?_
   have g36:=g35.trans g6
   obtain⟨n6,h6⟩:=g36.kl (λ_ e=>by cases e) hF2 hH2
   refine⟨h6,ds.length - (i+1),by omega,rfl,hlt,F6,done++[y],keep1 g36 n6,keep2 g36 n6,n6,zk,(al.mono g36.ff).snoc a6,by rw[List.length_append];simp;omega,rest,hm',by rw[<-hout,List.append_assoc];rfl⟩
 .have e:i=ds.length:=by omega
  subst e
  rw[List.drop_length]at hm
  cases hm
  rw[List.append_nil]at hout
  subst hout
  exact .inl ⟨stop rfl,q F2 H2 P ys (g1.trans g2) hH0 hF2 hH2 al⟩
theorem rb1:RB 1 (xT 0) b1:=by
 intro σ ρ F H d v own Q s va av e q
 cases e
 refine q _ λi d' h=>?_
 cases i with
 | zero=>cases h;exact⟨v,rfl,av⟩
 | succ i=>exact va i d' h
theorem rb2 {K:W.Frag}:RB 2 (zkR K 2 (zaM (xT 0) (zaM (xT 1) zkS))) b2:=by
 intro σ ρ F H d v own Q s va av e q
 unfold b2 at e
 split at e <;> cases e
 obtain⟨p,xs,rfl,hx,al⟩:=av.tup_inv
 obtain⟨x,r,rfl,ax,al⟩:=al.cons_inv
 obtain⟨y,r,rfl,ay,al⟩:=al.cons_inv
 cases al.nil_inv
 refine⟨p,_,rfl,SqT.of (s _ _ hx),rfl,x,_,rfl,y,_,rfl,rfl,?_⟩
 refine q _ λi d' h=>?_
 match i,h with
 | 0,h=>cases h;exact⟨x,rfl,ax⟩
 | 1,h=>cases h;exact⟨y,rfl,ay⟩
 | i+2,h=>exact va i d' h
noncomputable def tCan (f:Ev->Option D):TE:=fun σ H Q=>∃ ρ F d,yf F H/\VAt F ρ σ/\f ρ=some d/\∀ F' H' v,Gr F H F' H'->At F' d v->Q v H'
noncomputable def zjE (f:Ev->Option Bool):TT:=fun σ H Q=>∃ ρ F d,yf F H/\VAt F ρ σ/\f ρ=some d/\∀ F' H',Gr F H F' H'->Q d H'
theorem ED.can {X:Cx}{e:Expr}{f:Ev->Option D}(h:ED X e f):PE X e (tCan f):=by
 obtain⟨t,p,r⟩:=h
 rintro pins s σ H Q I ⟨ρ,F,d,h1,h2,h3,h4⟩
 exact p pins s σ H Q I (r σ ρ F H d Q h1 h2 h3 h4)
theorem TD.can {X:Cx}{e:Expr}{f:Ev->Option Bool}(h:TD X e f):PT X e (zjE f):=by
 obtain⟨t,p,r⟩:=h
 rintro pins s σ H Q I ⟨ρ,F,d,h1,h2,h3,h4⟩
 exact p pins s σ H Q I (r σ ρ F H d Q h1 h2 h3 h4)
theorem zds {f:Ev->Option D}:RE (tCan f) f:=λ_ ρ F _ d _ h1 h2 h3 h4=>⟨ρ,F,d,h1,h2,h3,h4⟩
theorem zj6 {f:Ev->Option Bool}:RT (zjE f) f:=λ_ ρ F _ d _ h1 h2 h3 h4=>⟨ρ,F,d,h1,h2,h3,h4⟩
theorem Xs {X:Cx}{elt tg iter:Expr}{L M:List Str}{scope:Scope}{cl:List (Str × Addr)}{pos:Pos}{fi:Ev->Option (List D)}{b:D->Option (List (Option D))}{fe:Ev->Option D}{g:TG}
 (hc:X.calm=true) (S:yQ X L M scope cl) (hi:ID X tg iter fi)
 (hgS:∀ (σ:St) (v:V) (H:Hp) (Q:St->Hp->Prop),g v (List.replicate L.length none++σ) H Q->g v (List.replicate L.length none++σ) H (fun σ2 H2=>YI (List.replicate L.length none++σ) σ2/\Q σ2 H2))
 (hrb:RB L.length g b)
 (hg:∀ s₀ H₀ ex pn,PG (Wh X L M scope cl s₀ H₀ ex pn) tg g) (he:∀ s₀ H₀ ex pn,ED (Wh X L M scope cl s₀ H₀ ex pn) elt fe)
 (hs:∀ x,foldedSetIterable iter X.env x=pure x:=by intro _;rfl):FL X (.ListComp elt [⟨tg,iter,[],0⟩] scope pos) (fLC fi b yU fe):=by
 obtain⟨wi,pi,ri⟩:=hi
 exact⟨_,zgw hc S pi hgS hg (λ_ _ _ _=>zaJ) (λ_ _ _ _=>(he _ _ _ _).can) hs,zib ri hrb zgL zds⟩
theorem ziR {X:Cx}{elt tg iter c:Expr}{L M:List Str}{scope:Scope}{cl:List (Str × Addr)}{pos:Pos}{fi:Ev->Option (List D)}{b:D->Option (List (Option D))}{ft:Ev->Option Bool}{fe:Ev->Option D}{g:TG}
 (hc:X.calm=true) (S:yQ X L M scope cl) (hi:ID X tg iter fi)
 (hgS:∀ (σ:St) (v:V) (H:Hp) (Q:St->Hp->Prop),g v (List.replicate L.length none++σ) H Q->g v (List.replicate L.length none++σ) H (fun σ2 H2=>YI (List.replicate L.length none++σ) σ2/\Q σ2 H2))
 (hrb:RB L.length g b)
 (hg:∀ s₀ H₀ ex pn,PG (Wh X L M scope cl s₀ H₀ ex pn) tg g) (ht:∀ s₀ H₀ ex pn,TD (Wh X L M scope cl s₀ H₀ ex pn) c ft) (he:∀ s₀ H₀ ex pn,ED (Wh X L M scope cl s₀ H₀ ex pn) elt fe)
 (hs:∀ x,foldedSetIterable iter X.env x=pure x:=by intro _;rfl):FL X (.ListComp elt [⟨tg,iter,[c],0⟩] scope pos) (fLC fi b ft fe):=by
 obtain⟨wi,pi,ri⟩:=hi
 exact⟨_,zgw hc S pi hgS hg (λ_ _ _ _=>zhd (ht _ _ _ _).can) (λ_ _ _ _=>(he _ _ _ _).can) hs,zib ri hrb zj6 zds⟩
theorem zj4 {t:TE}{f:Ev->Option (List D)}(r:RF t f):RE t (xU f):=by
 intro σ ρ F H d Q s va e q
 obtain⟨ds,e1,rfl⟩:=Option.map_eq_some_iff.mp e
 refine r σ ρ F H ds Q s va e1 λF' H' p xs g h0 hF hH hx=>?_
 have g2:=g.show h0 hF hH
 exact q _ _ _ g2 (At.lst zk (hx.mono (λb u e=>by rw[zm (zj e hF)];exact e)))
noncomputable def FLS (X:Cx)(i:Nat)(st:Stmt)(f:Ev->Option (List D)):Prop:=∃ t,PS X st (Vn t (xT i))/\RF t f
theorem zh0 {m:Bool}{i:Nat}{st:Stmt}{f:Ev->Option (List D)}(he:FLS X i st f):SD X st (wQ m i (xU f)):=by
 obtain⟨t,p,r⟩:=he
 refine⟨_,p,λFb Hb F H ρ σ E rl k=>?_⟩
 unfold wQ at k
 cases h:vEv m (xU f) ρ with
 | none=>rw[h]at k;exact k.elim
 | some d =>
  rw[h]at k
  exact(zj4 r).at rl h λF' H' v g av=>k F' H' _ ((rl.grow g).set av)
theorem zhO {i:Nat}{x:Str}{px spos:Pos}{X:Cx}{elt tg iter:Expr}{L M:List Str}{scope:Scope}{cl:List (Str × Addr)}{pos:Pos}{fi:Ev->Option (List D)}{b:D->Option (List (Option D))}{fe:Ev->Option D}{g:TG}
 (hN:X.N.Nodup) (hi':X.N[i]?=some x) (hx:Loc X.env.scope x) (hc:X.calm=true) (S:yQ X L M scope cl) (hi:ID X tg iter fi)
 (hgS:∀ (σ:St) (v:V) (H:Hp) (Q:St->Hp->Prop),g v (List.replicate L.length none++σ) H Q->g v (List.replicate L.length none++σ) H (fun σ2 H2=>YI (List.replicate L.length none++σ) σ2/\Q σ2 H2))
 (hrb:RB L.length g b)
 (hg:∀ s₀ H₀ ex pn,PG (Wh X L M scope cl s₀ H₀ ex pn) tg g) (he:∀ s₀ H₀ ex pn,ED (Wh X L M scope cl s₀ H₀ ex pn) elt fe)
 (hs:∀ x,foldedSetIterable iter X.env x=pure x:=by intro _;rfl)
 (hsw:swapsWith (.ListComp elt [⟨tg,iter,[],0⟩] scope pos) (some (.Name x px)) spos.line X.env=pure true:=by rfl)
 (hf:X.fn x=true\/X.env.scope.names.lookup x=some .local:=by first | exact .inl rfl | exact .inr rfl | assumption):FLS X i (.Assign [.Name x px] (.ListComp elt [⟨tg,iter,[],0⟩] scope pos) spos) (fLC fi b yU fe):=by
 obtain⟨wi,pi,ri⟩:=hi
 exact⟨_,zgI hN hi' hx hc S pi hgS hg (λ_ _ _ _=>zaJ) (λ_ _ _ _=>(he _ _ _ _).can) hs hsw hf,zib ri hrb zgL zds⟩
noncomputable def fnD (n:Nat)(g:SE->Ctl)(ds:List D):Option D:=match g (ds.map .v++List.replicate (n - ds.length) .no) with
 | .rt d=>some d
 | .nx _=>some .non
 | _=>none
noncomputable def spD (m:Nat)(p:List D->Option D):Sp:=λvs H Q _=>∃ ds d F,ds.length=m/\yf F H/\AtL F ds vs/\p ds=some d/\∀ F' H' v,Gr F H F' H'->At F' d v->Q v H'
theorem zfx {F H:Hp}{N:List Str}{ds:List D}{vs:List V}(s:yf F H)(a:AtL F ds vs):Rl F H F H (ds.map .v++List.replicate (N.length - ds.length) .no) (L2.start N vs):=by
 have hl:=a.length
 have noO:∀ (i:Nat) (t:Sl),(ds.map Sl.v++List.replicate (N.length - ds.length) Sl.no)[i]?=some t->t.isO=true->False:=λi t h ho=>by
  by_cases hi:i < ds.length
  .rw[List.getElem?_append_left (by simpa using hi),List.getElem?_map]at h
   cases e:ds[i]? with
   | none=>rw[e]at h;cases h
   | some d=>rw[e]at h;cases h;cases ho
  .rw[List.getElem?_append_right (by simpa using hi),List.getElem?_replicate]at h
   split at h <;> cases h
   cases ho
 refine⟨.refl s,λi d h=>?_,λi t h ho=>(noO i t h ho).elim,λi j p t u h _ ho=>(noO i t h ho).elim,?_⟩
 .by_cases hi:i < ds.length
  .rw[List.getElem?_append_left (by simpa using hi),List.getElem?_map]at h
   cases e:ds[i]? with
   | none=>rw[e]at h;cases h
   | some d' =>
    rw[e]at h
    cases h
    obtain⟨x,hx,ax⟩:=a.get e
    refine⟨x,?_,ax⟩
    unfold L2.start
    rw[List.getElem?_append_left (by simpa [hl]using hi),List.getElem?_map,hx]
    rfl
  .rw[List.getElem?_append_right (by simpa using hi),List.getElem?_replicate]at h
   split at h <;> cases h
 .unfold L2.start
  simp[hl]
theorem yO {P:Program}{w:World}{K:W.Frag}{mg:Str->Option Value}{base:Heap}{x qual:Str}{st:Stmt}{f:Addr}{fd:FuncData}{N ps:List Str}{k:Nat}{g:SE->Ctl}(Fu:Fun K x qual st f fd)(S:zA N ps (zn st))
 (hb:∀ (cdv:Value) (A:Around) (outer:List Env) (s:Shared) (H:Hp) (E:XK),YH k (A.deeper (PyProof.Rows.envOfC qual (zn st) s.heap.objs.size f cdv))->SDs (zhs CX0 P w K mg base N qual (zn st) f cdv A outer s H E).nox (wR st) g) :
 xz P w K mg base CX0 (k+1) f fd ps (spD ps.length (fnD N.length g)):=by
 refine Fu.ok S (λvs H Q E h=>?_) λcdv A outer s H vs Q E hr h=>?_
 .obtain⟨ds,d,F,hl,_,a,_⟩:=h
  rw[a.length];exact hl
 .obtain⟨ds,d,F,hl,sm,a,e,q⟩:=h
  obtain⟨t,p,r⟩:=hb cdv A outer s H E hr
  refine⟨t,p,r F H F H _ _ _ (zfx sm a) ?_⟩
  unfold fnD at e
  cases hg:g (ds.map .v++List.replicate (N.length - ds.length) .no) with
  | rt d'=>rw[hg]at e;cases e;exact λF' H' v g av=>q F' H' v g av
  | nx ρ=>rw[hg]at e;cases e;exact λF' H' σ rl=>q F' H' _ rl.gr .non
  | bk ρ=>rw[hg]at e;cases e
  | ct ρ=>rw[hg]at e;cases e
  | no=>rw[hg]at e;cases e
theorem Yh {P:Program}{w:World}{K:W.Frag}{mg:Str->Option Value}{base:Heap}{f:Addr}{fd:FuncData}{ps:List Str}{k m:Nat}{p q:List D->Option D}(F:xz P w K mg base CX0 k f fd ps (spD m p))(h:∀ ds d,ds.length=m->q ds=some d->p ds=some d):xz P w K mg base CX0 k f fd ps (spD m q) :=
 F.imp λvs H Q E ⟨ds,d,F',h1,h2,h3,h4,h5⟩=>⟨ds,d,F',h1,h2,h3,h ds d h1 h4,h5⟩
noncomputable def zw (m:Nat)(p:List D->Option D)(f:Ev->Option (List D)):Ev->Option D:=fun ρ=>(f ρ).bind λds=>if ds.length=m then p ds else none
theorem zhR {X:Cx}{x:Str}{k m:Nat}{f:Addr}{fd:FuncData}{ps:List Str}{p:List D->Option D}{e:Expr}{es:List Expr}{pp pos:Pos}{fa:Ev->Option (List D)}(F:xz X.prog X.w X.K X.mg X.base CX0 k f fd ps (spD m p))(hr:YH k X.A)(hg:Gl X x)(hm:X.mg x=some (.ref f))(hk:W.keepIn X.K (.ref f)=true)(hb:zao X.K fd ps [])
 (ha:AD X (e::es) fa) (hdb:(x == ("__debug__":Str))=false:=by decide) (he:starEach (e::es) X.env=(false,eval e X.env)::starEach es X.env:=by rfl) (hpl:(backTo pos (starEach es X.env)).any (·.1)=false:=by rfl) :
 ED X (.Call (.Name x pp) (e::es) [] pos) (zw m p fa):=by
 obtain⟨t,pa,r⟩:=ha
 refine⟨_,zhC F hr hg hm hk hb .nil zlN pa hdb he hpl,fun σ ρ F0 H d Q s va e q=>?_⟩
 obtain⟨ds,e1,e2⟩:=Option.bind_eq_some_iff.mp e
 split at e2 <;> try cases e2
 rename_i hl
 refine r σ ρ F0 H ds _ s va e1 λF1 H1 vs g1 a1=>?_
 refine⟨ds,d,F1,hl,g1.fh,by rw[List.append_nil];exact a1,e2,λF' H' v g av=>q F' H' v (g1.trans g) av⟩
end Dl
namespace Dl
open PySem L2
variable [KK]
section
variable {X:Cx}{a b c e:Expr}{pos:Pos}
theorem WJ:bootBuiltins "isinstance"=some (.builtin "isinstance"):=by decide +kernel
theorem vp:bootBuiltins "len"=some (.builtin "len"):=by decide +kernel
theorem zdx:bootBuiltins "max"=some (.builtin "max"):=by decide +kernel
theorem VW:bootBuiltins "sorted"=some (.builtin "sorted"):=by decide +kernel
theorem zjb:bootBuiltins "sum"=some (.builtin "sum"):=by decide +kernel
theorem zdf:bootBuiltins "all"=some (.builtin "all"):=by decide +kernel
theorem zi3:bootBuiltins "int"=some (.type "int"):=by decide +kernel
theorem zg1:bootBuiltins "bool"=some (.type "bool"):=by decide +kernel
theorem zU:bootBuiltins "tuple"=some (.type "tuple"):=by decide +kernel
theorem zc8:bootBuiltins "list"=some (.type "list"):=by decide +kernel
theorem zjI:bootBuiltins "str"=some (.type "str"):=by decide +kernel
theorem zaX:bootBuiltins "reversed"=some (.type "reversed"):=by decide +kernel
theorem zgM:bootBuiltins "zip"=some (.type "zip"):=by decide +kernel
noncomputable def zbr (C:Int->Int->Bool)(g:Int->Int->Int):D->D->Option D
 | .int i,.int j=>if C i j=true then some (.int (g i j))else none
 | _,_=>none
noncomputable def v6 (g:Int->Int->Int):D->D->Option D
 | .int i,.int j=>some (.int (g i j))
 | _,_=>none
noncomputable def zbJ (g:Int->Int->Bool):D->D->Option D
 | .int i,.int j=>some (.bl (g i j))
 | _,_=>none
theorem W5 {C:Int->Int->Prop}{Cb:Int->Int->Bool}{g:Int->Int->Int}(h:∀ i j,Cb i j=true->C i j):OpD (rI C λi j=>.int (g i j)) (zbr Cb g):=by
 intro F H x y d e z Q s ax ay ez q
 cases d <;> try cases ez
 cases e <;> try cases ez
 unfold zbr at ez
 dsimp only at ez
 split at ez <;> cases ez
 rename_i hc
 exact⟨_,_,ax.int_inv,ay.int_inv,h _ _ hc,q F H _ (.refl s) .int⟩
theorem XA {g:Int->Int->Int}:OpD (rI0 λi j=>.int (g i j)) (v6 g):=by
 intro F H x y d e z Q s ax ay ez q
 cases d <;> try cases ez
 cases e <;> try cases ez
 exact⟨_,_,ax.int_inv,ay.int_inv,q F H _ (.refl s) .int⟩
theorem yg {g:Int->Int->Bool}:OpD (rI0 λi j=>.bl (g i j)) (zbJ g):=by
 intro F H x y d e z Q s ax ay ez q
 cases d <;> try cases ez
 cases e <;> try cases ez
 exact⟨_,_,ax.int_inv,ay.int_inv,q F H _ (.refl s) .bl⟩
theorem VI {r r':R2}{g g':D->D->Option D}(h:OpD r g)(h':OpD r' g'):OpD (λx y H Q=>r x y H Q\/r' x y H Q) (λd e=>(g d e).or (g' d e)):=by
 intro F H x y d e z Q s ax ay ez q
 dsimp only at ez
 cases hg:g d e with
 | some z'=>rw[hg]at ez;cases ez;exact .inl (h F H x y d e z Q s ax ay hg q)
 | none=>rw[hg]at ez;exact .inr (h' F H x y d e z Q s ax ay ez q)
noncomputable def ziW:D->D->Option D
 | .tup a,.tup b=>if lim (a.length+b.length)=true then some (.tup (a++b))else none
 | _,_=>none
noncomputable def ziU:D->D->Option (List D)
 | .lst a,.lst b=>if lim (a.length+b.length)=true then some (a++b)else none
 | _,_=>none
noncomputable def zez (d e:D):Option D:=(ziU d e).map .lst
noncomputable def zj0:D->D->Option D
 | .str a,.str b=>if lim (a.length+b.length)=true then some (.str (a++b))else none
 | _,_=>none
theorem zfU {K:W.Frag}:OpD (zgz K) ziW:=by
 intro F H x y d e z Q s ax ay ez q
 cases d <;> try cases ez
 cases e <;> try cases ez
 unfold ziW at ez
 dsimp only at ez
 split at ez <;> cases ez
 rename_i hl
 obtain⟨p,xs,rfl,hx,al⟩:=ax.tup_inv
 obtain⟨p2,ys,rfl,hy,bl⟩:=ay.tup_inv
 refine⟨p,p2,xs,ys,rfl,rfl,SqT.of (s _ _ hx),SqT.of (s _ _ hy),by rw[al.length,bl.length];exact of_decide_eq_true hl,λe1=>?_,λ_ e2=>?_,λ_ _ r hr=>?_⟩
 .subst e1
  have:(_:List D)=[]:=List.length_eq_zero_iff.mp al.length.symm
  subst this
  exact q F H _ (.refl s) (.tup hy bl)
 .subst e2
  have:(_:List D)=[]:=List.length_eq_zero_iff.mp bl.length.symm
  subst this
  rw[List.append_nil]at q
  exact q F H _ (.refl s) (.tup hx al)
 .have g:=Gr.alloc s hr (.tup (xs++ys))
  exact q _ _ _ g (.tup zk ((al.append bl).mono g.ff))
theorem zge:OpD rCat zez:=by
 intro F H x y d e z Q s ax ay ez q
 cases d <;> try cases ez
 cases e <;> try cases ez
 unfold zez ziU at ez
 dsimp only at ez
 split at ez <;> cases ez
 rename_i hl
 obtain⟨p,xs,rfl,hx,al⟩:=ax.lst_inv
 obtain⟨p2,ys,rfl,hy,bl⟩:=ay.lst_inv
 refine⟨p,p2,xs,ys,rfl,rfl,s _ _ hx,s _ _ hy,by rw[al.length,bl.length];exact of_decide_eq_true hl,λr hr=>?_⟩
 have g:=Gr.alloc s hr (.lst (xs++ys))
 exact q _ _ _ g (.lst zk ((al.append bl).mono g.ff))
theorem ze7:OpD (λx y H Q=>∃ i j,x=.str i/\y=.str j/\i.length+j.length<=sizeLine/\Q (.str (i++j)) H) zj0:=by
 intro F H x y d e z Q s ax ay ez q
 cases d <;> try cases ez
 cases e <;> try cases ez
 unfold zj0 at ez
 dsimp only at ez
 split at ez <;> cases ez
 rename_i hl
 exact⟨_,_,ax.str_inv,ay.str_inv,of_decide_eq_true hl,q F H _ (.refl s) .str⟩
noncomputable def xc:D->D->Option D
 | .int i,.int j=>some (.int (i+j))
 | .tup a,.tup b=>if lim (a.length+b.length)=true then some (.tup (a++b))else none
 | .lst a,.lst b=>if lim (a.length+b.length)=true then some (.lst (a++b))else none
 | .str a,.str b=>if lim (a.length+b.length)=true then some (.str (a++b))else none
 | _,_=>none
theorem za3 {r:R2}{g g':D->D->Option D}(h:OpD r g)(k:∀ d e z,g' d e=some z->g d e=some z):OpD r g':=λF H x y d e z Q s ax ay ez q=>h F H x y d e z Q s ax ay (k d e z ez) q
theorem zN {f h:Ev->Option D}(ha:ED X a f)(hb:ED X b h):ED X (.BinOp a .Add b pos) (zo xc f h) :=
 Wc (((zjh.or zfX).or zi7).or zcL) (za3 (VI (VI (VI (XA (g:=λi j=>i+j)) zfU) zge) ze7) λd e z h=>by
  cases d <;> try cases h
  all_goals cases e <;> try cases h
  .rfl
  .unfold xc at h;dsimp only at h;split at h <;> cases h;rename_i hl;simp[v6,ziW,hl,zez,ziU,zj0]
  .unfold xc at h;dsimp only at h;split at h <;> cases h;rename_i hl;simp[v6,ziW,hl,zez,ziU,zj0]
  .unfold xc at h;dsimp only at h;split at h <;> cases h;rename_i hl;simp[v6,ziW,hl,zez,ziU,zj0]) ha hb
noncomputable def fBin (g:D->D->Option (List D))(f h:Ev->Option D):Ev->Option (List D):=fun ρ=>(f ρ).bind λx=>(h ρ).bind λy=>g x y
theorem YV {F H F1 H1:Hp}{p:Addr}(g1:Gr F H F1 H1)(hp:H1 p=none):H p=none:=by
 cases e:H p with
 | none=>rfl
 | some o =>
  cases e2:F p with
  | none=>rw[(g1.kp p o e2 e).2]at hp;cases hp
  | some u=>rw[g1.fh _ _ (g1.ff _ _ e2)]at hp;cases hp
noncomputable def Y8 (i j:Int):Bool:=decide ((-(2 ^ 64) < i/\i < 2 ^ 64)\/(-(2 ^ 64) < j/\j < 2 ^ 64))
noncomputable def zgE:D->D->Option (List D)
 | .lst a,.int k=>if -(2 ^ 63)<=k/\k < 2 ^ 63/\lim (a.length*k.toNat)=true then some (List.replicate k.toNat a).flatten else none
 | _,_=>none
noncomputable def ze5 (d e:D):Option D:=(zgE d e).map .lst
noncomputable def vg:D->D->Option D
 | .int i,.int j=>if Y8 i j=true then some (.int (i*j))else none
 | .lst a,.int k=>if -(2 ^ 63)<=k/\k < 2 ^ 63/\lim (a.length*k.toNat)=true then some (.lst (List.replicate k.toNat a).flatten)else none
 | _,_=>none
theorem zf6:OpD rRep ze5:=by
 intro F H x y d e z Q s ax ay ez q
 cases d <;> try cases ez
 cases e <;> try cases ez
 unfold ze5 zgE at ez
 dsimp only at ez
 split at ez <;> cases ez
 rename_i hl
 obtain⟨p,xs,rfl,hx,al⟩:=ax.lst_inv
 refine⟨p,_,xs,rfl,ay.int_inv,s _ _ hx,hl.1,hl.2.1,by rw[al.length];exact of_decide_eq_true hl.2.2,λr hr=>?_⟩
 rename_i ds k
 have g:=Gr.alloc s hr (.lst (List.replicate k.toNat xs).flatten)
 exact q _ _ _ g (.lst zk ((al.rep _).mono g.ff))
theorem vb {f h:Ev->Option D}(ha:ED X a f)(hb:ED X b h):ED X (.BinOp a .Mult b pos) (zo vg f h) :=
 Wc (zke.or zgu) (za3 (VI (W5 (Cb:=Y8) (g:=λi j=>i*j) λi j h=>by have h':=of_decide_eq_true (show decide ((-(2 ^ 64) < i/\i < 2 ^ 64)\/(-(2 ^ 64) < j/\j < 2 ^ 64))=true from h);exact h') zf6) λd e z h=>by
  cases d <;> try cases h
  all_goals cases e <;> try cases h
  .unfold vg at h;dsimp only at h;split at h <;> cases h;rename_i hl;simp[zbr,hl]
  .unfold vg at h;dsimp only at h;split at h <;> cases h;rename_i hl;show(ze5 _ _)=_;unfold ze5 zgE;dsimp only;rw[if_pos hl];rfl) ha hb
theorem zkl {f h:Ev->Option D}(ha:ED X a f)(hb:ED X b h):FL X (.BinOp a .Mult b pos) (fBin zgE f h):=by
 obtain⟨ta,pa,ra⟩:=ha
 obtain⟨tb,pb,rb⟩:=hb
 refine⟨_,zkt zgu pa pb,fun σ ρ F H z Q s va e q=>?_⟩
 obtain⟨x,e1,e3⟩:=Option.bind_eq_some_iff.mp e
 obtain⟨y,e2,ez⟩:=Option.bind_eq_some_iff.mp e3
 clear e e3
 refine ra σ ρ F H x _ s va e1 λF1 H1 v g1 a1=>?_
 refine rb σ ρ F1 H1 y _ g1.fh (va.mono g1.ff) e2 λF2 H2 u g2 a2=>?_
 cases x <;> try cases ez
 cases y <;> try cases ez
 unfold zgE at ez
 dsimp only at ez
 split at ez <;> cases ez
 rename_i hl
 obtain⟨p,xs,rfl,hx,al⟩:=(a1.mono g2.ff).lst_inv
 refine⟨p,_,xs,rfl,a2.int_inv,g2.fh _ _ hx,hl.1,hl.2.1,by rw[al.length];exact of_decide_eq_true hl.2.2,λr hr=>?_⟩
 exact q _ _ _ _ ((g1.trans g2).trans (Gr.hide g2.fh hr _)) (YV (g1.trans g2) hr) (g2.fh.free hr) zk (al.rep _)
noncomputable def Ze:=v6 λi j=>i - j
noncomputable def wH:=zbr (λ_ j=>decide (0 < j/\j < 1606938044258990275541962092341162602522202993782792835301376)) λi j=>i / j
noncomputable def wc:=zbr (λ_ j=>decide (0 < j)) λi j=>i % j
noncomputable def xorD:=v6 λi j=>Builtin.bitXor i j
theorem X4 {f h:Ev->Option D}(ha:ED X a f)(hb:ED X b h):ED X (.BinOp a .Sub b pos) (zo Ze f h):=Wc zkk XA ha hb
theorem zfJ:OpR X (binaryOp .FloorDiv) (rI (λ_ j=>0 < j/\j < 1606938044258990275541962092341162602522202993782792835301376) λi j=>.int (i / j)):=opI λi j _ _ _ _ _ hc q=>by
 have h1:(0:Int) < j:=hc.1
 have h2:j < 1606938044258990275541962092341162602522202993782792835301376:=hc.2
 refine PyProof.Rows.floordiv_int (by omega) (by rw[Int.fdiv_eq_ediv_of_nonneg i (by omega)];exact q) (.inl (PyProof.noPylong_of_log2 ?_))
 have h0:j.natAbs≠0:=by omega
 have h3:j.natAbs < 1606938044258990275541962092341162602522202993782792835301376:=by omega
 have h4:j.natAbs.log2 < 200:=(Nat.log2_lt h0).mpr h3
 omega
theorem Wu {f h:Ev->Option D}(ha:ED X a f)(hb:ED X b h):ED X (.BinOp a .FloorDiv b pos) (zo wH f h):=Wc zfJ (W5 λ_ _ h=>by have h':=of_decide_eq_true h;exact h') ha hb
theorem xx {f h:Ev->Option D}(ha:ED X a f)(hb:ED X b h):ED X (.BinOp a .Mod b pos) (zo wc f h):=Wc zjG (W5 λ_ _ h=>by have h':=of_decide_eq_true h;exact h') ha hb
theorem zji {f h:Ev->Option D}(ha:ED X a f)(hb:ED X b h):ED X (.BinOp a .BitXor b pos) (zo xorD f h):=Wc zjF XA ha hb
noncomputable def ltD:=zbJ λi j=>decide (i < j)
noncomputable def leD:=zbJ λi j=>decide (i<=j)
noncomputable def gtD:=zbJ λi j=>decide (j < i)
noncomputable def geD:=zbJ λi j=>decide (j<=i)
noncomputable def eqS:D->D->Option Bool
 | .non,.non=>some true
 | .int i,.int j=>some (decide (i=j))
 | .bl i,.bl j=>some (decide (i=j))
 | .str i,.str j=>some (decide (i=j))
 | .non,.int _=>some false | .int _,.non=>some false | .non,.bl _=>some false | .bl _,.non=>some false | .non,.str _=>some false | .str _,.non=>some false
 | .int _,.str _=>some false | .str _,.int _=>some false | .bl _,.str _=>some false | .str _,.bl _=>some false
 | _,_=>none
noncomputable def eqD (d e:D):Option D:=(eqS d e).map .bl
noncomputable def neD (d e:D):Option D:=(eqS d e).map λc=>.bl (!c)
theorem zgH:OpD rEq eqD:=by
 intro F H x y d e z Q s ax ay ez q
 obtain⟨c,e1,rfl⟩:=Option.map_eq_some_iff.mp ez
 cases d <;> cases e <;> try cases e1
 .cases ax.non_inv;cases ay.non_inv;exact⟨rfl,q F H _ (.refl s) .bl⟩
 .cases ax.non_inv;cases ay.bl_inv;exact⟨rfl,q F H _ (.refl s) .bl⟩
 .cases ax.non_inv;cases ay.int_inv;exact⟨rfl,q F H _ (.refl s) .bl⟩
 .cases ax.non_inv;cases ay.str_inv;exact⟨rfl,q F H _ (.refl s) .bl⟩
 .cases ax.bl_inv;cases ay.non_inv;exact⟨rfl,q F H _ (.refl s) .bl⟩
 .cases ax.bl_inv;cases ay.bl_inv;refine⟨rfl,?_⟩;rw[show ∀ i j:Bool,decide (V.bl i=V.bl j)=decide (i=j)from λi j=>by simp];exact q F H _ (.refl s) .bl
 .cases ax.bl_inv;cases ay.str_inv;exact⟨rfl,q F H _ (.refl s) .bl⟩
 .cases ax.int_inv;cases ay.non_inv;exact⟨rfl,q F H _ (.refl s) .bl⟩
 .cases ax.int_inv;cases ay.int_inv;refine⟨rfl,?_⟩;rw[show ∀ i j:Int,decide (V.int i=V.int j)=decide (i=j)from λi j=>by simp];exact q F H _ (.refl s) .bl
 .cases ax.int_inv;cases ay.str_inv;exact⟨rfl,q F H _ (.refl s) .bl⟩
 .cases ax.str_inv;cases ay.non_inv;exact⟨rfl,q F H _ (.refl s) .bl⟩
 .cases ax.str_inv;cases ay.bl_inv;exact⟨rfl,q F H _ (.refl s) .bl⟩
 .cases ax.str_inv;cases ay.int_inv;exact⟨rfl,q F H _ (.refl s) .bl⟩
 .cases ax.str_inv;cases ay.str_inv;refine⟨rfl,?_⟩;rw[show ∀ i j:Str,decide (V.str i=V.str j)=decide (i=j)from λi j=>by simp];exact q F H _ (.refl s) .bl
theorem XW:OpD rNe neD:=by
 intro F H x y d e z Q s ax ay ez q
 obtain⟨c,e1,rfl⟩:=Option.map_eq_some_iff.mp ez
 have:=zgH F H x y d e (.bl c) (λv H'=>∃ b,v=.bl b/\Q (.bl (!b)) H') s ax ay (by unfold eqD;rw[e1];rfl) λF' H' v g av=>⟨c,av.bl_inv,q F' H' _ g .bl⟩
 obtain⟨h1,b,h2,h3⟩:=this
 cases h2
 exact⟨h1,h3⟩
noncomputable def zcM:D->D->Option D
 | d,.non=>some (.bl (match d with | .non=>true | _=>false))
 | .bl a,.bl b=>some (.bl (a == b))
 | _,_=>none
noncomputable def xa:D->D->Option D
 | d,.non=>some (.bl (match d with | .non=>false | _=>true))
 | .bl a,.bl b=>some (.bl (!(a == b)))
 | _,_=>none
theorem zeE {F:Hp}{d:D}{x:V}(h:At F d x):decide (x=V.non)=(match d with | .non=>true | _=>false):=by
 cases d with
 | non=>cases h.non_inv;rfl
 | bl b=>cases h.bl_inv;rfl
 | int b=>cases h.int_inv;rfl
 | str b=>cases h.str_inv;rfl
 | tup ds=>obtain⟨a,xs,rfl,_⟩:=h.tup_inv;rfl
 | lst ds=>obtain⟨a,xs,rfl,_⟩:=h.lst_inv;rfl
 | scr ds=>obtain⟨a,rfl,_⟩:=h.scr_inv;rfl
 | dct z t ks vs=>obtain⟨a,xs,rfl,_⟩:=h.dct_inv;rfl
theorem zhh:OpD (λx y H Q=>(y=.non/\Q (.bl (decide (x=.non))) H)\/∃ i j,x=.bl i/\y=.bl j/\Q (.bl (i == j)) H) zcM:=by
 intro F H x y d e z Q s ax ay ez q
 unfold zcM at ez
 split at ez
 .cases ez
  refine .inl ⟨ay.non_inv,?_⟩
  rw[zeE ax]
  have:=q F H _ (.refl s) .bl
  cases d <;> exact this
 .cases ez
  exact .inr ⟨_,_,ax.bl_inv,ay.bl_inv,q F H _ (.refl s) .bl⟩
 .cases ez
theorem X0:OpD (λx y H Q=>(y=.non/\Q (.bl (!decide (x=.non))) H)\/∃ i j,x=.bl i/\y=.bl j/\Q (.bl (!(i == j))) H) xa:=by
 intro F H x y d e z Q s ax ay ez q
 unfold xa at ez
 split at ez
 .cases ez
  refine .inl ⟨ay.non_inv,?_⟩
  rw[zeE ax]
  have:=q F H _ (.refl s) .bl
  cases d <;> exact this
 .cases ez
  exact .inr ⟨_,_,ax.bl_inv,ay.bl_inv,q F H _ (.refl s) .bl⟩
 .cases ez
theorem zjB:OpR X (compareOp .Is) (λx y H Q=>(y=.non/\Q (.bl (decide (x=.non))) H)\/∃ i j,x=.bl i/\y=.bl j/\Q (.bl (i == j)) H):=zja.or zfj
theorem VZ:OpR X (compareOp .IsNot) (λx y H Q=>(y=.non/\Q (.bl (!decide (x=.non))) H)\/∃ i j,x=.bl i/\y=.bl j/\Q (.bl (!(i == j))) H):=zhW.or zaN
noncomputable def w6 (g g':D->D->Option D)(f h k:Ev->Option D):Ev->Option D:=fun ρ=>(f ρ).bind λx=>(h ρ).bind λy=>((g x y).bind asB).bind λc=>if c=true then (k ρ).bind λz=>g' y z else some (.bl false)
theorem zgl {r r':R2}{g g':D->D->Option D}{ta tb tc:TE}{f h k:Ev->Option D}(hg:OpD r g)(hg':OpD r' g')(ra:RE ta f)(rb:RE tb h)(rc:RE tc k):RE (zcV r r' ta tb tc) (w6 g g' f h k):=by
 intro σ ρ F H z Q s va e q
 obtain⟨x,e1,e⟩:=Option.bind_eq_some_iff.mp e
 obtain⟨y,e2,e⟩:=Option.bind_eq_some_iff.mp e
 obtain⟨c,e3,e⟩:=Option.bind_eq_some_iff.mp e
 obtain⟨cd,e3,e4⟩:=Option.bind_eq_some_iff.mp e3
 cases Yr e4
 refine ra σ ρ F H x _ s va e1 λF1 H1 v g1 a1=>?_
 refine rb σ ρ F1 H1 y _ g1.fh (va.mono g1.ff) e2 λF2 H2 u g2 a2=>?_
 refine hg F2 H2 v u x y _ _ g2.fh (a1.mono g2.ff) a2 e3 λF3 H3 w g3 a3=>⟨c,a3.bl_inv,?_⟩
 have g123:=(g1.trans g2).trans g3
 cases c with
 | true =>
  rw[if_pos rfl]at e ⊢
  obtain⟨z',e5,e6⟩:=Option.bind_eq_some_iff.mp e
  refine rc σ ρ F3 H3 z' _ g3.fh (va.mono g123.ff) e5 λF4 H4 w4 g4 a4=>?_
  exact hg' F4 H4 u w4 y z' z Q g4.fh (a2.mono (g3.ff.trans g4.ff)) a4 e6 λF5 H5 w5 g5 a5=>q F5 H5 w5 ((g123.trans g4).trans g5) a5
 | false =>
  rw[if_neg Bool.false_ne_true]at e ⊢
  cases e
  exact q F3 H3 _ g123 .bl
theorem zfQ {op op':CmpOp}{r r':R2}{g g':D->D->Option D}{f h k:Ev->Option D}(ho:OpR X (compareOp op) r)(ho':OpR X (compareOp op') r')(hg:OpD r g)(hg':OpD r' g')(ha:ED X a f)(hb:ED X b h)(hc:ED X c k)
 (pch:∀ {ta tb tc:TE},PE X a ta->PE X b tb->PE X c tc->PE X (.Compare a [op,op'] [b,c] pos) (zcV r r' ta tb tc)):ED X (.Compare a [op,op'] [b,c] pos) (w6 g g' f h k) :=
 let ⟨_,pa,ra⟩:=ha
 let ⟨_,pb,rb⟩:=hb
 let ⟨_,pc,rc⟩:=hc
 ⟨_,pch pa pb pc,zgl hg hg' ra rb rc⟩
noncomputable def ixD:D->D->Option D
 | .lst ds,.int i=>atI ds i
 | .tup ds,.int i=>atI ds i
 | .scr ns,.int i=>(atI ns i).map .int
 | _,_=>none
theorem AtL.atI {F:Hp}{ds:List D}{xs:List V}{i:Int}{d:D}(al:AtL F ds xs)(h:L2.atI ds i=some d):∃ x,L2.atI xs i=some x/\At F d x:=by
 unfold L2.atI at h ⊢
 obtain⟨j,e1,e2⟩:=Option.bind_eq_some_iff.mp h
 obtain⟨x,hx,ax⟩:=al.get e2
 exact⟨x,by rw[al.length,e1];exact hx,ax⟩
theorem zjl:OpD (rIx KK.K) ixD:=by
 intro F H x y d e z Q s ax ay ez q
 cases e <;> try (cases d <;> cases ez)
 cases ay.int_inv
 cases d with
 | lst ds =>
  obtain⟨p,xs,rfl,hx,al⟩:=ax.lst_inv
  obtain⟨v,e1,av⟩:=al.atI ez
  exact .inl ⟨p,xs,_,v,rfl,rfl,SqL.of (s _ _ hx),e1,q F H _ (.refl s) av⟩
 | tup ds =>
  obtain⟨p,xs,rfl,hx,al⟩:=ax.tup_inv
  obtain⟨v,e1,av⟩:=al.atI ez
  exact .inr (.inl ⟨p,xs,_,v,rfl,rfl,SqT.of (s _ _ hx),e1,q F H _ (.refl s) av⟩)
 | scr ns =>
  obtain⟨p,rfl,hx⟩:=ax.scr_inv
  obtain⟨n,e1,rfl⟩:=Option.map_eq_some_iff.mp ez
  refine .inl ⟨p,ns.map V.int,_,.int n,rfl,rfl,s.seq hx,?_,q F H _ (.refl s) .int⟩
  unfold L2.atI at e1 ⊢
  rw[List.length_map]
  obtain⟨j,e2,e3⟩:=Option.bind_eq_some_iff.mp e1
  rw[e2]
  show(ns.map V.int)[j]?=_
  rw[List.getElem?_map,e3]
  rfl
 | _=>cases ez
theorem yz {f h:Ev->Option D}(ha:ED X a f)(hb:ED X b h)(hs:Xk b)(hK:X.K=KK.K:=by rfl):ED X (.Subscript a b pos) (zo ixD f h) :=
 let ⟨_,pa,ra⟩:=ha
 let ⟨_,pb,rb⟩:=hb
 ⟨_,zh9 zj2 pa pb hs,zf8 (by rw[hK];exact zjl) ra rb⟩
noncomputable def Vq {α:Type}(xs:List α)(lo hi:Option Int):List α:=(xs.drop (HT.sIx xs.length 0 lo)).take (HT.sIx xs.length xs.length hi - HT.sIx xs.length 0 lo)
theorem AtL.cut {F:Hp}{ds:List D}{xs:List V}{lo hi:Option Int}(al:AtL F ds xs):AtL F (Vq ds lo hi) (zap xs lo hi):=by
 unfold Vq zap
 rw[al.length]
 exact(al.drop _).take _
noncomputable def OD (X:Cx)(e:Option Expr)(f:Ev->Option (Option Int)):Prop:=∃ t,PO X e t/\∀ (σ:St) (ρ:Ev) (F H:Hp) (i:Option Int) (Q:Option Int->Hp->Prop),yf F H->VAt F ρ σ->f ρ=some i->(∀ F' H',Gr F H F' H'->Q i H')->t σ H Q
noncomputable def Zt:Ev->Option (Option Int):=λ_=>some none
noncomputable def asI:D->Option Int
 | .int i=>some i
 | _=>none
noncomputable def vo (f:Ev->Option D):Ev->Option (Option Int):=fun ρ=>((f ρ).bind asI).map some
theorem zhF:OD X none Zt:=⟨_,zhK,λ_ _ _ _ _ _ s _ e q=>by cases e;exact q _ _ (.refl s)⟩
theorem zbh {f:Ev->Option D}(h:ED X e f):OD X (some e) (vo f):=by
 obtain⟨t,p,r⟩:=h
 refine⟨_,zgZ p,fun σ ρ F H i Q s va e q=>?_⟩
 obtain⟨j,e1,rfl⟩:=Option.map_eq_some_iff.mp e
 obtain⟨d,e1,e2⟩:=Option.bind_eq_some_iff.mp e1
 cases d <;> cases e2
 exact r σ ρ F H _ _ s va e1 λF1 H1 v g1 a1=>⟨_,a1.int_inv,q F1 H1 g1⟩
noncomputable def slD:D->Option Int->Option Int->Option D
 | .lst ds,lo,hi=>some (.lst (Vq ds lo hi))
 | .scr ns,lo,hi=>some (.lst ((Vq ns lo hi).map .int))
 | .tup ds,lo,hi=>some (.tup (Vq ds lo hi))
 | _,_,_=>none
noncomputable def eSl (g:D->Option Int->Option Int->Option D)(f:Ev->Option D)(l h:Ev->Option (Option Int)):Ev->Option D:=fun ρ=>(f ρ).bind λd=>(l ρ).bind λlo=>(h ρ).bind λhi=>g d lo hi
omit [KK] in
theorem ze6 {ns:List Int}{lo hi:Option Int}:zap (ns.map V.int) lo hi=(Vq ns lo hi).map V.int:=by
 unfold zap Vq
 rw[List.length_map,List.map_take,List.map_drop]
end
end Dl
namespace L2
open PySem PySem.Spec PyProof.Rows
noncomputable def rSlN:V->Option Int->Option Int->Hp->VK->Prop:=λx lo hi H Q=>∃ a xs,x=.ref a/\H a=some (.tup xs)/\(zap xs lo hi=xs->Q (.ref a) H)/\∀ p,H p=none->Q (.ref p) (upd H p (.tup (zap xs lo hi)))
theorem zhG {X:Cx}:SlR X rSlN:=by
 intro pins s σ H x v vl vu lo hi sl Q I rx hs pl pu h
 obtain⟨a,xs,rfl,hx,q1,q2⟩:=h
 by_cases hw:HT.sIx xs.length 0 lo=0/\HT.sIx xs.length xs.length hi=xs.length
 .cases rx
  obtain⟨its,r,ht,hz⟩:=I.tuple (SqT.of hx)
  have hlen:its.toArray.size=xs.length:=by rw[List.size_toArray];exact r.length.symm
  refine⟨"tuple",_,PyProof.Rows.slot_tuple_getitem.lookup,ht.typeIs,?_⟩
  refine HT.own_getItem_whole ht hs pl pu (by rw[hlen];exact hw) ⟨.ref a,H,I,rfl,q1 ?_⟩
  unfold zap
  rw[hw.1,hw.2,List.drop_zero,Nat.sub_zero,List.take_length]
 .exact zjk pins s σ H (.ref a) v vl vu lo hi sl Q I rx hs pl pu ⟨a,xs,rfl,SqT.of hx,hw,q2⟩
end L2
namespace Dl
open PySem L2
variable [KK]
section
variable {X:Cx}{a b c e:Expr}{pos:Pos}
theorem zbs {lo hi:Option Expr}{p2:Pos}{f:Ev->Option D}{l h:Ev->Option (Option Int)}(ha:ED X a f)(hl:OD X lo l)(hh:OD X hi h)(hK:X.K=KK.K:=by rfl):ED X (.Subscript a (.Slice lo hi none p2) pos) (eSl slD f l h):=by
 obtain⟨ta,pa,ra⟩:=ha
 obtain⟨tl,ppl,rl⟩:=hl
 obtain⟨th,ph,rh⟩:=hh
 refine⟨_,zfG (zh1.or zhG) pa ppl ph,fun σ ρ F H z Q s va e q=>?_⟩
 obtain⟨d,e1,e⟩:=Option.bind_eq_some_iff.mp e
 obtain⟨i,e2,e⟩:=Option.bind_eq_some_iff.mp e
 obtain⟨j,e3,e⟩:=Option.bind_eq_some_iff.mp e
 refine ra σ ρ F H d _ s va e1 λF1 H1 v g1 a1=>?_
 refine rl σ ρ F1 H1 i _ g1.fh (va.mono g1.ff) e2 λF2 H2 g2=>?_
 refine rh σ ρ F2 H2 j _ g2.fh (va.mono (g1.ff.trans g2.ff)) e3 λF3 H3 g3=>?_
 have g123:=(g1.trans g2).trans g3
 have a3:=a1.mono (g2.ff.trans g3.ff)
 cases d <;> try cases e
 .obtain⟨p,xs,rfl,hx,al⟩:=a3.tup_inv
  refine .inr ⟨p,xs,rfl,g3.fh _ _ hx,λec=>?_,λr hr=>?_⟩
  .have:=al.cut (lo:=i) (hi:=j)
   rw[ec]at this
   exact q F3 H3 _ g123 (.tup hx this)
  .have g:=Gr.alloc g3.fh hr (.tup (zap xs i j))
   exact q _ _ _ (g123.trans g) (.tup zk (al.cut.mono g.ff))
 .obtain⟨p,xs,rfl,hx,al⟩:=a3.lst_inv
  refine .inl ⟨p,xs,rfl,SqL.of (g3.fh _ _ hx),λr hr=>?_⟩
  have g:=Gr.alloc g3.fh hr (.lst (zap xs i j))
  exact q _ _ _ (g123.trans g) (.lst zk (al.cut.mono g.ff))
 .rename_i ns _ _
  obtain⟨p,rfl,hx⟩:=a3.scr_inv
  refine .inl ⟨p,_,rfl,(by rw[hK];exact g3.fh.seq hx),λr hr=>?_⟩
  rw[ze6]
  have g:=Gr.alloc g3.fh hr (.lst ((Vq ns i j).map V.int))
  exact q _ _ _ (g123.trans g) (.lst zk (.ints _))
noncomputable def CaD (r:List V->Hp->VK->Prop)(g:List D->Option D):Prop:=∀ (F H:Hp) (vs:List V) (ds:List D) (z:D) (Q:VK),yf F H->AtL F ds vs->g ds=some z->(∀ F' H' v,Gr F H F' H'->At F' z v->Q v H')->r vs H Q
noncomputable def eFn (g:List D->Option D)(f:Ev->Option (List D)):Ev->Option D:=fun ρ=>(f ρ).bind g
noncomputable def fFn (g:List D->Option (List D))(f:Ev->Option (List D)):Ev->Option (List D):=fun ρ=>(f ρ).bind g
theorem zP {x:Str}{id:String}{p:Pos}{es:List Expr}{r:List V->Hp->VK->Prop}{g:List D->Option D}{f:Ev->Option (List D)}(hc:Yf X (.builtin id) r)(hg:CaD r g)(hgl:Gl X x)(hm:X.mg x=none)(hv:bootBuiltins x=some (.builtin id))(ha:AD X (e::es) f)
 (hn:x≠"__name__":=by decide) (hdb:(x == ("__debug__":Str))=false:=by decide) (he:starEach (e::es) X.env=(false,eval e X.env)::starEach es X.env:=by rfl) (hpl:(backTo pos (starEach es X.env)).any (·.1)=false:=by rfl) :
 ED X (.Call (.Name x p) (e::es) [] pos) (eFn g f):=by
 obtain⟨t,pa,ra⟩:=ha
 refine⟨_,ZE hc hgl hm hv pa hn hdb he hpl,fun σ ρ F H z Q s va e q=>?_⟩
 obtain⟨ds,e1,e2⟩:=Option.bind_eq_some_iff.mp e
 refine ra σ ρ F H ds _ s va e1 λF1 H1 vs g1 a1=>?_
 exact hg F1 H1 vs ds z Q g1.fh a1 e2 λF' H' v g av=>q F' H' v (g1.trans g) av
theorem yd {x:Str}{T:String}{p:Pos}{es:List Expr}{r:List V->Hp->VK->Prop}{g:List D->Option D}{f:Ev->Option (List D)}(hc:Yf X (.type T) r)(hg:CaD r g)(hgl:Gl X x)(hm:X.mg x=none)(hv:bootBuiltins x=some (.type T))(ha:AD X (e::es) f)
 (hn:x≠"__name__":=by decide) (hdb:(x == ("__debug__":Str))=false:=by decide) (he:starEach (e::es) X.env=(false,eval e X.env)::starEach es X.env:=by rfl) (hpl:(backTo pos (starEach es X.env)).any (·.1)=false:=by rfl) :
 ED X (.Call (.Name x p) (e::es) [] pos) (eFn g f):=by
 obtain⟨t,pa,ra⟩:=ha
 refine⟨_,V0 hc hgl hm hv pa hn hdb he hpl,fun σ ρ F H z Q s va e q=>?_⟩
 obtain⟨ds,e1,e2⟩:=Option.bind_eq_some_iff.mp e
 refine ra σ ρ F H ds _ s va e1 λF1 H1 vs g1 a1=>?_
 exact hg F1 H1 vs ds z Q g1.fh a1 e2 λF' H' v g av=>q F' H' v (g1.trans g) av
noncomputable def Zk:List D->Option D
 | [.lst ds]=>some (.int ds.length)
 | [.tup ds]=>some (.int ds.length)
 | [.scr ds]=>some (.int ds.length)
 | _=>none
theorem x4:CaD (λxs H Q=>∃ p ys,xs=[.ref p]/\(SqL KK.K H p ys\/SqT KK.K H p ys)/\Q (.int ys.length) H) Zk:=by
 intro F H vs ds z Q s al e q
 unfold Zk at e
 split at e <;> cases e
 all_goals
  obtain⟨x,r,rfl,ax,ar⟩:=al.cons_inv
  cases ar.nil_inv
 .obtain⟨p,xs,rfl,hx,bl⟩:=ax.lst_inv
  exact⟨p,xs,rfl,.inl (SqL.of (s _ _ hx)),by rw[bl.length];exact q F H _ (.refl s) .int⟩
 .obtain⟨p,xs,rfl,hx,bl⟩:=ax.tup_inv
  exact⟨p,xs,rfl,.inr (SqT.of (s _ _ hx)),by rw[bl.length];exact q F H _ (.refl s) .int⟩
 .obtain⟨p,rfl,hx⟩:=ax.scr_inv
  exact⟨p,_,rfl,.inl ((s.seq hx)),by rw[List.length_map];exact q F H _ (.refl s) .int⟩
noncomputable def zg9:List D->Option D
 | [.int i,.int j]=>some (.int (if j > i then j else i))
 | _=>none
theorem zgd {g:Int->Int->Int}:CaD (λxs H Q=>∃ i j,xs=[.int i,.int j]/\Q (.int (g i j)) H) (λds=>match ds with | [.int i,.int j]=>some (.int (g i j)) | _=>none):=by
 intro F H vs ds z Q s al e q
 dsimp only at e
 split at e <;> cases e
 obtain⟨x,r,rfl,ax,ar⟩:=al.cons_inv
 obtain⟨y,r,rfl,ay,ar⟩:=ar.cons_inv
 cases ar.nil_inv
 exact⟨_,_,by rw[ax.int_inv,ay.int_inv],q F H _ (.refl s) .int⟩
theorem zfz:CaD (λxs H Q=>∃ i j,xs=[.int i,.int j]/\Q (.int (if j > i then j else i)) H) zg9:=zgd (g:=λi j=>if j > i then j else i)
noncomputable def ye:List D->Option D
 | [.lst ds]=>some (.tup ds)
 | [.tup ds]=>some (.tup ds)
 | _=>none
theorem yc {K:W.Frag}:CaD (λxs H Q=>∃ p ys,xs=[.ref p]/\((SqL K H p ys/\∀ l,H l=none->Q (.ref l) (upd H l (.tup ys)))\/(SqT K H p ys/\Q (.ref p) H))) ye:=by
 intro F H vs ds z Q s al e q
 unfold ye at e
 split at e <;> cases e
 all_goals
  obtain⟨x,r,rfl,ax,ar⟩:=al.cons_inv
  cases ar.nil_inv
 .obtain⟨p,xs,rfl,hx,bl⟩:=ax.lst_inv
  refine⟨p,xs,rfl,.inl ⟨SqL.of (s _ _ hx),λl hl=>?_⟩⟩
  have g:=Gr.alloc s hl (.tup xs)
  exact q _ _ _ g (.tup zk (bl.mono g.ff))
 .obtain⟨p,xs,rfl,hx,bl⟩:=ax.tup_inv
  exact⟨p,xs,rfl,.inr ⟨SqT.of (s _ _ hx),q F H _ (.refl s) (.tup hx bl)⟩⟩
noncomputable def vN:List D->Option (List D)
 | [.lst ds]=>some ds
 | [.tup ds]=>some ds
 | [.scr ns]=>some (ns.map .int)
 | _=>none
theorem zaV {p:Pos} {f:Ev->Option (List D)} (hgl:Gl X "list") (hm:X.mg "list"=none) (ha:AD X [e] f) (hK:X.K=KK.K:=by rfl)
 (he:starEach [e] X.env=(false,eval e X.env)::starEach [] X.env:=by rfl) (hpl:(backTo pos (starEach [] X.env)).any (·.1)=false:=by rfl):FL X (.Call (.Name "list" p) [e] [] pos) (fFn vN f):=by
 obtain⟨t,pa,ra⟩:=ha
 refine⟨_,V0 Vh hgl hm zc8 pa (by decide) (by decide) he hpl,fun σ ρ F H z Q s va e q=>?_⟩
 obtain⟨ds,e1,e2⟩:=Option.bind_eq_some_iff.mp e
 refine ra σ ρ F H ds _ s va e1 λF1 H1 vs g1 a1=>?_
 unfold vN at e2
 split at e2 <;> cases e2
 all_goals
  obtain⟨x,r,rfl,ax,ar⟩:=a1.cons_inv
  cases ar.nil_inv
 .obtain⟨p,xs,rfl,hx,bl⟩:=ax.lst_inv
  exact⟨p,xs,rfl,.inl (SqL.of (g1.fh _ _ hx)),λl hl=>q _ _ _ _ (g1.trans (Gr.hide g1.fh hl _)) (YV g1 hl) (g1.fh.free hl) zk bl⟩
 .obtain⟨p,xs,rfl,hx,bl⟩:=ax.tup_inv
  exact⟨p,xs,rfl,.inr (SqT.of (g1.fh _ _ hx)),λl hl=>q _ _ _ _ (g1.trans (Gr.hide g1.fh hl _)) (YV g1 hl) (g1.fh.free hl) zk bl⟩
 .obtain⟨p,rfl,hx⟩:=ax.scr_inv
  exact⟨p,_,rfl,.inl (by rw[hK];exact g1.fh.seq hx),λl hl=>q _ _ _ _ (g1.trans (Gr.hide g1.fh hl _)) (YV g1 hl) (g1.fh.free hl) zk (.ints _)⟩
inductive TyD (K:W.Frag) (H:Hp):V->Value->Prop where
 | of {v:V} {t:Value} (h:zb2 K H v t):TyD K H v t
 | dd {a:Addr} {u:HO} (h:Rd H a u) (d:(∃ kvs,u=.dK kvs)\/∃ kvs,u=.dT kvs):TyD K H (.ref a) (.type "dict")
theorem VA {X:Cx}:Yf X (.builtin "isinstance") (λxs H Q=>∃ x n t b,xs=[x,.ty n]/\TyD X.K H x t/\W.kitOne X.K t (.type n)=some b/\Q (.bl b) H):=by
 intro pins s σ H xs us Q I r h
 obtain⟨x,n,t,b,rfl,ty,e,q⟩:=h
 cases ty with
 | of ty=>exact zaI pins s σ H _ us Q I r ⟨x,n,t,b,rfl,ty,e,q⟩
 | @dd a u h d =>
  cases r with
  | cons r1 r2 =>
   cases r2 with
   | cons r3 r4 =>
    cases r4
    cases r1
    cases r3
    have ok:=h.ok I.hok
    rcases d with ⟨kvs,rfl⟩ | ⟨kvs,rfl⟩
    .obtain⟨_,_,vs,_,p⟩:=(show yw X.prog X.w H s.heap a (.dK kvs)from ok)
     obtain⟨o,es,ep,h1,h2,_⟩:=p
     exact W.kia_one W.kitx_dict I.kIn ⟨o,h1,h2.1⟩ e (λz=>nomatch z) λtk=>⟨.bl b,H,I.tok tk,rfl,q⟩
    .obtain⟨_,_,xs,_,o,es,ep,h1,h2,_⟩:=(show yw X.prog X.w H s.heap a (.dT kvs)from ok)
     exact W.kia_one W.kitx_dict I.kIn ⟨o,h1,h2.1⟩ e (λz=>nomatch z) λtk=>⟨.bl b,H,I.tok tk,rfl,q⟩
theorem At.ty {K:W.Frag}{F H:Hp}(s:yf F H):∀ {d:D} {v:V},At F d v->(∀ ns,d≠.scr ns)->TyD K H v (.type (tyN d))
 | .non,_,h,_=>by cases h.non_inv;exact .of .non
 | .bl b,_,h,_=>by cases h.bl_inv;exact .of (.bl b)
 | .int i,_,h,_=>by cases h.int_inv;exact .of (.int i)
 | .str x,_,h,_=>by cases h.str_inv;exact .of (.str x)
 | .tup ds,_,h,_=>by obtain⟨a,xs,rfl,e,_⟩:=h.tup_inv;exact .of (.tup (s _ _ e))
 | .lst ds,_,h,_=>by obtain⟨a,xs,rfl,e,_⟩:=h.lst_inv;exact .of (.lst (s _ _ e))
 | .scr ns,_,_,n=>absurd rfl (n ns)
 | .dct z t ks vs,_,h,_=>by
  obtain⟨a,xs,rfl,d,_⟩:=h.dct_inv
  obtain⟨u,e1,e2⟩:=(d.mono s).rd
  exact .dd e2 (by
   unfold zbQ at e1
   split at e1
   .obtain⟨kvs,rfl,_⟩:=e1;exact .inr ⟨kvs,rfl⟩
   .obtain⟨kvs,rfl,_⟩:=e1;exact .inl ⟨kvs,rfl⟩)
inductive Ty where
 | int | bool | tuple | list | str
noncomputable def Ty.nm:Ty->String
 | .int=>"int" | .bool=>"bool" | .tuple=>"tuple" | .list=>"list" | .str=>"str"
noncomputable def isT:Ty->D->Bool
 | .int,.int _=>true | .int,.bl _=>true
 | .bool,.bl _=>true
 | .tuple,.tup _=>true
 | .list,.lst _=>true
 | .str,.str _=>true
 | _,_=>false
noncomputable def vk (n:Ty):D->Option D
 | .scr _=>none
 | d=>some (.bl (isT n d))
theorem zjY (K:W.Frag)(n:Ty)(d:D)(h:∀ ns,d≠.scr ns):W.kitOne K (.type (tyN d)) (.type n.nm)=some (isT n d):=by
 cases n <;> cases d <;> first | exact absurd rfl (h _) | kernel_rfl
theorem xW {p:Pos} {f:Ev->Option D} (n:Ty) (hgl:Gl X "isinstance") (hm:X.mg "isinstance"=none) (ha:ED X a f) (hb:PE X b (tC (.ty n.nm)))
 (hs:starEach [a,b] X.env=(false,eval a X.env)::starEach [b] X.env:=by rfl) (hs2:starEach [b] X.env=(false,eval b X.env)::starEach [] X.env:=by rfl) (hpl:(backTo pos (starEach [b] X.env)).any (·.1)=false:=by rfl) :
 ED X (.Call (.Name "isinstance" p) [a,b] [] pos) (eUn (vk n) f):=by
 obtain⟨t,pa,ra⟩:=ha
 refine⟨_,ZE VA hgl hm WJ (Xf pa (Xf hb zb5 hs2) hs) (by decide) (by decide) hs hpl,fun σ ρ F H z Q s va e q=>?_⟩
 obtain⟨d,e1,e2⟩:=Option.bind_eq_some_iff.mp e
 refine ra σ ρ F H d _ s va e1 λF1 H1 v g1 a1=>?_
 have ns:∀ ns,d≠.scr ns:=λns h=>by subst h;cases e2
 have e3:z=.bl (isT n d):=by
  cases d <;> first | exact(Option.some.inj e2).symm | exact absurd rfl (ns _)
 subst e3
 exact⟨v,n.nm,_,_,rfl,a1.ty g1.fh ns,zjY _ n d ns,q F1 H1 _ g1 .bl⟩
noncomputable def Ve (m:Bool)(i:Nat)(f:Ev->Option D):SE->Ctl:=fun ρ=>match (vEv m f ρ).bind λd=>match ρ[i]? with
 | some (.o ds)=>if decide (ds.length < sizeLine)=true then some (ρ.set i (.o (ds++[d])))else none
 | _=>none with
 | some ρ'=>.nx ρ'
 | none=>.no
theorem zcW {m:Bool}{i:Nat}{p pos':Pos}{f:Ev->Option D}(ho:PE X a (XU i))(he:ED X e f)
 (hp:∀ {ta:TE} {t:TA},PE X a ta->PA X [e] t->PE X (.Call (.Attribute a "append" p) [e] [] pos') (tBM X.K "list" zec ta t)) (hsw:swapsWith (.Call (.Attribute a "append" p) [e] [] pos') none pos.line X.env=pure false:=by rfl)
 (hs:starEach [e] X.env=(false,eval e X.env)::starEach [] X.env:=by rfl):SD X (.Expr (.Call (.Attribute a "append" p) [e] [] pos') pos) (Ve m i f):=by
 obtain⟨t,pe,re⟩:=he
 refine⟨_,zbg (hp ho (Xf pe zb5 hs)) hsw,λFb Hb F H ρ σ E rl k=>?_⟩
 unfold Ve at k
 cases h:(vEv m f ρ).bind λd=>match ρ[i]? with
  | some (.o ds)=>if decide (ds.length < sizeLine)=true then some (ρ.set i (.o (ds++[d])))else none
  | _=>none with
 | none=>rw[h]at k;exact k.elim
 | some ρ' =>
  rw[h]at k
  obtain⟨d,e1,e2⟩:=Option.bind_eq_some_iff.mp h
  cases hs:ρ[i]? with
  | none=>rw[hs]at e2;cases e2
  | some sl =>
   rw[hs]at e2
   cases sl with
   | no=>cases e2
   | v _=>cases e2
   | m _ _ _=>cases e2
   | o ds =>
    dsimp only at e2
    split at e2 <;> cases e2
    rename_i hl
    obtain⟨q,xs,f1,f2,f3,f4,f5⟩:=rl.owns i ds hs
    refine⟨_,f1,.inl ⟨rfl,xs,SqL.of f4⟩,?_⟩
    refine re.at rl e1 λF' H' v g av=>?_
    have rl2:=rl.grow g
    obtain⟨q2,xs2,f1',_,_,f4',f5'⟩:=rl2.owns i ds hs
    rw[f1]at f1'
    cases f1'
    refine⟨q,xs2,v,rfl,rfl,f4',by rw[f5'.length];exact of_decide_eq_true hl,?_⟩
    exact k _ _ σ (rl2.mutate hs f1 (f5'.snoc av))
noncomputable def zaA (i:Nat)(f:Ev->Option D):SE->Ctl:=fun ρ=>match (f (visF ρ)).bind λd=>match ρ[i]?,d with
 | some (.o ds),.lst es=>if lim (ds.length+es.length)=true then some (ρ.set i (.o (ds++es)))else none
 | _,_=>none with
 | some ρ'=>.nx ρ'
 | none=>.no
theorem zgF {i:Nat}{p pos':Pos}{f:Ev->Option D}(ho:PE X a (XU i))(he:ED X e f)
 (hp:∀ {ta:TE} {t:TA},PE X a ta->PA X [e] t->PE X (.Call (.Attribute a "extend" p) [e] [] pos') (tBM X.K "list" zdV ta t)) (hsw:swapsWith (.Call (.Attribute a "extend" p) [e] [] pos') none pos.line X.env=pure false:=by rfl)
 (hs:starEach [e] X.env=(false,eval e X.env)::starEach [] X.env:=by rfl):SD X (.Expr (.Call (.Attribute a "extend" p) [e] [] pos') pos) (zaA i f):=by
 obtain⟨t,pe,re⟩:=he
 refine⟨_,zbg (hp ho (Xf pe zb5 hs)) hsw,λFb Hb F H ρ σ E rl k=>?_⟩
 unfold zaA at k
 cases h:(f (visF ρ)).bind λd=>match ρ[i]?,d with
  | some (.o ds),.lst es=>if lim (ds.length+es.length)=true then some (ρ.set i (.o (ds++es)))else none
  | _,_=>none with
 | none=>rw[h]at k;exact k.elim
 | some ρ' =>
  rw[h]at k
  obtain⟨d,e1,e2⟩:=Option.bind_eq_some_iff.mp h
  cases hs:ρ[i]? with
  | none=>rw[hs]at e2;cases e2
  | some sl =>
   rw[hs]at e2
   cases sl with
   | no=>cases e2
   | v _=>cases e2
   | m _ _ _=>cases e2
   | o ds =>
    cases d with
    | lst es =>
     dsimp only at e2
     split at e2 <;> cases e2
     rename_i hl
     obtain⟨q,xs,f1,f2,f3,f4,f5⟩:=rl.owns i ds hs
     refine⟨_,f1,.inl ⟨rfl,xs,SqL.of f4⟩,?_⟩
     refine re σ _ _ H _ _ rl.gr.fh rl.visF e1 λF' H' v g av=>?_
     have rl2:=rl.grow g
     obtain⟨q2,xs2,f1',_,_,f4',f5'⟩:=rl2.owns i ds hs
     rw[f1]at f1'
     cases f1'
     obtain⟨pb,zs,rfl,hz,bl⟩:=av.lst_inv
     refine⟨q,pb,xs2,zs,rfl,rfl,f4',g.fh _ _ hz,by rw[f5'.length,bl.length];exact of_decide_eq_true hl,?_⟩
     exact k _ _ σ (rl2.mutate hs f1 (f5'.append bl))
    | _=>cases e2
end
end Dl
namespace Dl
open PySem L2
variable [KK]
noncomputable def okE:Nat->D->Bool
 | _,.scr _=>false
 | _,.dct _ _ _ _=>false
 | 0,.tup _=>false
 | 0,.lst _=>false
 | n+1,.tup ds=>ds.all (okE n)
 | n+1,.lst ds=>ds.all (okE n)
 | _,_=>true
noncomputable def eqN:Nat->D->D->Bool
 | _,.non,.non=>true
 | _,.bl a,.bl b=>a == b
 | _,.bl a,.int b=>(if a then 1 else 0) == b
 | _,.int a,.bl b=>a == (if b then 1 else 0)
 | _,.int a,.int b=>a == b
 | _,.str a,.str b=>a == b
 | n+1,.tup a,.tup b=>(List.zipWith (eqN n) a b).all id&&a.length == b.length
 | n+1,.lst a,.lst b=>(List.zipWith (eqN n) a b).all id&&a.length == b.length
 | _,_,_=>false
omit [KK] in
theorem WM {n:Nat}:∀ (a b:List D),(List.zipWith (eqN n) a b).all id=(List.range (min a.length b.length)).all λj=>eqN n (a.getD j .non) (b.getD j .non):=by
 intro a b
 have:List.zipWith (eqN n) a b=(List.range (min a.length b.length)).map λj=>eqN n (a.getD j .non) (b.getD j .non):=by
  apply List.ext_getElem
  .simp
  .intro i h1 h2
   simp at h1 h2
   have g1:i < a.length:=Nat.lt_of_lt_of_le h1 (Nat.min_le_left _ _)
   have g2:i < b.length:=Nat.lt_of_lt_of_le h1 (Nat.min_le_right _ _)
   simp[g1,g2]
 rw[this,List.all_map]
 rfl
omit [KK] in
noncomputable def vOf:D->V
 | .bl b=>.bl b
 | .int i=>.int i
 | .str t=>.str t
 | _=>.non
theorem xH {F:Hp}{d:D}{x:V}(h:okE 0 d=true)(a:At F d x):x=vOf d:=by
 cases d with
 | non=>exact a.non_inv
 | bl b=>exact a.bl_inv
 | int b=>exact a.int_inv
 | str b=>exact a.str_inv
 | _=>cases h
omit [KK] in
theorem ZG {d:D}(h:okE 0 d=true):zhD (vOf d)=true:=by
 cases d <;> first | rfl | cases h
omit [KK] in
theorem W3 {d:D}{p:Addr}(h:okE 0 d=true)(e:vOf d=.ref p):False:=by
 cases d <;> first | (cases h;done) | (cases e;done)
noncomputable def dOfV:V->D
 | .bl b=>.bl b
 | .int i=>.int i
 | .str t=>.str t
 | _=>.non
omit [KK] in
theorem zdw {d:D}(h:okE 0 d=true):dOfV (vOf d)=d:=by
 cases d <;> first | rfl | (cases h;done)
omit [KK] in
theorem zdQ {d e:D}(h1:okE 0 d=true)(h2:okE 0 e=true)(h:vOf d=vOf e):d=e:=by
 rw[<-zdw h1,h,zdw h2]
omit [KK] in
theorem xy {n:Nat}{d:D}(h:okE (n+1) d=true):okE 0 d=true\/(∃ ds,d=.tup ds/\ds.all (okE n)=true)\/∃ ds,d=.lst ds/\ds.all (okE n)=true:=by
 cases d with
 | tup ds=>exact .inr (.inl ⟨ds,rfl,h⟩)
 | lst ds=>exact .inr (.inr ⟨ds,rfl,h⟩)
 | scr _=>cases h
 | dct _ _ _ _=>cases h
 | _=>exact .inl rfl
theorem zdt {F:Hp}{n:Nat}(ih:∀ {d e:D} {v:V},okE n d=true->okE n e=true->At F d v->At F e v->d=e):∀ {xs:List V} {ds es:List D},ds.all (okE n)=true->es.all (okE n)=true->AtL F ds xs->AtL F es xs->ds=es:=by
 intro xs
 induction xs with
 | nil =>
  intro ds es _ _ a1 a2
  exact(List.length_eq_zero_iff.mp a1.length.symm).trans (List.length_eq_zero_iff.mp a2.length.symm).symm
 | cons x xs ih2 =>
  intro ds es h1 h2 a1 a2
  cases ds with
  | nil=>cases a1.nil_inv
  | cons d ds=>cases es with
   | nil=>cases a2.nil_inv
   | cons e es =>
    obtain⟨y,r,e1,b1,c1⟩:=a1.cons_inv
    obtain⟨y2,r2,e2,b2,c2⟩:=a2.cons_inv
    cases e1
    cases e2
    rw[List.all_cons,Bool.and_eq_true]at h1 h2
    rw[ih2 h1.2 h2.2 c1 c2,ih h1.1 h2.1 b1 b2]
theorem zgS {F:Hp}:∀ (n:Nat) {d e:D} {v:V},okE n d=true->okE n e=true->At F d v->At F e v->d=e:=by
 intro n
 induction n with
 | zero =>
  intro d e v h1 h2 a1 a2
  exact zdQ h1 h2 ((xH h1 a1).symm.trans (xH h2 a2))
 | succ n ih =>
  intro d e v h1 h2 a1 a2
  rcases xy h1 with f1 | ⟨ds,rfl,k1⟩ | ⟨ds,rfl,k1⟩
  .have e1:=xH f1 a1
   rcases xy h2 with f2 | ⟨es,rfl,_⟩ | ⟨es,rfl,_⟩
   .exact zdQ f1 f2 (e1.symm.trans (xH f2 a2))
   .obtain⟨p,xs,e2,_⟩:=a2.tup_inv
    exact(W3 f1 (e1.symm.trans e2)).elim
   .obtain⟨p,xs,e2,_⟩:=a2.lst_inv
    exact(W3 f1 (e1.symm.trans e2)).elim
  .obtain⟨p,xs,e0,hx,al⟩:=a1.tup_inv
   rcases xy h2 with f2 | ⟨es,rfl,k2⟩ | ⟨es,rfl,k2⟩
   .exact(W3 f2 ((xH f2 a2).symm.trans e0)).elim
   .obtain⟨q,ys,e1,hy,bl⟩:=a2.tup_inv
    cases e0.symm.trans e1
    cases hx.symm.trans hy
    rw[zdt ih k1 k2 al bl]
   .obtain⟨q,ys,e1,hy,bl⟩:=a2.lst_inv
    cases e0.symm.trans e1
    cases hx.symm.trans hy
  .obtain⟨p,xs,e0,hx,al⟩:=a1.lst_inv
   rcases xy h2 with f2 | ⟨es,rfl,k2⟩ | ⟨es,rfl,k2⟩
   .exact(W3 f2 ((xH f2 a2).symm.trans e0)).elim
   .obtain⟨q,ys,e1,hy,bl⟩:=a2.tup_inv
    cases e0.symm.trans e1
    cases hx.symm.trans hy
   .obtain⟨q,ys,e1,hy,bl⟩:=a2.lst_inv
    cases e0.symm.trans e1
    cases hx.symm.trans hy
    rw[zdt ih k1 k2 al bl]
omit [KK] in
theorem zfS:∀ (n:Nat) {d:D},okE n d=true->eqN n d d=true:=by
 intro n
 induction n with
 | zero =>
  intro d h
  cases d with
  | tup _=>cases h
  | lst _=>cases h
  | scr _=>cases h
  | dct _ _ _ _=>cases h
  | _=>first | rfl | exact decide_eq_true rfl | exact beq_self_eq_true _
 | succ n ih =>
  have ihl:∀ {ds:List D},ds.all (okE n)=true->(List.zipWith (eqN n) ds ds).all id=true:=by
   intro ds
   induction ds with
   | nil=>intro _;rfl
   | cons d ds ih2 =>
    intro h
    rw[List.all_cons,Bool.and_eq_true]at h
    rw[List.zipWith_cons_cons,List.all_cons,ih2 h.2,Bool.and_true]
    exact ih h.1
  intro d h
  cases d with
  | tup ds=>show((List.zipWith (eqN n) ds ds).all id&&ds.length == ds.length)=true;rw[ihl h];simp
  | lst ds=>show((List.zipWith (eqN n) ds ds).all id&&ds.length == ds.length)=true;rw[ihl h];simp
  | scr _=>cases h
  | dct _ _ _ _=>cases h
  | _=>first | rfl | exact decide_eq_true rfl | exact beq_self_eq_true _
theorem zgC {F:Hp}(n:Nat){d e:D}{v:V}(h1:okE n d=true)(h2:okE n e=true)(a1:At F d v)(a2:At F e v):eqN n d e=true:=by
 rw[zgS n h1 h2 a1 a2]
 exact zfS n h2
omit [KK] in
theorem xX {n:Nat}{ds:List D}{j:Nat}(h:ds.all (okE n)=true)(hj:j < ds.length):okE n (ds.getD j .non)=true:=by
 have:ds.getD j .non=ds[j]:=by simp[hj]
 rw[this]
 exact List.all_eq_true.mp h _ (List.getElem_mem hj)
theorem AtL.nth {F:Hp}{ds:List D}{xs:List V}{us:List Value}{j:Nat}(al:AtL F ds xs)(r:ya xs us)(h:j < us.length):∃ x,At F (ds.getD j .non) x/\yH x us[j]:=by
 have hl:=al.length
 have hl2:=r.length
 have hj:j < ds.length:=by omega
 obtain⟨x,hx,ax⟩:=al.get (i:=j) (d:=ds[j]) (by simp[hj])
 obtain⟨u,hu,ru⟩:=r.get hx
 refine⟨x,by rw[show ds.getD j .non=ds[j] by simp[hj]];exact ax,?_⟩
 have:us[j]?=some us[j]:=by simp[h]
 rw[hu]at this
 cases this
 exact ru
omit [KK] in
theorem zbW {n:Nat}{d e:D}(h1:okE 0 d=true)(h2:okE 0 e=true):eqN n d e=eqV (vOf d) (vOf e):=by
 cases n <;> cases d <;> first | (cases h1;done) | skip
 all_goals cases e <;> first | (cases h2;done) | rfl
omit [KK] in
theorem zb3 {n:Nat}{d:D}(ds:List D)(h:okE 0 d=true):eqN (n+1) d (.tup ds)=false/\eqN (n+1) d (.lst ds)=false/\eqN (n+1) (.tup ds) d=false/\eqN (n+1) (.lst ds) d=false:=by
 cases d <;> first | exact⟨rfl,rfl,rfl,rfl⟩ | cases h
omit [KK] in
theorem WS {A:Around}{s:Shared}{d:D}{u:Value}{p:Addr}{its:Array Value}(h:okE 0 d=true)(r:yH (vOf d) u)(hu:A.units < cLine) :
 (s.heap.IsTuple p its->SeqAt.EqAt A s u (.ref p) false/\SeqAt.EqAt A s (.ref p) u false)/\(s.heap.IsList p its->SeqAt.EqAt A s u (.ref p) false/\SeqAt.EqAt A s (.ref p) u false):=by
 cases d with
 | non=>cases r;exact⟨λht=>⟨.none_tuple ht hu,.tuple_none ht hu⟩,λht=>⟨.none_list ht hu,.list_none ht hu⟩⟩
 | bl b=>cases r;exact⟨λht=>⟨.bool_tuple b ht hu,.tuple_bool b ht hu⟩,λht=>⟨.bool_list b ht hu,.list_bool b ht hu⟩⟩
 | int b=>obtain⟨t,rfl⟩:=r;exact⟨λht=>⟨.int_tuple b t ht hu,.tuple_int b t ht hu⟩,λht=>⟨.int_list b t ht hu,.list_int b t ht hu⟩⟩
 | str b=>obtain⟨t,rfl⟩:=r;exact⟨λht=>⟨.str_tuple b t ht hu,.tuple_str b t ht hu⟩,λht=>⟨.str_list b t ht hu,.list_str b t ht hu⟩⟩
 | _=>cases h
theorem WY {X:Cx}{pins:List (Addr × Obj)}{σ:St}{F H:Hp}{s:Shared}(I:Inv X pins σ H s)(sm:yf F H){ds:List D}{x:V}{u:Value}(a:At F (.tup ds) x)(r:yH x u):∃ p its xs,u=.ref p/\x=.ref p/\ya xs its/\AtL F ds xs/\s.heap.IsTuple p its.toArray:=by
 obtain⟨p,xs,rfl,hx,al⟩:=a.tup_inv
 cases r
 obtain⟨its,rv,ht,hz⟩:=I.tuple (SqT.of (sm _ _ hx))
 exact⟨p,its,xs,rfl,rfl,rv,al,ht⟩
theorem WU {X:Cx}{pins:List (Addr × Obj)}{σ:St}{F H:Hp}{s:Shared}(I:Inv X pins σ H s)(sm:yf F H){ds:List D}{x:V}{u:Value}(a:At F (.lst ds) x)(r:yH x u):∃ p its xs,u=.ref p/\x=.ref p/\ya xs its/\AtL F ds xs/\s.heap.IsList p its.toArray:=by
 obtain⟨p,xs,rfl,hx,al⟩:=a.lst_inv
 cases r
 obtain⟨its,rv,ht,hz⟩:=I.list (SqL.of (sm _ _ hx))
 exact⟨p,its,xs,rfl,rfl,rv,al,ht.isList⟩
omit [KK] in
theorem zeI {n:Nat}(ds es:List D):((List.zipWith (eqN n) ds es).all id&&ds.length == es.length)=((List.range (min ds.length es.length)).all (λj=>eqN n (ds.getD j .non) (es.getD j .non))&&ds.length == es.length):=by rw[WM]
theorem zbA {X:Cx}{pins:List (Addr × Obj)}{σ:St}{F H:Hp}{s:Shared}(I:Inv X pins σ H s)(sm:yf F H):∀ (n:Nat) {A:Around} {d e:D} {x y:V} {u v:Value},okE n d=true->okE n e=true->At F d x->At F e y->yH x u->yH y v->A.units+n < cLine->SeqAt.EqAt A s u v (eqN n d e):=by
 intro n
 induction n with
 | zero =>
  intro A d e x y u v h1 h2 a1 a2 r1 r2 hu
  cases xH h1 a1
  cases xH h2 a2
  rw[zbW h1 h2]
  exact zgB r1 r2 (ZG h1) (ZG h2)
 | succ n ih =>
  intro A d e x y u v h1 h2 a1 a2 r1 r2 hu
  have hu0:A.units < cLine:=Nat.lt_of_le_of_lt (Nat.le_add_right _ _) hu
  have hu1:A.units+1+n < cLine:=by rw[Nat.add_assoc,Nat.add_comm 1 n];exact hu
  rcases xy h1 with f1 | ⟨ds,rfl,k1⟩ | ⟨ds,rfl,k1⟩
  .cases xH f1 a1
   rcases xy h2 with f2 | ⟨es,rfl,k2⟩ | ⟨es,rfl,k2⟩
   .cases xH f2 a2
    rw[zbW f1 f2]
    exact zgB r1 r2 (ZG f1) (ZG f2)
   .obtain⟨q,its2,ys,rfl,_,_,_,ht2⟩:=WY I sm a2 r2
    rw[(zb3 es f1).1]
    exact((WS f1 r1 hu0).1 ht2).1
   .obtain⟨q,its2,ys,rfl,_,_,_,ht2⟩:=WU I sm a2 r2
    rw[(zb3 es f1).2.1]
    exact((WS f1 r1 hu0).2 ht2).1
  .obtain⟨p,its,xs,rfl,hxp,rv,al,ht⟩:=WY I sm a1 r1
   rcases xy h2 with f2 | ⟨es,rfl,k2⟩ | ⟨es,rfl,k2⟩
   .cases xH f2 a2
    rw[(zb3 ds f2).2.2.1]
    exact((WS f2 r2 hu0).1 ht).2
   .obtain⟨q,its2,ys,rfl,hyq,rv2,bl,ht2⟩:=WY I sm a2 r2
    by_cases hpq:p=q
    .subst hpq
     rw[hxp]at a1
     rw[hyq]at a2
     rw[zgC (n+1) h1 h2 a1 a2]
     exact .same _
    .have hl1:its.toArray.size=ds.length:=by rw[List.size_toArray,<- rv.length,al.length]
     have hl2:its2.toArray.size=es.length:=by rw[List.size_toArray,<- rv2.length,bl.length]
     have:=SeqAt.RcAt.tuples (A:=A) (e:=λj=>eqN n (ds.getD j .non) (es.getD j .non)) ht ht2 hu0 λj g1 g2=>by
      obtain⟨x',ax,rx⟩:=al.nth rv (j:=j) g1
      obtain⟨y',ay,ry⟩:=bl.nth rv2 (j:=j) g2
      exact ih (xX k1 (hl1 ▸ g1)) (xX k2 (hl2 ▸ g2)) ax ay rx ry hu1
     rw[hl1,hl2]at this
     rw[show eqN (n+1) (.tup ds) (.tup es)=_ from zeI ds es]
     exact SeqAt.EqAt.of_refs hpq this
   .obtain⟨q,its2,ys,rfl,_,_,_,ht2⟩:=WU I sm a2 r2
    exact .tuple_list ht ht2 hu0
  .obtain⟨p,its,xs,rfl,hxp,rv,al,ht⟩:=WU I sm a1 r1
   rcases xy h2 with f2 | ⟨es,rfl,k2⟩ | ⟨es,rfl,k2⟩
   .cases xH f2 a2
    rw[(zb3 ds f2).2.2.2]
    exact((WS f2 r2 hu0).2 ht).2
   .obtain⟨q,its2,ys,rfl,_,_,_,ht2⟩:=WY I sm a2 r2
    exact .list_tuple ht ht2 hu0
   .obtain⟨q,its2,ys,rfl,hyq,rv2,bl,ht2⟩:=WU I sm a2 r2
    by_cases hpq:p=q
    .subst hpq
     rw[hxp]at a1
     rw[hyq]at a2
     rw[zgC (n+1) h1 h2 a1 a2]
     exact .same _
    .have hl1:its.toArray.size=ds.length:=by rw[List.size_toArray,<- rv.length,al.length]
     have hl2:its2.toArray.size=es.length:=by rw[List.size_toArray,<- rv2.length,bl.length]
     rw[show eqN (n+1) (.lst ds) (.lst es)=_ from zeI ds es]
     by_cases hle:ds.length=es.length
     .have:=SeqAt.RcAt.lists (A:=A) (e:=λj=>eqN n (ds.getD j .non) (es.getD j .non)) ht ht2 (by rw[hl1,hl2,hle]) hu0 λj g1 g2=>by
       obtain⟨x',ax,rx⟩:=al.nth rv (j:=j) g1
       obtain⟨y',ay,ry⟩:=bl.nth rv2 (j:=j) g2
       exact ih (xX k1 (hl1 ▸ g1)) (xX k2 (hl2 ▸ g2)) ax ay rx ry hu1
      rw[hl1]at this
      rw[<-hle,Nat.min_self,beq_self_eq_true,Bool.and_true]
      exact SeqAt.EqAt.of_refs hpq this
     .have:=SeqAt.RcAt.lists_lengths (A:=A) ht ht2 (by rw[hl1,hl2];exact bne_iff_ne.mpr hle) hu0
      rw[beq_eq_false_iff_ne.mpr hle,Bool.and_false]
      exact SeqAt.EqAt.of_refs hpq this
noncomputable def zlm (d:D)(es:List D):Option Bool:=if okE 20 d=true/\es.all (okE 20)=true then some (es.any λe=>eqN 20 e d)else none
noncomputable def inD (d e:D):Option D:=(wE e).bind λes=>(zlm d es).map .bl
open Classical in
noncomputable def zeS (F:Hp)(d:D)(u:Value):Bool:=decide (∃ d0 x,At F d0 x/\yH x u/\okE 20 d0=true/\eqN 20 d0 d=true)
open Classical in
theorem zdA {F:Hp}{d d0:D}{x:V}{u:Value}(a:At F d0 x)(r:yH x u)(k:okE 20 d0=true):zeS F d u=eqN 20 d0 d:=by
 unfold zeS
 cases h:eqN 20 d0 d with
 | true=>exact decide_eq_true ⟨d0,x,a,r,k,h⟩
 | false =>
  refine decide_eq_false ?_
  rintro⟨d1,y,a1,r1,k1,h1⟩
  have e:=r1.inj r
  subst e
  rw[zgS 20 k1 k a1 a]at h1
  rw[h1]at h
  cases h
theorem Wg {F:Hp}{d:D}:∀ {ds:List D} {xs:List V} {us:List Value},AtL F ds xs->ya xs us->ds.all (okE 20)=true->us.any (zeS F d)=ds.any λe=>eqN 20 e d
 | [],_,_,al,r,_=>by cases al.nil_inv;cases r;rfl
 | e::ds,_,_,al,r,k=>by
  obtain⟨x,xs,rfl,a1,a2⟩:=al.cons_inv
  cases r with
  | cons r1 r2 =>
   rw[List.all_cons,Bool.and_eq_true]at k
   rw[List.any_cons,List.any_cons,zdA a1 r1 k.1,Wg a2 r2 k.2]
section
variable {X:Cx}
noncomputable def rInD (neg:Bool):R2:=λx y H Q=>∃ F d e es b,yf F H/\At F d x/\At F e y/\wE e=some es/\zlm d es=some b/\Q (.bl (if neg then !b else b)) H
theorem ziL {k:Nat}(hr:YH k X.A):OpR X (compareOp .In) (rInD false):=by
 intro pins s σ H x y v u Q I rx ry h
 obtain⟨F,d,e,es,b,sm,a1,a2,hs,hb,q⟩:=h
 unfold zlm at hb
 split at hb <;> cases hb
 rename_i hk
 have hu:X.A.in1.units+20 < cLine:=by have:=hr.un;show X.A.units+1+20 < cLine;omega
 have mem:∀ {xs:List V} {us:List Value},AtL F es xs->ya xs us->∀ z∈us,SeqAt.EqAt X.A.in1 s z v (zeS F d z):=λ{xs us} al r z hz=>by
  obtain⟨j,hj,rfl⟩:=List.getElem_of_mem hz
  obtain⟨x',ax,rx'⟩:=al.nth r hj
  have hj':j < es.length:=by have:=al.length;have:=r.length;omega
  have k2:=xX hk.2 hj'
  rw[zdA ax rx' k2]
  exact zbA I sm 20 k2 hk.1 ax a1 rx' rx hu
 cases e <;> cases hs
 .obtain⟨p,xs,rfl,hx,al⟩:=a2.tup_inv
  cases ry
  obtain⟨its,r,pl,hz⟩:=I.tuple (SqT.of (sm _ _ hx))
  refine SeqAt.in_tupleAt (zeS F d) pl (λz hz=>mem al r z (by simpa using hz)) ⟨.bl _,H,I,rfl,?_⟩
  rw[show its.toArray.any (zeS F d)=its.any (zeS F d) by simp,Wg al r hk.2]
  exact q
 .obtain⟨p,xs,rfl,hx,al⟩:=a2.lst_inv
  cases ry
  obtain⟨its,r,pl,hz⟩:=I.list (SqL.of (sm _ _ hx))
  refine SeqAt.in_listAt (zeS F d) pl.isList (λz hz=>mem al r z (by simpa using hz)) ⟨.bl _,H,I,rfl,?_⟩
  rw[show its.toArray.any (zeS F d)=its.any (zeS F d) by simp,Wg al r hk.2]
  exact q
theorem zjj:OpD (rInD false) inD:=by
 intro F H x y d e z Q s ax ay ez q
 obtain⟨es,e1,e2⟩:=Option.bind_eq_some_iff.mp ez
 obtain⟨b,e3,rfl⟩:=Option.map_eq_some_iff.mp e2
 exact⟨F,d,e,es,b,s,ax,ay,e1,e3,q F H _ (.refl s) .bl⟩
noncomputable def eqG (d e:D):Option Bool:=match d,e with
 | .tup _,.tup _=>if okE 20 d=true/\okE 20 e=true then some (eqN 20 d e)else none
 | .lst _,.lst _=>if okE 20 d=true/\okE 20 e=true then some (eqN 20 d e)else none
 | _,_=>eqS d e
noncomputable def ZI (d e:D):Option D:=(eqG d e).map .bl
noncomputable def zkJ:R2:=λx y H Q=>∃ F d e,yf F H/\At F d x/\At F e y/\((∃ ds es,d=.tup ds/\e=.tup es)\/(∃ ds es,d=.lst ds/\e=.lst es))/\okE 20 d=true/\okE 20 e=true/\Q (.bl (eqN 20 d e)) H
theorem zjd {k:Nat}(hr:YH k X.A):OpR X (compareOp .Eq) zkJ:=by
 intro pins s σ H x y v u Q I rx ry h
 obtain⟨F,d,e,sm,a1,a2,hk,k1,k2,q⟩:=h
 have hu:X.A.units+30 < cLine:=by have:=hr.un;omega
 rcases hk with ⟨ds,es,rfl,rfl⟩ | ⟨ds,es,rfl,rfl⟩
 .obtain⟨p,xs,rfl,hx,al⟩:=a1.tup_inv
  obtain⟨p2,ys,rfl,hy,bl⟩:=a2.tup_inv
  cases rx
  cases ry
  obtain⟨its,r,ht,hz⟩:=I.tuple (SqT.of (sm _ _ hx))
  obtain⟨its2,r2,ht2,hz2⟩:=I.tuple (SqT.of (sm _ _ hy))
  have hl1:its.toArray.size=ds.length:=by rw[List.size_toArray,<- r.length,al.length]
  have hl2:its2.toArray.size=es.length:=by rw[List.size_toArray,<- r2.length,bl.length]
  refine SeqAt.eq_tupleAt (e:=λj=>eqN 19 (ds.getD j .non) (es.getD j .non)) (show s.heap.IsTuple p its.toArray from ht) (show s.heap.IsTuple p2 its2.toArray from ht2) (by omega) (λj g1 g2=>?_) ⟨.bl _,H,I,rfl,?_⟩
  .obtain⟨x',ax,rx⟩:=al.nth r (j:=j) (by simpa using g1)
   obtain⟨y',ay,ry⟩:=bl.nth r2 (j:=j) (by simpa using g2)
   exact zbA I sm 19 (xX k1 (by rw[<-hl1];exact g1)) (xX k2 (by rw[<-hl2];exact g2)) ax ay (by simpa using rx) (by simpa using ry) (Nat.lt_of_le_of_lt (show X.A.units+20<=X.A.units+30 from Nat.add_le_add_left (by decide) _) hu)
  .rw[hl1,hl2,<- WM]
   exact q
 .obtain⟨p,xs,rfl,hx,al⟩:=a1.lst_inv
  obtain⟨p2,ys,rfl,hy,bl⟩:=a2.lst_inv
  cases rx
  cases ry
  obtain⟨its,r,ht,hz⟩:=I.list (SqL.of (sm _ _ hx))
  obtain⟨its2,r2,ht2,hz2⟩:=I.list (SqL.of (sm _ _ hy))
  have hl1:its.toArray.size=ds.length:=by rw[List.size_toArray,<- r.length,al.length]
  have hl2:its2.toArray.size=es.length:=by rw[List.size_toArray,<- r2.length,bl.length]
  have e1:eqN 20 (.lst ds) (.lst es)=((List.range (min ds.length es.length)).all (λj=>eqN 19 (ds.getD j .non) (es.getD j .non))&&ds.length == es.length):=by
   show((List.zipWith (eqN 19) ds es).all id&&ds.length == es.length)=_
   rw[WM]
  by_cases hle:ds.length=es.length
  .refine SeqAt.eq_listAt (e:=λj=>eqN 19 (ds.getD j .non) (es.getD j .non)) ht.isList ht2.isList (by rw[hl1,hl2];exact hle) (Nat.lt_of_le_of_lt (Nat.le_add_right _ 30) hu) (λj g1 g2=>?_) ⟨.bl _,H,I,rfl,?_⟩
   .obtain⟨x',ax,rx⟩:=al.nth r (j:=j) (by simpa using g1)
    obtain⟨y',ay,ry⟩:=bl.nth r2 (j:=j) (by simpa using g2)
    exact zbA I sm 19 (xX k1 (by rw[<-hl1];exact g1)) (xX k2 (by rw[<-hl2];exact g2)) ax ay (by simpa using rx) (by simpa using ry) (Nat.lt_of_le_of_lt (show X.A.units+20<=X.A.units+30 from Nat.add_le_add_left (by decide) _) hu)
   .rw[hl1]
    rw[e1,<- hle,Nat.min_self]at q
    simpa using q
  .refine SeqAt.eq_list_lengthsAt ht.isList ht2.isList (by rw[hl1,hl2];simpa using hle) (Nat.lt_of_le_of_lt (Nat.le_add_right _ 30) hu) ⟨.bl _,H,I,rfl,?_⟩
   have:(ds.length == es.length)=false:=by simpa using hle
   rw[e1,this,Bool.and_false]at q
   exact q
theorem zhv:OpD zkJ (λd e=>match d,e with
 | .tup _,.tup _=>if okE 20 d=true/\okE 20 e=true then some (.bl (eqN 20 d e))else none
 | .lst _,.lst _=>if okE 20 d=true/\okE 20 e=true then some (.bl (eqN 20 d e))else none
 | _,_=>none):=by
 intro F H x y d e z Q s ax ay ez q
 dsimp only at ez
 split at ez
 .split at ez <;> cases ez
  rename_i hk
  exact⟨F,_,_,s,ax,ay,.inl ⟨_,_,rfl,rfl⟩,hk.1,hk.2,q F H _ (.refl s) .bl⟩
 .split at ez <;> cases ez
  rename_i hk
  exact⟨F,_,_,s,ax,ay,.inr ⟨_,_,rfl,rfl⟩,hk.1,hk.2,q F H _ (.refl s) .bl⟩
 .cases ez
theorem xw {k:Nat}(hr:YH k X.A):OpR X (compareOp .Eq) (λx y H Q=>rEq x y H Q\/zkJ x y H Q):=zlg.or (zjd hr)
theorem yu:OpD (λx y H Q=>rEq x y H Q\/zkJ x y H Q) ZI:=by
 refine za3 (VI zgH zhv) λd e z h=>?_
 obtain⟨b,hb,rfl⟩:=Option.map_eq_some_iff.mp h
 unfold eqG at hb
 split at hb
 .split at hb <;> cases hb
  rename_i hk
  show(Option.or none (if okE 20 _=true/\okE 20 _=true then some (D.bl (eqN 20 _ _))else none))=_
  rw[if_pos hk]
  rfl
 .split at hb <;> cases hb
  rename_i hk
  show(Option.or none (if okE 20 _=true/\okE 20 _=true then some (D.bl (eqN 20 _ _))else none))=_
  rw[if_pos hk]
  rfl
 .show((eqD d e).or _)=_
  unfold eqD
  rw[hb]
  rfl
theorem Wi {pins:List (Addr × Obj)}{σ:St}{H:Hp}{s:Shared}{a:Addr}{xs:List V}{A:Around}{Q:Value->Shared->Prop}{E:Value->Shared->Prop}(I:Inv X pins σ H s)(hh:A.handled=none)(h:SqL X.K H a xs\/SqT X.K H a xs)
 (k:∀ (it:Addr) (its:List Value) (fp wr:List Addr) (St:Nat->Heap->Prop) (s₂:Shared),ya xs its->Walks X.prog X.w A it fp wr its.length (λi v=>its[i]?=some v) St->St 0 s₂.heap->(∀ b∈fp,b < s₂.heap.objs.size) ->
  (∀ (h':Heap) (tk:Nat),(∀ b o,b∉wr->s₂.heap.get? b=some o->h'.get? b=some o)->Inv X pins σ H { s₂ with heap:=h',toks:=tk })->Q (.ref it) s₂) :
 wpAny (model X.prog X.w) A (pyIter (.ref a)) Q E s:=by
 have back:∀ {o:Obj} {s₂:Shared},s₂={ s with heap:=s.heap.push o }->∀ (h':Heap) (tk:Nat),(∀ b u,b∉[s.heap.objs.size]->s₂.heap.get? b=some u->h'.get? b=some u)->Inv X pins σ H { s₂ with heap:=h',toks:=tk }:=λ{o s₂} e h' tk kk=>by
  subst e
  exact I.kept (t':=tk) λb u z=>kk b u (by simpa using Nat.ne_of_lt (Heap.lt_size z)) (Heap.get?_push_of_some _ z)
 rcases h with h | h
 .obtain⟨its,rv,p,hz⟩:=I.list h
  have lt:a < s.heap.objs.size:=by obtain⟨o,n,ho,_⟩:=p;exact Heap.lt_size ho
  refine wpAny_pyIter_list p.isList ?_
  have W:=Walks.list (prog:=X.prog) (w:=X.w) (A:=A) hh s.heap.objs.size a (Nat.ne_of_lt lt) its.toArray
  refine k s.heap.objs.size its [s.heap.objs.size,a] [s.heap.objs.size] (λi h=>h.IsListIter s.heap.objs.size a i/\h.IsList a its.toArray) _ rv (by simpa using W) ⟨⟨_,Heap.get?_push_size _ rfl,rfl,rfl⟩,p.isList.at λo e=>Heap.get?_push_of_some _ e⟩ (λb hb=>?_) (back rfl)
  show b < (s.heap.push _).objs.size
  rw[Heap.size_push]
  rcases List.mem_cons.mp hb with rfl | hb
  .exact Nat.lt_succ_self _
  .rw[List.mem_singleton.mp hb];exact Nat.lt_succ_of_lt lt
 .obtain⟨its,rv,p,hz⟩:=I.tuple h
  have p':s.heap.IsTuple a its.toArray:=p
  have lt:a < s.heap.objs.size:=by obtain⟨o,ho,_⟩:=p;exact Heap.lt_size ho
  refine wpAny_pyIter_tuple p' ?_
  have W:=Walks.tuple (prog:=X.prog) (w:=X.w) (A:=A) hh s.heap.objs.size a (Nat.ne_of_lt lt) its.toArray
  refine k s.heap.objs.size its [s.heap.objs.size,a] [s.heap.objs.size] (λi h=>h.IsTupleIter s.heap.objs.size a i/\h.IsTuple a its.toArray) _ rv (by simpa using W) ⟨⟨_,Heap.get?_push_size _ rfl,rfl,rfl⟩,p'.at λo e=>Heap.get?_push_of_some _ e⟩ (λb hb=>?_) (back rfl)
  show b < (s.heap.push _).objs.size
  rw[Heap.size_push]
  rcases List.mem_cons.mp hb with rfl | hb
  .exact Nat.lt_succ_self _
  .rw[List.mem_singleton.mp hb];exact Nat.lt_succ_of_lt lt
end
end Dl
namespace Dl
open PySem L2
variable [KK]
omit [KK] in
theorem zc2 {bs:List Bool}:(List.range bs.length).all (λi=>bs.getD i false)=bs.all id:=by
 have:bs=(List.range bs.length).map λi=>bs.getD i false:=by
  apply List.ext_getElem
  .simp
  .intro i h1 h2
   simp[h1]
 conv=>rhs;rw[this]
 rw[List.all_map]
 rfl
omit [KK] in
theorem zd3:∀ (ns:List Int) (n:Nat),n<=ns.length->preSum (λi=>ns.getD i 0) n=(ns.take n).sum:=by
 intro ns n
 induction n with
 | zero=>intro _;simp[preSum]
 | succ n ih =>
  intro h
  show preSum (λi=>ns.getD i 0) n+ns.getD n 0=_
  rw[ih (by omega),List.take_succ,List.sum_append]
  have:ns[n]?=some ns[n]:=by simp[show n < ns.length by omega]
  simp[this]
section
variable {X:Cx}
omit [KK] in
theorem zhY {bs:List Bool}{its:List Value}{i:Nat}{v:Value}(r:ya (bs.map V.bl) its)(h:its[i]?=some v):v=.bool (bs.getD i false):=by
 have hl:=r.length
 have hi:i < its.length:=(List.getElem?_eq_some_iff.mp h).1
 rw[List.length_map]at hl
 obtain⟨u,hu,ru⟩:=r.get (i:=i) (x:=.bl (bs[i]'(by omega))) (by rw[List.getElem?_map];simp[show i < bs.length by omega])
 rw[h]at hu
 cases hu
 cases ru
 simp[show i < bs.length by omega]
omit [KK] in
theorem Zz {ns:List Int}{its:List Value}{i:Nat}{v:Value}(r:ya (ns.map V.int) its)(h:its[i]?=some v):∃ t,v=.int (ns.getD i 0) t:=by
 have hl:=r.length
 have hi:i < its.length:=(List.getElem?_eq_some_iff.mp h).1
 rw[List.length_map]at hl
 obtain⟨u,hu,ru⟩:=r.get (i:=i) (x:=.int (ns[i]'(by omega))) (by rw[List.getElem?_map];simp[show i < ns.length by omega])
 rw[h]at hu
 cases hu
 obtain⟨t,rfl⟩:=ru
 exact⟨t,by simp[show i < ns.length by omega]⟩
theorem Xy (hc:X.calm=true):Yf X (.builtin "all") (λxs H Q=>∃ (p:Addr) (bs:List Bool),xs=[.ref p]/\(SqL X.K H p (bs.map V.bl)\/SqT X.K H p (bs.map V.bl))/\Q (.bl (bs.all id)) H):=by
 intro pins s σ H xs us Q I r h
 obtain⟨p,bs,rfl,hq,q⟩:=h
 obtain⟨u,rfl,ru⟩:=Vy r
 cases ru
 refine call_all_walk (Wi I (I.ok.hd hc) hq λit its fp wr St s₂ rv W st fpl back=>?_)
 have hl:=rv.length
 rw[List.length_map]at hl
 refine⟨it,fp,wr,_,_,St,λi=>bs.getD i false,rfl,W,st,λi v s Q E hv hQ=>?_,λh' tk kk=>⟨.bl _,H,back h' tk kk,rfl,?_⟩⟩
 .rw[zhY rv hv]
  exact wpAny_truthy_bool hQ
 .rw[<-hl,zc2]
  exact q
theorem zea (hc:X.calm=true):Yf X (.builtin "sum") (λxs H Q=>∃ (p:Addr) (ns:List Int),xs=[.ref p]/\(SqL X.K H p (ns.map V.int)\/SqT X.K H p (ns.map V.int))/\Q (.int ns.sum) H):=by
 intro pins s σ H xs us Q I r h
 obtain⟨p,ns,rfl,hq,q⟩:=h
 obtain⟨u,rfl,ru⟩:=Vy r
 cases ru
 refine call_sum_walkG (Wi I (I.ok.hd hc) hq λit its fp wr St s₂ rv W st fpl back=>?_)
 have hl:=rv.length
 rw[List.length_map]at hl
 refine⟨it,fp,wr,_,_,St,λi=>ns.getD i 0,rfl,W,st,fpl,λi v hv=>Zz rv hv,λh' tk t' kk=>⟨.int ns.sum,H,back h' tk kk,?_,q⟩⟩
 refine⟨t',?_⟩
 rw[<-hl,zd3 ns _ (Nat.le_refl _),List.take_length]
noncomputable def zbK (ns:List Int):Int:=(ns.max?).getD 0
omit [KK] in
theorem zhk (f:Nat→Int):∀ k i,i≤k→f i≤f (argBest (fun i j=>decide (f j < f i)) k)∧argBest (fun i j=>decide (f j < f i)) k≤k:=by
  intro k
  induction k with
  | zero => intro i hi; have : i = 0 := by omega
            subst this;exact ⟨Int.le_refl _,Nat.le_refl _⟩
  | succ k ih =>
    intro i hi
    unfold argBest
    obtain ⟨h1,h2⟩:=ih (min i k) (Nat.min_le_right _ _)
    split
    · rename_i hc
      have hc:f (argBest (fun i j=>decide (f j < f i)) k) < f (k+1):=of_decide_eq_true hc
      refine ⟨?_,Nat.le_refl _⟩
      by_cases hik:i≤k
      · rw [Nat.min_eq_left hik] at h1;omega
      · have:i=k+1:=by omega
        subst this;exact Int.le_refl _
    · rename_i hc
      have hc:¬ f (argBest (fun i j=>decide (f j < f i)) k) < f (k+1):=fun z=>hc (decide_eq_true z)
      refine ⟨?_,by omega⟩
      by_cases hik:i≤k
      · rw [Nat.min_eq_left hik] at h1;exact h1
      · have:i=k+1:=by omega
        subst this;omega
omit [KK] in
theorem zgD {ns:List Int}{m:Int}(h1:m∈ns)(h2:∀ x∈ns,x<=m):zbK ns=m:=by
 unfold zbK
 rw[List.max?_eq_some_iff.mpr ⟨h1,h2⟩]
 rfl
omit [KK] in
theorem getD_mem {ns:List Int}{k:Nat}(h:k < ns.length):ns.getD k 0∈ns:=by
 rw[List.getD_eq_getElem?_getD,List.getElem?_eq_getElem h]
 exact List.getElem_mem h
omit [KK] in
theorem getD_at {ns:List Int}{k:Nat}(h:k < ns.length):ns.getD k 0=ns[k]:=by
 rw[List.getD_eq_getElem?_getD,List.getElem?_eq_getElem h]
 rfl
theorem zaf (hc:X.calm=true):Yf X (.builtin "max") (λxs H Q=>∃ (p:Addr) (ns:List Int),xs=[.ref p]/\(SqL X.K H p (ns.map V.int)\/SqT X.K H p (ns.map V.int))/\ns≠[]/\Q (.int (zbK ns)) H):=by
 intro pins s σ H xs us Q I r h
 obtain⟨p,ns,rfl,hq,hne,q⟩:=h
 obtain⟨u,rfl,ru⟩:=Vy r
 cases ru
 refine call_max_walk (Wi I (I.ok.hd hc) hq λit its fp wr St s₂ rv W st fpl back=>?_)
 have hl:=rv.length
 rw[List.length_map]at hl
 have hpos:0 < ns.length:=List.length_pos_iff.mpr hne
 refine⟨it,fp,wr,_,_,St,λi j=>decide (ns.getD j 0 < ns.getD i 0),rfl,W,st,fpl,by omega,λi j vi vj s Q E hi hj hQ=>?_,λv h' tk hv kk=>?_⟩
 .obtain⟨t1,rfl⟩:=Zz rv hi
  obtain⟨t2,rfl⟩:=Zz rv hj
  exact PyProof.Rows.gt_int hQ
 .obtain⟨t,rfl⟩:=Zz rv hv
  refine⟨.int (zbK ns),H,back h' tk kk,⟨t,?_⟩,q⟩
  have key:=zhk (λi=>ns.getD i 0) (its.length - 1)
  have hb:argBest (λi j=>decide (ns.getD j 0 < ns.getD i 0)) (its.length - 1) < ns.length:=by
   have:=(key 0 (Nat.zero_le _)).2
   omega
  rw[zgD (m:=ns.getD (argBest (λi j=>decide (ns.getD j 0 < ns.getD i 0)) (its.length - 1)) 0)]
  .exact getD_mem hb
  .intro x hx
   obtain⟨j,hj,rfl⟩:=List.getElem_of_mem hx
   have:=(key j (by omega)).1
   rw[<-getD_at hj]
   exact this
noncomputable def zid:List D->Option (List Bool)
 | []=>some []
 | .bl b::ds=>(zid ds).map (b::·)
 | _=>none
noncomputable def zcc:List D->Option (List Int)
 | []=>some []
 | .int b::ds=>(zcc ds).map (b::·)
 | _=>none
omit [KK] in
theorem zdn:∀ {ds:List D} {bs:List Bool},zid ds=some bs->ds=bs.map .bl
 | [],bs,h=>by cases h;rfl
 | d::ds,bs,h=>by
  cases d <;> try cases h
  obtain⟨cs,h1,rfl⟩:=Option.map_eq_some_iff.mp h
  rw[zdn h1]
  rfl
omit [KK] in
theorem Y5:∀ {ds:List D} {bs:List Int},zcc ds=some bs->ds=bs.map .int
 | [],bs,h=>by cases h;rfl
 | d::ds,bs,h=>by
  cases d <;> try cases h
  obtain⟨cs,h1,rfl⟩:=Option.map_eq_some_iff.mp h
  rw[Y5 h1]
  rfl
omit [KK] in
theorem zfl (bs:List Bool):zid (bs.map .bl)=some bs:=by
 induction bs with
 | nil=>rfl
 | cons b r ih=>show(zid (r.map .bl)).map (b::·)=_;rw[ih];rfl
omit [KK] in
theorem ZF (bs:List Int):zcc (bs.map .int)=some bs:=by
 induction bs with
 | nil=>rfl
 | cons b r ih=>show(zcc (r.map .int)).map (b::·)=_;rw[ih];rfl
theorem AtL.of_bls {H:Hp}:∀ {ns:List Bool} {xs:List V},AtL H (ns.map D.bl) xs->xs=ns.map V.bl
 | [],_,h=>h.nil_inv
 | n::r,_,h=>by
  obtain⟨x,r',rfl,h1,h2⟩:=AtL.cons_inv (by simpa using h)
  rw[h1.bl_inv,AtL.of_bls h2]
  rfl
noncomputable def zjr {α:Type}(as:List D->Option α)(g:α->Option D):List D->Option D
 | [d]=>((wE d).bind as).bind g
 | _=>none
theorem zaS {K:W.Frag}{F H:Hp}{vs:List V}{ds:List D}{z:D}{α:Type}{as:List D->Option α}{g:α->Option D}(s:yf F H)(al:AtL F ds vs)(e:zjr as g ds=some z) :
 ∃ p es xs b,vs=[.ref p]/\(SqL K H p xs\/SqT K H p xs)/\AtL F es xs/\as es=some b/\g b=some z:=by
 unfold zjr at e
 split at e
 .obtain⟨b,e1,e2⟩:=Option.bind_eq_some_iff.mp e
  obtain⟨es,e3,e4⟩:=Option.bind_eq_some_iff.mp e1
  obtain⟨x,r,rfl,ax,ar⟩:=al.cons_inv
  cases ar.nil_inv
  rename_i d
  cases d <;> cases e3
  .obtain⟨p,xs,rfl,hx,bl⟩:=ax.tup_inv
   exact⟨p,_,xs,b,rfl,.inr (SqT.of (s _ _ hx)),bl,e4,e2⟩
  .obtain⟨p,xs,rfl,hx,bl⟩:=ax.lst_inv
   exact⟨p,_,xs,b,rfl,.inl (SqL.of (s _ _ hx)),bl,e4,e2⟩
 .cases e
noncomputable def zil:=zjr zid λbs=>some (.bl (bs.all id))
noncomputable def zkZ:=zjr zcc λns=>some (.int ns.sum)
noncomputable def zaK:=zjr zcc λns=>if ns=[]then none else some (.int (zbK ns))
theorem za8 {K:W.Frag}:CaD (λxs H Q=>∃ (p:Addr) (bs:List Bool),xs=[.ref p]/\(SqL K H p (bs.map V.bl)\/SqT K H p (bs.map V.bl))/\Q (.bl (bs.all id)) H) zil:=by
 intro F H vs ds z Q s al e q
 obtain⟨p,es,xs,bs,rfl,hq,bl,e1,e2⟩:=zaS (K:=K) s al e
 cases e2
 rw[zdn e1]at bl
 rw[bl.of_bls]at hq
 exact⟨p,bs,rfl,hq,q F H _ (.refl s) .bl⟩
theorem zhJ {K:W.Frag}:CaD (λxs H Q=>∃ (p:Addr) (ns:List Int),xs=[.ref p]/\(SqL K H p (ns.map V.int)\/SqT K H p (ns.map V.int))/\Q (.int ns.sum) H) zkZ:=by
 intro F H vs ds z Q s al e q
 obtain⟨p,es,xs,bs,rfl,hq,bl,e1,e2⟩:=zaS (K:=K) s al e
 cases e2
 rw[Y5 e1]at bl
 rw[bl.of_ints]at hq
 exact⟨p,bs,rfl,hq,q F H _ (.refl s) .int⟩
theorem zb6 {K:W.Frag}:CaD (λxs H Q=>∃ (p:Addr) (ns:List Int),xs=[.ref p]/\(SqL K H p (ns.map V.int)\/SqT K H p (ns.map V.int))/\ns≠[]/\Q (.int (zbK ns)) H) zaK:=by
 intro F H vs ds z Q s al e q
 obtain⟨p,es,xs,bs,rfl,hq,bl,e1,e2⟩:=zaS (K:=K) s al e
 split at e2 <;> cases e2
 rename_i hne
 rw[Y5 e1]at bl
 rw[bl.of_ints]at hq
 exact⟨p,bs,rfl,hq,hne,q F H _ (.refl s) .int⟩
end
end Dl
namespace Dl
open PySem L2
variable [KK]
section
variable {X:Cx}{tg a b c e:Expr}{pos:Pos}
noncomputable def zck:List D->List D->List D
 | x::xs,y::ys=>.tup [x,y]::zck xs ys
 | _,_=>[]
omit [KK] in
theorem zb7:∀ (xs ys:List D) (i:Nat),(zck xs ys)[i]?=match xs[i]?,ys[i]? with | some x,some y=>some (.tup [x,y]) | _,_=>none
 | [],ys,i=>by simp[zck]
 | x::xs,[],i=>by simp[zck]
 | x::xs,y::ys,0=>by simp[zck]
 | x::xs,y::ys,i+1=>by simpa [zck]using zb7 xs ys i
omit [KK] in
theorem Xj:∀ (xs ys:List D),xs.length<=ys.length->(zck xs ys).length=xs.length
 | [],ys,_=>by simp[zck]
 | x::xs,[],h=>by simp at h
 | x::xs,y::ys,h=>by simp[zck,Xj xs ys (by simpa using h)]
noncomputable def Yl (f:Ev->Option (List D)):Ev->Option (List D):=fun ρ=>(f ρ).bind λas=>match as with
 | [d,e]=>(wE d).bind λxs=>(wE e).bind λys=>if xs.length<=ys.length then some (zck xs ys)else none
 | _=>none
theorem zkd {K:W.Frag}{F H:Hp}{d:D}{v:V}{ds:List D}(s:yf F H)(h:At F d v)(e:wE d=some ds):∃ b p xs,v=.ref p/\(∀ {F' H':Hp},yf F F'->yf F' H'->Sq b K H' p xs)/\AtL F ds xs:=by
 cases d <;> cases e
 .obtain⟨p,xs,rfl,hx,al⟩:=h.tup_inv
  exact⟨false,p,xs,rfl,λs1 s2=>SqT.of (s2 _ _ (s1 _ _ hx)),al⟩
 .obtain⟨p,xs,rfl,hx,al⟩:=h.lst_inv
  exact⟨true,p,xs,rfl,λs1 s2=>SqL.of (s2 _ _ (s1 _ _ hx)),al⟩
theorem zgP {es:List Expr} {k:Nat} {tp p:Pos} {f:Ev->Option (List D)} (hg:Gl X "zip") (hm:X.mg "zip"=none) (ha:AD X [a,b] f)
 (hs:starEach [a,b] X.env=[(false,eval a X.env),(false,eval b X.env)]:=by rfl) (hs2:starEach [b] X.env=[(false,eval b X.env)]:=by rfl):ID X (.Tuple es k tp) (.Call (.Name "zip" p) [a,b] [] pos) (Yl f):=by
 obtain⟨t,pa,r⟩:=ha
 refine⟨_,zj5 hg hm zgM pa hs hs2,fun σ ρ F H ds R s va e q=>?_⟩
 obtain⟨as,e1,e2⟩:=Option.bind_eq_some_iff.mp e
 refine r σ ρ F H as _ s va e1 λF1 H1 v g1 a1=>?_
 split at e2
 .obtain⟨x,r',rfl,ax,ar⟩:=a1.cons_inv
  obtain⟨y,r',rfl,ay,ar⟩:=ar.cons_inv
  cases ar.nil_inv
  obtain⟨xs,e3,e2'⟩:=Option.bind_eq_some_iff.mp e2
  obtain⟨ys,e4,e2''⟩:=Option.bind_eq_some_iff.mp e2'
  clear e2 e2' e
  split at e2'' <;> cases e2''
  rename_i hle
  obtain⟨b1,p1,us,rfl,sq1,al⟩:=zkd (K:=X.K) g1.fh ax e3
  obtain⟨b2,p2,ws,rfl,sq2,bl⟩:=zkd (K:=X.K) g1.fh ay e4
  refine⟨b1,b2,p1,p2,us,ws,rfl,sq1 (yf.refl _) g1.fh,sq2 (yf.refl _) g1.fh,q F1 H1 _ g1 λi F2 H2 s1 s2=>?_⟩
  have q1:=sq1 s1 s2
  have q2:=sq2 s1 s2
  refine⟨λhl=>⟨us,q1,by rw[hl,Xj _ _ hle,al.length]⟩,λd hd=>?_⟩
  rw[zb7]at hd
  cases h1:xs[i]? with
  | none=>rw[h1]at hd;cases hd
  | some x =>
   cases h2:ys[i]? with
   | none=>rw[h1,h2]at hd;cases hd
   | some y =>
    rw[h1,h2]at hd
    cases hd
    obtain⟨u,hu,au⟩:=al.get h1
    obtain⟨u2,hu2,au2⟩:=bl.get h2
    refine⟨⟨us,ws,u,u2,q1,q2,hu,hu2⟩,λz H3 hz=>?_⟩
    obtain⟨T,x',y',rfl,hT,rfl,hx',hy'⟩:=hz
    have e5:=hx' us q1
    have e6:=hy' ws q2
    rw[hu]at e5
    rw[hu2]at e6
    cases e5
    cases e6
    have g3:=Gr.alloc s2 hT (.tup [u,u2])
    exact⟨_,g3,.tup zk (.cons (au.mono (s1.trans g3.ff)) (.cons (au2.mono (s1.trans g3.ff)) .nil))⟩
 .cases e2
noncomputable def wV (g:List D->Option (List D))(f:Ev->Option (List D))(b:D->SE->Option SE)(h:SE->Ctl):SE->Ctl:=fun ρ=>match (f (visG ρ)).bind g with
 | some ds=>zcP b h ds ρ
 | none=>.no
theorem W0 {p pos':Pos} {body:List Stmt} {f:Ev->Option (List D)} {b':D->SE->Option SE} {g:SE->Ctl} (hp:PassesOwn (model X.prog X.w) X.A X.env X.xe) (hc:X.calm=true) (hgl:Gl X "range") (hm:X.mg "range"=none) (ha:AD X [a] f) (hg:BD X tg b') (hb:SDs X body g)
 (hs0:starEach [a] X.env=[(false,eval a X.env)]:=by rfl) (hs:∀ x,foldedSetIterable (.Call (.Name "range" p) [a] [] pos) X.env x=pure x:=by intro _;rfl):SD X (.For tg (.Call (.Name "range" p) [a] [] pos) body [] pos') (wV v5 f b' g):=by
 obtain⟨t,pa,r⟩:=ha
 obtain⟨tg',pg,rg⟩:=hg
 obtain⟨tb,pb,rb⟩:=hb
 refine⟨_,zca hp hc (VY hgl hm pa hs0) pg pb hs,λFb Hb F H ρ σ E rl k=>?_⟩
 unfold wV at k
 cases h:(f (visG ρ)).bind v5 with
 | none=>rw[h]at k;exact k.elim
 | some ds =>
  rw[h]at k
  obtain⟨as,e1,e2⟩:=Option.bind_eq_some_iff.mp h
  refine r σ _ _ H as _ rl.gh rl.visG e1 λF1 H1 vs g1 a1=>?_
  have rl2:=rl.grow (rl.back g1).1
  unfold v5 at e2
  split at e2
  .split at e2 <;> cases e2
   rename_i hc
   obtain⟨x,r',rfl,ax,ar⟩:=a1.cons_inv
   cases ar.nil_inv
   exact⟨_,by rw[ax.int_inv],(yi.mp hc).1,(yi.mp hc).2,zdM (zbv 0 _) rg rb rl2 k⟩
  .cases e2
theorem zff {p pos':Pos} {body:List Stmt} {f:Ev->Option (List D)} {b':D->SE->Option SE} {g:SE->Ctl} (hp:PassesOwn (model X.prog X.w) X.A X.env X.xe) (hc:X.calm=true) (hgl:Gl X "range") (hm:X.mg "range"=none) (ha:AD X [a,b] f) (hg:BD X tg b') (hb:SDs X body g)
 (hs0:starEach [a,b] X.env=[(false,eval a X.env),(false,eval b X.env)]:=by rfl) (hs2:starEach [b] X.env=[(false,eval b X.env)]:=by rfl) (hs:∀ x,foldedSetIterable (.Call (.Name "range" p) [a,b] [] pos) X.env x=pure x:=by intro _;rfl):SD X (.For tg (.Call (.Name "range" p) [a,b] [] pos) body [] pos') (wV XJ f b' g):=by
 obtain⟨t,pa,r⟩:=ha
 obtain⟨tg',pg,rg⟩:=hg
 obtain⟨tb,pb,rb⟩:=hb
 refine⟨_,zca hp hc (zaj hgl hm pa hs0 hs2) pg pb hs,λFb Hb F H ρ σ E rl k=>?_⟩
 unfold wV at k
 cases h:(f (visG ρ)).bind XJ with
 | none=>rw[h]at k;exact k.elim
 | some ds =>
  rw[h]at k
  obtain⟨as,e1,e2⟩:=Option.bind_eq_some_iff.mp h
  refine r σ _ _ H as _ rl.gh rl.visG e1 λF1 H1 vs g1 a1=>?_
  have rl2:=rl.grow (rl.back g1).1
  unfold XJ at e2
  split at e2
  .split at e2 <;> cases e2
   rename_i hc
   obtain⟨x,r',rfl,ax,ar⟩:=a1.cons_inv
   obtain⟨y,r',rfl,ay,ar⟩:=ar.cons_inv
   cases ar.nil_inv
   exact⟨_,_,by rw[ax.int_inv,ay.int_inv],⟨(yi.mp hc.1).1,(yi.mp hc.1).2,(yi.mp hc.2).1,(yi.mp hc.2).2⟩,zdM (zbv _ _) rg rb rl2 k⟩
  .cases e2
end
noncomputable def zdd (K:W.Frag):Sp:=λvs H Q _=>∃ (a:Addr) (ns:List Int),vs=[.ref a]/\SqL K H a (ns.map V.int)/\ns.length<=63/\∀ H',Q (.bl true) H'
end Dl
namespace Dl
open PySem L2
theorem zjN {P:Program}{w:World}{K:W.Frag}{mg:Str->Option Value}{base:Heap}{f:Addr}{fd:FuncData}{ps:List Str}{k:Nat}{p:List D->Option D}(F:xz P w K mg base CX0 k f fd ps (@spD ⟨K⟩ 1 p))(h:∀ ns:List Int,ns.length<=63->p [.scr ns]=some (.bl true)) :
 xz P w K mg base CX0 k f fd ps (zdd K):=by
 letI:KK:=⟨K⟩
 refine F.imp λvs H Q E hs=>?_
 obtain⟨a,ns,rfl,hq,hl,q⟩:=hs
 refine⟨[.scr ns],.bl true,H,rfl,yf.refl _,.cons ?_ .nil,h ns hl,λF' H' v _ av=>?_⟩
 .unfold At
  exact⟨a,rfl,hq⟩
 .rw[av.bl_inv]
  exact q H'
structure Def (K:W.Frag) (mg:Str->Option Value) (x:Str) (st:Stmt) (ps:List Str) (f:Addr) (fd:FuncData):Prop where
 fn:Fun K x x st f fd
 bd:zao K fd ps []
 at_:mg x=some (.ref f)
theorem Def.kp {K:W.Frag}{mg:Str->Option Value}{x:Str}{st:Stmt}{ps:List Str}{f:Addr}{fd:FuncData}(d:Def K mg x st ps f fd):W.keepIn K (.ref f)=true:=d.fn.kp
inductive Ctl.w:Ctl->(SE->Prop)->(SE->Prop)->(SE->Prop)->(D->Prop)->Prop where
 | nx {ρ:SE} {n b k:SE->Prop} {r:D->Prop}:n ρ->Ctl.w (.nx ρ) n b k r
 | bk {ρ:SE} {n b k:SE->Prop} {r:D->Prop}:b ρ->Ctl.w (.bk ρ) n b k r
 | ct {ρ:SE} {n b k:SE->Prop} {r:D->Prop}:k ρ->Ctl.w (.ct ρ) n b k r
 | rt {d:D} {n b k:SE->Prop} {r:D->Prop}:r d->Ctl.w (.rt d) n b k r
section
variable {ρ:SE}{d:D}{n b k:SE->Prop}{r:D->Prop}
theorem Ctl.w.nxi (h:Ctl.w (.nx ρ) n b k r):n ρ:=by cases h;assumption
theorem Ctl.w.bki (h:Ctl.w (.bk ρ) n b k r):b ρ:=by cases h;assumption
theorem Ctl.w.cti (h:Ctl.w (.ct ρ) n b k r):k ρ:=by cases h;assumption
theorem Ctl.w.rti (h:Ctl.w (.rt d) n b k r):r d:=by cases h;assumption
theorem Ctl.w.noi (h:Ctl.w .no n b k r):False:=by cases h
end
noncomputable abbrev noP:SE->Prop:=λ_=>False
section
variable {g h:SE->Ctl}{ρ ρ':SE}{n b k:SE->Prop}{r:D->Prop}
theorem wy (e:(g ρ).w (fun ρ'=>(h ρ').w n b k r) b k r):(zR g h ρ).w n b k r:=by
 unfold zR
 cases hg:g ρ with
 | nx ρ'=>rw[hg]at e;exact e.nxi
 | bk ρ'=>rw[hg]at e;exact .bk e.bki
 | ct ρ'=>rw[hg]at e;exact .ct e.cti
 | rt d=>rw[hg]at e;exact .rt e.rti
 | no=>rw[hg]at e;exact e.noi.elim
theorem zL (e:g ρ=.nx ρ')(q:(h ρ').w n b k r):(zR g h ρ).w n b k r:=wy (by rw[e];exact .nx q)
theorem Vd (e:g ρ=.nx ρ')(q:n ρ'):(g ρ).w n b k r:=by rw[e];exact .nx q
theorem Zp {d:D}(e:g ρ=.rt d)(q:r d):(g ρ).w n b k r:=by rw[e];exact .rt q
theorem zcN {t:Ev->Option Bool}{c:Bool}(e:t (visG ρ)=some c)(h1:c=true->(g ρ).w n b k r)(h2:c=false->(h ρ).w n b k r):(sIf t g h ρ).w n b k r:=by
 unfold sIf
 rw[e]
 cases c with
 | true=>exact h1 rfl
 | false=>exact h2 rfl
theorem zg3 {i:Nat}(e:zkE ρ i=ρ')(q:(g ρ').w n b k r):(sFz i g ρ).w n b k r:=by
 unfold sFz
 rw[e]
 exact q
theorem zcZ {bd:D->SE->Option SE}(I:Nat->SE->Prop):∀ (ds:List D) (j:Nat) (ρ:SE),I j ρ ->
 (∀ i d ρ,ds[i]?=some d->I (j+i) ρ->∃ ρ1,bd d ρ=some ρ1/\(g ρ1).w (I (j+i+1)) n (I (j+i+1)) r)->(∀ ρ,I (j+ds.length) ρ->n ρ)->(zcP bd g ds ρ).w n b k r
 | [],j,ρ,h0,_,fin=>.nx (fin ρ h0)
 | d::ds,j,ρ,h0,step,fin=>by
  obtain⟨ρ1,e1,e2⟩:=step 0 d ρ rfl h0
  unfold zcP
  rw[e1]
  dsimp only
  have next:∀ ρ',I (j+1) ρ'->(zcP bd g ds ρ').w n b k r:=fun ρ' h'=>zcZ I ds (j+1) ρ' h'
   (λi d' ρ hd hI=>by
    have:=step (i+1) d' ρ (by simpa using hd) (by rw[show j+(i+1)=j+1+i by omega];exact hI)
    rwa[show j+(i+1)+1=j+1+i+1 by omega]at this)
   (fun ρ hI=>fin ρ (by rw[List.length_cons,show j+(ds.length+1)=j+1+ds.length by omega];exact hI))
  cases hg:g ρ1 with
  | nx ρ'=>rw[hg]at e2;exact next ρ' e2.nxi
  | ct ρ'=>rw[hg]at e2;exact next ρ' e2.cti
  | bk ρ'=>rw[hg]at e2;exact .nx e2.bki
  | rt d'=>rw[hg]at e2;exact .rt e2.rti
  | no=>rw[hg]at e2;exact e2.noi.elim
theorem zcA {f:Ev->Option (List D)}{bd:D->SE->Option SE}{ds:List D}(I:Nat->SE->Prop)(e:f (visF ρ)=some ds)(h0:I 0 ρ)
 (step:∀ i d ρ,ds[i]?=some d->I i ρ->∃ ρ1,bd d ρ=some ρ1/\(g ρ1).w (I (i+1)) n (I (i+1)) r) (fin:∀ ρ,I ds.length ρ->n ρ):(XS f bd g ρ).w n b k r:=by
 unfold XS
 rw[e]
 exact zcZ I ds 0 ρ h0 (λi d ρ hd hI=>by rw[Nat.zero_add]at hI ⊢;exact step i d ρ hd hI) (fun ρ hI=>fin ρ (by rw[Nat.zero_add]at hI;exact hI))
theorem zda {f:Ev->Option (List D)}{bd:D->SE->Option SE}{rg:List D->Option (List D)}{lo:Int}{c:Nat}(I:Nat->SE->Prop)(e:(f (visG ρ)).bind rg=some (WK lo c))(h0:I 0 ρ)
 (step:∀ (i:Nat) ρ,i < c->I i ρ->∃ ρ1,bd (.int (lo+i)) ρ=some ρ1/\(g ρ1).w (I (i+1)) n (I (i+1)) r) (fin:∀ ρ,I c ρ->n ρ):(wV rg f bd g ρ).w n b k r:=by
 unfold wV
 rw[e]
 refine zcZ I (WK lo c) 0 ρ h0 (λi d ρ hd hI=>?_) (fun ρ hI=>fin ρ ?_)
 .rw[Nat.zero_add]at hI ⊢
  unfold WK at hd
  rw[List.getElem?_map]at hd
  by_cases hi:i < c
  .rw[List.getElem?_range hi]at hd
   cases hd
   exact step i ρ hi hI
  .rw[List.getElem?_eq_none (by simpa using hi)]at hd
   cases hd
 .rw[Nat.zero_add]at hI
  rwa[show(WK lo c).length=c by unfold WK;simp]at hI
theorem zgx {n' b' k':SE->Prop}{r':D->Prop}{c:Ctl}(q:c.w n b k r)(h1:∀ ρ,n ρ->n' ρ)(h2:∀ ρ,b ρ->b' ρ)(h3:∀ ρ,k ρ->k' ρ)(h4:∀ d,r d->r' d):c.w n' b' k' r':=by
 cases q with
 | nx q=>exact .nx (h1 _ q)
 | bk q=>exact .bk (h2 _ q)
 | ct q=>exact .ct (h3 _ q)
 | rt q=>exact .rt (h4 _ q)
theorem za0 {t:Ev->Option Bool}(I:SE->Prop)(μ:SE->Nat)(step:∀ ρ,I ρ->∃ c,t (visG ρ)=some c/\(c=true->(g ρ).w (fun ρ'=>I ρ'/\μ ρ' < μ ρ) n (fun ρ'=>I ρ'/\μ ρ' < μ ρ) r)/\(c=false->n ρ)):∀ (fu:Nat) (ρ:SE),I ρ->μ ρ < fu->(vP t g fu ρ).w n b k r
 | 0,ρ,_,hf=>by omega
 | fu+1,ρ,hI,hf=>by
  obtain⟨c,e,q1,q2⟩:=step ρ hI
  unfold vP
  rw[e]
  cases c with
  | false=>exact .nx (q2 rfl)
  | true =>
   have q:=q1 rfl
   dsimp only
   cases hg:g ρ with
   | nx ρ'=>rw[hg]at q;exact za0 I μ step fu ρ' q.nxi.1 (by have:=q.nxi.2;omega)
   | ct ρ'=>rw[hg]at q;exact za0 I μ step fu ρ' q.cti.1 (by have:=q.cti.2;omega)
   | bk ρ'=>rw[hg]at q;exact .nx q.bki
   | rt d'=>rw[hg]at q;exact .rt q.rti
   | no=>rw[hg]at q;exact q.noi.elim
end
theorem zan {m:Nat}{g:SE->Ctl}{ds:List D}{d:D}{ρ:SE}(e:ds.map .v++List.replicate (m - ds.length) .no=ρ)(q:(g ρ).w (λ_=>d=.non) noP noP (λd'=>d'=d)):fnD m g ds=some d:=by
 unfold fnD
 rw[e]
 cases hg:g ρ with
 | nx ρ'=>rw[hg]at q;rw[show d=.non from q.nxi]
 | rt d'=>rw[hg]at q;rw[show d'=d from q.rti]
 | bk _=>rw[hg]at q;exact q.bki.elim
 | ct _=>rw[hg]at q;exact q.cti.elim
 | no=>rw[hg]at q;exact q.noi.elim
theorem zgR {m:Bool}{i:Nat}{f:Ev->Option D}{ρ:SE}{ds:List D}{d:D}(h1:vEv m f ρ=some d)(h2:ρ[i]?=some (.o ds))(h3:ds.length<=1000):Ve m i f ρ=.nx (ρ.set i (.o (ds++[d]))):=by
 unfold Ve
 rw[h1,h2]
 show(match (if decide (ds.length < sizeLine)=true then some (ρ.set i (.o (ds++[d])))else none)with | some ρ'=>Ctl.nx ρ' | none=>Ctl.no)=_
 rw[if_pos (decide_eq_true (ZW h3))]
theorem vx {b:D->Option (List (Option D))}{t:Ev->Option Bool}{f:Ev->Option D}{ρ:Ev}{α:Type}(c:α->D)(y:α->D):∀ (xs:List α),(∀ x∈xs,∃ own,b (c x)=some own/\t (own++ρ)=some true/\f (own++ρ)=some (y x))->lcD b t f ρ (xs.map c)=some (xs.map y)
 | [],_=>rfl
 | x::xs,h=>by
  obtain⟨own,h1,h2,h3⟩:=h x List.mem_cons_self
  show lcD b t f ρ (c x::xs.map c)=_
  unfold lcD
  rw[h1]
  simp only[Option.bind_some,h2,if_true,h3,vx c y xs λz hz=>h z (List.mem_cons_of_mem _ hz)]
  rfl
mutual
noncomputable def noS:D->Bool
 | .tup ds=>zg2 ds
 | .lst ds=>zg2 ds
 | .scr _=>false
 | _=>true
noncomputable def zg2:List D->Bool
 | []=>true
 | d::ds=>noS d&&zg2 ds
end
theorem ZO:∀ {ds:List D} {i:Nat} {d:D},zg2 ds=true->ds[i]?=some d->noS d=true
 | [],_,_,_,h=>by simp at h
 | d::ds,i,e,h,he=>by
  unfold zg2 at h
  rw[Bool.and_eq_true]at h
  cases i with
  | zero=>simp at he;subst he;exact h.1
  | succ i=>exact ZO h.2 (by simpa using he)
theorem wg {n:Nat}(h:n<=1000):lim n=true:=by
 unfold lim
 exact decide_eq_true (Nat.le_of_lt (ZW h))
theorem za9 (lo:Int)(n:Nat):(WK lo n).length=n:=by unfold WK;simp
end Dl
namespace Dl
open PySem L2
noncomputable abbrev Pr:=Int × Int
noncomputable def prD (t:Pr):D:=.tup [.int t.1,.int t.2]
noncomputable def zkM:D->Option Pr
 | .tup [.int a,.int b]=>some (a,b)
 | _=>none
noncomputable def zbb:List D->Option (List Pr)
 | []=>some []
 | d::ds=>(zkM d).bind λt=>(zbb ds).map (t::·)
theorem zhn {d:D}{t:Pr}(h:zkM d=some t):d=prD t:=by
 unfold zkM at h
 split at h
 .cases h;rfl
 .cases h
theorem zbC:∀ {ds:List D} {ts:List Pr},zbb ds=some ts->ds=ts.map prD
 | [],ts,h=>by cases h;rfl
 | d::ds,ts,h=>by
  unfold zbb at h
  obtain⟨t,h1,h2⟩:=Option.bind_eq_some_iff.mp h
  obtain⟨us,h3,rfl⟩:=Option.map_eq_some_iff.mp h2
  rw[zhn h1,zbC h3]
  rfl
theorem zdq (ts:List Pr):zbb (ts.map prD)=some ts:=by
 induction ts with
 | nil=>rfl
 | cons t ts ih =>
  show(zkM (prD t)).bind (λu=>(zbb (ts.map prD)).map (u::·))=_
  rw[ih]
  rfl
noncomputable def zjJ (a b:Pr):Bool:=!OwnSort.bltP b a
noncomputable def zf0 (ts:List Pr):List Pr:=ts.mergeSort zjJ
noncomputable def leI (a b:Int):Bool:=decide (a<=b)
noncomputable def zgk (ns:List Int):List Int:=ns.mergeSort leI
theorem Wb {a b:Pr}:OwnSort.bltP b a=false↔zjJ a b=true:=by unfold zjJ;simp
theorem ZM {a b:Pr}:zjJ a b=true↔a.1 < b.1\/(a.1=b.1/\a.2<=b.2):=by
 rw[<-Wb]
 unfold OwnSort.bltP
 rw[decide_eq_false_iff_not]
 omega
theorem XV {ts us:List Pr}(p:us.Perm ts)(h:us.Pairwise λa b=>OwnSort.bltP b a=false):us=zf0 ts:=by
 refine List.Perm.eq_of_pairwise (le:=λa b=>zjJ a b=true) (λa b _ _ h1 h2=>?_) (h.imp λx=>Wb.mp x) ?_ (p.trans (List.mergeSort_perm _ _).symm)
 .rw[ZM]at h1 h2
  exact Prod.ext (by omega) (by omega)
 .exact List.pairwise_mergeSort (λa b c h1 h2=>by rw[ZM]at *;omega) (λa b=>by rw[Bool.or_eq_true,ZM,ZM];omega) _
theorem zcw {ts us:List Int}(p:us.Perm ts)(h:us.Pairwise (·<=·)):us=zgk ts:=by
 refine List.Perm.eq_of_pairwise (le:=λa b=>leI a b=true) (λa b _ _ h1 h2=>?_) (h.imp λx=>decide_eq_true x) ?_ (p.trans (List.mergeSort_perm _ _).symm)
 .unfold leI at h1 h2
  rw[decide_eq_true_eq]at h1 h2
  omega
 .exact List.pairwise_mergeSort (λa b c h1 h2=>by unfold leI at *;rw[decide_eq_true_eq]at *;omega) (λa b=>by unfold leI;rw[Bool.or_eq_true,decide_eq_true_eq,decide_eq_true_eq];omega) _
noncomputable def Vz:List D->Option (List D)
 | [.lst ds]=>if ds.length < 64 then match zbb ds with
  | some ts=>some ((zf0 ts).map prD)
  | none=>match zcc ds with
   | some ns=>some ((zgk ns).map .int)
   | none=>none
  else none
 | _=>none
variable [KK]
section
variable {X:Cx}{e:Expr}{pos:Pos}
theorem At.pr_inv {F:Hp}{t:Pr}{v:V}(h:At F (prD t) v):∃ a,v=.ref a/\F a=some (.tup [.int t.1,.int t.2]):=by
 obtain⟨a,xs,rfl,hx,al⟩:=h.tup_inv
 obtain⟨x,r,rfl,a1,al⟩:=al.cons_inv
 obtain⟨y,r,rfl,a2,al⟩:=al.cons_inv
 cases al.nil_inv
 cases a1.int_inv
 cases a2.int_inv
 exact⟨a,rfl,hx⟩
theorem VS (hc:X.calm=true):Yf X (.builtin "sorted") (λxs H Q=>∃ F p ys ds out,xs=[.ref p]/\yf F H/\H p=some (.lst ys)/\AtL F ds ys/\Vz [.lst ds]=some out/\∀ l zs,H l=none->AtL F out zs->Q (.ref l) (upd H l (.lst zs))):=by
 intro pins s σ H xs us Q I r h
 obtain⟨F,p,ys,ds,out,rfl,sm,hp,al,hs,q⟩:=h
 obtain⟨u,rfl,ru⟩:=Vy r
 cases ru
 obtain⟨its,rv,pl,hz⟩:=I.list (SqL.of hp)
 have hlen:its.length=ds.length:=by rw[<-rv.length,al.length]
 unfold Vz at hs
 dsimp only at hs
 split at hs <;> try cases hs
 rename_i h64
 have fin:∀ (zs:List V) (ws:List Value),zs.length < 64->ya zs ws->AtL F out zs->EP X pins σ Q (.ref (s.heap.objs.size+1)) { s with heap:=PyProof.Rows.sortedAll s.heap its ws.toArray }:=λzs ws hl rz az=>by
  have hn:H (s.heap.objs.size+1)=none:=I.hok.fresh (Nat.le_succ _)
  obtain⟨ep,he⟩:=PyProof.Rows.sortedAll_at s.heap its ws.toArray
  refine⟨.ref (s.heap.objs.size+1),upd H (s.heap.objs.size+1) (.lst zs),I.laid (t':=s.toks) (λb o z=>PyProof.Rows.sortedAll_old z) (Nat.le_succ _) ?_,rfl,q _ zs hn az⟩
  exact⟨Nat.le_of_lt (ZW (by omega)),ws,ep,rz,he⟩
 split at hs
 .rename_i ts hts
  cases hs
  have eds:=zbC hts
  subst eds
  have look:∀ {v:Value},v∈its->∃ a t,v=.ref a/\t∈ts/\F a=some (.tup [.int t.1,.int t.2])/\OwnSort.TP s.heap v t:=λ{v} hv=>by
   obtain⟨j,hj,rfl⟩:=List.getElem_of_mem hv
   have hj2:j < ts.length:=by rw[List.length_map]at hlen;omega
   obtain⟨x,hx,ax⟩:=al.get (i:=j) (d:=prD ts[j]) (by rw[List.getElem?_map];simp[hj2])
   obtain⟨a,rfl,ha⟩:=ax.pr_inv
   obtain⟨v,hv,rvv⟩:=rv.get hx
   have e1:its[j]?=some its[j]:=by simp[hj]
   rw[hv]at e1
   cases e1
   have e2:its[j]=.ref a:=rvv
   refine⟨a,ts[j],e2,List.getElem_mem hj2,ha,?_⟩
   obtain⟨us,ru,⟨o,ho,hcl,n,hd⟩,_⟩:=I.tuple (SqT.of (sm _ _ ha))
   obtain⟨u1,u2,rfl,r1,r2⟩:=zcv ru
   obtain⟨t1,rfl⟩:=r1
   obtain⟨t2,rfl⟩:=r2
   exact⟨a,o,n,t1,t2,e2,ho,hcl,hd⟩
  refine OwnSort.own_sorted pl.isList (λv hv=>let ⟨a,t,_,_,_,ht⟩:=look hv;⟨t,ht⟩) (by omega) λo2 pm ri=>?_
  obtain⟨us,l1,l2,l3⟩:=ri
  have hlo:o2.toList.length=ts.length:=by rw[pm.length_eq,hlen,List.length_map]
  -- the values' addresses
  have zsOf:∀ (ws:List Value) (vs:List Pr),ws.length=vs.length->(∀ w∈ws,w∈its)->(∀ (i:Nat) v t,ws[i]?=some v->vs[i]?=some t->OwnSort.TP s.heap v t)->∃ zs:List V,ya zs ws/\AtL F (vs.map prD) zs:=by
   intro ws
   induction ws with
   | nil =>
    intro vs hl _ _
    cases vs with
    | nil=>exact⟨[],.nil,.nil⟩
    | cons _ _=>simp at hl
   | cons w ws ih =>
    intro vs hl hm ht
    cases vs with
    | nil=>simp at hl
    | cons t vs =>
     obtain⟨zs,z1,z2⟩:=ih vs (by simpa using hl) (λw' hw'=>hm w' (List.mem_cons_of_mem _ hw')) (λi v t h1 h2=>ht (i+1) v t (by simpa using h1) (by simpa using h2))
     obtain⟨a,t',rfl,_,ha,htp⟩:=look (hm w List.mem_cons_self)
     have et:t'=t:=htp.uniq (ht 0 _ t rfl rfl)
     subst et
     exact⟨.ref a::zs,.cons rfl z1,.cons (.tup ha (.cons .int (.cons .int .nil))) z2⟩
  obtain⟨zs,z1,z2⟩:=zsOf o2.toList us l1 (λw hw=>pm.mem_iff.mp hw) l2
  have keysPerm:us.Perm ts:=by
   -- by the keys of the values
   have kv:∀ (ws:List Value) (vs:List Pr),ws.length=vs.length->(∀ (i:Nat) v t,ws[i]?=some v->vs[i]?=some t->OwnSort.TP s.heap v t)->vs=ws.map λv=>(OwnSort.keyP s.heap v).getD (0,0):=by
    intro ws
    induction ws with
    | nil=>intro vs hl _;cases vs with
     | nil=>rfl
     | cons _ _=>simp at hl
    | cons w ws ih =>
     intro vs hl ht
     cases vs with
     | nil=>simp at hl
     | cons t vs =>
      rw[List.map_cons,OwnSort.keyP_of (ht 0 w t rfl rfl),<- ih vs (by simpa using hl) λi v t h1 h2=>ht (i+1) v t (by simpa using h1) (by simpa using h2)]
      rfl
   rw[kv _ _ l1 l2,kv its ts (by rw[hlen,List.length_map]) λi v t h1 h2=>?_]
   .exact pm.map _
   .obtain⟨x,hx,ax⟩:=al.get (i:=i) (d:=prD t) (by rw[List.getElem?_map,h2];rfl)
    obtain⟨a,rfl,ha⟩:=ax.pr_inv
    obtain⟨v',hv',rvv⟩:=rv.get hx
    rw[h1]at hv'
    cases hv'
    obtain⟨us',ru',⟨o,ho,hcl,n,hd⟩,_⟩:=I.tuple (SqT.of (sm _ _ ha))
    obtain⟨u1,u2,rfl,r1,r2⟩:=zcv ru'
    obtain⟨t1,rfl⟩:=r1
    obtain⟨t2,rfl⟩:=r2
    exact⟨a,o,n,t1,t2,rvv,ho,hcl,hd⟩
  have e3:=XV keysPerm l3
  rw[e3]at z2
  have:=fin zs o2.toList (by rw[z1.length];rw[List.length_map]at h64;omega) z1 z2
  simpa using this
 .split at hs <;> try cases hs
  rename_i ns hns
  have eds:=Y5 hns
  subst eds
  have hI:PyProof.Rows.IntsAre its ns:=YX (by rw[<-al.of_ints];exact rv)
  refine PyProof.Rows.sorted_ints pl.isList hI (by omega) λo2 ns' h1 h2 h3=>?_
  have e3:=zcw h2 h3
  subst e3
  have z1:ya ((zgk ns).map V.int) o2.toList:=Vk h1
  have:=fin ((zgk ns).map V.int) o2.toList (by rw[List.length_map,h2.length_eq];rw[List.length_map]at h64;omega) z1 (.ints _)
  simpa using this
theorem zd0 {p:Pos} {f:Ev->Option (List D)} (hc:X.calm=true) (hgl:Gl X "sorted") (hm:X.mg "sorted"=none) (ha:AD X [e] f)
 (he:starEach [e] X.env=(false,eval e X.env)::starEach [] X.env:=by rfl) (hpl:(backTo pos (starEach [] X.env)).any (·.1)=false:=by rfl):FL X (.Call (.Name "sorted" p) [e] [] pos) (fFn Vz f):=by
 obtain⟨t,pa,ra⟩:=ha
 refine⟨_,ZE (VS hc) hgl hm VW pa (by decide) (by decide) he hpl,fun σ ρ F H z Q s va e q=>?_⟩
 obtain⟨ds,e1,e2⟩:=Option.bind_eq_some_iff.mp e
 refine ra σ ρ F H ds _ s va e1 λF1 H1 vs g1 a1=>?_
 have e2':=e2
 unfold Vz at e2'
 split at e2'
 .obtain⟨x,r,rfl,ax,ar⟩:=a1.cons_inv
  cases ar.nil_inv
  obtain⟨p,ys,rfl,hx,bl⟩:=ax.lst_inv
  exact⟨F1,p,ys,_,z,rfl,g1.fh,g1.fh _ _ hx,bl,e2,λl zs hl az=>q _ _ _ _ (g1.trans (Gr.hide g1.fh hl _)) (YV g1 hl) (g1.fh.free hl) zk az⟩
 .cases e2'
end
end Dl
namespace Dl
open PySem L2
noncomputable def zlp:D->Option Key
 | .int i=>some (.inl i)
 | .str x=>some (.inr x)
 | _=>none
noncomputable def zcb:List D->Option (List Key)
 | []=>some []
 | d::ds=>(zlp d).bind λk=>(zcb ds).map (k::·)
noncomputable def zeR:D->Option (List Key)
 | .tup ds=>zcb ds
 | _=>none
noncomputable def zhH (t:Bool)(d:D):Option (List Key):=if t=true then zeR d else (zlp d).map ([·])
noncomputable def intQ:Int->Int->Bool
 | .ofNat a,.ofNat b=>Nat.beq a b
 | .negSucc a,.negSucc b=>Nat.beq a b
 | _,_=>false
theorem zbS {a b:Int}:intQ a b=true↔a=b:=by
 cases a with
 | ofNat a=>cases b with
  | ofNat b=>exact⟨λh=>(by rw[Nat.eq_of_beq_eq_true h]),λh=>(by cases h;exact Nat.beq_refl a)⟩
  | negSucc b=>exact⟨λh=>(by cases h),λh=>(by cases h)⟩
 | negSucc a=>cases b with
  | ofNat b=>exact⟨λh=>(by cases h),λh=>(by cases h)⟩
  | negSucc b=>exact⟨λh=>(by rw[Nat.eq_of_beq_eq_true h]),λh=>(by cases h;exact Nat.beq_refl a)⟩
noncomputable def zfv:Key->Key->Bool
 | .inl i,.inl j=>intQ i j
 | .inr a,.inr b=>decide (a=b)
 | _,_=>false
noncomputable def zkT:List Key->List Key->Bool
 | [],[]=>true
 | a::r,b::s=>match zfv a b with
  | true=>zkT r s
  | false=>false
 | _,_=>false
theorem Vs {a b:Key}:zfv a b=true↔a=b:=by
 cases a with
 | inl i=>cases b with
  | inl j=>exact⟨λh=>(by rw[zbS.mp h]),λh=>(by cases h;exact zbS.mpr rfl)⟩
  | inr b=>exact⟨λh=>(by cases h),λh=>(by cases h)⟩
 | inr i=>cases b with
  | inl j=>exact⟨λh=>(by cases h),λh=>(by cases h)⟩
  | inr b=>exact⟨λh=>(by rw[of_decide_eq_true h]),λh=>(by cases h;exact decide_eq_true rfl)⟩
theorem zbG {x y:List Key}:zkT x y=true↔x=y:=by
 induction x generalizing y with
 | nil=>cases y with
  | nil=>exact⟨λ_=>rfl,λ_=>rfl⟩
  | cons b s=>exact⟨λh=>(by cases h),λh=>(by cases h)⟩
 | cons a r ih=>cases y with
  | nil=>exact⟨λh=>(by cases h),λh=>(by cases h)⟩
  | cons b s =>
   show(match zfv a b with | true=>zkT r s | false=>false)=true↔_
   cases h:zfv a b with
   | true=>rw[Vs.mp h];exact ih.trans ⟨λh=>(by rw[h]),λh=>(by cases h;rfl)⟩
   | false=>exact⟨λh=>(by cases h),λe=>(by cases e;rw[Vs.mpr rfl]at h;cases h)⟩
noncomputable def zdI (x y:List Key):Decidable (x=y):=match h:zkT x y with
 | true=>.isTrue (zbG.mp h)
 | false=>.isFalse λe=>by rw[zbG.mpr e]at h;cases h
noncomputable def YQ:List (List Key)->List D->List Key->Option D
 | k'::ks,v::vs,k=>@ite _ (k'=k) (zdI k' k) (some v) (YQ ks vs k)
 | _,_,_=>none
noncomputable def zkH:List (List Key)->List D->List Key->D->List D
 | k'::ks,v::vs,k,d=>(@ite _ (k'=k) (zdI k' k) d v)::zkH ks vs k d
 | _,_,_,_=>[]
noncomputable def VB (ks:List (List Key))(vs:List D)(k:List Key):List (List Key):=if (YQ ks vs k).isSome=true then ks else ks++[k]
noncomputable def zaa (ks:List (List Key))(vs:List D)(k:List Key)(d:D):List D:=if (YQ ks vs k).isSome=true then zkH ks vs k d else vs++[d]
theorem Yj {k' k:List Key}{ks:List (List Key)}{v:D}{vs:List D}:YQ (k'::ks) (v::vs) k=if k'=k then some v else YQ ks vs k:=by
 show @ite _ (k'=k) (zdI k' k) (some v) (YQ ks vs k)=_
 by_cases h:k'=k
 .rw[if_pos h,if_pos h]
 .rw[if_neg h,if_neg h]
section
variable [KK]
theorem zaE {F:Hp}{d:D}{k:Key}{y:V}(h:zlp d=some k)(a:At F d y):y=kV k:=by
 cases d with
 | int i=>cases h;exact a.int_inv
 | str x=>cases h;exact a.str_inv
 | _=>cases h
theorem zbF {F:Hp}:∀ {ds:List D} {ks:List Key} {ys:List V},zcb ds=some ks->AtL F ds ys->ys=ks.map kV
 | [],_,_,h,a=>by cases h;exact a.nil_inv
 | d::ds,_,_,h,a=>by
  obtain⟨k,h1,h2⟩:=Option.bind_eq_some_iff.mp h
  obtain⟨r,h3,rfl⟩:=Option.map_eq_some_iff.mp h2
  obtain⟨x,xs,rfl,a1,a2⟩:=a.cons_inv
  rw[zaE h1 a1,zbF h3 a2]
  rfl
theorem zat {F:Hp}{d:D}{k:List Key}{y:V}(h:zeR d=some k)(a:At F d y):∃ b,y=.ref b/\F b=some (.tup (k.map kV)):=by
 cases d with
 | tup ds =>
  obtain⟨b,ys,rfl,hb,al⟩:=a.tup_inv
  rw[zbF (show zcb ds=some k from h) al]at hb
  exact⟨b,rfl,hb⟩
 | _=>cases h
section
variable {κ:Type}[DecidableEq κ](f:κ->List Key)(hf:∀ a b,f a=f b->a=b)
include hf
theorem WW {F:Hp}{k:κ}:∀ {kvs:List (κ × V)} {vs:List D},AtL F vs (kvs.map (·.2)) ->
 (∀ d,YQ (kvs.map λp=>f p.1) vs (f k)=some d->∃ x,zbU kvs k=some x/\At F d x)/\(YQ (kvs.map λp=>f p.1) vs (f k)=none->zbU kvs k=none)
 | [],_,_=>⟨λd h=>(by cases h),λ_=>rfl⟩
 | p::kvs,[],a=>by cases a.nil_inv
 | p::kvs,v::vs,a=>by
  obtain⟨x,r,e,a1,a2⟩:=a.cons_inv
  cases e
  have ih:=WW (k:=k) a2
  by_cases h:p.1=k
  .rw[ZD h]
   have e:YQ ((p::kvs).map λp=>f p.1) (v::vs) (f k)=some v:=by
    rw[List.map_cons,Yj,if_pos (by rw[h])]
   rw[e]
   exact⟨λd z=>(by cases z;exact⟨_,rfl,a1⟩),λz=>(by cases z)⟩
  .rw[ZH h]
   have e:YQ ((p::kvs).map λp=>f p.1) (v::vs) (f k)=YQ (kvs.map λp=>f p.1) vs (f k):=by
    rw[List.map_cons,Yj,if_neg (λz=>h (hf _ _ z))]
   rw[e]
   exact ih
theorem zfL {F:Hp}{k:κ}{kvs:List (κ × V)}{vs:List D}(a:AtL F vs (kvs.map (·.2))):(YQ (kvs.map λp=>f p.1) vs (f k)).isSome=(zbU kvs k).isSome:=by
 obtain⟨h1,h2⟩:=WW f hf (k:=k) a
 cases h:YQ (kvs.map λp=>f p.1) vs (f k) with
 | none=>rw[h2 h];rfl
 | some d=>obtain⟨x,e,_⟩:=h1 d h;rw[e];rfl
theorem zej {F:Hp}{k:κ}{d:D}{y:V}(ad:At F d y):∀ {kvs:List (κ × V)} {vs:List D},AtL F vs (kvs.map (·.2)) ->
 AtL F (zkH (kvs.map λp=>f p.1) vs (f k) d) ((kvs.map λkv=>if kv.1=k then (kv.1,y)else kv).map (·.2))
 | [],_,_=>by unfold zkH;exact .nil
 | p::kvs,[],a=>by cases a.nil_inv
 | p::kvs,v::vs,a=>by
  obtain⟨x,r,e,a1,a2⟩:=a.cons_inv
  cases e
  have ih:=zej (k:=k) ad a2
  rw[List.map_cons,List.map_cons]
  refine AtL.cons ?_ ih
  by_cases h:p.1=k
  .rw[if_pos h,if_pos (by rw[h])];exact ad
  .rw[if_neg h,if_neg (λz=>h (hf _ _ z))];exact a1
theorem zeC {F:Hp}{k:κ}{d:D}{y:V}(ad:At F d y){kvs:List (κ × V)}{vs:List D}(a:AtL F vs (kvs.map (·.2))) :
 (zas kvs k y).map (λp=>f p.1)=VB (kvs.map λp=>f p.1) vs (f k)/\AtL F (zaa (kvs.map λp=>f p.1) vs (f k) d) ((zas kvs k y).map (·.2)):=by
 unfold zas VB zaa
 rw[zfL f hf a,WT]
 cases h:(zbU kvs k).isSome with
 | true =>
  rw[if_pos rfl,if_pos rfl,if_pos rfl]
  refine⟨?_,zej f hf ad a⟩
  rw[List.map_map]
  refine List.map_congr_left λp _=>?_
  by_cases e:p.1=k
  .show f (if p.1=k then (p.1,y)else p).1=_;rw[if_pos e]
  .show f (if p.1=k then (p.1,y)else p).1=_;rw[if_neg e]
 | false =>
  rw[if_neg Bool.false_ne_true,if_neg Bool.false_ne_true,if_neg Bool.false_ne_true,List.map_append,List.map_append]
  exact⟨rfl,a.append (.cons ad .nil)⟩
end
theorem zdu (a b:Key)(h:[a]=[b]):a=b:=by cases h;rfl
theorem zgU (a b:List Key)(h:a=b):a=b:=h
theorem zhi {F H:Hp}{a:Addr}{z t:Bool}{ks:List (List Key)}{xs:List V}{vs:List D}{kd:D}{k:List Key}{y:V}(s:yf F H)(hd:Wx F a z t ks xs)(al:AtL F vs xs)(hk:zhH t kd=some k)(ak:At F kd y) :
 ∃ o,zlO H a y o/\(∀ d,YQ ks vs k=some d->∃ x,o=some x/\At F d x)/\(YQ ks vs k=none->o=none):=by
 obtain⟨u,hd,rd⟩:=(hd.mono s).rd
 unfold zbQ at hd
 unfold zhH at hk
 cases t with
 | true =>
  rw[if_pos rfl]at hd hk
  obtain⟨kvs,rfl,rfl,rfl⟩:=hd
  obtain⟨b,rfl,hb⟩:=zat hk ak
  exact⟨_,.inr ⟨kvs,k,b,rd,rfl,s _ _ hb,rfl⟩,WW (λk=>k) zgU al⟩
 | false =>
  rw[if_neg Bool.false_ne_true]at hd hk
  obtain⟨kvs,rfl,rfl,rfl⟩:=hd
  obtain⟨k0,h2,rfl⟩:=Option.map_eq_some_iff.mp hk
  rw[zaE h2 ak]
  exact⟨_,.inl ⟨kvs,k0,rd,rfl,rfl⟩,WW (λk=>[k]) zdu al⟩
theorem zih {F H:Hp}{a:Addr}{o:HO}{t:Bool}{ks:List (List Key)}{xs:List V}{vs:List D}{kd d:D}{k:List Key}{y v:V}{G:Hp}(h:H a=some o)(hd:zbQ o t ks xs)(al:AtL F vs xs)(hk:zhH t kd=some k)(ak:At G kd y)(s:yf G H)(ad:At F d v)
 (hl:ks.length < sizeLine):∃ o',zfM H a y v (upd H a o')/\zcu F o' (.m t (VB ks vs k) (zaa ks vs k d)):=by
 unfold zbQ at hd
 unfold zhH at hk
 cases t with
 | true =>
  rw[if_pos rfl]at hd hk
  obtain⟨kvs,rfl,rfl,rfl⟩:=hd
  obtain⟨b,rfl,hb⟩:=zat hk ak
  obtain⟨q1,q2⟩:=zeC (λk=>k) zgU (k:=k) ad al
  refine⟨_,zfM.t h (s _ _ hb) (by simpa using hl),_,?_,q2⟩
  unfold zbQ
  rw[if_pos rfl]
  exact⟨_,rfl,q1,rfl⟩
 | false =>
  rw[if_neg Bool.false_ne_true]at hd hk
  obtain⟨kvs,rfl,rfl,rfl⟩:=hd
  obtain⟨k0,h2,rfl⟩:=Option.map_eq_some_iff.mp hk
  rw[zaE h2 ak]
  obtain⟨q1,q2⟩:=zeC (λk=>[k]) zdu (k:=k0) ad al
  refine⟨_,zfM.k h (by simpa using hl),_,?_,q2⟩
  unfold zbQ
  rw[if_neg Bool.false_ne_true]
  exact⟨_,rfl,q1,rfl⟩
noncomputable def dgetD:D->D->Option D
 | .dct _ t ks vs,kd=>(zhH t kd).bind λk=>YQ ks vs k
 | _,_=>none
noncomputable def zkG (neg:Bool):D->D->Option D
 | kd,.dct _ t ks vs=>(zhH t kd).map λk=>.bl (neg != (YQ ks vs k).isSome)
 | _,_=>none
section
variable {X:Cx}{a b c:Expr}{pos apos:Pos}
noncomputable def rDIn (neg:Bool):R2:=λx y H Q=>∃ a o,y=.ref a/\zlO H a x o/\Q (.bl (neg != o.isSome)) H
theorem zc1 {k:Nat}(hr:YH k X.A):OpR X (compareOp .NotIn) (rDIn true):=by
 intro pins s σ H x y v u Q I rx ry h
 obtain⟨a,o,rfl,g,q⟩:=h
 obtain rfl:u=Value.ref a:=ry
 exact zhX (zir hr) I g rx λs3 I3=>⟨.bl (!o.isSome),H,I3,rfl,by simpa using q⟩
theorem zhI {neg:Bool}:OpD (rDIn neg) (zkG neg):=by
 intro F H x y d e z Q s a1 a2 h q
 cases e with
 | dct z' t ks vs =>
  obtain⟨k,h1,rfl⟩:=Option.map_eq_some_iff.mp h
  obtain⟨p,xs,rfl,hd,al⟩:=a2.dct_inv
  obtain⟨o,hg,h3,h4⟩:=zhi s hd al h1 a1
  refine⟨p,o,rfl,hg,?_⟩
  have e:(YQ ks vs k).isSome=o.isSome:=by
   cases h:YQ ks vs k with
   | none=>rw[h4 h];rfl
   | some d=>obtain⟨w,rfl,_⟩:=h3 d h;rfl
  rw[<-e]
  exact q F H _ (.refl s) .bl
 | _=>cases h
end
section
variable {X:Cx}{a e ko:Expr}{pos pos':Pos}{st:Stmt}
noncomputable def zf1 (ρ:SE)(i:Nat)(kd d:D):Option SE:=match ρ[i]? with
 | some (.m t ks vs)=>(zhH t kd).bind λk=>if decide (ks.length < sizeLine)=true then some (ρ.set i (.m t (VB ks vs k) (zaa ks vs k d)))else none
 | _=>none
noncomputable def zaU (m:Bool)(i:Nat)(fk fe:Ev->Option D):SE->Ctl:=fun ρ=>match (vEv m fe ρ).bind λd=>(fk (visG ρ)).bind λkd=>zf1 ρ i kd d with
 | some ρ'=>.nx ρ'
 | none=>.no
theorem zia {k:Nat}{m:Bool}{i:Nat}{fk fe:Ev->Option D}(hr:YH k X.A)(he:ED X e fe)(ho:PE X a (XU i))(hk:ED X ko fk)(hs:swapsWith e (some (.Subscript a ko pos')) pos.line X.env=pure false:=by rfl):SD X (.Assign [.Subscript a ko pos'] e pos) (zaU m i fk fe):=by
 obtain⟨t,p,r⟩:=he
 obtain⟨tk,pk,rk⟩:=hk
 refine⟨_,zh7 (zir hr) ho pk p hs,λFb Hb F H ρ σ E rl k=>?_⟩
 unfold zaU at k
 cases h:(vEv m fe ρ).bind λd=>(fk (visG ρ)).bind λkd=>zf1 ρ i kd d with
 | none=>rw[h]at k;exact k.elim
 | some ρ' =>
  rw[h]at k
  obtain⟨d,e1,e2⟩:=Option.bind_eq_some_iff.mp h
  obtain⟨kd,e3,e2⟩:=Option.bind_eq_some_iff.mp e2
  unfold zf1 at e2
  split at e2
  .rename_i tt ks vs hs
   obtain⟨kk,e4,e5⟩:=Option.bind_eq_some_iff.mp e2
   have hl:decide (ks.length < sizeLine)=true:=by
    cases hh:decide (ks.length < sizeLine) with
    | true=>rfl
    | false=>rw[hh,if_neg Bool.false_ne_true]at e5;cases e5
   rw[if_pos hl]at e5
   cases e5
   refine r.at rl e1 λF' H' v g av=>?_
   have rl2:=rl.grow g
   obtain⟨q,o,f1,_⟩:=rl2.ows i _ hs rfl
   refine⟨_,f1,?_⟩
   refine rk σ _ _ H' _ _ rl2.gh rl2.visG e3 λF3 H3 v3 g3 av3=>?_
   obtain⟨gb,_⟩:=rl2.back g3
   have rl3:=rl2.grow gb
   obtain⟨q3,o3,f1',_,_,f4,xs,f5,f6⟩:=rl3.ows i _ hs rfl
   rw[f1]at f1'
   cases f1'
   obtain⟨o',hp,hw⟩:=zih f4 f5 f6 e4 av3 g3.fh (av.mono gb.ff) (of_decide_eq_true hl)
   exact⟨q,_,rfl,hp,k _ _ σ (rl3.mutW hs rfl f1 hw)⟩
  .cases e2
end
end
end Dl
namespace Dl
open PySem L2
variable [KK]
section
variable {X:Cx}
noncomputable def rNeL:R2:=λx y H Q=>∃ F ds es,yf F H/\At F (.lst ds) x/\At F (.lst es) y/\okE 20 (.lst ds)=true/\okE 20 (.lst es)=true/\Q (.bl (!eqN 20 (.lst ds) (.lst es))) H
theorem zjw {k:Nat}(hr:YH k X.A):OpR X (compareOp .NotEq) rNeL:=by
 intro pins s σ H x y v u Q I rx ry h
 obtain⟨F,ds,es,sm,a1,a2,k1,k2,q⟩:=h
 have hu:X.A.units+30 < cLine:=by have:=hr.un;omega
 obtain⟨p,xs,rfl,hx,al⟩:=a1.lst_inv
 obtain⟨p2,ys,rfl,hy,bl⟩:=a2.lst_inv
 cases rx
 cases ry
 obtain⟨its,r,ht,hz⟩:=I.list (SqL.of (sm _ _ hx))
 obtain⟨its2,r2,ht2,hz2⟩:=I.list (SqL.of (sm _ _ hy))
 have hl1:its.toArray.size=ds.length:=by rw[List.size_toArray,<- r.length,al.length]
 have hl2:its2.toArray.size=es.length:=by rw[List.size_toArray,<- r2.length,bl.length]
 have e1:eqN 20 (.lst ds) (.lst es)=((List.range (min ds.length es.length)).all (λj=>eqN 19 (ds.getD j .non) (es.getD j .non))&&ds.length == es.length):=by
  show((List.zipWith (eqN 19) ds es).all id&&ds.length == es.length)=_
  rw[WM]
 by_cases hle:ds.length=es.length
 .refine SeqAt.RcNeAt.lists (e:=λj=>eqN 19 (ds.getD j .non) (es.getD j .non)) ht.isList ht2.isList (by rw[hl1,hl2];exact hle) (Nat.lt_of_le_of_lt (Nat.le_add_right _ 30) hu) (λj g1 g2=>?_) _ _ _ _ ⟨.bl _,H,I,rfl,?_⟩
  .obtain⟨x',ax,rx⟩:=al.nth r (j:=j) (by simpa using g1)
   obtain⟨y',ay,ry⟩:=bl.nth r2 (j:=j) (by simpa using g2)
   exact zbA I sm 19 (xX k1 (by rw[<-hl1];exact g1)) (xX k2 (by rw[<-hl2];exact g2)) ax ay (by simpa using rx) (by simpa using ry) (Nat.lt_of_le_of_lt (show X.A.units+20<=X.A.units+30 from Nat.add_le_add_left (by decide) _) hu)
  .rw[hl1]
   rw[e1,<- hle,Nat.min_self]at q
   simpa using q
 .refine SeqAt.RcNeAt.lists_lengths ht.isList ht2.isList (by rw[hl1,hl2];simpa using hle) (Nat.lt_of_le_of_lt (Nat.le_add_right _ 30) hu) _ _ _ _ ⟨.bl _,H,I,rfl,?_⟩
  have:(ds.length == es.length)=false:=by simpa using hle
  rw[e1,this,Bool.and_false]at q
  exact q
end
noncomputable def zi8:D->D->Option D
 | .lst ds,.lst es=>if (okE 20 (.lst ds)&&okE 20 (.lst es))=true then some (.bl (!eqN 20 (.lst ds) (.lst es)))else none
 | _,_=>none
theorem zhz:OpD rNeL zi8:=by
 intro F H x y d e z Q s ax ay ez q
 unfold zi8 at ez
 split at ez
 .split at ez <;> cases ez
  rename_i hk
  rw[Bool.and_eq_true]at hk
  exact⟨F,_,_,s,ax,ay,hk.1,hk.2,q F H _ (.refl s) .bl⟩
 .cases ez
end Dl
namespace L2
open PySem PySem.Spec PyProof.Rows
section
variable {prog:Program}{w:World}{A:Around}{E:Value->Shared->Prop}{s:Shared}{d it:Addr}{o:Obj}{es:Array DictEntry}{ep i:Nat}
theorem raw_iter {Q:Value->Shared->Prop}(hs:(d == sysModules)=false)(ho:s.heap.get? d=some o)(hc:o.ExactDict)(hd:o.data=.dict es ep)
 (hQ:Q (.ref s.heap.objs.size) { s with heap:=s.heap.push { cls:=.type "dict_keyiterator",data:=.fields #[.ref d,.int 0 0,.int es.size 0,.int ep 0] } }):wpAny (model prog w) A (pyIter (.ref d)) Q E s:=by
 have hT:s.TypeIs (.ref d) "dict":=⟨o,ho,hc.1⟩
 refine wpAny_pyIter_slot hT PySem.F.slot_dict_iter (wpAny_call_entry PySem.F.slot_dict_iter hT PySem.F.entry_dict_iter ?_ (PySem.F.args_dict_iter_1 _))
 unfold Builtin.«dict.__iter__»
 refine wpAny_bind ?_
 unfold Builtin.Dict.dictSlotNone
 refine wpAny_bind (wpAny_notOrdered_dict hT ?_)
 show wpAny _ _ (pure (Value.ref d)) _ _ s
 refine wpAny_pure ?_
 show wpAny _ _ (Builtin.Dict.showsAll d>>=_) _ _ s
 unfold Builtin.Dict.showsAll
 rw[if_neg (by rw[hs];exact Bool.false_ne_true)]
 refine wpAny_bind (wpAny_pure (wpAny_bind (wpAny_dictEntries ho hd (wpAny_bind (wpAny_dictEpoch ho hd ?_)))))
 refine wpAny_bind (wpAny_newObj_type (wpAny_pure ⟨_,rfl,"dict_keyiterator",_,⟨_,Heap.get?_push_size _ rfl,rfl⟩,PySem.F.slot_dict_keyiterator_next.lookup,?_⟩))
 simpa [rawInt]using hQ
theorem raw_next {e:DictEntry}{Q:Option Value->Shared->Prop}(hit:s.heap.IsKeyIter it d i es.size ep)(ho:s.heap.get? d=some o)(hd:o.data=.dict es ep)(hx:es[i]?=some e)
 (hQ:∀ h',h'.IsKeyIter it d (i+1) es.size ep->Heap.SameBut it s.heap h'->Q (some e.key) { s with heap:=h' }):wpAny (model prog w) A (pyNext (.ref it)) Q E s:=by
 obtain⟨oi,hoi,hci,hdi⟩:=id hit
 unfold pyNext
 refine wpAny_bind (wpAny_attempt (wpAny_callSpecial?_slot (name:=Str.ofString "__next__") hit.typeIs PySem.F.slot_dict_keyiterator_next
  (wpAny_call_entry PySem.F.slot_dict_keyiterator_next hit.typeIs PySem.F.entry_dict_keyiterator_next ?_ (PySem.F.args_dict_keyiterator_next_1 _))))
 refine wpAny_bind (wpAny_pure ?_)
 refine wpAny_bind ?_
 refine wpAny_bind ?_
 first | refine wpAny_bind (wpAny_typeNameOfWhole_keyiter hit.typeIs (wpAny_pure ?_)) | refine wpAny_bind (wpAny_typeNameOf_keyiter hit.typeIs (wpAny_pure ?_))
 refine wpAny_bind (wpAny_fieldsOf hoi hdi ?_)
 have hown:Builtin.Dict_items.ownsTuple "dict_keyiterator"=false:=by decide
 simp only[hown,Bool.false_eq_true,if_false]
 show wpAny _ _ (if (Value.ref d == Value.none)=true then _ else _) _ _ s
 rw[if_neg (show ¬ ((Value.ref d == Value.none)=true)from Bool.false_ne_true)]
 refine wpAny_bind (wpAny_pure (wpAny_bind (wpAny_dictEntries ho hd ?_)))
 rw[if_neg (by simp)]
 refine wpAny_bind (wpAny_pure (wpAny_bind (wpAny_dictEpoch ho hd ?_)))
 rw[if_neg (by simp)]
 refine wpAny_pure ?_
 simp only[show ¬ ((i:Int) < 0)from by omega,if_false,Int.toNat_natCast,hx]
 refine wpAny_bind ?_
 first | refine wpAny_bind (wpAny_typeNameOfWhole_keyiter hit.typeIs (wpAny_pure ?_)) | refine wpAny_bind (wpAny_typeNameOf_keyiter hit.typeIs (wpAny_pure ?_))
 refine wpAny_bind (wpAny_isOneOf_keyiter hit.typeIs ?_)
 show wpAny _ _ (setField (.ref it) 1 (rawInt ((i:Int)+1))>>=_) _ _ s
 refine wpAny_bind (wpAny_setField hoi hdi (by simp) ?_)
 have hit':(s.heap.update it (Obj.mapFields (·.setIfInBounds 1 (rawInt ((i:Int)+1))))).IsKeyIter it d (i+1) es.size ep :=
  ⟨_,Heap.get?_update_self _ hoi (Obj.isFreed_of_fields (Obj.data_mapFields hdi _)),(Obj.cls_mapFields ..).trans hci,by rw[Obj.data_mapFields hdi];simp[rawInt]⟩
 refine wpAny_bind (wpAny_holding ?_)
 refine wpAny_bind (wpAny_isOneOf_keyiter (s:={ s with heap:=s.heap.update it (Obj.mapFields (·.setIfInBounds 1 (rawInt ((i:Int)+1)))) }) hit'.typeIs ?_)
 show wpAny _ _ (pure e.key) _ _ _
 exact wpAny_pure (wpAny_pure ⟨_,rfl,wpAny_pure (hQ _ hit' (Heap.SameBut.update ..))⟩)
theorem raw_end {Q:Option Value->Shared->Prop}(hh:A.handled=none)(hit:s.heap.IsKeyIter it d i es.size ep)(ho:s.heap.get? d=some o)(hd:o.data=.dict es ep)(hx:es.size<=i)
 (hQ:∀ h',Heap.ExtBut it s.heap h'->Q none { s with heap:=h' }):wpAny (model prog w) A (pyNext (.ref it)) Q E s:=by
 obtain⟨oi,hoi,hci,hdi⟩:=id hit
 unfold pyNext
 refine wpAny_bind (wpAny_attempt (wpAny_callSpecial?_slot (name:=Str.ofString "__next__") hit.typeIs PySem.F.slot_dict_keyiterator_next
  (wpAny_call_entry PySem.F.slot_dict_keyiterator_next hit.typeIs PySem.F.entry_dict_keyiterator_next ?_ (PySem.F.args_dict_keyiterator_next_1 _))))
 refine wpAny_bind (wpAny_pure ?_)
 refine wpAny_bind ?_
 refine wpAny_bind ?_
 first | refine wpAny_bind (wpAny_typeNameOfWhole_keyiter hit.typeIs (wpAny_pure ?_)) | refine wpAny_bind (wpAny_typeNameOf_keyiter hit.typeIs (wpAny_pure ?_))
 refine wpAny_bind (wpAny_fieldsOf hoi hdi ?_)
 have hown:Builtin.Dict_items.ownsTuple "dict_keyiterator"=false:=by decide
 simp only[hown,Bool.false_eq_true,if_false]
 show wpAny _ _ (if (Value.ref d == Value.none)=true then _ else _) _ _ s
 rw[if_neg (show ¬ ((Value.ref d == Value.none)=true)from Bool.false_ne_true)]
 refine wpAny_bind (wpAny_pure (wpAny_bind (wpAny_dictEntries ho hd ?_)))
 rw[if_neg (by simp)]
 refine wpAny_bind (wpAny_pure (wpAny_bind (wpAny_dictEpoch ho hd ?_)))
 rw[if_neg (by simp)]
 refine wpAny_pure ?_
 simp only[show ¬ ((i:Int) < 0)from by omega,if_false,Int.toNat_natCast,Array.getElem?_eq_none hx]
 refine wpAny_bind ?_
 first | refine wpAny_bind (wpAny_typeNameOfWhole_keyiter hit.typeIs (wpAny_pure ?_)) | refine wpAny_bind (wpAny_typeNameOf_keyiter hit.typeIs (wpAny_pure ?_))
 show wpAny _ _ (setField (.ref it) 0 .none>>=_) _ _ s
 refine wpAny_bind (wpAny_setField hoi hdi (by simp) ?_)
 show wpAny _ _ (newExc (.type "StopIteration") []>>=_) _ _ _
 refine wpAny_bind ?_
 simp only[newExc,newTuple]
 refine wpAny_bind (wpAny_newObj_type ?_ (by size_fits))
 refine wpAny_bind (m:=firstArgMember _ _) (wpAny_of_eq (a:=Value.none) (by first | rfl | (simp only[firstArgMember];rfl)) ?_)
 refine wpAny_newObj_type ?_ (by size_fits)
 simp only[raiseNew]
 refine wpAny_bind (wpAny_handled ?_)
 rw[show A.in1.handled=none from hh]
 refine wpAny_bind (wpAny_pure (wpAny_throw ?_))
 refine wpAny_bind (wpAny_isInstance (T:="StopIteration") (b:=true) ⟨_,Heap.get?_push_size _ rfl,rfl⟩ isSubtype_stop ?_)
 exact wpAny_pure (hQ _ (((Heap.SameBut.update ..).extBut.push _).push _))
end
noncomputable def dLen:HO->Nat
 | .dK kvs=>kvs.length
 | .dT kvs=>kvs.length
 | _=>0
noncomputable def zgj (u:HO):Prop:=(∃ kvs,u=.dK kvs)\/∃ kvs,u=.dT kvs
section
variable {X:Cx}{tg:Expr}
theorem Inv.frz {pins:List (Addr × Obj)}{σ:St}{H:Hp}{s:Shared}{p:Addr}{u:HO}(I:Inv X pins σ H s)(e:H p=some u)(hu:zgj u):∃ ob,Inv X pins σ (upd H p (.frz ob u)) s:=by
 have ok:=I.hok p u e
 have mu:Mut (H p):=by
  rw[e]
  rcases hu with ⟨kvs,rfl⟩ | ⟨kvs,rfl⟩ <;> exact True.intro
 rcases hu with ⟨kvs,rfl⟩ | ⟨kvs,rfl⟩
 .obtain⟨z,sys,vs,kv,o,es,ep,e1,r⟩:=ok
  refine⟨o,I.write (h':=s.heap) (t':=s.toks) mu (.inl rfl) (λb u _ e=>e) ⟨o,e1⟩ ⟨e1,z,sys,vs,kv,o,es,ep,e1,r⟩⟩
 .obtain⟨z,sys,xs,pr,o,es,ep,e1,r⟩:=ok
  refine⟨o,I.write (h':=s.heap) (t':=s.toks) mu (.inl rfl) (λb u _ e=>e) ⟨o,e1⟩ ⟨e1,z,sys,xs,?_,o,es,ep,e1,r⟩⟩
  exact KT.keeps pr λb ys eb=>by
   rw[zm (zig eb e (λz=>nomatch z))]
   exact eb
noncomputable def tFrz (i:Nat)(t:TS):TS:=λE σ H=>∃ p u,σ[i]?=some (some (.ref p))/\H p=some u/\zgj u/\∀ ob,t E σ (upd H p (.frz ob u))
theorem zim {sts:List Stmt}{t:TS}(i:Nat)(h:PSs X sts t):PSs X sts (tFrz i t):=by
 intro pins s σ H E I q
 obtain⟨p,u,_,e,hu,q⟩:=q
 obtain⟨ob,I2⟩:=I.frz e hu
 exact h pins s σ _ E I2 (q ob)
noncomputable def zgq (z:Bool)(tk tv:TE):TE:=fun σ H Q=>∀ p,H p=none->tk σ (upd H p (.dT [])) λx H1=>tv σ H1 λy H2=>H2 p=some (.dT [])/\∃ b k,x=.ref b/\H2 b=some (.tup (k.map kV)) /\
 if z=true then ∀ ob,Q (.ref p) (upd H2 p (.frz ob (.dT [(k,y)])))else Q (.ref p) (upd H2 p (.dT [(k,y)]))
theorem ze0 {z:Bool}{k v:Expr}{pos:Pos}{tk tv:TE}(hu:X.A.units+1 < cLine)(hk:PE X k tk)(hv:PE X v tv):PE X (.Dict [some k] [v] pos) (zgq z tk tv):=by
 intro pins s σ H Q I q
 have hn:=I.hok.fresh (Nat.le_refl s.heap.objs.size)
 have I1:=I.laid (a:=s.heap.objs.size) (o:=.dT []) (h':=s.heap.push { cls:=.type "dict",data:=.dict #[] }) (t':=s.toks) (λ_ _ q=>Heap.get?_push_of_some _ q) (Nat.le_refl _) (zfy s.heap I.big)
 refine wpAny_Dict_any (by rfl) rfl (by simp) (by simp) ?_
 refine pairTrees_cons_walk (thn (hk pins _ σ _ _ I1 (q _ hn)) λu s1 ⟨x,H1,I1,rx,q1⟩=>thn (hv pins s1 σ H1 _ I1 q1) λw2 s2 hh9=>?_)
 obtain⟨y,H2,I2,ry,q2⟩:=hh9
 obtain⟨e,b,kk,ex,eb,q2⟩:=q2
 subst ex
 obtain rfl:u=Value.ref b:=rx
 refine pairTrees_nil_walk ?_
 unfold storeAll
 simp only[List.forIn_cons,List.forIn_nil]
 obtain⟨zz,hd,xs,rel,dd⟩:=zkx I2.hok e
 cases rel
 refine wpAny_bind (wpAny_bind (wpAny_dictSet_heap (hsz:=Nat.zero_le _) (show(tupleKind (yN X.prog X.w)).room X.A from Nat.lt_of_succ_lt hu) (zbw I2.hok eb) dd λh' dd' hs=>wpAny_pure (wpAny_pure ?_)))
 have dd2:=dd'
 obtain⟨q,es,ep,hq,h2,h3,h4,_,h5⟩:=dd'
 have I3:=zaP (t':=s2.toks+(tupleKind (yN X.prog X.w)).draws kk) (ob:=.dT [(kk,y)]) I2 (by rw[e];exact True.intro) hs ⟨q,hq⟩ ⟨by show 1<=sizeLine;decide,hd,_,((show KT H2 [] []from .nil).put kk eb ry).keeps λc ys ec=>by
  rw[zm (zig ec e (λz=>nomatch z))]
  exact ec,q,es,ep,hq,h2,h3,h4,h5⟩
 cases z with
 | false=>exact⟨.ref s.heap.objs.size,_,I3,rfl,by rw[if_neg Bool.false_ne_true]at q2;exact q2⟩
 | true =>
  rw[if_pos rfl]at q2
  obtain⟨ob,I4⟩:=I3.frz (p:=s.heap.objs.size) (u:=.dT [(kk,y)]) zk (.inr ⟨_,rfl⟩)
  rw[zav]at I4
  exact⟨.ref s.heap.objs.size,_,I4,rfl,q2 ob⟩
end
end L2
namespace Dl
open PySem L2
section
variable [KK]
theorem zij {u:HO}{t:Bool}{ks:List (List Key)}{xs:List V}(h:zbQ u t ks xs):zgj u/\dLen u=ks.length:=by
 unfold zbQ at h
 cases t with
 | true=>rw[if_pos rfl]at h;obtain⟨kvs,rfl,rfl,_⟩:=h;exact⟨.inr ⟨_,rfl⟩,by rw[List.length_map];rfl⟩
 | false=>rw[if_neg Bool.false_ne_true]at h;obtain⟨kvs,rfl,rfl,_⟩:=h;exact⟨.inl ⟨_,rfl⟩,by rw[List.length_map];rfl⟩
theorem Gr.see {F H:Hp}{b:Addr}{ys:List V}(s:yf F H)(h:H b=some (.tup ys)):∃ F',Gr F H F' H/\F' b=some (.tup ys):=by
 cases e:F b with
 | some o =>
  have:=s _ _ e
  rw[h]at this
  cases this
  exact⟨F,.refl s,e⟩
 | none =>
  refine⟨upd F b (.tup ys),⟨λp o z=>?_,λp o z=>?_,λp o z1 z2=>⟨?_,z2⟩⟩,zk⟩
  .rw[zm (zj z e)];exact z
  .by_cases hp:p=b
   .subst hp;rw[zk]at z;cases z;exact h
   .rw[zm hp]at z;exact s p o z
  .by_cases hp:p=b
   .subst hp
    rw[h]at z2
    cases z2
    exact .inr ⟨⟨_,rfl⟩,zk⟩
   .exact .inl (by rw[zm hp];exact z1)
section
variable {X:Cx}{tg a b e k v:Expr}{pos pos':Pos}{sts:List Stmt}
noncomputable def zlF (i:Nat)(g:SE->Ctl):SE->Ctl:=fun ρ=>match ρ[i]? with
 | some (.m t ks vs)=>g (ρ.set i (.v (.dct true t ks vs)))
 | _=>.no
theorem Rl.fzM {Fb Hb F H:Hp}{ρ:SE}{σ:St}{i:Nat}{t:Bool}{ks:List (List Key)}{vs:List D}(r:Rl Fb Hb F H ρ σ)(h:ρ[i]?=some (.m t ks vs)) :
 ∃ p u,σ[i]?=some (some (.ref p))/\H p=some u/\zgj u/\∀ ob,Rl Fb Hb (upd F p (.frz ob u)) (upd H p (.frz ob u)) (ρ.set i (.v (.dct true t ks vs))) σ:=by
 obtain⟨p,u,e1,e2,e3,e4,xs,hd,al⟩:=r.ows i _ h rfl
 refine⟨p,u,e1,e4,(zij hd).1,λob=>?_⟩
 have hi:i < ρ.length:=(List.getElem?_eq_some_iff.mp h).1
 have sF:yf F (upd F p (.frz ob u)):=λb o e=>by rw[zm (zj e e3)];exact e
 have nj:∀ {j:Nat} {s:Sl},(ρ.set i (.v (.dct true t ks vs)))[j]?=some s->s.isO=true->i≠j:=λ{j s} h ht e=>by
  subst e
  rw[List.getElem?_set_self hi]at h
  cases h
  cases ht
 refine⟨⟨r.gr.ff.trans sF,λb o z=>?_,λb o z1 z2=>?_⟩,λj d z=>?_,λj s z ht=>?_,λj k q s s' h1 h2 o1 o2 h3 h4=>?_,by simp[r.len]⟩
 .by_cases hb:b=p
  .subst hb;rw[zk]at z ⊢;exact z
  .rw[zm hb]at z ⊢;exact r.gr.fh b o z
 .have hb:b≠p:=zj z2 e2
  obtain⟨x,y⟩:=r.gr.kp b o z1 z2
  refine⟨?_,by rw[zm hb];exact y⟩
  unfold Hid
  rw[zm hb]
  exact x
 .by_cases hj:i=j
  .subst hj
   rw[List.getElem?_set_self hi]at z
   cases z
   refine⟨_,e1,?_⟩
   unfold At
   exact⟨p,xs,rfl,⟨u,hd,by rw[if_pos rfl];exact⟨ob,zk⟩⟩,al.mono sF⟩
  .rw[List.getElem?_set_ne hj]at z
   obtain⟨v,f1,f2⟩:=r.vals j d z
   exact⟨v,f1,f2.mono sF⟩
 .have hj:=nj z ht
  rw[List.getElem?_set_ne hj]at z
  obtain⟨q,y,f1,f2,f3,f4,f5⟩:=r.ows j s z ht
  have hq:q≠p:=λw=>hj (r.dis i j p _ s h z rfl ht e1 (by rw[<-w];exact f1))
  exact⟨q,y,f1,f2,by rw[zm hq];exact f3,by rw[zm hq];exact f4,f5.mono sF⟩
 .have a1:=nj h1 o1
  have a2:=nj h2 o2
  rw[List.getElem?_set_ne a1]at h1
  rw[List.getElem?_set_ne a2]at h2
  exact r.dis j k q s s' h1 h2 o1 o2 h3 h4
theorem zhS {g:SE->Ctl}(i:Nat)(h:SDs X sts g):SDs X sts (zlF i g):=by
 obtain⟨t,p,r⟩:=h
 refine⟨_,zim i p,λFb Hb F H ρ σ E rl k=>?_⟩
 unfold zlF at k
 split at k
 .rename_i tt ks vs hs
  obtain⟨q,u,e1,e2,e3,e4⟩:=rl.fzM hs
  exact⟨q,u,e1,e2,e3,λob=>r Fb Hb _ _ _ σ E (e4 ob) k⟩
 .exact k.elim
theorem zeH {z:Bool}{tk tv:TE}{fk fv:Ev->Option D}{σ:St}{ρ:Ev}{F H:Hp}{kd d:D}{kk:List Key}{Q:VK}(rk:RE tk fk)(rv:RE tv fv)(s:yf F H)(va:VAt F ρ σ)(e1:fk ρ=some kd)(e2:fv ρ=some d)(e3:zeR kd=some kk)
 (q:∀ F2 H2 p y,Gr F H F2 H2->H p=none->F2 p=none->H2 p=some (.dT [])->At F2 d y->if z=true then ∀ ob,Q (.ref p) (upd H2 p (.frz ob (.dT [(kk,y)])))else Q (.ref p) (upd H2 p (.dT [(kk,y)]))):zgq z tk tv σ H Q:=by
 intro p hp
 have g0:=Gr.hide s hp (.dT [])
 refine rk σ ρ F _ kd _ g0.fh va e1 λF1 H1 x g1 a1=>?_
 refine rv σ ρ F1 H1 d _ g1.fh (va.mono g1.ff) e2 λF2 H2 y g2 a2=>?_
 have g12:=g1.trans g2
 obtain⟨n2,h2⟩:=g12.kl (o:=.dT []) (λ_ e=>by cases e) (s.free hp) zk
 obtain⟨b,rfl,hb⟩:=zat e3 a1
 exact⟨h2,b,kk,rfl,g2.fh _ _ (g2.ff _ _ hb),q F2 H2 p y (g0.trans g12) hp n2 h2 a2⟩
noncomputable def zeX (i:Nat)(fk fv:Ev->Option D):SE->Ctl:=fun ρ=>match (fk (visF ρ)).bind λkd=>(fv (visF ρ)).bind λd=>(zeR kd).map λk=>Sl.m true [k] [d] with
 | some s=>.nx (ρ.set i s)
 | none=>.no
theorem zhA {n i:Nat}{x:Str}{fk fv:Ev->Option D}(hr:YH n X.A)(hN:X.N.Nodup)(hi:X.N[i]?=some x)(hx:Loc X.env.scope x)(hk:ED X k fk)(hv:ED X v fv){p2:Pos}
 (hs:swapsWith (.Dict [some k] [v] p2) (some (.Name x pos')) pos.line X.env=pure false:=by rfl)
 (hf:X.fn x=true\/X.env.scope.names.lookup x=some .local:=by first | exact .inl rfl | exact .inr rfl | assumption):SD X (.Assign [.Name x pos'] (.Dict [some k] [v] p2) pos) (zeX i fk fv):=by
 obtain⟨tk,pk,rk⟩:=hk
 obtain⟨tv,pv,rv⟩:=hv
 refine⟨_,XO hN hi hx (ze0 (z:=false) (zir hr) pk pv) hs hf,λFb Hb F H ρ σ E rl kk=>?_⟩
 unfold zeX at kk
 cases h:(fk (visF ρ)).bind λkd=>(fv (visF ρ)).bind λd=>(zeR kd).map λk=>Sl.m true [k] [d] with
 | none=>rw[h]at kk;exact kk.elim
 | some s =>
  rw[h]at kk
  obtain⟨kd,e1,e⟩:=Option.bind_eq_some_iff.mp h
  obtain⟨d,e2,e⟩:=Option.bind_eq_some_iff.mp e
  obtain⟨k0,e3,rfl⟩:=Option.map_eq_some_iff.mp e
  refine zeH (z:=false) rk rv rl.gr.fh rl.visF e1 e2 e3 λF2 H2 p y g hp n2 h2 ay=>?_
  rw[if_neg Bool.false_ne_true]
  have g2:Gr F H F2 (upd H2 p (.dT [(k0,y)])):=by
   refine⟨g.ff,λb o z=>?_,λb o z1 z2=>?_⟩
   .rw[zm (zj z n2)];exact g.fh b o z
   .rw[zm (zj z2 hp)];exact g.kp b o z1 z2
  refine kk F2 _ _ ((rl.grow g2).setW (rl.notbase hp) n2 zk ⟨[y],?_,.cons ay .nil⟩ (rl.notown hp))
  unfold zbQ
  rw[if_pos rfl]
  exact⟨_,rfl,rfl,rfl⟩
end
end
end Dl
namespace PySem
open Sem (wp)
namespace OwnRev
theorem lri_slot_hint:Slot "list_reverseiterator" "__length_hint__" "list_reverseiterator.__length_hint__" :=
 .of (owner:="list_reverseiterator") (n:="__length_hint__") (by rw[typeLookup_type,builtinLookup_eq_fast];kernel_rfl) (by decide +kernel) (by decide +kernel) (by decide +kernel)
  (by first | exact .inl (by decide +kernel) | exact .inr (by decide +kernel)) (by rw[isSubtype_type];kernel_rfl)
theorem lri_no_len:typeLookup (.type "list_reverseiterator") "__len__"=pure none:=by rw[typeLookup_type,builtinLookup_eq_fast];kernel_rfl
theorem lri_sub_self:isSubtype (.type "list_reverseiterator") (.type "list_reverseiterator")=pure true:=by rw[isSubtype_type];kernel_rfl
end OwnRev
section
variable {prog:Program}{w:World}{A:Around}{E:Value->Shared->Prop}{s:Shared}
theorem VV {I l:Addr}{i:Int}{Q:Bool->Shared->Prop}(he:s.heap.IsRevIter I l i)(hQ:Q false s):wpAny (model prog w) A (Builtin.List.listLengthHint (.ref I)) Q E s:=by
 have hT:=he.typeIs
 unfold Builtin.List.listLengthHint
 refine wpAny_bind (wpAny_specialOf hT OwnRev.lri_no_len ?_)
 try dsimp only
 show wpAny _ _ (if false=true then _ else (if false=true then _ else _)) _ _ _
 rw[if_neg Bool.false_ne_true,if_neg Bool.false_ne_true]
 refine wpAny_bind (wpAny_specialOf hT OwnRev.lri_slot_hint.lookup ?_)
 try dsimp only
 have hsp:splitId "list_reverseiterator.__length_hint__"=some ("list_reverseiterator","__length_hint__"):=by decide +kernel
 rw[hsp]
 try dsimp only
 refine wpAny_bind (wpAny_isInstance (T:="list_reverseiterator") (b:=true) hT OwnRev.lri_sub_self ?_)
 rw[if_neg (by decide)]
 show wpAny _ _ (if true=true then _ else _) _ _ _
 rw[if_pos rfl,if_neg (by decide)]
 exact wpAny_pure hQ
theorem VX {I l:Addr}{items:Array Value}{Q:Value->Shared->Prop}(hh:A.handled=none)(he:s.heap.IsRevIter I l ((items.size:Int) - 1))(hl:s.heap.IsList l items)(hne:l≠I)(hsz:items.size<=sizeLine)
 (hQ:∀ (h':Heap) (c' tk:Nat),(∀ b o,b≠I->s.heap.get? b=some o->h'.get? b=some o) ->
  h'.get? s.heap.objs.size=some { cls:=.type "list",dict:=none,data:=.seq items.toList.reverse.toArray c',slots:=#[] }->Q (.ref s.heap.objs.size) { s with heap:=h',toks:=tk }) :
 wpAny (model prog w) A (call (.type "list") [.ref I]) Q E s:=by
 have hIl:I < s.heap.objs.size:=by obtain⟨o,ho,_⟩:=he;exact Heap.lt_size ho
 have hll:l < s.heap.objs.size:=by obtain⟨o,ho,_⟩:=hl;exact Heap.lt_size ho
 have hSI:s.heap.objs.size≠I:=Nat.ne_of_gt hIl
 have hSf:s.heap.objs.size∉[I,l]:=λhm=>by
  rcases List.mem_cons.mp hm with h | h
  .exact hSI h
  .exact Nat.ne_of_gt hll (List.mem_singleton.mp h)
 have W:=Walks.listRev (prog:=prog) (w:=w) (A:=A.in1.in1) hh I l hne items
 have ends:∀ acc:Array Value,ItemsOf (λi v=>items[items.size - 1 - i]?=some v) acc items.size->acc=items.toList.reverse.toArray:=λacc ha=>by
  apply Array.ext'
  apply List.ext_getElem?
  intro i
  by_cases hi:i < items.size
  .have e1:acc[i]?=some (acc[i]'(by rw[ha.1];exact hi)):=Array.getElem?_eq_getElem _
   have e2:=ha.2 i _ e1
   show acc.toList[i]?=items.toList.reverse[i]?
   rw[List.getElem?_reverse (by simpa using hi)]
   simp only[Array.getElem?_toList,Array.length_toList]
   rw[e1,e2]
  .rw[List.getElem?_eq_none (by simp[ha.1];omega),List.getElem?_eq_none (by simp;omega)]
 refine callType_codes (Q₁:=λobj s₁=>obj=.ref s.heap.objs.size/\s₁={ s with heap:=s.heap.push { cls:=.type "list",data:=.seq #[] } }) F.called_list (F.typeCall_list_1 _) F.entry_list_init
  (code_list_new _ ⟨rfl,rfl⟩) λobj s₁ h₁=>?_
 obtain⟨rfl,rfl⟩:=h₁
 have hS:(s.heap.push { cls:=.type "list",data:=.seq #[] }).get? s.heap.objs.size=some { cls:=.type "list",data:=.seq #[] }:=Heap.get?_push_size _ rfl
 refine⟨⟨_,hS,rfl⟩,F.args_list_init_2 _ _,?_⟩
 show wpAny _ A.in1.in1 (do let old<-Builtin.List.listItems (.ref s.heap.objs.size);Builtin.List.listUpdate (.ref s.heap.objs.size) (λ_=>#[]);letGo old.toList.reverse;Builtin.List.listExtendWith (.ref s.heap.objs.size) (.ref I) .none) _ _ _
 refine wpAny_bind ?_
 unfold Builtin.List.listItems
 refine wpAny_bind (wpAny_seqItems hS rfl (wpAny_pure ?_))
 show wpAny _ A.in1.in1 (updateSeq s.heap.objs.size (λ_=>#[])>>=λ_=>letGo (#[]:Array Value).toList.reverse>>=λ_=>Builtin.List.listExtendWith (.ref s.heap.objs.size) (.ref I) .none) _ _ _
 refine wpAny_bind (wpAny_updateSeq hS rfl ?_)
 have hS2:=Heap.get?_update_self (Obj.mapSeq (λ_=>(#[]:Array Value))) hS rfl
 have oth:∀ b o,b≠s.heap.objs.size->s.heap.get? b=some o->((s.heap.push { cls:=.type "list",data:=.seq #[] }).update s.heap.objs.size (Obj.mapSeq (λ_=>(#[]:Array Value)))).get? b=some o :=
  λb o hb e=>(Heap.get?_update_other _ _ (Ne.symm hb)).trans (Heap.get?_push_of_some _ e)
 refine wpAny_bind (wpAny_letGo ?_)
 have he1:=he.at (h':=(s.heap.push { cls:=.type "list",data:=.seq #[] }).update s.heap.objs.size (Obj.mapSeq (λ_=>(#[]:Array Value)))) λo e=>oth I o (Ne.symm hSI) e
 have hl1:((s.heap.push { cls:=.type "list",data:=.seq #[] }).update s.heap.objs.size (Obj.mapSeq (λ_=>(#[]:Array Value)))).IsList l items:=hl.at λo e=>oth l o (Nat.ne_of_lt hll) e
 unfold Builtin.List.listExtendWith
 refine wpAny_bind (wpAny_typeOf he1.typeIs ?_)
 have h1:Builtin.List.listSameRef (.ref s.heap.objs.size) (.ref I)=false:=by simp[Builtin.List.listSameRef,hSI]
 have h2:(Value.type "list_reverseiterator" == Value.type "list")=false:=by decide
 have h3:(Value.type "list_reverseiterator" == Value.type "tuple")=false:=by decide
 simp only[h1,h2,h3,Bool.or_false,Bool.false_eq_true,if_false]
 refine wpAny_bind (wpAny_pyIter_revIter he1 ?_)
 refine wpAny_bind (wpAny_holding (VV he1 ?_))
 show wpAny _ A.in1.in1 (if false=true then _ else _) _ _ _
 rw[if_neg Bool.false_ne_true]
 refine wpAny_pure ⟨plainId_quiet F.plain_extend_loop _,codeAny_extend_loopS W.toS hsz _ hSf _ items.size 0 _ #[] _ rfl (Nat.zero_le _) ⟨Nat.zero_le _,?_,hl1⟩ hS2 (ItemsOf.nil _) λs' acc' c' hm hS' hacc=>?_⟩
 .have:(items.size:Int) - 1 - ((0:Nat):Int)=(items.size:Int) - 1:=by omega
  rw[this]
  exact he1
 .refine⟨rfl,?_⟩
  rw[ends _ hacc]at hS'
  obtain⟨h',g',d',tk',os'⟩:=s'
  have e1:g'=s.gens:=hm.gens
  have e2:d'=s.drawn:=hm.drawn
  have e3:os'=s.os:=hm.os
  subst e1 e2 e3
  refine hQ h' c' tk' (λb o hb q=>hm.heap b o (λhmem=>?_) (oth b o (Nat.ne_of_lt (Heap.lt_size q)) q)) hS'
  rcases List.mem_cons.mp hmem with h | h
  .exact Nat.ne_of_lt (Heap.lt_size q) h
  .exact hb (List.mem_singleton.mp h)
end
end PySem
namespace L2
open PySem PySem.Spec PyProof.Rows
noncomputable def tLR (K:W.Frag)(ta:TE):TE:=fun σ H Q=>ta σ H λx H1=>∃ a xs,x=.ref a/\SqL K H1 a xs/\∀ l,H1 l=none->Q (.ref l) (upd H1 l (.lst xs.reverse))
theorem zcx {X:Cx} {a:Expr} {ta:TE} {p1 p2 pos1 pos2:Pos} (hc:X.calm=true) (hg1:Gl X "list") (hm1:X.mg "list"=none) (hb1:bootBuiltins "list"=some (.type "list")) (hg2:Gl X "reversed") (hm2:X.mg "reversed"=none) (hb2:bootBuiltins "reversed"=some (.type "reversed")) (ha:PE X a ta)
 (hs:starEach [a] X.env=[(false,eval a X.env)]:=by rfl) (hs2:starEach [.Call (.Name "reversed" p2) [a] [] pos2] X.env=[(false,eval (.Call (.Name "reversed" p2) [a] [] pos2) X.env)]:=by rfl):PE X (.Call (.Name "list" p1) [.Call (.Name "reversed" p2) [a] [] pos2] [] pos1) (tLR X.K ta):=by
 intro pins s σ H Q I h
 refine Call_ (Yx I hg1 hm1 hb1 (PyProof.Rows.callWith_type1 (Q:=EP X pins σ Q) ?_ hs2 rfl))
 rw[hs2]
 show wpAny _ _ (spliced ((false,eval (.Call (.Name "reversed" p2) [a] [] pos2) X.env)::[])) _ _ _
 refine Calls.spliced_cons ?_
 refine Call_ (Yx I hg2 hm2 hb2 (PyProof.Rows.callWith_type1 ?_ hs rfl))
 rw[hs]
 show wpAny _ _ (spliced ((false,eval a X.env)::[])) _ _ _
 refine Calls.spliced_cons (thn (ha pins s σ H _ I h) λv s1 hh9=>?_)
 obtain⟨x,H1,I1,r1,q1⟩:=hh9
 obtain⟨t,xs,rfl,hx,q⟩:=q1
 cases r1
 obtain⟨its,rv,pt,hz⟩:=I1.list hx
 have hlen:its.toArray.size<=sizeLine:=by rw[List.size_toArray,<- rv.length];exact hz
 have lt:t < s1.heap.objs.size:=by
  obtain⟨o,ho,_⟩:=pt.isList
  exact Heap.lt_size ho
 refine Calls.spliced_nil ?_
 refine call_reversed_list pt.isList ?_
 refine Calls.spliced_nil ?_
 refine VX (I:=s1.heap.objs.size) (l:=t) (items:=its.toArray) (I.ok.hd hc) ⟨_,Heap.get?_push_size _ rfl,rfl,rfl⟩ (pt.isList.at λo e=>Heap.get?_push_of_some _ e) (Nat.ne_of_lt lt) hlen λh' c' tk' hk hS=>?_
 have hS':h'.get? (s1.heap.push (revObj t (((its.toArray.size:Nat):Int) - 1))).objs.size=some { cls:=.type "list",dict:=none,data:=.seq its.reverse.toArray c',slots:=#[] }:=hS
 refine⟨.ref _,_,I1.laid (t':=tk') (a:=(s1.heap.push (revObj t (((its.toArray.size:Nat):Int) - 1))).objs.size) (λb o e=>hk b o (Nat.ne_of_lt (Heap.lt_size e)) (Heap.get?_push_of_some _ e)) ?_ (show yw X.prog X.w _ h' _ (.lst xs.reverse) from⟨by rw[List.length_reverse];exact hz,its.reverse,c',rv.reverse,hS'⟩),rfl,q _ (I1.hok.fresh ?_)⟩
 all_goals exact Nat.le_of_lt (by rw[Heap.push];simp)
end L2
namespace Dl
open PySem L2 PySem.Spec PyProof.Rows
variable [KK]{X:Cx}{e:Expr}
noncomputable def revD:D->Option (List D)
 | .lst ds=>some ds.reverse
 | _=>none
noncomputable def zlr (f:Ev->Option D):Ev->Option (List D):=fun ρ=>(f ρ).bind revD
theorem zcB {p1 p2 pos1 pos2:Pos} {f:Ev->Option D} (hc:X.calm=true) (hg1:Gl X "list") (hm1:X.mg "list"=none) (hg2:Gl X "reversed") (hm2:X.mg "reversed"=none) (ha:ED X e f)
 (hs:starEach [e] X.env=[(false,eval e X.env)]:=by rfl) (hs2:starEach [.Call (.Name "reversed" p2) [e] [] pos2] X.env=[(false,eval (.Call (.Name "reversed" p2) [e] [] pos2) X.env)]:=by rfl) :
 FL X (.Call (.Name "list" p1) [.Call (.Name "reversed" p2) [e] [] pos2] [] pos1) (zlr f):=by
 obtain⟨t,pa,ra⟩:=ha
 refine⟨_,zcx hc hg1 hm1 zc8 hg2 hm2 zaX pa hs hs2,fun σ ρ F H z Q s va e q=>?_⟩
 obtain⟨d,e1,e2⟩:=Option.bind_eq_some_iff.mp e
 refine ra σ ρ F H d _ s va e1 λF1 H1 v g1 a1=>?_
 unfold revD at e2
 split at e2 <;> cases e2
 obtain⟨p,xs,rfl,hx,bl⟩:=a1.lst_inv
 exact⟨p,xs,rfl,SqL.of (g1.fh _ _ hx),λl hl=>q _ _ _ _ (g1.trans (Gr.hide g1.fh hl _)) (YV g1 hl) (g1.fh.free hl) zk bl.reverse⟩
end Dl
namespace L2
open PySem PySem.Spec PyProof.Rows
theorem zbu {h₀:Heap}{k:Str}{P:Value->Prop}:∀ {D:List (Str × KTD.Dat)},(∀ d,KTD.datumAt k D=some d->KTD.Opened h₀ P d)->KTD.EachL h₀ k P D
 | [],_=>trivial
 | [(x,d)],h=>λe=>h d (by show(if decide (k=x)=true then some d else none)=_;rw[if_pos (decide_eq_true e)])
 | (x,d)::q::D,h=>by
  show if decide (k=x)=true then KTD.Opened h₀ P d else KTD.EachL h₀ k P (q::D)
  by_cases e:k=x
  .rw[if_pos (decide_eq_true e)]
   exact h d (by show(if decide (k=x)=true then some d else _)=_;rw[if_pos (decide_eq_true e)])
  .rw[if_neg (by rw[decide_eq_false e];exact Bool.false_ne_true)]
   refine zbu λd' h'=>h d' ?_
   show(if decide (k=x)=true then some d else KTD.datumAt k (q::D))=_
   rw[if_neg (by rw[decide_eq_false e];exact Bool.false_ne_true),h']
theorem X1:∀ {ns:List Int} {vs:List Value},KTD.Flats vs (ns.map PyData.int)->ya (ns.map V.int) vs
 | [],_,h=>by cases h;exact .nil
 | n::ns,_,h=>by
  cases h with
  | cons h1 h2 =>
   obtain⟨t,rfl⟩:=h1.int_inv
   exact .cons ⟨t,rfl⟩ (X1 h2)
section
variable {X:Cx}{a:Addr}{D:List (Str × KTD.Dat)}{nm:Str}{b:Expr}{p pos:Pos}{tb:TE}
noncomputable def ziQ (a:Addr)(D:List (Str × KTD.Dat)):R2:=λx y H Q=>∃ s,x=.str s/\y=.ref a/\Q (.bl (KTD.inKeys s D)) H
theorem zfA (T:∀ h:Heap,X.K.In h->KTD.TextTab h a D):OpR X (compareOp .In) (ziQ a D):=by
 intro pins s σ H x y v u Q I rx ry h
 obtain⟨z,rfl,rfl,q⟩:=h
 obtain⟨t,rfl⟩:=rx
 cases ry
 exact KTD.in_text ⟨T _ I.kIn,λ_ _ e=>e⟩ ⟨.bl _,H,I.tok _,rfl,q⟩
noncomputable def tTab (D:List (Str × KTD.Dat))(base:Heap)(tb:TE):TE:=fun σ H Q=>tb σ H λy H1=>∃ (z:Str) (ns:List Int),y=.str z/\KTD.datumAt z D=some (.tup (ns.map PyData.int))/\∀ p its,IsTup base p (List.toArray its)->ya (ns.map V.int) its->Q (.ref p) H1
theorem zi4 (T:∀ h:Heap,X.K.In h->KTD.TextTab h a D) (hg:Gl X nm) (hm:X.mg nm=some (.ref a)) (hb:PE X b tb) (hs:Xk b) (hd:(nm == ("__debug__":Str))=false:=by decide):PE X (.Subscript (.Name nm p) b pos) (tTab D X.base tb):=by
 intro pins s σ H Q I h
 refine Subscript_ (za1 I hg hm (thn (hb pins s σ H _ I h) λu s1 hq=>?_) hd)
 obtain⟨y,H1,I1,ry,z,ns,rfl,hz,q⟩:=hq
 obtain⟨t,rfl⟩:=ry
 have hin:KTD.inKeys z D=true:=by rw[<-KTD.isSome_datumAt,hz];rfl
 refine KTD.item_text (h₀:=X.base) ⟨T _ I.mod.kin,I1.bk⟩ hin (zbu λd hd=>?_) (hs _ _) (by intro _;with_unfolding_all rfl)
 rw[hz]at hd
 cases hd
 exact λp its h1 h2=>⟨.ref p,H1,I1.tok _,rfl,q p its h1 (X1 h2)⟩
noncomputable def rIxB (base:Heap):R2:=λx y H Q=>∃ p its xs i v,x=.ref p/\y=.int i/\IsTup base p (List.toArray its)/\ya xs its/\xs.length<=sizeLine/\atI xs i=some v/\Q v H
theorem zhx:IxR X (rIxB X.base):=by
 intro value slice pins s σ H x y v u Q I rx ry h hs
 obtain⟨p,its,xs,i,z,rfl,rfl,hq,r,hz,he,q⟩:=h
 cases rx
 obtain⟨t,rfl⟩:=ry
 have pl:IsTup s.heap p its.toArray:=by
  obtain⟨o,ho,hc,n,hd⟩:=hq
  exact⟨o,I.bk _ _ ho,hc,n,hd⟩
 obtain⟨j,h1,h2,h3,h4,h5⟩:=W1 he
 obtain⟨w,ew,rw'⟩:=r.get h2
 have hl:=r.length
 have hn:=XX
 have fin:EP X pins σ Q w s:=⟨z,H,I,rw',q⟩
 exact subscriptTail_builtinR (x:=w) pl.typeIs slot_tuple_getitem.lookup
  (getItem_tuple (j:=j) (Q:=λr s'=>r=w/\EP X pins σ Q r s') pl (by omega) (by omega) (by rw[List.size_toArray,<- hl];exact h1) (by simpa using ew) ⟨rfl,fin⟩) hs
end
end L2
namespace Dl
open PySem L2 PySem.Spec PyProof.Rows
variable [KK]{X:Cx}{a:Addr}{T:List (Str × KTD.Dat)}{nm:Str}{b:Expr}{p p2 p3 pos:Pos}{f:Ev->Option D}
noncomputable abbrev zfc:=List (Str × List Int)
noncomputable def Vp (t:zfc):List (Str × KTD.Dat):=t.map λq=>(q.1,.tup (q.2.map PyData.int))
noncomputable def Xo:zfc->Str->Option (List Int)
 | [],_=>none
 | q::t,x=>if x=q.1 then some q.2 else Xo t x
omit [KK] in
theorem Xh (x:Str):∀ t:zfc,KTD.datumAt x (Vp t)=(Xo t x).map λns=>KTD.Dat.tup (ns.map PyData.int)
 | []=>rfl
 | q::t=>by
  show(if decide (x=q.1)=true then some (KTD.Dat.tup (q.2.map PyData.int))else KTD.datumAt x (Vp t))=(if x=q.1 then some q.2 else Xo t x).map _
  by_cases h:x=q.1
  .rw[if_pos (decide_eq_true h),if_pos h];rfl
  .rw[if_neg (by rw[decide_eq_false h];exact Bool.false_ne_true),if_neg h,Xh x t]
noncomputable def zgp (t:zfc):D->Option D
 | .str x=>some (.bl (Xo t x).isSome)
 | _=>none
noncomputable def zdN (t:zfc)(i:Int):D->Option D
 | .str x=>(Xo t x).bind λns=>(atI ns i).map D.int
 | _=>none
theorem zfW {t:zfc} (T:∀ h:Heap,X.K.In h->KTD.TextTab h a (Vp t)) (hg:Gl X nm) (hm:X.mg nm=some (.ref a)) (hb:ED X b f) (hk:behindInMarks .In (.Name nm p)=false:=by with_unfolding_all rfl) (hd:(nm == ("__debug__":Str))=false:=by decide) :
 ED X (.Compare b [.In] [.Name nm p] pos) (eUn (zgp t) f):=by
 obtain⟨tb,pb,rb⟩:=hb
 refine⟨_,zcS (zfA T) pb (za2 (v:=.ref a) hg hm rfl hd) hk,fun σ ρ F H z Q s va e q=>?_⟩
 obtain⟨d,e1,e2⟩:=Option.bind_eq_some_iff.mp e
 refine rb σ ρ F H d _ s va e1 λF1 H1 v g1 a1=>?_
 cases d with
 | str x =>
  cases e2
  cases a1.str_inv
  refine⟨x,rfl,rfl,?_⟩
  rw[<-KTD.isSome_datumAt,Xh,Option.isSome_map]
  exact q F1 H1 _ g1 .bl
 | _=>cases e2
theorem zb1 {t:zfc} {i:Int} {j:Nat} (T:∀ h:Heap,X.K.In h->KTD.TextTab h a (Vp t)) (hl:∀ q∈t,q.2.length<=sizeLine) (hg:Gl X nm) (hm:X.mg nm=some (.ref a)) (hb:ED X b f) (hs:Xk b) (hd:(nm == ("__debug__":Str))=false:=by decide) :
 ED X (.Subscript (.Subscript (.Name nm p) b p2) (.Constant (.int i) j p3) pos) (eUn (zdN t i) f):=by
 obtain⟨tb,pb,rb⟩:=hb
 refine⟨_,zh9 zhx (zi4 T hg hm pb hs hd) zg (λ_ _=>rfl),fun σ ρ F H z Q s va e q=>?_⟩
 obtain⟨d,e1,e2⟩:=Option.bind_eq_some_iff.mp e
 refine rb σ ρ F H d _ s va e1 λF1 H1 v g1 a1=>?_
 cases d with
 | str x =>
  obtain⟨ns,h1,h2⟩:=Option.bind_eq_some_iff.mp e2
  obtain⟨n,h3,rfl⟩:=Option.map_eq_some_iff.mp h2
  cases a1.str_inv
  have hmem:∀ t:zfc,(∀ q∈t,q.2.length<=sizeLine)->Xo t x=some ns->ns.length<=sizeLine:=by
   intro t
   induction t with
   | nil=>intro _ h;cases h
   | cons q t ih =>
    intro hl h
    unfold Xo at h
    split at h
    .cases h;exact hl q List.mem_cons_self
    .exact ih (λr hr=>hl r (List.mem_cons_of_mem _ hr)) h
  refine⟨x,ns,rfl,by rw[Xh,h1];rfl,λp its h4 h5=>⟨p,its,ns.map V.int,i,.int n,rfl,rfl,h4,h5,by rw[List.length_map];exact hmem t hl h1,?_,q F1 H1 _ g1 .int⟩⟩
  have:∀ (xs:List Int),atI xs i=some n->atI (xs.map V.int) i=some (V.int n):=λxs h=>by
   unfold atI at h ⊢
   rw[List.length_map]
   cases hi:ixN xs.length i with
   | none=>rw[hi]at h;cases h
   | some k =>
    rw[hi]at h
    show(xs.map V.int)[k]?=_
    have h:xs[k]?=some n:=h
    rw[List.getElem?_map,h]
    rfl
  exact this ns h3
 | _=>cases e2
end Dl
namespace PySem
open Sem (wp)
noncomputable abbrev yn (h:Heap) (T:Addr) (a b c:Value):Prop:=h.get? T=some { cls:=.type "tuple",data:=.seq #[a,b,c] }
structure zbY (z TI TO i1 i2 i3:Addr) (fp1 fp2 fp3:List Addr):Prop where
 nd:[z,TI,TO,i1,i2,i3].Nodup
 z1:z∉fp1
 z2:z∉fp2
 z3:z∉fp3
 o1:TO∉fp1
 o2:TO∉fp2
 o3:TO∉fp3
 i12:i1∉fp2
 i13:i1∉fp3
 i21:i2∉fp1
 i23:i2∉fp3
 i31:i3∉fp1
 i32:i3∉fp2
section
variable {prog:Program}{w:World}{A:Around}{E:Value->Shared->Prop}{s:Shared}{z TI TO i1 i2 i3:Addr}{fp1 fp2 fp3:List Addr}{n1 n2 n3 k1 k2 k3:Nat}{P1 P2 P3:Nat->Value->Prop}{St1 St2 St3:Nat->Heap->Prop}{a b c:Value}
theorem vz {T:Addr}{x:Value}{k:Nat}{Q:Unit->Shared->Prop}(hT:yn s.heap T a b c)
 (h:∀ h',h'.get? T=some { cls:=.type "tuple",data:=.seq ((#[a,b,c]:Array Value).setIfInBounds k x) }->Heap.SameBut T s.heap h'->Q () { s with heap:=h' }) :
 wpAny (model prog w) A (updateSeq T (·.setIfInBounds k x)) Q E s :=
 wpAny_updateSeq hT rfl (h _ (by rw[Heap.get?_update_self _ hT rfl];simp[Obj.mapSeq]) (Heap.SameBut.update ..))
theorem WL {Q:Value->Shared->Prop}(D1:Draws prog w A i1 fp1 n1 P1 St1)(D2:Draws prog w A i2 fp2 n2 P2 St2)(D3:Draws prog w A i3 fp3 n3 P3 St3)(ap:zbY z TI TO i1 i2 i3 fp1 fp2 fp3)
 (hz:IsZip s.heap z TI TO .none) (hTI:yn s.heap TI (.ref i1) (.ref i2) (.ref i3)) (hTO:yn s.heap TO a b c) (h1:St1 k1 s.heap) (h2:St2 k2 s.heap) (h3:St3 k3 s.heap) (l1:k1 < n1) (l2:k2 < n2) (l3:k3 < n3)
 (hQ:∀ x y u h' tk,P1 k1 x->P2 k2 y->P3 k3 u->IsZip h' z TI TO (rawInt s.heap.objs.size)->yn h' TO x y u->St1 (k1+1) h'->St2 (k2+1) h'->St3 (k3+1) h'->yn h' s.heap.objs.size x y u ->
  (∀ c o,c∉[z,TO,i1,i2,i3]->s.heap.get? c=some o->h'.get? c=some o)->Q (.ref s.heap.objs.size) { s with heap:=h',toks:=tk }) :
 wpAny (model prog w) A (Builtin.«zip.__next__» ⟨[.ref z],[]⟩) (λfin s'=>∃ v,fin=.done (.ret v)/\Q v s') E s:=by
 obtain⟨nd,az1,az2,az3,ao1,ao2,ao3,a12,a13,a21,a23,a31,a32⟩:=ap
 simp only[List.nodup_cons,List.mem_cons,List.not_mem_nil,or_false,not_or,not_false_eq_true,List.nodup_nil,and_true]at nd
 obtain⟨⟨nI,nO,nz1,nz2,nz3⟩,⟨_,_,_,_⟩,⟨m1,m2,m3⟩,⟨_,_⟩,_⟩:=nd
 show wpAny _ _ (field (.ref z) 2>>=_) _ _ _
 refine wpAny_bind (wpAny_field hz rfl (x:=.bool false) rfl ?_)
 show wpAny _ _ (field (.ref z) 3>>=_) _ _ _
 refine wpAny_bind (wpAny_field hz rfl (x:=.ref TI) rfl (wpAny_bind (wpAny_seqItems hTI rfl ?_)))
 show wpAny _ _ (Builtin.SmallTypes.ownedTupleIsFree (.ref z)>>=_) _ _ _
 refine wpAny_bind ?_
 unfold Builtin.SmallTypes.ownedTupleIsFree
 refine wpAny_bind (wpAny_field hz rfl (x:=.none) rfl (wpAny_pure ?_))
 simp only[if_true]
 refine wpAny_bind (wpAny_rule (wpAny_bind (wpAny_field hz rfl (x:=.ref TO) rfl (wpAny_bind (wpAny_setField_rec hz (by simp) λg1 z1 b1=>?_)))))
 refine wpAny_bind ?_
 simp only[List.zipIdx_cons,List.zipIdx_nil,List.forIn_cons,List.forIn_nil]
 refine wpAny_bind (wpAny_bind (wpAny_onRaise ?_))
 show wpAny _ _ (Builtin.SmallTypes.nextOf (.ref i1)>>=_) _ _ _
 refine wpAny_bind (D1.item k1 _ _ _ l1 (zt D1 h1 b1 az1) λx g2 tk2 px st2 b2=>wpAny_pure ?_)
 have o2:yn g2 TO a b c:=(b2.2 TO m1).trans ((b1.2 TO (Ne.symm nO)).trans hTO)
 refine wpAny_bind (wpAny_seqItems o2 rfl (wpAny_bind (vz o2 λg3 o3 b3=>?_)))
 refine wpAny_bind (wpAny_letGo (wpAny_pure ?_))
 refine wpAny_bind (wpAny_bind (wpAny_onRaise ?_))
 show wpAny _ _ (Builtin.SmallTypes.nextOf (.ref i2)>>=_) _ _ _
 have s23:St2 k2 g3:=zt D2 (zt D2 (zt D2 h2 b1 az2) b2 a12) b3 ao2
 refine wpAny_bind (D2.item k2 _ _ _ l2 s23 λy g4 tk4 py st4 b4=>wpAny_pure ?_)
 have o4:yn g4 TO x b c:=(b4.2 TO m2).trans o3
 refine wpAny_bind (wpAny_seqItems o4 rfl (wpAny_bind (vz o4 λg5 o5 b5=>?_)))
 replace o5:yn g5 TO x y c:=o5
 refine wpAny_bind (wpAny_letGo (wpAny_pure ?_))
 refine wpAny_bind (wpAny_bind (wpAny_onRaise ?_))
 show wpAny _ _ (Builtin.SmallTypes.nextOf (.ref i3)>>=_) _ _ _
 have s35:St3 k3 g5:=zt D3 (zt D3 (zt D3 (zt D3 (zt D3 h3 b1 az3) b2 a13) b3 ao3) b4 a23) b5 ao3
 refine wpAny_bind (D3.item k3 _ _ _ l3 s35 λu g6 tk6 pu st6 b6=>wpAny_pure ?_)
 have o6:yn g6 TO x y c:=(b6.2 TO m3).trans o5
 refine wpAny_bind (wpAny_seqItems o6 rfl (wpAny_bind (vz o6 λg7 o7 b7=>?_)))
 replace o7:yn g7 TO x y u:=o7
 refine wpAny_bind (wpAny_letGo (wpAny_pure (wpAny_pure ?_)))
 refine wpAny_bind (wpAny_seqItems o7 rfl ?_)
 show wpAny _ _ (newTuple [x,y,u]>>=_) _ _ _
 refine wpAny_bind (wpAny_newTuple ?_)
 have hsz:g7.objs.size=s.heap.objs.size:=by rw[b7.1,b6.1,b5.1,b4.1,b3.1,b2.1,b1.1]
 have z5:IsZip g7 z TI TO .ellipsis:=(b7.2 z nO).trans ((b6.2 z nz3).trans ((b5.2 z nO).trans ((b4.2 z nz2).trans ((b3.2 z nO).trans ((b2.2 z nz1).trans z1)))))
 have zlt:z < g7.objs.size:=Heap.lt_size z5
 show wpAny _ _ (Builtin.SmallTypes.ownedTupleHandOut (.ref z) (.ref g7.objs.size)>>=_) _ _ _
 refine wpAny_bind ?_
 unfold Builtin.SmallTypes.ownedTupleHandOut
 have z6:IsZip (g7.push { cls:=.type "tuple",data:=.seq #[x,y,u] }) z TI TO .ellipsis:=Heap.get?_push_of_some _ z5
 refine wpAny_bind (wpAny_setField_rec z6 (by simp) λg9 z9 b9=>?_)
 refine wpAny_setField_rec z9 (by simp) λg8 z8 b8=>?_
 have up:∀ c o,c≠z->g7.get? c=some o->g8.get? c=some o:=λc o n e=>(b8.2 c n).trans ((b9.2 c n).trans (Heap.get?_push_of_some _ e))
 have t8:yn g8 g7.objs.size x y u:=(b8.2 _ (Nat.ne_of_gt zlt)).trans ((b9.2 _ (Nat.ne_of_gt zlt)).trans (Heap.get?_push_size _ rfl))
 have e8:IsZip g8 z TI TO (rawInt g7.objs.size):=z8
 rw[hsz]at e8 t8
 refine wpAny_pure ⟨_,rfl,?_⟩
 show Q (.ref g7.objs.size) _
 rw[hsz]
 have f1:St1 (k1+1) g7:=zt D1 (zt D1 (zt D1 (zt D1 (zt D1 st2 b3 ao1) b4 a21) b5 ao1) b6 a31) b7 ao1
 have f2:St2 (k2+1) g7:=zt D2 (zt D2 (zt D2 st4 b5 ao2) b6 a32) b7 ao2
 have f3:St3 (k3+1) g7:=zt D3 st6 b7 ao3
 refine hQ x y u g8 _ px py pu e8 (up _ _ (Ne.symm nO) o7) (D1.frame _ _ _ f1 λc hc o e=>up c o (λq=>az1 (q ▸ hc)) e) (D2.frame _ _ _ f2 λc hc o e=>up c o (λq=>az2 (q ▸ hc)) e) (D3.frame _ _ _ f3 λc hc o e=>up c o (λq=>az3 (q ▸ hc)) e) t8 λc o hc e=>?_
 simp only[List.mem_cons,List.not_mem_nil,or_false,not_or]at hc
 obtain⟨c1,c2,c3,c4,c5⟩:=hc
 exact up c o c1 ((b7.2 c c2).trans ((b6.2 c c5).trans ((b5.2 c c2).trans ((b4.2 c c4).trans ((b3.2 c c2).trans ((b2.2 c c3).trans ((b1.2 c c1).trans e)))))))
theorem VQ {Q:Fin->Shared->Prop}(D1:Draws prog w A i1 fp1 n1 P1 St1)(az1:z∉fp1)(nz:i1≠z)
 (hz:IsZip s.heap z TI TO .none) (hTI:yn s.heap TI (.ref i1) (.ref i2) (.ref i3)) (h1:St1 n1 s.heap)
 (hE:∀ h' e,(∀ c o,c≠z->c≠i1->s.heap.get? c=some o->h'.get? c=some o)->(∃ o,h'.get? e=some o/\o.cls=.type "StopIteration")->E (.ref e) { s with heap:=h' }) :
 wpAny (model prog w) A (Builtin.«zip.__next__» ⟨[.ref z],[]⟩) Q E s:=by
 show wpAny _ _ (field (.ref z) 2>>=_) _ _ _
 refine wpAny_bind (wpAny_field hz rfl (x:=.bool false) rfl ?_)
 show wpAny _ _ (field (.ref z) 3>>=_) _ _ _
 refine wpAny_bind (wpAny_field hz rfl (x:=.ref TI) rfl (wpAny_bind (wpAny_seqItems hTI rfl ?_)))
 show wpAny _ _ (Builtin.SmallTypes.ownedTupleIsFree (.ref z)>>=_) _ _ _
 refine wpAny_bind ?_
 unfold Builtin.SmallTypes.ownedTupleIsFree
 refine wpAny_bind (wpAny_field hz rfl (x:=.none) rfl (wpAny_pure ?_))
 simp only[if_true]
 refine wpAny_bind (wpAny_rule (wpAny_bind (wpAny_field hz rfl (x:=.ref TO) rfl (wpAny_bind (wpAny_setField_rec hz (by simp) λg1 z1 b1=>?_)))))
 refine wpAny_bind ?_
 simp only[List.zipIdx_cons,List.zipIdx_nil,List.forIn_cons,List.forIn_nil]
 refine wpAny_bind (wpAny_bind (wpAny_onRaise ?_))
 show wpAny _ _ (Builtin.SmallTypes.nextOf (.ref i1)>>=_) _ _ _
 refine wpAny_bind (D1.done _ _ _ (zt D1 h1 b1 az1) λg2 e b2 he=>?_)
 obtain⟨oe,hoe,hce⟩:=he
 have z2:IsZip g2 z TI TO .ellipsis:=b2 _ _ (Ne.symm nz) z1
 have nez:e≠z:=λq=>by subst q;rw[z2]at hoe;cases hoe;simp at hce
 exact wpAny_setField_rec z2 (by simp) λg3 _ b3=>hE g3 e (λc o c1 c2 q=>(b3.2 c c1).trans (b2 c o c2 ((b1.2 c c1).trans q))) ⟨oe,(b3.2 e nez).trans hoe,hce⟩
end
noncomputable abbrev zqA (h:Heap)(l1:Addr):Heap:=h.push (Xi true l1)
noncomputable abbrev zqB (h:Heap)(l1 l2:Addr):Heap:=(zqA h l1).push (Xi true l2)
noncomputable abbrev zqC (h:Heap)(l1 l2 l3:Addr):Heap:=(zqB h l1 l2).push (Xi true l3)
noncomputable abbrev zqD (h:Heap) (l1 l2 l3:Addr):Heap:=(zqC h l1 l2 l3).push (Obj.mk (.type "tuple") none (.seq #[.ref h.objs.size,.ref (zqA h l1).objs.size,.ref (zqB h l1 l2).objs.size]) #[])
noncomputable abbrev zqE (h:Heap) (l1 l2 l3:Addr):Heap:=(zqD h l1 l2 l3).push (Obj.mk (.type "tuple") none (.seq #[.none,.none,.none]) #[])
noncomputable abbrev zqF (h:Heap) (l1 l2 l3:Addr):Heap:=(zqE h l1 l2 l3).push (Obj.mk (.type "zip") none (.fields #[.none,.bool false,.bool false,.ref (zqC h l1 l2 l3).objs.size,.ref (zqD h l1 l2 l3).objs.size]) #[])
theorem V3 (l1 l2 l3:Addr)(xs ys us:Array Value) :
 Meets (Builtin.«zip.__new__» ⟨[.type "zip",.ref l1,.ref l2,.ref l3],[]⟩) (λ_ R s=>s.heap.IsList l1 xs/\s.heap.IsList l2 ys/\s.heap.IsList l3 us /\
  R (.ok (.ret (.ref (zqE s.heap l1 l2 l3).objs.size))) { s with heap:=zqF s.heap l1 l2 l3 }) :=
 .of_wp λprog w A R s h=>by
  obtain⟨hp,g,d,tk,os⟩:=s;obtain⟨hl1,hl2,hl3,h⟩:=h
  have hsub:=sub_zip
  have hL1:Heap.IsList (Shared.heap ⟨hp,g,d,tk,os⟩) l1 xs:=hl1
  have hL2:Heap.IsList (Shared.heap ⟨hp.push { cls:=.type "list_iterator",data:=.fields #[.ref l1,.int 0 0] },g,d,tk,os⟩) l2 ys:=Heap.IsList.push hl2 _
  have hL3:Heap.IsList (Shared.heap ⟨(hp.push { cls:=.type "list_iterator",data:=.fields #[.ref l1,.int 0 0] }).push { cls:=.type "list_iterator",data:=.fields #[.ref l2,.int 0 0] },g,d,tk,os⟩) l3 us:=Heap.IsList.push (Heap.IsList.push hl3 _) _
  wp_walk using wpAny_pyIter_list hL1,wpAny_pyIter_list hL2,wpAny_pyIter_list hL3
  exact⟨_,rfl,h⟩
section
variable {prog:Program}{w:World}{A:Around}{E:Value->Shared->Prop}{s:Shared}
theorem Y7 (a b c:Value):checkTypeCall "zip" ⟨[a,b,c],[]⟩=pure ():=by kernel_rfl
theorem Zn (a b c:Value):checkBuiltinCall "zip.__new__" ⟨[.type "zip",a,b,c],[]⟩=pure ():=by kernel_rfl
theorem WG {l1 l2 l3:Addr}{xs ys us:Array Value}{Q:Value->Shared->Prop}(hl1:s.heap.IsList l1 xs)(hl2:s.heap.IsList l2 ys)(hl3:s.heap.IsList l3 us)
 (h:∀ h',IsZip h' (s.heap.objs.size+5) (s.heap.objs.size+3) (s.heap.objs.size+4) .none->yn h' (s.heap.objs.size+3) (.ref s.heap.objs.size) (.ref (s.heap.objs.size+1)) (.ref (s.heap.objs.size+2)) ->
  yn h' (s.heap.objs.size+4) .none .none .none->vY true h' s.heap.objs.size l1 0->vY true h' (s.heap.objs.size+1) l2 0->vY true h' (s.heap.objs.size+2) l3 0 ->
  (∀ c o,s.heap.get? c=some o->h'.get? c=some o)->Q (.ref (s.heap.objs.size+5)) { s with heap:=h' }) :
 wpAny (model prog w) A (call (.type "zip") [.ref l1,.ref l2,.ref l3]) Q E s:=by
 refine callType_new F.called_zip (by decide) (Y7 _ _ _) (Zn _ _ _) (λobj=>F.initArgs_range_3 obj _ _ _) F.entry_zip_new
  (V3 l1 l2 l3 xs ys us) ⟨hl1,hl2,hl3,?_⟩
 have z1:(zqA s.heap l1).objs.size=s.heap.objs.size+1:=Heap.size_push ..
 have z2:(zqB s.heap l1 l2).objs.size=s.heap.objs.size+2:=by rw[Heap.size_push,z1]
 have z3:(zqC s.heap l1 l2 l3).objs.size=s.heap.objs.size+3:=by rw[Heap.size_push,z2]
 have z4:(zqD s.heap l1 l2 l3).objs.size=s.heap.objs.size+4:=by rw[Heap.size_push,z3]
 have z5:(zqE s.heap l1 l2 l3).objs.size=s.heap.objs.size+5:=by rw[Heap.size_push,z4]
 have g6:(zqF s.heap l1 l2 l3).get? (zqE s.heap l1 l2 l3).objs.size=some _:=Heap.get?_push_size _ rfl
 have g5:(zqF s.heap l1 l2 l3).get? (zqD s.heap l1 l2 l3).objs.size=some _:=Heap.get?_push_of_some _ (Heap.get?_push_size _ rfl)
 have g4:(zqF s.heap l1 l2 l3).get? (zqC s.heap l1 l2 l3).objs.size=some _:=Heap.get?_push_of_some _ (Heap.get?_push_of_some _ (Heap.get?_push_size _ rfl))
 have g3:(zqF s.heap l1 l2 l3).get? (zqB s.heap l1 l2).objs.size=some (Xi true l3):=Heap.get?_push_of_some _ (Heap.get?_push_of_some _ (Heap.get?_push_of_some _ (Heap.get?_push_size _ rfl)))
 have g2:(zqF s.heap l1 l2 l3).get? (zqA s.heap l1).objs.size=some (Xi true l2):=Heap.get?_push_of_some _ (Heap.get?_push_of_some _ (Heap.get?_push_of_some _ (Heap.get?_push_of_some _ (Heap.get?_push_size _ rfl))))
 have g1:(zqF s.heap l1 l2 l3).get? s.heap.objs.size=some (Xi true l1):=Heap.get?_push_of_some _ (Heap.get?_push_of_some _ (Heap.get?_push_of_some _ (Heap.get?_push_of_some _ (Heap.get?_push_of_some _ (Heap.get?_push_size _ rfl)))))
 show _/\_
 rw[z3,z4,z5]at g6
 rw[z1,z2,z3]at g4
 rw[z4]at g5
 rw[z2]at g3
 rw[z1]at g2
 rw[z5]
 exact⟨⟨_,g6,rfl⟩,h _ g6 g4 g5 ⟨_,g1,rfl,rfl⟩ ⟨_,g2,rfl,rfl⟩ ⟨_,g3,rfl,rfl⟩ λc o x =>
  Heap.get?_push_of_some _ (Heap.get?_push_of_some _ (Heap.get?_push_of_some _ (Heap.get?_push_of_some _ (Heap.get?_push_of_some _ (Heap.get?_push_of_some _ x)))))⟩
variable {z TI TO i1 i2 i3:Addr}{fp1 fp2 fp3:List Addr}{n1 n2 n3 k1 k2 k3:Nat}{P1 P2 P3:Nat->Value->Prop}{St1 St2 St3:Nat->Heap->Prop}{a b c:Value}
theorem Wo {Q:Option Value->Shared->Prop}(D1:Draws prog w A.in1 i1 fp1 n1 P1 St1)(D2:Draws prog w A.in1 i2 fp2 n2 P2 St2)(D3:Draws prog w A.in1 i3 fp3 n3 P3 St3)(ap:zbY z TI TO i1 i2 i3 fp1 fp2 fp3)
 (hz:IsZip s.heap z TI TO .none) (hTI:yn s.heap TI (.ref i1) (.ref i2) (.ref i3)) (hTO:yn s.heap TO a b c) (h1:St1 k1 s.heap) (h2:St2 k2 s.heap) (h3:St3 k3 s.heap) (l1:k1 < n1) (l2:k2 < n2) (l3:k3 < n3)
 (hQ:∀ x y u h' tk,P1 k1 x->P2 k2 y->P3 k3 u->IsZip h' z TI TO (rawInt s.heap.objs.size)->yn h' TO x y u->St1 (k1+1) h'->St2 (k2+1) h'->St3 (k3+1) h'->yn h' s.heap.objs.size x y u ->
  (∀ c o,c∉[z,TO,i1,i2,i3]->s.heap.get? c=some o->h'.get? c=some o)->Q (some (.ref s.heap.objs.size)) { s with heap:=h',toks:=tk }) :
 wpAny (model prog w) A (pyNext (.ref z)) Q E s:=by
 have hT:s.TypeIs (.ref z) "zip":=⟨_,hz,rfl⟩
 unfold pyNext
 exact wpAny_bind (wpAny_attempt (wpAny_callSpecial?_slot (name:=Str.ofString "__next__") hT F.slot_zip_next
  (wpAny_call_entry F.slot_zip_next hT F.entry_zip_next
   (WL D1 D2 D3 ap hz hTI hTO h1 h2 h3 l1 l2 l3 λx y u h' tk a1 a2 a3 a4 a5 a6 a7 a8 a9 b1=>wpAny_pure (hQ x y u h' tk a1 a2 a3 a4 a5 a6 a7 a8 a9 b1)) (F.args_zip_next_1 _))))
theorem WX {Q:Option Value->Shared->Prop}(D1:Draws prog w A.in1 i1 fp1 n1 P1 St1)(az1:z∉fp1)(nz:i1≠z)
 (hz:IsZip s.heap z TI TO .none) (hTI:yn s.heap TI (.ref i1) (.ref i2) (.ref i3)) (h1:St1 n1 s.heap)
 (hQ:∀ h',(∀ c o,c≠z->c≠i1->s.heap.get? c=some o->h'.get? c=some o)->Q none { s with heap:=h' }):wpAny (model prog w) A (pyNext (.ref z)) Q E s:=by
 have hT:s.TypeIs (.ref z) "zip":=⟨_,hz,rfl⟩
 unfold pyNext
 refine wpAny_bind (wpAny_attempt (wpAny_callSpecial?_slot (name:=Str.ofString "__next__") hT F.slot_zip_next
  (wpAny_call_entry F.slot_zip_next hT F.entry_zip_next (VQ D1 az1 nz hz hTI h1 λh' e hk he=>?_) (F.args_zip_next_1 _))))
 obtain⟨o,ho,hc⟩:=he
 refine wpAny_bind (wpAny_isInstance (T:="StopIteration") (b:=true) ⟨o,ho,hc⟩ isSubtype_stop ?_)
 exact wpAny_pure (hQ _ hk)
end
end PySem
namespace L2
open PySem PySem.Spec PyProof.Rows
noncomputable def Izp3 (K:W.Frag)(l1 l2 l3:Addr):It :=
 ⟨λi H=>∃ xs ys us x y u,SqL K H l1 xs/\SqL K H l2 ys/\SqL K H l3 us/\xs[i]?=some x/\ys[i]?=some y/\us[i]?=some u,
  λi H v H'=>∃ T x y u,v=.ref T/\H T=none/\H'=upd H T (.tup [x,y,u])/\(∀ xs,SqL K H l1 xs->xs[i]?=some x)/\(∀ ys,SqL K H l2 ys->ys[i]?=some y)/\(∀ us,SqL K H l3 us->us[i]?=some u),
  λi H=>∃ xs,SqL K H l1 xs/\i=xs.length⟩
theorem Wj {its:List Value}{i:Nat}{u v:Value}(hu:its[i]?=some u)(e:its.toArray[i]?=some v):v=u:=by
 have:its[i]?=some v:=by simpa using e
 rw[hu]at this
 exact(Option.some.inj this).symm
theorem zdb {P:Program}{w:World}{K:W.Frag}{es:List Expr}{k:Nat}{tp:Pos}(l1 l2 l3 z TI TO i1 i2 i3:Addr)(ap:zbY z TI TO i1 i2 i3 [i1,l1] [i2,l2] [i3,l3])(n1:l1≠i1)(n2:l2≠i2)(n3:l3≠i3) :
 ziz P w K (.Tuple es k tp) (Izp3 K l1 l2 l3) [z,TI,TO,i1,i2,i3] z (λi h=>IsZip h z TI TO .none/\yn h TI (.ref i1) (.ref i2) (.ref i3)/\(∃ a b c,yn h TO a b c)/\vY true h i1 l1 i/\vY true h i2 l2 i/\vY true h i3 l3 i) where
 mem:=by simp
 obj:=λi h st b hb=>by
  obtain⟨hz,hTI,⟨a,c,d,hTO⟩,h1,h2,h3⟩:=st
  simp only[List.mem_cons,List.not_mem_nil,or_false]at hb
  rcases hb with rfl | rfl | rfl | rfl | rfl | rfl
  .exact⟨_,hz,λv z=>by cases z⟩
  .exact⟨_,hTI,λv z=>by cases z⟩
  .exact⟨_,hTO,λv z=>by cases z⟩
  .exact yI h1
  .exact yI h2
  .exact yI h3
 keep:=λi h h' st kk=>by
  obtain⟨hz,hTI,⟨a,c,d,hTO⟩,h1,h2,h3⟩:=st
  exact⟨kk z (by simp) _ hz,kk TI (by simp) _ hTI,⟨a,c,d,kk TO (by simp) _ hTO⟩,xr h1 λo q=>kk i1 (by simp) o q,xr h2 λo q=>kk i2 (by simp) o q,xr h3 λo q=>kk i3 (by simp) o q⟩
 item:=by
  intro X hP hw hK hc i pins s σ H E I hf st hg
  subst hP hw hK
  obtain⟨hz,hTI,⟨a,c,d,hTO⟩,h1,h2,h3⟩:=st
  obtain⟨xs,ys,us,x,y,u,hq1,hq2,hq3,hx,hy,hu⟩:=hg
  obtain⟨its,rv,p,_⟩:=I.sq (b:=true) hq1
  obtain⟨its2,rv2,p2,_⟩:=I.sq (b:=true) hq2
  obtain⟨its3,rv3,p3,_⟩:=I.sq (b:=true) hq3
  obtain⟨w1,hw1,rw1⟩:=rv.get hx
  obtain⟨w2,hw2,rw2⟩:=rv2.get hy
  obtain⟨w3,hw3,rw3⟩:=rv3.get hu
  have hl1:i < its.toArray.size:=by simpa using (List.getElem?_eq_some_iff.mp hw1).1
  have hl2:i < its2.toArray.size:=by simpa using (List.getElem?_eq_some_iff.mp hw2).1
  have hl3:i < its3.toArray.size:=by simpa using (List.getElem?_eq_some_iff.mp hw3).1
  have hh:X.A.in1.handled=none:=I.ok.hd hc
  refine Wo (x8 hh true i1 l1 n1 its.toArray) (x8 hh true i2 l2 n2 its2.toArray) (x8 hh true i3 l3 n3 its3.toArray) ap hz hTI hTO ⟨h1,p⟩ ⟨h2,p2⟩ ⟨h3,p3⟩ hl1 hl2 hl3 λv1 v2 v3 h' tk e1 e2 e3 hz' hTO' s1 s2 s3 hT' hk=>?_
  cases Wj hw1 e1
  cases Wj hw2 e2
  cases Wj hw3 e3
  obtain⟨nd,az1,az2,az3,ao1,ao2,ao3,a12,a13,a21,a23,a31,a32⟩:=ap
  simp only[List.nodup_cons,List.mem_cons,List.not_mem_nil,or_false,not_or,not_false_eq_true,List.nodup_nil,and_true]at nd
  obtain⟨⟨m1,m2,m3,m4,m5⟩,⟨m6,m7,m8,m9⟩,_⟩:=nd
  refine⟨_,rfl,wpAny_letOwnedTupleGo_zip hz' λh2' hz2 hs2=>?_⟩
  have hfr:H s.heap.objs.size=none:=I.hok.fresh (Nat.le_refl _)
  have neZ:s.heap.objs.size≠z:=Nat.ne_of_gt (Heap.lt_size hz)
  have hT2:yn h2' s.heap.objs.size w1 w2 w3:=(hs2.2 _ neZ).trans hT'
  have hTI':yn h' TI (.ref i1) (.ref i2) (.ref i3):=hk TI _ (by simp[Ne.symm m1,m6,m7,m8,m9]) hTI
  have lt:∀ b∈[z,TI,TO,i1,i2,i3],b < s.heap.objs.size:=λb hb=>by
   simp only[List.mem_cons,List.not_mem_nil,or_false]at hb
   rcases hb with rfl | rfl | rfl | rfl | rfl | rfl
   .exact Heap.lt_size hz
   .exact Heap.lt_size hTI
   .exact Heap.lt_size hTO
   .obtain⟨o,ho,_⟩:=yI h1;exact Heap.lt_size ho
   .obtain⟨o,ho,_⟩:=yI h2;exact Heap.lt_size ho
   .obtain⟨o,ho,_⟩:=yI h3;exact Heap.lt_size ho
  refine⟨.ref s.heap.objs.size,upd H s.heap.objs.size (.tup [x,y,u]),?_,rfl,⟨_,x,y,u,rfl,hfr,rfl,λzs hz=>by rw[I.list_inj hz hq1];exact hx,λzs hz=>by rw[I.list_inj hz hq2];exact hy,λzs hz=>by rw[I.list_inj hz hq3];exact hu⟩,
   ⟨hz2,(hs2.2 TI (Ne.symm m1)).trans hTI',⟨_,_,_,(hs2.2 TO (Ne.symm m2)).trans hTO'⟩,xr s1.1 λo q=>(hs2.2 i1 (Ne.symm m3)).trans q,xr s2.1 λo q=>(hs2.2 i2 (Ne.symm m4)).trans q,xr s3.1 λo q=>(hs2.2 i3 (Ne.symm m5)).trans q⟩,λb hb=>?_⟩
  .refine I.grown (ch:=[z,TI,TO,i1,i2,i3]) hf (Nat.le_refl _) (λb v hb q=>?_) ?_
   .have nb:b≠z:=λw=>hb (by simp[w])
    refine(hs2.2 b nb).trans (hk b v (λw=>hb ?_) q)
    simp only[List.mem_cons,List.not_mem_nil,or_false]at w ⊢
    rcases w with w | w | w | w | w
    .exact .inl w
    .exact .inr (.inr (.inl w))
    .exact .inr (.inr (.inr (.inl w)))
    .exact .inr (.inr (.inr (.inr (.inl w))))
    .exact .inr (.inr (.inr (.inr (.inr w))))
   .exact⟨by show 3<=sizeLine;decide,[w1,w2,w3],.cons rw1 (.cons rw2 (.cons rw3 .nil)),⟨_,hT2,rfl,0,rfl⟩⟩
  .rw[zm (Nat.ne_of_lt (lt b hb))]
   exact(hf b hb).1
 done:=by
  intro X hP hw hK hc i pins s σ H E I hf st hg
  subst hP hw hK
  obtain⟨hz,hTI,_,h1,_⟩:=st
  obtain⟨xs,hq,rfl⟩:=hg
  obtain⟨its,rv,p,_⟩:=I.sq (b:=true) hq
  have hl:=rv.length
  have hh:X.A.in1.handled=none:=I.ok.hd hc
  have D:=x8 (prog:=X.prog) (w:=X.w) hh true i1 l1 n1 its.toArray
  refine WX D ap.z1 ?_ hz hTI ⟨by rw[List.size_toArray,<- hl];exact h1,p⟩ λh' hk=>⟨rfl,I.turnedN (ch:=[z,TI,TO,i1,i2,i3]) (t':=s.toks) hf λb v hb q=>hk b v (λw=>hb (by simp[w])) (λw=>hb (by simp[w])) q⟩
  have nd:=ap.nd
  simp only[List.nodup_cons,List.mem_cons,List.not_mem_nil,or_false,not_or,not_false_eq_true,List.nodup_nil,and_true]at nd
  exact Ne.symm nd.1.2.2.1
 self:=λ_ _ _ _ _ st h=>wpAny_pyIter_zip st.1 h
noncomputable def zli (K:W.Frag)(ta:TA):TI:=fun σ H R=>ta σ H λvs H1=>∃ l1 l2 l3 xs ys us,vs=[.ref l1,.ref l2,.ref l3]/\SqL K H1 l1 xs/\SqL K H1 l2 ys/\SqL K H1 l3 us/\R (Izp3 K l1 l2 l3) H1
theorem zh6 {X:Cx} {es:List Expr} {k:Nat} {tp:Pos} {a b c:Expr} {ta:TA} {p pos:Pos} (hg:Gl X "zip") (hm:X.mg "zip"=none) (hb:bootBuiltins "zip"=some (.type "zip")) (ha:PA X [a,b,c] ta)
 (hs:starEach [a,b,c] X.env=(false,eval a X.env)::starEach [b,c] X.env:=by rfl) (hs2:(backTo pos (starEach [b,c] X.env)).any (·.1)=false:=by rfl):PI X (.Tuple es k tp) (.Call (.Name "zip" p) [a,b,c] [] pos) (zli X.K ta):=by
 intro pins s σ H R I h
 refine Call_ (Yx I hg hm hb (PyProof.Rows.callWith_type1 (thn (ha pos pins s σ H _ I h) λvs0 s1 hq=>?_) hs hs2))
 obtain⟨vs,H1,I1,r1,l1,l2,l3,xs,ys,us,e,hq1,hq2,hq3,q⟩:=hq
 subst e
 obtain⟨w1,t1,rfl,rr1,r1⟩:∃ u t,vs0=u::t/\yH (.ref l1) u/\ya [.ref l2,.ref l3] t:=by cases r1 with | cons r t=>exact⟨_,_,rfl,r,t⟩
 obtain⟨w2,w3,rfl,rr2,rr3⟩:=zcv r1
 cases rr1
 cases rr2
 cases rr3
 obtain⟨its,rv,p1,lt1⟩:=I1.sq (b:=true) hq1
 obtain⟨its2,rv2,p2,lt2⟩:=I1.sq (b:=true) hq2
 obtain⟨its3,rv3,p3,lt3⟩:=I1.sq (b:=true) hq3
 refine WG p1 p2 p3 λh2 hz hTI hTO hi1 hi2 hi3 hk=>wpAny_pyIter_zip hz ?_
 have hn:∀ b,s1.heap.objs.size<=b->zco X pins H1 b:=λb hb=>I1.fpOk hb (I1.hok.fresh hb)
 have q1:∀ j:Nat,s1.heap.objs.size+j≠l1:=λj e=>Nat.lt_irrefl _ (Nat.lt_of_lt_of_le (by rw[<-e]at lt1;exact lt1) (Nat.le_add_right _ _))
 have q2:∀ j:Nat,s1.heap.objs.size+j≠l2:=λj e=>Nat.lt_irrefl _ (Nat.lt_of_lt_of_le (by rw[<-e]at lt2;exact lt2) (Nat.le_add_right _ _))
 have q3:∀ j:Nat,s1.heap.objs.size+j≠l3:=λj e=>Nat.lt_irrefl _ (Nat.lt_of_lt_of_le (by rw[<-e]at lt3;exact lt3) (Nat.le_add_right _ _))
 have ne:∀ i j:Nat,i≠j->s1.heap.objs.size+i≠s1.heap.objs.size+j:=λi j h e=>h (Nat.add_left_cancel e)
 have n0:∀ i:Nat,i≠0->s1.heap.objs.size+i≠s1.heap.objs.size:=λi h e=>h (Nat.add_left_cancel (n:=s1.heap.objs.size) (m:=i) (k:=0) e)
 have ap:zbY (s1.heap.objs.size+5) (s1.heap.objs.size+3) (s1.heap.objs.size+4) s1.heap.objs.size (s1.heap.objs.size+1) (s1.heap.objs.size+2) [s1.heap.objs.size,l1] [s1.heap.objs.size+1,l2] [s1.heap.objs.size+2,l3]:=by
  refine⟨?_,?_,?_,?_,?_,?_,?_,?_,?_,?_,?_,?_,?_⟩
  .simp only[List.nodup_cons,List.mem_cons,List.not_mem_nil,or_false,not_or,not_false_eq_true,List.nodup_nil,and_true]
   exact⟨⟨ne 5 3 (by decide),ne 5 4 (by decide),n0 5 (by decide),ne 5 1 (by decide),ne 5 2 (by decide)⟩,⟨ne 3 4 (by decide),n0 3 (by decide),ne 3 1 (by decide),ne 3 2 (by decide)⟩,⟨n0 4 (by decide),ne 4 1 (by decide),ne 4 2 (by decide)⟩,⟨Ne.symm (n0 1 (by decide)),Ne.symm (n0 2 (by decide))⟩,ne 1 2 (by decide)⟩
  all_goals simp only[List.mem_cons,List.not_mem_nil,or_false,not_or]
  .exact⟨n0 5 (by decide),q1 5⟩
  .exact⟨ne 5 1 (by decide),q2 5⟩
  .exact⟨ne 5 2 (by decide),q3 5⟩
  .exact⟨n0 4 (by decide),q1 4⟩
  .exact⟨ne 4 1 (by decide),q2 4⟩
  .exact⟨ne 4 2 (by decide),q3 4⟩
  .exact⟨Ne.symm (n0 1 (by decide)),q2 0⟩
  .exact⟨Ne.symm (n0 2 (by decide)),q3 0⟩
  .exact⟨n0 1 (by decide),q1 1⟩
  .exact⟨ne 1 2 (by decide),q3 1⟩
  .exact⟨n0 2 (by decide),q1 2⟩
  .exact⟨ne 2 1 (by decide),q2 2⟩
 refine⟨_,_,_,_,H1,rfl,I1.kept (t':=s1.toks) hk,zdb l1 l2 l3 _ _ _ _ _ _ ap (Nat.ne_of_lt lt1) (Nat.ne_of_lt (Nat.lt_succ_of_lt lt2)) (Nat.ne_of_lt (Nat.lt_succ_of_lt (Nat.lt_succ_of_lt lt3))),⟨hz,hTI,⟨_,_,_,hTO⟩,hi1,hi2,hi3⟩,λb hb=>?_,q⟩
 simp only[List.mem_cons,List.not_mem_nil,or_false]at hb
 rcases hb with rfl | rfl | rfl | rfl | rfl | rfl
 .exact hn _ (Nat.le_add_right _ _)
 .exact hn _ (Nat.le_add_right _ _)
 .exact hn _ (Nat.le_add_right _ _)
 .exact hn _ (Nat.le_refl _)
 .exact hn _ (Nat.le_add_right _ _)
 .exact hn _ (Nat.le_add_right _ _)
end L2
namespace Dl
open PySem L2 PySem.Spec PyProof.Rows
variable [KK]{X:Cx}{a b c:Expr}{pos:Pos}
noncomputable def Zq:List D->List D->List D->List D
 | x::xs,y::ys,u::us=>.tup [x,y,u]::Zq xs ys us
 | _,_,_=>[]
omit [KK] in
theorem Z5:∀ (xs ys us:List D) (i:Nat) (d:D),(Zq xs ys us)[i]?=some d->∃ x y u,xs[i]?=some x/\ys[i]?=some y/\us[i]?=some u/\d=.tup [x,y,u]
 | x::xs,y::ys,u::us,0,d,h=>by cases h;exact⟨x,y,u,rfl,rfl,rfl,rfl⟩
 | x::xs,y::ys,u::us,i+1,d,h=>by
  obtain⟨x',y',u',h1,h2,h3,h4⟩:=Z5 xs ys us i d (by simpa [Zq]using h)
  exact⟨x',y',u',by simpa using h1,by simpa using h2,by simpa using h3,h4⟩
 | [],_,_,_,_,h=>by simp[Zq]at h
 | _::_,[],_,_,_,h=>by simp[Zq]at h
 | _::_,_::_,[],_,_,h=>by simp[Zq]at h
omit [KK] in
theorem vv:∀ (xs ys us:List D),xs.length<=ys.length->xs.length<=us.length->(Zq xs ys us).length=xs.length
 | [],_,_,_,_=>by simp[Zq]
 | x::xs,[],_,h,_=>by simp at h
 | x::xs,_::_,[],_,h=>by simp at h
 | x::xs,y::ys,u::us,h,h2=>by simp[Zq,vv xs ys us (by simpa using h) (by simpa using h2)]
noncomputable def zby (f:Ev->Option (List D)):Ev->Option (List D):=fun ρ=>(f ρ).bind λas=>match as with
 | [.lst xs,.lst ys,.lst us]=>if xs.length<=ys.length/\xs.length<=us.length then some (Zq xs ys us)else none
 | _=>none
theorem zif {es:List Expr} {k:Nat} {tp p:Pos} {f:Ev->Option (List D)} (hg:Gl X "zip") (hm:X.mg "zip"=none) (ha:AD X [a,b,c] f)
 (hs:starEach [a,b,c] X.env=(false,eval a X.env)::starEach [b,c] X.env:=by rfl) (hs2:(backTo pos (starEach [b,c] X.env)).any (·.1)=false:=by rfl):ID X (.Tuple es k tp) (.Call (.Name "zip" p) [a,b,c] [] pos) (zby f):=by
 obtain⟨t,pa,r⟩:=ha
 refine⟨_,zh6 hg hm zgM pa hs hs2,fun σ ρ F H ds R s va e q=>?_⟩
 obtain⟨as,e1,e2⟩:=Option.bind_eq_some_iff.mp e
 refine r σ ρ F H as _ s va e1 λF1 H1 v g1 a1=>?_
 split at e2
 .rename_i xs ys us
  have e2:(if xs.length<=ys.length/\xs.length<=us.length then some (Zq xs ys us)else none)=some ds:=e2
  by_cases hle:xs.length<=ys.length/\xs.length<=us.length
  .rw[if_pos hle]at e2
   cases e2
   obtain⟨x,r',rfl,ax,ar⟩:=a1.cons_inv
   obtain⟨y,r',rfl,ay,ar⟩:=ar.cons_inv
   obtain⟨u,r',rfl,au,ar⟩:=ar.cons_inv
   cases ar.nil_inv
   obtain⟨p1,vs1,rfl,hx,al1⟩:=ax.lst_inv
   obtain⟨p2,vs2,rfl,hy,al2⟩:=ay.lst_inv
   obtain⟨p3,vs3,rfl,hu,al3⟩:=au.lst_inv
   refine⟨p1,p2,p3,vs1,vs2,vs3,rfl,SqL.of (g1.fh _ _ hx),SqL.of (g1.fh _ _ hy),SqL.of (g1.fh _ _ hu),q F1 H1 _ g1 λi F2 H2 s1 s2=>?_⟩
   have q1:SqL X.K H2 p1 vs1:=SqL.of (s2 _ _ (s1 _ _ hx))
   have q2:SqL X.K H2 p2 vs2:=SqL.of (s2 _ _ (s1 _ _ hy))
   have q3:SqL X.K H2 p3 vs3:=SqL.of (s2 _ _ (s1 _ _ hu))
   refine⟨λhl=>⟨vs1,q1,by rw[hl,vv _ _ _ hle.1 hle.2,al1.length]⟩,λd hd=>?_⟩
   obtain⟨x,y,u,h1,h2,h3,rfl⟩:=Z5 _ _ _ _ _ hd
   obtain⟨w1,hw1,aw1⟩:=al1.get h1
   obtain⟨w2,hw2,aw2⟩:=al2.get h2
   obtain⟨w3,hw3,aw3⟩:=al3.get h3
   refine⟨⟨vs1,vs2,vs3,w1,w2,w3,q1,q2,q3,hw1,hw2,hw3⟩,λz H3 hz=>?_⟩
   obtain⟨T,x',y',u',rfl,hT,rfl,hx',hy',hu'⟩:=hz
   have e5:=hx' vs1 q1
   have e6:=hy' vs2 q2
   have e7:=hu' vs3 q3
   rw[hw1]at e5
   rw[hw2]at e6
   rw[hw3]at e7
   cases e5
   cases e6
   cases e7
   have g3:=Gr.alloc s2 hT (.tup [w1,w2,w3])
   exact⟨_,g3,.tup zk (.cons (aw1.mono (s1.trans g3.ff)) (.cons (aw2.mono (s1.trans g3.ff)) (.cons (aw3.mono (s1.trans g3.ff)) .nil)))⟩
  .rw[if_neg hle]at e2;cases e2
 .cases e2
end Dl
namespace L2
open PySem PySem.Spec PyProof.Rows
open Sem (wp)
section
variable {prog:Program}{w:World}{A:Around}{E:Value->Shared->Prop}{h:Heap}{g:Array GenState}{d:Drawn}{t:Nat}{os:OsState}
 {nm q:Str} {C N fI:Addr} {bs bm:List Value} {hdct:Bool} {sn:List Str} {sub:List Value} {ab:Bool} {col:Option Bool} {dd:Option Addr} {k0 k1 k2 k3 k5:Option Value} {mN:Str->Option Value} {us:List Value} {oI:Obj}
end
end L2
namespace L2
open PySem PySem.Spec PyProof.Rows
section
variable {prog:Program}{w:World}{A:Around}{E:Value->Shared->Prop}{s:Shared}{env:Env}
 {nm q:Str} {C N fI:Addr} {bs bm:List Value} {hdct:Bool} {sn:List Str} {sub:List Value} {ab:Bool} {col:Option Bool} {dd:Option Addr} {k0 k1 k2 k3 k5:Option Value} {mN:Str->Option Value} {oI:Obj}
end
end L2
namespace OwnDk
open PySem
section
variable {prog:Program}{w:World}{A:Around}{E:Value->Shared->Prop}{s:Shared}
theorem V7 (hh:A.handled=none)(I a:Addr)(hne:a≠I){ob:Obj}{es:Array DictEntry}{ep:Nat}(hd:ob.data=.dict es ep) :
 Walks prog w A I [I,a] [I] es.size (λi v=>∃ e,es[i]?=some e/\v=e.key) (λi h=>h.IsKeyIter I a i es.size ep/\h.get? a=some ob) where
 sub:=λb hb=>by simp at hb;simp[hb]
 frame:=λ_ _ _ x hk=>⟨x.1.at λo e=>hk I (by simp) o e,hk a (by simp) _ x.2⟩
 item:=λi s Q E hi x hQ=>by
  have hx:es[i]?=some (es[i]'hi):=Array.getElem?_eq_getElem _
  refine L2.raw_next x.1 x.2 hd hx λh' he' hs'=>?_
  exact hQ _ h' s.toks ⟨_,hx,rfl⟩ ⟨he',(hs'.2 a hne).trans x.2⟩ λb o hb eo=>hs'.extBut b o (λh=>hb (by simp[h])) eo
 done:=λs Q E x hQ=>L2.raw_end hh x.1 x.2 hd (Nat.le_refl _) λh' he'=>hQ h' s.toks λb o hb eo=>he' b o (λh=>hb (by simp[h])) eo
 self:=λ_ _ _ _ x hQ=>wpAny_pyIter_keyiter x.1 hQ
theorem Zu {a:Addr}{ob:Obj}{es:Array DictEntry}{ep:Nat}{Q:List Value->Shared->Prop}(hh:A.handled=none)(hs:(a == sysModules)=false)(hS:s.heap.get? a=some ob)(hc:ob.ExactDict)(hd:ob.data=.dict es ep)(h8:es.size<=sizeLine)
 (hQ:∀ s',(∀ b o,s.heap.get? b=some o->s'.heap.get? b=some o)->s'.gens=s.gens->s'.drawn=s.drawn->s'.os=s.os->Q (es.toList.map (·.key)) s'):wpAny (model prog w) A (collect (.ref a)) Q E s:=by
 have hlt:a < s.heap.objs.size:=Heap.lt_size hS
 have hSa:s.heap.objs.size≠a:=Nat.ne_of_gt hlt
 unfold collect
 refine wpAny_bind (wpAny_runValue (codeAny_builtin F.entry_proto_collect ?_))
 rw[Around.under_plainId F.plain_proto_collect _]
 show wpAny _ A.in1 (newList []>>=λl=>again (.builtin "list.__iadd__" ⟨[l,.ref a],[]⟩)) _ _ s
 refine wpAny_bind (wpAny_newObj_type ?_)
 refine wpAny_pure ⟨plainId_quiet F.plain_list_iadd _,codeAny_builtin F.entry_list_iadd ?_⟩
 rw[Around.under_plainId F.plain_list_iadd _]
 have hS1:(s.heap.push { cls:=.type "list",data:=.seq ([]:List Value).toArray }).get? a=some ob:=Heap.get?_push_of_some _ hS
 have hL1:(s.heap.push { cls:=.type "list",data:=.seq ([]:List Value).toArray }).get? s.heap.objs.size=some { cls:=.type "list",data:=.seq ([]:List Value).toArray }:=Heap.get?_push_size _ rfl
 generalize hh1:s.heap.push { cls:=.type "list",data:=.seq ([]:List Value).toArray }=h1 at hS1 hL1 ⊢
 have k1:∀ b o,s.heap.get? b=some o->h1.get? b=some o:=λb o e=>by rw[<-hh1];exact Heap.get?_push_of_some _ e
 have hz1:h1.objs.size=s.heap.objs.size+1:=by rw[<-hh1];exact Heap.size_push ..
 show wpAny _ A.in1 (Builtin.List.listExtendWith (.ref s.heap.objs.size) (.ref a) (.ref s.heap.objs.size)) _ _ _
 unfold Builtin.List.listExtendWith
 refine wpAny_bind (wpAny_typeOf (T:="dict") ⟨_,hS1,hc.1⟩ ?_)
 have g1:Builtin.List.listSameRef (.ref s.heap.objs.size) (.ref a)=false:=by simp[Builtin.List.listSameRef,hSa]
 have g2:(Value.type "dict" == Value.type "list")=false:=by decide
 have g3:(Value.type "dict" == Value.type "tuple")=false:=by decide
 simp only[g1,g2,g3,Bool.or_false,Bool.false_eq_true,if_false]
 refine wpAny_bind (L2.raw_iter hs hS1 hc hd ?_)
 have hI2:(h1.push { cls:=.type "dict_keyiterator",data:=.fields #[.ref a,.int 0 0,.int es.size 0,.int ep 0] }).IsKeyIter h1.objs.size a 0 es.size ep:=⟨_,Heap.get?_push_size _ rfl,rfl,rfl⟩
 have hS2:(h1.push { cls:=.type "dict_keyiterator",data:=.fields #[.ref a,.int 0 0,.int es.size 0,.int ep 0] }).get? a=some ob:=Heap.get?_push_of_some _ hS1
 have hL2:=Heap.get?_push_of_some { cls:=.type "dict_keyiterator",data:=.fields #[.ref a,.int 0 0,.int es.size 0,.int ep 0] } hL1
 generalize hh2:h1.push { cls:=.type "dict_keyiterator",data:=.fields #[.ref a,.int 0 0,.int es.size 0,.int ep 0] }=h2 at hI2 hS2 hL2 ⊢
 have k2:∀ b o,h1.get? b=some o->h2.get? b=some o:=λb o e=>by rw[<-hh2];exact Heap.get?_push_of_some _ e
 refine wpAny_bind (wpAny_holding (PySem.W.kdl_hint_dict ⟨_,hS2,hc.1⟩ ?_))
 show wpAny _ A.in1 (if true=true then _ else _) _ _ _
 rw[if_pos rfl]
 refine wpAny_bind (wpAny_rule (wpAny_bind ?_))
 show wpAny _ A.in1 (updateSeq s.heap.objs.size (·.push .none)>>=λ_=>updateSeq s.heap.objs.size (·.pop)) _ _ _
 refine wpAny_bind (wpAny_updateSeq hL2 rfl ?_)
 have hL3:=Heap.get?_update_self (Obj.mapSeq (·.push Value.none)) hL2 rfl
 refine wpAny_updateSeq (hz:=by seq_fits) hL3 rfl ?_
 have hL4:=Heap.get?_update_self (Obj.mapSeq (·.pop)) hL3 rfl
 have oth:∀ b o,b≠s.heap.objs.size->h2.get? b=some o->((h2.update s.heap.objs.size (Obj.mapSeq (·.push Value.none))).update s.heap.objs.size (Obj.mapSeq (·.pop))).get? b=some o :=
  λb o hb e=>(Heap.get?_update_other _ _ (Ne.symm hb)).trans ((Heap.get?_update_other _ _ (Ne.symm hb)).trans e)
 have hIne:h1.objs.size≠s.heap.objs.size:=by rw[hz1];exact Nat.succ_ne_self _
 have hIa:a≠h1.objs.size:=by rw[hz1];exact Nat.ne_of_lt (Nat.lt_succ_of_lt hlt)
 have W:=V7 (prog:=prog) (w:=w) (A:=A.in1) hh h1.objs.size a hIa hd
 refine wpAny_pure ⟨plainId_quiet F.plain_extend_loop _,codeAny_extend_loopS W.toS h8 _ (λhmem=>?_) _ es.size 0 _ #[] _ rfl (Nat.zero_le _) ⟨hI2.at λo e=>oth _ _ hIne e,oth _ _ (Ne.symm hSa) hS2⟩ hL4 (ItemsOf.nil _) λs' acc' c' hmv hS' hacc=>?_⟩
 .rcases List.mem_cons.mp hmem with e | e
  .exact hIne e.symm
  .exact hSa (List.mem_singleton.mp e)
 .show wpAny _ A (load s.heap.objs.size>>=_) _ _ s'
  refine wpAny_bind (wpAny_load hS' ?_)
  refine wpAny_pure ?_
  have e1:acc'.toList=es.toList.map (·.key):=by
   apply List.ext_getElem?
   intro i
   by_cases hi:i < es.size
   .have q1:acc'[i]?=some (acc'[i]'(by rw[hacc.1];exact hi)):=Array.getElem?_eq_getElem _
    obtain⟨e,q2,q3⟩:=hacc.2 i _ q1
    rw[List.getElem?_map,Array.getElem?_toList,Array.getElem?_toList,q1,q2,q3]
    rfl
   .rw[List.getElem?_eq_none (by rw[Array.length_toList,hacc.1];exact Nat.le_of_not_lt hi),List.getElem?_eq_none (by rw[List.length_map,Array.length_toList];exact Nat.le_of_not_lt hi)]
  rw[e1]
  refine hQ s' (λb o e=>hmv.heap b o (λhmem=>?_) (oth b o (Nat.ne_of_lt (Heap.lt_size e)) (k2 b o (k1 b o e)))) hmv.gens hmv.drawn hmv.os
  rcases List.mem_cons.mp hmem with z | z
  .exact Nat.ne_of_lt (Heap.lt_size e) z
  .have:=Heap.lt_size e
   rw[List.mem_singleton.mp z,hz1]at this
   exact absurd (Nat.lt_of_succ_lt this) (Nat.lt_irrefl _)
theorem own_sorted_dict {a:Addr}{ob:Obj}{es:Array DictEntry}{ep:Nat}{Q:Value->Shared->Prop}(hh:A.handled=none)(hs:(a == sysModules)=false)(hS:s.heap.get? a=some ob)(hc:ob.ExactDict)(hd:ob.data=.dict es ep)(h64:es.size < 10000000)(hT:∀ v∈es.toList.map (·.key),∃ t,OwnSortT.TT s.heap v t)
 (h:∀ (h1 h':Heap) (tk':Nat) (out:Array Value) (c:Nat),out.toList.Perm (es.toList.map (·.key))->OwnSortT.Rise s.heap out.toList->(∀ b o,s.heap.get? b=some o->h1.get? b=some o)->(∀ b o,h1.get? b=some o->h'.get? b=some o) ->
  h'.get? h1.objs.size=some { cls:=.type "list",dict:=none,data:=.seq out c,slots:=#[] }->Q (.ref h1.objs.size) { s with heap:=h',toks:=tk' }) :
 wpAny (model prog w) A (call (.builtin "sorted") [.ref a]) Q E s:=by
 refine Calls.call_function_entry PyProof.Rows.kind_sorted PyProof.Rows.plain_sorted PyProof.Rows.entry_sorted (PyProof.Rows.args_sorted1 _) ?_
 unfold Builtin.«sorted»
 refine wpAny_bind (m:=checkCount "sorted" 1 1 _) (wpAny_pure (wpAny_bind (Zu hh hs hS hc hd (Nat.le_trans (Nat.le_of_lt h64) (by rw[sizeLine_eq];decide)) λs' k g1 g2 g3=>?_)))
 obtain⟨h1,g',d',tk1,os'⟩:=s'
 have e1:g'=s.gens:=g1
 have e2:d'=s.drawn:=g2
 have e3:os'=s.os:=g3
 subst e1 e2 e3
 have h64:(es.toList.map (·.key)).length < 10000000:=by rw[List.length_map,Array.length_toList];exact h64
 generalize es.toList.map (·.key)=vs at *
 refine wpAny_bind (wpAny_newList ?_)
 have hoL:(h1.push (PyProof.Rows.seqObj "list" vs.toArray 0)).get? h1.objs.size=some (PyProof.Rows.seqObj "list" vs.toArray 0):=Heap.get?_push_size _ rfl
 have up:∀ b o,s.heap.get? b=some o->(h1.push (PyProof.Rows.seqObj "list" vs.toArray 0)).get? b=some o:=λb o e=>Heap.get?_push_of_some _ (k b o e)
 refine wpAny_bind (wpAny_holding (wpAny_call_entry PyProof.Rows.slot_list_sort ⟨_,hoL,rfl⟩ PyProof.Rows.entry_list_sort (OwnSortT.ownT_list_sort hoL (λv hv=>let ⟨t,ht⟩:=hT v hv;⟨t,ht.keep up⟩) h64 λout p1 p2=>⟨_,rfl,?_⟩) (PyProof.Rows.args_list_sort _)))
 have rise:OwnSortT.Rise s.heap out.toList:=by
  obtain⟨ts,q1,q2,q3⟩:=p2
  refine⟨ts,q1,λi v t hv ht=>?_,q3⟩
  obtain⟨t0,ht0⟩:=hT v (p1.mem_iff.mp (List.mem_of_getElem? hv))
  rw[(q2 i v t hv ht).uniq (ht0.keep up)]
  exact ht0
 have hn:∀ b o,b≠h1.objs.size->(h1.push (PyProof.Rows.seqObj "list" vs.toArray 0)).get? b=some o->(PyProof.Rows.sortedHeap (h1.push (PyProof.Rows.seqObj "list" vs.toArray 0)) h1.objs.size vs out).get? b=some o:=λb o hb e=>by
  unfold PyProof.Rows.sortedHeap
  exact(Heap.get?_update_other _ _ (Ne.symm hb)).trans (Heap.get?_push_of_some _ (Heap.get?_push_of_some _ ((Heap.get?_update_other _ _ (Ne.symm hb)).trans e)))
 have hL:∃ c,(PyProof.Rows.sortedHeap (h1.push (PyProof.Rows.seqObj "list" vs.toArray 0)) h1.objs.size vs out).get? h1.objs.size=some { cls:=.type "list",dict:=none,data:=.seq out c,slots:=#[] }:=by
  unfold PyProof.Rows.sortedHeap
  have u1:=Heap.get?_update_self (Obj.mapSeq λ_=>(#[]:Array Value)) hoL rfl
  have u2:=Heap.get?_push_of_some (PyProof.Rows.seqObj "list" #[] 0) (Heap.get?_push_of_some (PyProof.Rows.seqObj "tuple" vs.toArray 0) u1)
  exact⟨_,Heap.get?_update_self (Obj.mapSeq λ_=>out) u2 rfl⟩
 obtain⟨c,hL⟩:=hL
 exact wpAny_pure ⟨_,rfl,h h1 _ _ out c p1 rise k (λb o e=>hn b o (Nat.ne_of_lt (Heap.lt_size e)) (Heap.get?_push_of_some _ e)) hL⟩
end
end OwnDk
namespace Dl
open PySem L2
noncomputable def zcr:List Key->Option (List Int)
 | []=>some []
 | .inl i::r=>(zcr r).map (i::·)
 | _=>none
noncomputable def VF:List (List Key)->Option (List (List Int))
 | []=>some []
 | k::ks=>match zcr k with
  | some (i::t)=>(VF ks).map ((i::t)::·)
  | _=>none
theorem zfI:∀ {k:List Key} {t:List Int},zcr k=some t->k=t.map Sum.inl:=by
 intro k
 induction k with
 | nil=>intro t h;cases h;rfl
 | cons a k ih =>
  intro t h
  cases a with
  | inl i =>
   obtain⟨r,e,rfl⟩:=Option.map_eq_some_iff.mp h
   rw[ih e]
   rfl
  | inr x=>cases h
theorem zfZ:∀ {ks:List (List Key)} {ts:List (List Int)},VF ks=some ts->ks=ts.map (λt=>t.map Sum.inl)/\∀ t∈ts,t≠[]:=by
 intro ks
 induction ks with
 | nil=>intro ts h;cases h;exact⟨rfl,λt h=>by cases h⟩
 | cons k ks ih =>
  intro ts h
  unfold VF at h
  split at h
  .rename_i i t e
   obtain⟨r,e2,rfl⟩:=Option.map_eq_some_iff.mp h
   obtain⟨h1,h2⟩:=ih e2
   refine⟨by rw[h1,zfI e];rfl,λu hu=>?_⟩
   rcases List.mem_cons.mp hu with rfl | hu
   .exact List.cons_ne_nil _ _
   .exact h2 u hu
  .cases h
noncomputable def ziA (t:List Int):List (List Int)->List (List Int)
 | []=>[t]
 | u::us=>if HT.lexLt u t=true then u::ziA t us else t::u::us
noncomputable def vA:List (List Int)->List (List Int)
 | []=>[]
 | t::ts=>ziA t (vA ts)
theorem VO (t:List Int):∀ us:List (List Int),(ziA t us).Perm (t::us):=by
 intro us
 induction us with
 | nil=>exact List.Perm.refl _
 | cons u us ih =>
  unfold ziA
  split
  .exact(ih.cons u).trans (List.Perm.swap _ _ _)
  .exact List.Perm.refl _
theorem wJ:∀ ts:List (List Int),(vA ts).Perm ts:=by
 intro ts
 induction ts with
 | nil=>exact List.Perm.refl _
 | cons t ts ih=>exact(VO t _).trans (ih.cons t)
theorem zdR (t:List Int):∀ us:List (List Int),us.Pairwise (λa b=>HT.lexLt b a=false)->(ziA t us).Pairwise λa b=>HT.lexLt b a=false:=by
 intro us
 induction us with
 | nil=>intro _;exact List.pairwise_singleton _ _
 | cons u us ih =>
  intro h
  rw[List.pairwise_cons]at h
  unfold ziA
  by_cases c:HT.lexLt u t=true
  .rw[if_pos c]
   refine List.pairwise_cons.mpr ⟨λv hv=>?_,ih h.2⟩
   rcases List.mem_cons.mp ((VO t us).mem_iff.mp hv)with rfl | hv
   .cases e:HT.lexLt v u with
    | false=>rfl
    | true =>
     have:=OwnSortT.lex_trans _ _ _ c e
     rw[OwnSortT.lex_irr]at this
     cases this
   .exact h.1 v hv
  .rw[if_neg c]
   have c:HT.lexLt u t=false:=by cases e:HT.lexLt u t with
    | false=>rfl
    | true=>exact absurd e c
   refine List.pairwise_cons.mpr ⟨λv hv=>?_,List.pairwise_cons.mpr h⟩
   rcases List.mem_cons.mp hv with rfl | hv
   .exact c
   .cases e:HT.lexLt v t with
    | false=>rfl
    | true =>
     rcases OwnSortT.lex_neg v u t e with z | z
     .rw[h.1 v hv]at z;cases z
     .rw[c]at z;cases z
theorem zaQ:∀ ts:List (List Int),(vA ts).Pairwise λa b=>HT.lexLt b a=false:=by
 intro ts
 induction ts with
 | nil=>exact List.Pairwise.nil
 | cons t ts ih=>exact zdR t _ ih
theorem zaC {ts us:List (List Int)}(p:us.Perm ts)(h:us.Pairwise λa b=>HT.lexLt b a=false):us=vA ts :=
 List.Perm.eq_of_pairwise (le:=λa b=>HT.lexLt b a=false) (λa b _ _ h1 h2=>OwnSortT.lex_total _ _ h2 h1) h (zaQ ts) (p.trans (wJ ts).symm)
noncomputable def zkD (t:List Int):D:=.tup (t.map .int)
noncomputable def sortMD:List D->Option (List D)
 | [.dct _ true ks _]=>if ks.length < 64 then (VF ks).map λts=>(vA ts).map zkD else none
 | _=>none
variable [KK]
section
variable {X:Cx}{e:Expr}{pos:Pos}
theorem Gr.seeL {H:Hp}:∀ {F:Hp} (bs:List (Addr × List V)),yf F H->(∀ b∈bs,H b.1=some (.tup b.2))->∃ F',Gr F H F' H/\∀ b∈bs,F' b.1=some (.tup b.2):=by
 intro F bs
 induction bs generalizing F with
 | nil=>intro s _;exact⟨F,.refl s,λb h=>by cases h⟩
 | cons b bs ih =>
  intro s h
  obtain⟨F1,g1,e1⟩:=Gr.see s (h b List.mem_cons_self)
  obtain⟨F2,g2,e2⟩:=ih g1.fh λc hc=>h c (List.mem_cons_of_mem _ hc)
  refine⟨F2,g1.trans g2,λc hc=>?_⟩
  rcases List.mem_cons.mp hc with rfl | hc
  .exact g2.ff _ _ e1
  .exact e2 c hc
theorem VU (hc:X.calm=true):Yf X (.builtin "sorted") (λxs H Q=>∃ F a z ks ys ts,xs=[.ref a]/\yf F H/\Wx F a z true ks ys/\ks.length < 10000000/\VF ks=some ts/\∀ l zs F',H l=none->Gr F H F' H->AtL F' ((vA ts).map zkD) zs->Q (.ref l) (upd H l (.lst zs))):=by
 intro pins s σ H xs us Q I r h
 obtain⟨F,a,z,ks,ys,ts,rfl,sm,hd,h64,hk,q⟩:=h
 obtain⟨u,rfl,ru⟩:=Vy r
 cases ru
 obtain⟨rfl,hne⟩:=zfZ hk
 rw[List.length_map]at h64
 obtain⟨u,hu,hz⟩:=hd.mono sm
 unfold zbQ at hu
 rw[if_pos rfl]at hu
 obtain⟨kvs,rfl,hks,-⟩:=hu
 have ok:yw X.prog X.w H s.heap a (.dT kvs):=by
  cases z with
  | true=>rw[if_pos rfl]at hz;obtain⟨ob,e⟩:=hz;exact(show yw X.prog X.w H s.heap a (.frz ob (.dT kvs))from I.hok a _ e).2
  | false=>rw[if_neg Bool.false_ne_true]at hz;exact I.hok a _ hz
 obtain⟨_,sys,xs,pr,o,es,ep,e1,ex,dt,he,nd⟩:=ok
 have hp:=Paired.length pr
 have hkl:kvs.length=ts.length:=by have:=congrArg List.length hks;rw[List.length_map,List.length_map]at this;exact this
 have hkeys:es.toList.map (·.key)=xs.map λq=>Value.ref q.2.1:=by rw[he,List.map_map];rfl
 have hsz:es.size < 10000000:=by rw[<-Array.length_toList,he,List.length_map];omega
 have rel:∀ {l:List (List Key × V)} {m:List (List Key × Addr × Value)},Paired (λp q=>p.1=q.1/\H q.2.1=some (.tup (p.1.map kV))/\yH p.2 q.2.2) l m->∀ (j:Nat) (h1:j < l.length) (h2:j < m.length),l[j].1=m[j].1/\H m[j].2.1=some (.tup (l[j].1.map kV)):=λ{l m} r=>by
  induction r with
  | nil=>intro j h1;simp at h1
  | cons h t ih =>
   intro j h1 h2
   cases j with
   | zero=>exact⟨h.1,h.2.1⟩
   | succ j=>exact ih j (by simpa using h1) (by simpa using h2)
 have atJ:∀ (j:Nat) (h1:j < ts.length) (h2:j < xs.length),H xs[j].2.1=some (.tup (ts[j].map V.int)):=λj h1 h2=>by
  have h3:j < kvs.length:=by omega
  obtain⟨-,r2⟩:=rel pr j h3 h2
  have e3:kvs[j].1=ts[j].map Sum.inl:=by
   have:=congrArg (λl=>l[j]?) hks
   simp only[List.getElem?_map]at this
   rw[List.getElem?_eq_getElem h3,List.getElem?_eq_getElem h1]at this
   exact Option.some.inj this
  rw[r2,e3,List.map_map]
  rfl
 have look:∀ {v:Value},v∈(xs.map λq=>Value.ref q.2.1)->∃ b t,v=.ref b/\t∈ts/\H b=some (.tup (t.map V.int))/\OwnSortT.TT s.heap v t:=λ{v} hv=>by
  obtain⟨j,hj,rfl⟩:=List.getElem_of_mem hv
  rw[List.length_map]at hj
  have hj2:j < ts.length:=by omega
  have hb:=atJ j hj2 hj
  rw[List.getElem_map]
  obtain⟨us,ru,⟨o,ho,hcl,n,hd⟩,_⟩:=I.tuple (SqT.of hb)
  exact⟨xs[j].2.1,ts[j],rfl,List.getElem_mem hj2,hb,xs[j].2.1,o,n,us,rfl,ho,hcl,hd,YX ru,hne _ (List.getElem_mem hj2)⟩
 refine OwnDk.own_sorted_dict (I.ok.hd hc) sys e1 ex dt hsz (λv hv=>by rw[hkeys]at hv;obtain⟨b,t,-,-,-,ht⟩:=look hv;exact⟨t,ht⟩) λh1 h' tk out c pm ri k1 k2 hL=>?_
 rw[hkeys]at pm
 obtain⟨us,l1,l2,l3⟩:=ri
 have zsOf:∀ (ws:List Value) (vs:List (List Int)),ws.length=vs.length->(∀ w∈ws,w∈xs.map λq=>Value.ref q.2.1)->(∀ (i:Nat) v t,ws[i]?=some v->vs[i]?=some t->OwnSortT.TT s.heap v t)->∃ bs:List (Addr × List Int),bs.map (·.2)=vs/\ya (bs.map λb=>V.ref b.1) ws/\∀ b∈bs,H b.1=some (.tup (b.2.map V.int)):=by
  intro ws
  induction ws with
  | nil =>
   intro vs hl _ _
   cases vs with
   | nil=>exact⟨[],rfl,.nil,λb h=>by cases h⟩
   | cons _ _=>simp at hl
  | cons w ws ih =>
   intro vs hl hm ht
   cases vs with
   | nil=>simp at hl
   | cons t vs =>
    obtain⟨bs,z0,z1,z2⟩:=ih vs (by simpa using hl) (λw' hw'=>hm w' (List.mem_cons_of_mem _ hw')) (λi v t h1 h2=>ht (i+1) v t (by simpa using h1) (by simpa using h2))
    obtain⟨a,t',rfl,_,ha,htp⟩:=look (hm w List.mem_cons_self)
    have et:t'=t:=htp.uniq (ht 0 _ t rfl rfl)
    subst et
    exact⟨(a,t')::bs,by rw[List.map_cons,z0],.cons rfl z1,λb hb=>by
     rcases List.mem_cons.mp hb with rfl | hb
     .exact ha
     .exact z2 b hb⟩
 obtain⟨bs,z0,z1,z2⟩:=zsOf out.toList us l1 (λw hw=>pm.mem_iff.mp hw) l2
 have keysPerm:us.Perm ts:=by
  have kv:∀ (ws:List Value) (vs:List (List Int)),ws.length=vs.length->(∀ (i:Nat) v t,ws[i]?=some v->vs[i]?=some t->OwnSortT.TT s.heap v t)->vs=ws.map λv=>(OwnSortT.keyTT s.heap v).getD []:=by
   intro ws
   induction ws with
   | nil=>intro vs hl _;cases vs with
    | nil=>rfl
    | cons _ _=>simp at hl
   | cons w ws ih =>
    intro vs hl ht
    cases vs with
    | nil=>simp at hl
    | cons t vs =>
     rw[List.map_cons,OwnSortT.keyTT_of (ht 0 w t rfl rfl),<- ih vs (by simpa using hl) λi v t h1 h2=>ht (i+1) v t (by simpa using h1) (by simpa using h2)]
     rfl
  rw[kv _ _ l1 l2,kv (xs.map λq=>Value.ref q.2.1) ts (by rw[List.length_map];omega) λi v t h1 h2=>?_]
  .exact pm.map _
  .obtain⟨hi,e2⟩:=List.getElem?_eq_some_iff.mp h1
   obtain⟨hi2,e3⟩:=List.getElem?_eq_some_iff.mp h2
   rw[List.length_map]at hi
   have hb:=atJ i hi2 hi
   rw[e3]at hb
   obtain⟨us',ru',⟨o,ho,hcl,n,hd⟩,_⟩:=I.tuple (SqT.of hb)
   exact⟨xs[i].2.1,o,n,us',by rw[<-e2,List.getElem_map],ho,hcl,hd,YX ru',hne t (by rw[<-e3];exact List.getElem_mem hi2)⟩
 have e3:=zaC keysPerm l3
 subst e3
 obtain⟨F',g,hF⟩:=Gr.seeL (bs.map λb=>(b.1,b.2.map V.int)) sm λb hb=>by
  obtain⟨c,hc,rfl⟩:=List.mem_map.mp hb
  exact z2 c hc
 have az:AtL F' ((vA ts).map zkD) (bs.map λb=>V.ref b.1):=by
  rw[<-z0]
  clear z0 z1 pm l1 l2
  induction bs with
  | nil=>exact .nil
  | cons b bs ih=>exact .cons (.tup (hF (b.1,b.2.map V.int) (List.mem_map.mpr ⟨b,List.mem_cons_self,rfl⟩)) (.ints _)) (ih (λc hc=>z2 c (List.mem_cons_of_mem _ hc)) (λc hc=>by
   obtain⟨d,hd,rfl⟩:=List.mem_map.mp hc
   exact hF _ (List.mem_map.mpr ⟨d,List.mem_cons_of_mem _ hd,rfl⟩)))
 have I2:Inv X pins σ H { s with heap:=h1,toks:=tk }:=I.kept λb u e=>k1 b u e
 have hlo:(bs.map λb=>V.ref b.1).length<=sizeLine:=by
  have hh:bs.length=(vA ts).length:=by rw[<-z0,List.length_map]
  rw[List.length_map,hh,(wJ ts).length_eq,sizeLine_eq]
  omega
 exact⟨.ref h1.objs.size,_,I2.laid (t':=tk) (λb o e=>k2 b o e) (Nat.le_refl _) (show yw X.prog X.w _ h' _ (.lst (bs.map λb=>V.ref b.1)) from⟨hlo,out.toList,c,z1,by simpa using hL⟩),rfl,q _ _ F' (I2.hok.fresh (Nat.le_refl _)) g az⟩
noncomputable def zbT:List D->Option (List D)
 | [.dct _ true ks _]=>if ks.length < 10000000 then (VF ks).map λts=>(vA ts).map zkD else none
 | _=>none
theorem zcj {p:Pos} {f:Ev->Option (List D)} (hc:X.calm=true) (hgl:Gl X "sorted") (hm:X.mg "sorted"=none) (ha:AD X [e] f)
 (he:starEach [e] X.env=(false,eval e X.env)::starEach [] X.env:=by rfl) (hpl:(backTo pos (starEach [] X.env)).any (·.1)=false:=by rfl):FL X (.Call (.Name "sorted" p) [e] [] pos) (fFn zbT f):=by
 obtain⟨t,pa,ra⟩:=ha
 refine⟨_,ZE (VU hc) hgl hm VW pa (by decide) (by decide) he hpl,fun σ ρ F H z Q s va e q=>?_⟩
 obtain⟨ds,e1,e2⟩:=Option.bind_eq_some_iff.mp e
 refine ra σ ρ F H ds _ s va e1 λF1 H1 vs g1 a1=>?_
 have e2':=e2
 unfold zbT at e2'
 split at e2'
 .rename_i z' ks ws
  split at e2' <;> try cases e2'
  rename_i h64
  obtain⟨ts,e3,rfl⟩:=Option.map_eq_some_iff.mp e2'
  obtain⟨x,r,rfl,ax,ar⟩:=a1.cons_inv
  cases ar.nil_inv
  obtain⟨p,ys,rfl,hx,bl⟩:=ax.dct_inv
  refine⟨F1,p,z',ks,ys,ts,rfl,g1.fh,hx,h64,e3,λl zs F' hl g az=>?_⟩
  have g2:=g1.trans g
  exact q _ _ _ _ (g2.trans (Gr.hide g2.fh hl _)) (YV g2 hl) (g2.fh.free hl) zk az
 .cases e2'
end
end Dl
namespace L2
open PySem PySem.Spec PyProof.Rows
section
variable {X:Cx}
noncomputable def ziF:V->List V->Hp->VK->Prop:=λx vs H Q=>∃ l xs y,x=.ref l/\vs=[]/\H l=some (.lst (xs++[y]))/\Q y (upd H l (.lst xs))
theorem zdJ {xs:List V}{y:V}{its:List Value}(r:ya (xs++[y]) its):∃ js u,its=js++[u]/\ya xs js/\yH y u:=by
 have h1:=r.take xs.length
 have h2:=r.drop xs.length
 rw[List.take_left]at h1
 rw[List.drop_left]at h2
 obtain⟨u,e,ru⟩:=h2.one
 refine⟨its.take xs.length,u,?_,h1,ru⟩
 have:=List.take_append_drop xs.length its
 rw[e]at this
 exact this.symm
theorem zhb:MtM X "list.pop" ziF:=by
 intro pins s σ H x vs v us Q I rx rv h
 obtain⟨l,xs,y,rfl,rfl,hH,q⟩:=h
 cases rx
 cases rv
 obtain⟨z,its,n,r,hl,e⟩:=I.lstM hH
 obtain⟨js,u,rfl,r1,ru⟩:=zdJ r
 have hz:xs.length+1<=sizeLine:=by rw[List.length_append]at z;exact z
 have hj:js.length=xs.length:=r1.length.symm
 refine call_meets F.slot_list_pop ⟨_,e,rfl⟩ F.entry_list_pop (F.args_list_pop_1 _) (PySem.MeetsSeq.list_pop_last l (js++[u]).toArray n u (by simp) (by rw[List.size_toArray,List.length_append,hj];exact hz)) ⟨e,?_⟩
 refine⟨y,_,I.lset (its':=js) hH e (by simp[List.eraseIdx_append_of_length_le]) r1 (by omega),ru,q⟩
end
end L2
namespace Dl
open PySem L2
section
variable [KK]{X:Cx}{a:Expr}{pos:Pos}
theorem AtL.unsnoc {F:Hp}{ds:List D}{d:D}{xs:List V}(h:AtL F (ds++[d]) xs):∃ ys y,xs=ys++[y]/\AtL F ds ys/\At F d y:=by
 have h1:=h.take ds.length
 have h2:=h.drop ds.length
 rw[List.take_left]at h1
 rw[List.drop_left]at h2
 obtain⟨y,r,e,ay,ar⟩:=h2.cons_inv
 cases ar.nil_inv
 refine⟨xs.take ds.length,y,?_,h1,ay⟩
 have:=List.take_append_drop ds.length xs
 rw[e]at this
 exact this.symm
noncomputable def ziN (i j:Nat):SE->Ctl:=fun ρ=>match ρ[i]? with
 | some (.o ds)=>(match ds.getLast? with
  | some d=>.nx ((ρ.set i (.o ds.dropLast)).set j (.v d))
  | none=>.no)
 | _=>.no
theorem zi9 {i j:Nat}{x:Str}{p pos' pos2:Pos}(hN:X.N.Nodup)(hi:X.N[j]?=some x)(hx:Loc X.env.scope x)(ho:PE X a (XU i))
 (hp:∀ {ta:TE},PE X a ta->PE X (.Call (.Attribute a "pop" p) [] [] pos2) (tBM0 X.K "list" ziF ta)) (hs:swapsWith (.Call (.Attribute a "pop" p) [] [] pos2) (some (.Name x pos')) pos.line X.env=pure false:=by rfl)
 (hf:X.fn x=true\/X.env.scope.names.lookup x=some .local:=by first | exact .inl rfl | exact .inr rfl | assumption):SD X (.Assign [.Name x pos'] (.Call (.Attribute a "pop" p) [] [] pos2) pos) (ziN i j):=by
 refine⟨_,XO hN hi hx (hp ho) hs hf,λFb Hb F H ρ σ E rl k=>?_⟩
 unfold ziN at k
 cases hs:ρ[i]? with
 | none=>rw[hs]at k;exact k.elim
 | some sl =>
  rw[hs]at k
  cases sl with
  | no=>exact k.elim
  | v _=>exact k.elim
  | m _ _ _=>exact k.elim
  | o ds =>
   dsimp only at k
   cases hd:ds.getLast? with
   | none=>rw[hd]at k;exact k.elim
   | some d =>
    rw[hd]at k
    obtain⟨es,rfl⟩:=List.getLast?_eq_some_iff.mp hd
    rw[List.dropLast_concat]at k
    obtain⟨q,xs,f1,f2,f3,f4,f5⟩:=rl.owns i _ hs
    obtain⟨ys,y,rfl,al,ay⟩:=f5.unsnoc
    refine⟨_,f1,.inl ⟨rfl,_,SqL.of f4⟩,q,ys,y,rfl,rfl,f4,?_⟩
    exact k _ _ _ ((rl.mutate hs f1 al).set ay)
end
theorem zjn {i j:Nat}{ρ ρ':SE}{ds:List D}{d:D}(h:ρ[i]?=some (.o (ds++[d])))(h2:(ρ.set i (.o ds)).set j (.v d)=ρ':=by rfl):ziN i j ρ=.nx ρ':=by
 unfold ziN
 rw[h]
 show(match (ds++[d]).getLast? with | some d'=>Ctl.nx ((ρ.set i (.o (ds++[d]).dropLast)).set j (.v d')) | none=>Ctl.no)=_
 rw[List.getLast?_concat,List.dropLast_concat,<- h2]
noncomputable def b3:D->Option (List (Option D))
 | .tup [x,y,z]=>some [some x,some y,some z]
 | _=>none
end Dl
namespace Dl
open PySem L2
variable [KK]
theorem edv {X:Cx} (i:Nat) {x:Str} {pos:Pos} (hN:X.N[i]?=some x:=by rfl) (hv:Vis X.env.scope x:=by first | exact Or.inl rfl | exact Or.inr (Or.inl rfl) | exact Or.inr (Or.inr rfl)) (hd:(x == ("__debug__":Str))=false:=by decide)
 (hcd:(x == ("__classdict__":Str))=false:=by decide):ED X (.Name x pos) (zc i):=zjq i (pv i hN hv hd hcd)
theorem zi {X:Cx}{x:Str}{j k m:Nat}{f:Addr}{fd:FuncData}{ps:List Str}{st:Stmt}{p:List D->Option D}{e:Expr}{es:List Expr}{pp pos:Pos}{fa:Ev->Option (List D)}(F:xz X.prog X.w X.K X.mg X.base CX0 j f fd ps (spD m p))(hr:YH k X.A)(hg:Gl X x)(d:Def X.K X.mg x st ps f fd)
 (ha:AD X (e::es) fa) (hj:j<=k:=by decide) (hdb:(x == ("__debug__":Str))=false:=by decide) (he:starEach (e::es) X.env=(false,eval e X.env)::starEach es X.env:=by rfl) (hpl:(backTo pos (starEach es X.env)).any (·.1)=false:=by rfl) :
 ED X (.Call (.Name x pp) (e::es) [] pos) (zw m p fa):=zhR (F.mono hj) hr hg d.at_ d.kp d.bd ha hdb he hpl
end Dl
namespace Dl
open PySem L2
variable [KK]
omit [KK] in
theorem W4 {α:Type}{l:List α}{i:Nat}{x:α}(h:l[i]?=some x):l.set i x=l:=by
 refine List.ext_getElem? λj=>?_
 rw[List.getElem?_set]
 split
 .rename_i e
  subst e
  rw[h]
  have:=(List.getElem?_eq_some_iff.mp h).1
  simp[this]
 .rfl
omit [KK] in
theorem Vx {α:Type}{l:List α}{i j:Nat}{x s:α}(e:(l.set i x)[j]?=some s):s=x\/l[j]?=some s:=by
 rw[List.getElem?_set]at e
 split at e
 .split at e
  .cases e;exact .inl rfl
  .cases e
 .exact .inr e
section
variable {Fb Hb F H F' H':Hp}{ρ:SE}{σ:St}
theorem Rl.no (r:Rl Fb Hb F H ρ σ)(i:Nat):Rl Fb Hb F H (ρ.set i .no) σ:=by
 have nj:∀ (j:Nat) (s:Sl),(ρ.set i .no)[j]?=some s->s≠.no->ρ[j]?=some s:=λj s e n=>by
  rw[List.getElem?_set]at e
  split at e
  .split at e
   .cases e;exact absurd rfl n
   .cases e
  .exact e
 refine⟨r.gr,λj d e=>r.vals j d (nj j _ e (by intro z;cases z)),λj s e ho=>r.ows j s (nj j s e (by rintro rfl;cases ho)) ho,λj k p s t e1 e2 h1 h2 f1 f2=>r.dis j k p s t (nj j s e1 (by rintro rfl;cases h1)) (nj k t e2 (by rintro rfl;cases h2)) h1 h2 f1 f2,by rw[List.length_set];exact r.len⟩
theorem Gr.put {F0 H0:Hp}{p:Addr}(g:Gr F0 H0 F H)(h0:H0 p=none)(hF:F p=none)(o:HO):Gr F0 H0 F (upd H p o):=by
 refine⟨g.ff,λb u q=>?_,λb u q r=>?_⟩
 .rw[zm (zj q hF)];exact g.fh b u q
 .obtain⟨x,y⟩:=g.kp b u q r
  exact⟨x,by rw[zm (zj r h0)];exact y⟩
end
noncomputable def zcl (f:Ev->Option (List D)):TE:=fun σ H Q=>∃ ρ F ds,yf F H/\VAt F ρ σ/\f ρ=some ds/\∀ F' H' p xs,Gr F H F' H'->H p=none->F' p=none->H' p=some (.lst xs)->AtL F' ds xs->Q (.ref p) H'
theorem FL.can {X:Cx}{e:Expr}{f:Ev->Option (List D)}(h:FL X e f):PE X e (zcl f):=by
 obtain⟨t,p,r⟩:=h
 rintro pins s σ H Q I ⟨ρ,F,ds,h1,h2,h3,h4⟩
 exact p pins s σ H Q I (r σ ρ F H ds Q h1 h2 h3 h4)
structure Two (F H Hb:Hp) (po p0 p1:Addr) (a b:List Int):Prop where
 ho:H po=some (.lst [.ref p0,.ref p1])
 h0:H p0=some (.lst (a.map V.int))
 h1:H p1=some (.lst (b.map V.int))
 fo:F po=none
 f0:F p0=none
 f1:F p1=none
 bo:Hb po=none
 b0:Hb p0=none
 b1:Hb p1=none
 n0:po≠p0
 n1:po≠p1
 n2:p0≠p1
section
variable {Fb Hb F H F' H':Hp}{ρ:SE}{σ:St}{po p0 p1:Addr}{a b:List Int}
theorem Two.grow (t:Two F H Hb po p0 p1 a b)(g:Gr F H F' H'):Two F' H' Hb po p0 p1 a b:=by
 obtain⟨x1,y1⟩:=g.kl (λ_ z=>by cases z) t.fo t.ho
 obtain⟨x2,y2⟩:=g.kl (λ_ z=>by cases z) t.f0 t.h0
 obtain⟨x3,y3⟩:=g.kl (λ_ z=>by cases z) t.f1 t.h1
 exact⟨y1,y2,y3,x1,x2,x3,t.bo,t.b0,t.b1,t.n0,t.n1,t.n2⟩
theorem Two.freeze (t:Two F H Hb po p0 p1 a b)(r:Rl Fb Hb F H ρ σ)(nO:∀ (i:Nat) (s:Sl),ρ[i]?=some s->s.isO=false){io:Nat}(so:σ[io]?=some (some (.ref po))) :
 ∃ F',Rl Fb Hb F' H (ρ.set io (.v (.lst [.lst (a.map .int),.lst (b.map .int)]))) σ:=by
 have g1:=r.gr.show t.b0 t.f0 t.h0
 have e1:(upd F p0 (.lst (a.map V.int))) p1=none:=by rw[zm (Ne.symm t.n2)];exact t.f1
 have g2:=g1.show t.b1 e1 t.h1
 have e2:(upd (upd F p0 (.lst (a.map V.int))) p1 (.lst (b.map V.int))) po=none:=by rw[zm t.n1,zm t.n0];exact t.fo
 have g3:=g2.show t.bo e2 t.ho
 have s1:yf F (upd F p0 (.lst (a.map V.int))):=λq o e=>by rw[zm (zj e t.f0)];exact e
 have s2:yf (upd F p0 (.lst (a.map V.int))) (upd (upd F p0 (.lst (a.map V.int))) p1 (.lst (b.map V.int))):=λq o e=>by rw[zm (zj e e1)];exact e
 have s3:yf (upd (upd F p0 (.lst (a.map V.int))) p1 (.lst (b.map V.int))) (upd (upd (upd F p0 (.lst (a.map V.int))) p1 (.lst (b.map V.int))) po (.lst [.ref p0,.ref p1])):=λq o e=>by rw[zm (zj e e2)];exact e
 have sF:=s1.trans (s2.trans s3)
 have set_:∀ (j:Nat) (s:Sl),(ρ.set io (.v (.lst [.lst (a.map .int),.lst (b.map .int)])))[j]?=some s->(j=io/\s=.v (.lst [.lst (a.map .int),.lst (b.map .int)]))\/ρ[j]?=some s:=λj s e=>by
  rw[List.getElem?_set]at e
  split at e
  .rename_i z
   split at e
   .cases e;exact .inl ⟨z.symm,rfl⟩
   .cases e
  .exact .inr e
 have no2:∀ (j:Nat) (s:Sl),(ρ.set io (.v (.lst [.lst (a.map .int),.lst (b.map .int)])))[j]?=some s->s.isO=false:=λj s e=>by
  rcases set_ j s e with ⟨_,rfl⟩ | e
  .rfl
  .exact nO j s e
 refine⟨_,g3,λj d e=>?_,λj s e ho=>(by rw[no2 j s e]at ho;cases ho),λj k p s u e1 e2 h1 _ _ _=>(by rw[no2 j s e1]at h1;cases h1),by rw[List.length_set];exact r.len⟩
 rcases set_ j _ e with ⟨rfl,z⟩ | e
 .cases z
  refine⟨_,so,At.lst zk (.cons (At.lst (xs:=a.map V.int) ?_ (AtL.ints a)) (.cons (At.lst (xs:=b.map V.int) ?_ (AtL.ints b)) .nil))⟩
  .rw[zm (Ne.symm t.n0),zm t.n2];exact zk
  .rw[zm (Ne.symm t.n1)];exact zk
 .obtain⟨v,e1,av⟩:=r.vals j d e
  exact⟨v,e1,av.mono sF⟩
end
theorem zi5 {wi:TI}{n:Nat}{g:TG}{fi:Ev->Option (List D)}{fl:Ev->Option (List D)}(ri:RI wi fi)(rg:RB n g b1){σ:St}{ρ:Ev}{F H Hb:Hp}{Q:VK}{a b:List Int}{d0 d1:D}(s:yf F H)(va:VAt F ρ σ)(hb:∀ p,H p=none->Hb p=none)
 (e:fi ρ=some [d0,d1]) (ea:fl ([some d0]++ρ)=some (a.map .int)) (eb:fl ([some d1]++ρ)=some (b.map .int))
 (k:∀ F' H' po p0 p1,Gr F H F' H'->Two F' H' Hb po p0 p1 a b->Q (.ref po) H'):tLC wi n g zgT (zcl fl) σ H Q:=by
 refine ri σ ρ F H [d0,d1] _ s va e λF1 H1 J g1 ok=>?_
 intro P hP
 have hF1:F1 P=none:=g1.fh.free hP
 have hs:(2:Nat) < sizeLine:=by rw[sizeLine_eq];decide
 refine⟨λi m ys H2=>∃ F2,Gr F1 H1 F2 H2/\F2 P=none/\H2 P=some (.lst ys)/\((i=0/\m=2/\ys=[])\/(i=1/\m=1/\∃ p0,ys=[.ref p0]/\H1 p0=none/\P≠p0/\F2 p0=none/\H2 p0=some (.lst (a.map V.int))) \/
  (i=2/\m=0/\∃ p0 p1,ys=[.ref p0,.ref p1]/\H1 p0=none/\H1 p1=none/\P≠p0/\P≠p1/\p0≠p1/\F2 p0=none/\F2 p1=none/\H2 p0=some (.lst (a.map V.int))/\H2 p1=some (.lst (b.map V.int)))),
  ⟨2,F1,Gr.hide g1.fh hP _,hF1,zk,.inl ⟨rfl,rfl,rfl⟩⟩,?_⟩
 rintro i m ys H2 ⟨F2,g2,f2,h2,w⟩
 obtain⟨stop,go⟩:=ok i F2 H2 g2.ff g2.fh
 have step:∀ (d:D) (c:List Int) (R:VK) (Z:Hp->Prop),[d0,d1][i]?=some d->fl ([some d]++ρ)=some (c.map .int)->(∀ F' H' p,Gr F2 H2 F' H'->H2 p=none->P≠p->F' p=none->H' p=some (.lst (c.map V.int))->F' P=none->H' P=some (.lst ys)->R (.ref p) H') ->
  J.go i H2/\∀ x H3,J.yld i H2 x H3->g x (List.replicate n none++σ) H3 fun σ2 H4=>zgT σ2 H4 λb H5=>if b=true then zcl fl σ2 H5 R else Z H5:=λd c R Z hd hc kk=>by
  obtain⟨k1,k2⟩:=go d hd
  refine⟨k1,λx H3 hy=>?_⟩
  obtain⟨F3,g3,a3⟩:=k2 x H3 hy
  refine rg σ ρ F3 H3 d x [some d] _ g3.fh (va.mono (g1.ff.trans (g2.ff.trans g3.ff))) a3 rfl fun σ4 va4=>?_
  unfold zgT
  dsimp only
  rw[if_pos rfl]
  refine⟨[some d]++ρ,F3,c.map .int,g3.fh,va4,hc,λF' H' p xs g4 h0 hF hH hx=>?_⟩
  have:=hx.of_ints
  subst this
  have g34:=g3.trans g4
  obtain⟨x1,y1⟩:=g34.kl (λ_ z=>by cases z) f2 h2
  have hp2:H2 p=none:=YV g3 h0
  exact kk F' H' p g34 hp2 (λz=>by rw[<-z,h2]at hp2;cases hp2) hF hH x1 y1
 rcases w with ⟨rfl,rfl,rfl⟩ | ⟨rfl,rfl,p0,rfl,hp0,n0,f0,h0⟩ | ⟨rfl,rfl,p0,p1,rfl,hp0,hp1,n0,n1,n2,f0,f1,h0,h1⟩
 .refine .inr ⟨(step d0 a (λ_ _=>True) (λ_=>True) rfl ea λ_ _ _ _ _ _ _ _ _ _=>trivial).1,by show 0 < sizeLine;omega,(step d0 a _ _ rfl ea ?_).2⟩
  intro F' H' p g' hp np hF hH hFP hHP
  exact⟨hHP,1,by decide,F',(g2.trans g').put hP hFP _,hFP,zk,.inr (.inl ⟨rfl,rfl,p,rfl,YV g2 hp,np,hF,by rw[zm (Ne.symm np)];exact hH⟩)⟩
 .refine .inr ⟨(step d1 b (λ_ _=>True) (λ_=>True) rfl eb λ_ _ _ _ _ _ _ _ _ _=>trivial).1,by show 1 < sizeLine;omega,(step d1 b _ _ rfl eb ?_).2⟩
  intro F' H' p g' hp np hF hH hFP hHP
  obtain⟨x0,y0⟩:=g'.kl (λ_ z=>by cases z) f0 h0
  have n01:p0≠p:=λz=>by rw[<-z,h0]at hp;cases hp
  exact⟨hHP,0,by decide,F',(g2.trans g').put hP hFP _,hFP,zk,.inr (.inr ⟨rfl,rfl,p0,p,rfl,hp0,YV g2 hp,n0,np,n01,x0,hF,by rw[zm (Ne.symm n0)];exact y0,by rw[zm (Ne.symm np)];exact hH⟩)⟩
 .refine .inl ⟨stop rfl,k F2 H2 P p0 p1 (g1.trans g2) ⟨h2,h0,h1,f2,f0,f1,hb _ (YV g1 hP),hb _ (YV g1 hp0),hb _ (YV g1 hp1),n0,n1,n2⟩⟩
noncomputable def zjV (ir ia:Nat)(fb fc:Ev->Option D)(ρ1:SE)(x:List Int):Option (List Int):=match fb (visG (ρ1.set ir (.o (x.map .int)))) with
 | some (.int j)=>(match fc (visG ((ρ1.set ir (.o (x.map .int))).set ia (.v (.int j)))) with
  | some (.int y)=>(ixN x.length j).map λn=>x.set n y
  | _=>none)
 | _=>none
noncomputable def zce (ir ia:Nat)(fe fb fc:Ev->Option D)(ρ1:SE)(ab:List Int × List Int):Option (List Int × List Int):=match fe (visF ρ1) with
 | some (.int i)=>if i=0 then (zjV ir ia fb fc ρ1 ab.1).map λa'=>(a',ab.2)else if i=1 then (zjV ir ia fb fc ρ1 ab.2).map λb'=>(ab.1,b')else none
 | _=>none
omit [KK] in
theorem zld {ρ:SE}{ir ia:Nat}{x y z:Sl}(hr:ρ[ir]?=some .no)(ha:ρ[ia]?=some .no)(d:ir≠ia):((((ρ.set ir x).set ia y).set ir z).set ir .no).set ia .no=ρ:=by
 rw[List.set_set,List.set_comm _ _ (Ne.symm d),List.set_set,List.set_set,W4 hr,W4 ha]
theorem zfC {K:W.Frag}{te tb tc:TE}{fe fb fc:Ev->Option D}(re:RE te fe)(rb:RE tb fb)(rc:RE tc fc){io ir ia:Nat}(d1:io≠ir)(d2:io≠ia)(d3:ir≠ia){Fb Hb F H:Hp}{ρ1:SE}{σ:St}{po p0 p1:Addr}{ab ab':List Int × List Int}
 (rl:Rl Fb Hb F H ρ1 σ) (nO:∀ (i:Nat) (s:Sl),ρ1[i]?=some s->s.isO=false) (hr:ρ1[ir]?=some .no) (ha:ρ1[ia]?=some .no) (so:σ[io]?=some (some (.ref po))) (T:Two F H Hb po p0 p1 ab.1 ab.2) (e:zce ir ia fe fb fc ρ1 ab=some ab') (D:zeQ)
 (k:∀ F' H' σ',yf F F'->Rl Fb Hb F' H' ρ1 σ'->σ'[io]?=some (some (.ref po))->Two F' H' Hb po p0 p1 ab'.1 ab'.2->D.nx σ' H') :
 ziI (Vn (tOp (zjg K) (XU io) te) (xT ir)) (ziI (Vn tb (xT ia)) (Vn tc (zkK (XU ir) (XU ia) zfD))) D σ H:=by
 unfold zce at e
 split at e <;> try cases e
 rename_i i ei
 have hrσ:ir < σ.length:=by rw[<-rl.len];exact(List.getElem?_eq_some_iff.mp hr).1
 have haσ:ia < σ.length:=by rw[<-rl.len];exact(List.getElem?_eq_some_iff.mp ha).1
 have go:∀ (pi:Addr) (x x':List Int),zjV ir ia fb fc ρ1 x=some x'->(∀ F H,Two F H Hb po p0 p1 ab.1 ab.2->H pi=some (.lst (x.map V.int))/\F pi=none)->Hb pi=none->(∀ F H,Two F H Hb po p0 p1 ab.1 ab.2->Two F (upd H pi (.lst (x'.map V.int))) Hb po p0 p1 ab'.1 ab'.2)->L2.atI [V.ref p0,V.ref p1] i=some (.ref pi) ->
  ziI (Vn (tOp (zjg K) (XU io) te) (xT ir)) (ziI (Vn tb (xT ia)) (Vn tc (zkK (XU ir) (XU ia) zfD))) D σ H:=by
  intro pi x x' ep hx hbi hT hat
  unfold zjV at ep
  split at ep <;> try cases ep
  rename_i j ej
  split at ep <;> try cases ep
  rename_i y ey
  obtain⟨n,hn,rfl⟩:=Option.map_eq_some_iff.mp ep
  refine⟨.ref po,so,?_⟩
  refine re σ _ F H (.int i) _ rl.gr.fh rl.visF ei λF1 H1 v g1 a1=>?_
  have T1:=T.grow g1
  refine⟨po,[.ref p0,.ref p1],i,.ref pi,rfl,a1.int_inv,SqL.of T1.ho,hat,?_⟩
  obtain⟨hpi,fpi⟩:=hx F1 H1 T1
  have rl1:=(rl.grow g1).setO (i:=ir) hbi fpi hpi (AtL.ints x) (λj s e1 e2=>by rw[nO j s e1]at e2;cases e2)
  refine rb _ _ _ H1 (.int j) _ rl1.gh rl1.visG ej λF2 H2 v2 g2 a2=>?_
  have ev2:=a2.int_inv
  subst ev2
  obtain⟨gb,_⟩:=rl1.back g2
  have T2:=T1.grow gb
  have rl2:=(rl1.grow gb).set (i:=ia) (d:=.int j) (v:=.int j) .int
  refine rc _ _ _ H2 (.int y) _ rl2.gh rl2.visG ey λF3 H3 v3 g3 a3=>?_
  have ev3:=a3.int_inv
  subst ev3
  obtain⟨gc,_⟩:=rl2.back g3
  have T3:=T2.grow gc
  have rl3:=rl2.grow gc
  have hσr:((σ.set ir (some (.ref pi))).set ia (some (.int j)))[ir]?=some (some (.ref pi)):=by
   rw[List.getElem?_set_ne (Ne.symm d3),List.getElem?_set_self hrσ]
  have hσa:((σ.set ir (some (.ref pi))).set ia (some (.int j)))[ia]?=some (some (.int j)):=by
   rw[List.getElem?_set_self (by rw[List.length_set];exact haσ)]
  obtain⟨hpi3,_⟩:=hx _ H3 T3
  have hset:(x.map V.int).set n (.int y)=(x.set n y).map V.int:=by rw[List.map_set]
  refine⟨.ref pi,hσr,.int j,hσa,pi,x.map V.int,j,n,rfl,rfl,hpi3,by rw[List.length_map];exact hn,?_⟩
  rw[hset]
  have hρ:((ρ1.set ir (.o (x.map .int))).set ia (.v (.int j)))[ir]?=some (.o (x.map .int)):=by
   rw[List.getElem?_set_ne (Ne.symm d3),List.getElem?_set_self (by rw[rl.len];exact hrσ)]
  have rl4:=((rl3.mutate hρ hσr (AtL.ints (x.set n y))).no ir).no ia
  rw[zld hr ha d3]at rl4
  refine k _ _ _ (g1.ff.trans (gb.ff.trans gc.ff)) rl4 ?_ (hT _ _ T3)
  rw[List.getElem?_set_ne (Ne.symm d2),List.getElem?_set_ne (Ne.symm d1)]
  exact so
 split at e
 .rename_i hi
  subst hi
  obtain⟨x',ex,rfl⟩:=Option.map_eq_some_iff.mp e
  refine go p0 ab.1 x' ex (λF H t=>⟨t.h0,t.f0⟩) T.b0 (λF H t=>⟨?_,zk,?_,t.fo,t.f0,t.f1,t.bo,t.b0,t.b1,t.n0,t.n1,t.n2⟩) rfl
  .rw[zm t.n0];exact t.ho
  .rw[zm (Ne.symm t.n2)];exact t.h1
 .split at e <;> try cases e
  rename_i hi
  subst hi
  obtain⟨x',ex,rfl⟩:=Option.map_eq_some_iff.mp e
  refine go p1 ab.2 x' ex (λF H t=>⟨t.h1,t.f1⟩) T.b1 (λF H t=>⟨?_,?_,zk,t.fo,t.f0,t.f1,t.bo,t.b0,t.b1,t.n0,t.n1,t.n2⟩) rfl
  .rw[zm t.n1];exact t.ho
  .rw[zm t.n2];exact t.h0
noncomputable def Vo (ik ir ia:Nat)(fe fb fc:Ev->Option D)(ρ0:SE):List D->List Int × List Int->Option (List Int × List Int)
 | [],ab=>some ab
 | k::ks,ab=>(zce ir ia fe fb fc (ρ0.set ik (.v k)) ab).bind λab'=>Vo ik ir ia fe fb fc ρ0 ks ab'
noncomputable def Vj (io ir ia:Nat)(ρ:SE):SE:=((ρ.set io .no).set ir .no).set ia .no
noncomputable def zd8 (io ik ir ia:Nat)(fr fl fn:Ev->Option (List D))(fe fb fc:Ev->Option D)(ρ:SE):Option SE :=
 if ρ.all (λs=>!s.isO)=true/\io < ρ.length/\ik < ρ.length/\ir < ρ.length/\ia < ρ.length then
  (fr (visF ρ)).bind λds=>match ds with
  | [d0,d1]=>((fl ([some d0]++visF ρ)).bind zcc).bind λa=>((fl ([some d1]++visF ρ)).bind zcc).bind λb=>(fn (visF (Vj io ir ia ρ))).bind λks =>
   (Vo ik ir ia fe fb fc (Vj io ir ia ρ) ks (a,b)).map λab=>((Vj io ir ia ρ).set ik .no).set io (.v (.lst [.lst (ab.1.map .int),.lst (ab.2.map .int)]))
  | _=>none
 else none
noncomputable def zdm (io ik ir ia:Nat)(fr fl fn:Ev->Option (List D))(fe fb fc:Ev->Option D):SE->Ctl:=fun ρ=>match zd8 io ik ir ia fr fl fn fe fb fc ρ with
 | some ρ'=>.nx ρ'
 | none=>.no
section
variable {X:Cx}{e:Expr}{pos pos':Pos}
theorem Rl.free {Fb Hb F H:Hp}{ρ:SE}{σ:St}(r:Rl Fb Hb F H ρ σ){i:Nat}(h:ρ[i]?=some .no)(x:Option V):Rl Fb Hb F H ρ (σ.set i x):=by
 have nj:∀ (j:Nat) (s:Sl),ρ[j]?=some s->s≠.no->(σ.set i x)[j]?=σ[j]?:=λj s e n=>by
  rw[List.getElem?_set_ne]
  rintro rfl
  rw[h]at e
  cases e
  exact n rfl
 refine⟨r.gr,λj d e=>?_,λj s e ho=>?_,λj k p s t e1 e2 h1 h2 f1 f2=>?_,by rw[List.length_set];exact r.len⟩
 .rw[nj j _ e (by intro z;cases z)];exact r.vals j d e
 .rw[nj j _ e (by rintro rfl;cases ho)];exact r.ows j s e ho
 .rw[nj j _ e1 (by rintro rfl;cases h1)]at f1
  rw[nj k _ e2 (by rintro rfl;cases h2)]at f2
  exact r.dis j k p s t e1 e2 h1 h2 f1 f2
noncomputable def zkq (X:Cx)(io:Nat)(st:Stmt)(fr fl:Ev->Option (List D)):Prop:=∃ wi n g,PS X st (Vn (tLC wi n g zgT (zcl fl)) (xT io))/\RI wi fr/\RB n g b1
theorem zgg {i:Nat}{x:Str}{px spos:Pos}{elt tg iter:Expr}{L M:List Str}{scope:Scope}{cl:List (Str × Addr)}{fi fe:Ev->Option (List D)}{g:TG}
 (hN:X.N.Nodup) (hi':X.N[i]?=some x) (hx:Loc X.env.scope x) (hc:X.calm=true) (S:yQ X L M scope cl) (hi:ID X tg iter fi)
 (hgS:∀ (σ:St) (v:V) (H:Hp) (Q:St->Hp->Prop),g v (List.replicate L.length none++σ) H Q->g v (List.replicate L.length none++σ) H (fun σ2 H2=>YI (List.replicate L.length none++σ) σ2/\Q σ2 H2))
 (hrb:RB L.length g b1)
 (hg:∀ s₀ H₀ ex pn,PG (Wh X L M scope cl s₀ H₀ ex pn) tg g) (he:∀ s₀ H₀ ex pn,FL (Wh X L M scope cl s₀ H₀ ex pn) elt fe)
 (hs:∀ x,foldedSetIterable iter X.env x=pure x:=by intro _;rfl)
 (hsw:swapsWith (.ListComp elt [⟨tg,iter,[],0⟩] scope pos) (some (.Name x px)) spos.line X.env=pure true:=by rfl)
 (hf:X.fn x=true\/X.env.scope.names.lookup x=some .local:=by first | exact .inl rfl | exact .inr rfl | assumption):zkq X i (.Assign [.Name x px] (.ListComp elt [⟨tg,iter,[],0⟩] scope pos) spos) fi fe:=by
 obtain⟨wi,pi,ri⟩:=hi
 exact⟨_,_,_,zgI hN hi' hx hc S pi hgS hg (λ_ _ _ _=>zaJ) (λ_ _ _ _=>(he _ _ _ _).can) hs hsw hf,ri,hrb⟩
noncomputable def ziC (X:Cx)(st:Stmt)(io ir:Nat)(fe:Ev->Option D):Prop:=∃ te,PS X st (Vn (tOp (zjg X.K) (XU io) te) (xT ir))/\RE te fe
theorem zfE {io i:Nat}{x:Str}{a b:Expr}{p:Pos}{fe:Ev->Option D}(hN:X.N.Nodup)(hi:X.N[i]?=some x)(hx:Loc X.env.scope x)(ho:PE X a (XU io))(hb:ED X b fe)(hp:Xk b)(hs:swapsWith (.Subscript a b p) (some (.Name x pos')) pos.line X.env=pure false:=by rfl)
 (hf:X.fn x=true\/X.env.scope.names.lookup x=some .local:=by first | exact .inl rfl | exact .inr rfl | assumption):ziC X (.Assign [.Name x pos'] (.Subscript a b p) pos) io i fe :=
 let ⟨_,pb,rb⟩:=hb
 ⟨_,XO hN hi hx (zh9 zdG ho pb hp) hs hf,rb⟩
noncomputable def ziY (X:Cx)(st:Stmt)(ia:Nat)(fb:Ev->Option D):Prop:=∃ t,PS X st (Vn t (xT ia))/\RE t fb
theorem zfa {i:Nat}{x:Str}{fe:Ev->Option D}(hN:X.N.Nodup)(hi:X.N[i]?=some x)(hx:Loc X.env.scope x)(hb:ED X e fe)(hs:swapsWith e (some (.Name x pos')) pos.line X.env=pure false:=by rfl)
 (hf:X.fn x=true\/X.env.scope.names.lookup x=some .local:=by first | exact .inl rfl | exact .inr rfl | assumption):ziY X (.Assign [.Name x pos'] e pos) i fe :=
 let ⟨_,pb,rb⟩:=hb
 ⟨_,XO hN hi hx pb hs hf,rb⟩
noncomputable def zjz (X:Cx)(st:Stmt)(ir ia:Nat)(fc:Ev->Option D):Prop:=∃ t,PS X st (Vn t (zkK (XU ir) (XU ia) zfD))/\RE t fc
theorem zfN {ir ia:Nat}{a ko:Expr}{fe:Ev->Option D}(he:ED X e fe)(ho:PE X a (XU ir))(hk:PE X ko (XU ia))(hs:swapsWithSole [.Subscript a ko pos'] e pos.line X.env=pure false:=by rfl)(hw:swappedStores [.Subscript a ko pos'] e X.env=pure none:=by rfl)
 (h1:(assignEach [.Subscript a ko pos'] X.env).map (·.2)=[assign (.Subscript a ko pos') X.env]:=by rfl)
 (ha:∀ v,assign (.Subscript a ko pos') X.env v=(do
  let ov<-holding [v] (eval a X.env)
  let iv<-holding [v,ov] (eval ko X.env)
  standAt pos'
  holding [v,ov,iv] (setItem ov iv v)
  release [v,ov,iv] []):=by intro _;rfl):zjz X (.Assign [.Subscript a ko pos'] e pos) ir ia fe :=
 let ⟨_,p,r⟩:=he
 ⟨_,zgG p (zgO ho hk zbB ha) hs hw h1,r⟩
theorem zgm {io ik ir ia:Nat}{s1 sa sb sc:Stmt}{xk:Str}{pk:Pos}{iter:Expr}{rest:List Stmt}{fr fl fn:Ev->Option (List D)}{fe fb fc:Ev->Option D}{h:SE->Ctl}(dd:io≠ik/\io≠ir/\io≠ia/\ir≠ia/\ik≠ir/\ik≠ia)
 (hp:PassesOwn (model X.prog X.w) X.A X.env X.xe) (hc:X.calm=true) (h1:zkq X io s1 fr fl) (hk:PG X (.Name xk pk) (xT ik)) (hi:ID X (.Name xk pk) iter fn) (hA:ziC X sa io ir fe) (hB:ziY X sb ia fb) (hP:zjz X sc ir ia fc) (hr:SDs X rest h)
 (hs:∀ x,foldedSetIterable iter X.env x=pure x:=by intro _;rfl):SDs X (s1::.For (.Name xk pk) iter [sa,sb,sc] [] pos::rest) (zR (zdm io ik ir ia fr fl fn fe fb fc) h):=by
 obtain⟨wi,n,g,p1,ri,rg⟩:=h1
 obtain⟨wi2,pi2,ri2⟩:=hi
 obtain⟨te,pa,re⟩:=hA
 obtain⟨tb,pb,rb⟩:=hB
 obtain⟨tc,pc,rc⟩:=hP
 obtain⟨u,pu,ru⟩:=hr
 obtain⟨d1,d2,d3,d4,d5,d6⟩:=dd
 refine⟨_,Yz p1 (Yz (zca hp hc pi2 hk (Yz pa (Yz pb (zd6 pc))) hs) pu),λFb Hb F H ρ σ E rl k=>?_⟩
 unfold zR zdm at k
 cases ho:zd8 io ik ir ia fr fl fn fe fb fc ρ with
 | none=>rw[ho]at k;exact k.elim
 | some ρ' =>
  rw[ho]at k
  dsimp only at k
  unfold zd8 at ho
  split at ho <;> try cases ho
  rename_i hh
  obtain⟨ho0,l0,lk,lr,la⟩:=hh
  have nO0:∀ (i:Nat) (s:Sl),ρ[i]?=some s->s.isO=false:=λi s e=>by
   have:=List.all_eq_true.mp ho0 s (List.mem_of_getElem? e)
   simpa using this
  obtain⟨ds,e1,ho⟩:=Option.bind_eq_some_iff.mp ho
  split at ho <;> try cases ho
  rename_i d0 d1'
  obtain⟨a,e2,ho⟩:=Option.bind_eq_some_iff.mp ho
  obtain⟨b,e3,ho⟩:=Option.bind_eq_some_iff.mp ho
  obtain⟨ks,e4,ho⟩:=Option.bind_eq_some_iff.mp ho
  obtain⟨abf,e5,rfl⟩:=Option.map_eq_some_iff.mp ho
  obtain⟨a2,e21,e22⟩:=Option.bind_eq_some_iff.mp e2
  obtain⟨b2,e31,e32⟩:=Option.bind_eq_some_iff.mp e3
  have e22:=Y5 e22
  have e32:=Y5 e32
  subst e22 e32
  generalize hz:Vj io ir ia ρ=ρ0 at e4 e5 k
  have nz:∀ (i:Nat) (s:Sl),ρ0[i]?=some s->s.isO=false:=λi s e=>by
   rw[<-hz]at e
   unfold Vj at e
   rcases Vx e with rfl | e
   .rfl
   .rcases Vx e with rfl | e
    .rfl
    .rcases Vx e with rfl | e
     .rfl
     .exact nO0 i s e
  have hr0:ρ0[ir]?=some .no:=by
   rw[<-hz]
   unfold Vj
   rw[List.getElem?_set_ne (Ne.symm d4),List.getElem?_set_self (by rw[List.length_set];exact lr)]
  have ha0:ρ0[ia]?=some .no:=by
   rw[<-hz]
   unfold Vj
   rw[List.getElem?_set_self (by rw[List.length_set,List.length_set];exact la)]
  have hlen:ρ0.length=ρ.length:=by rw[<-hz];unfold Vj;simp
  have s1:∀ (N:zeQ),(∀ F1 H1 po p0 p1,Gr F H F1 H1->Two F1 H1 Hb po p0 p1 a b->N.nx (σ.set io (some (.ref po))) H1)->Vn (tLC wi n g zgT (zcl fl)) (xT io) N σ H:=λN kk=>by
   unfold Vn
   exact zi5 (Hb:=Hb) ri rg rl.gr.fh rl.visF (λp hp=>rl.notbase hp) e1 e21 e31 λF1 H1 po p0 p1 g1 T1=>kk F1 H1 po p0 p1 g1 T1
  show Vn (tLC wi n g zgT (zcl fl)) (xT io) _ σ H
  refine s1 _ λF1 H1 po p0 p1 g1 T1=>?_
  have rl1:Rl Fb Hb F1 H1 ρ0 (σ.set io (some (.ref po))):=by
   have:=((((rl.grow g1).no io).free (i:=io) (List.getElem?_set_self l0) (some (.ref po))).no ir).no ia
   rw[<-hz]
   exact this
  have so1:(σ.set io (some (V.ref po)))[io]?=some (some (.ref po)):=List.getElem?_set_self (by rw[<-rl.len];exact l0)
  show wi2 _ H1 _
  refine ri2 _ _ F1 H1 ks _ rl1.gr.fh rl1.visF e4 λF2 H2 J g2 ok=>?_
  obtain⟨x0,hx0⟩:∃ x,ρ0[ik]?=some x:=⟨_,List.getElem?_eq_getElem (by rw[hlen];exact lk)⟩
  refine⟨λi m σ H=>m=ks.length - i/\i<=ks.length/\∃ F x ab,yf F2 F/\x.isO=false/\Rl Fb Hb F H (ρ0.set ik x) σ/\σ[io]?=some (some (.ref po))/\Two F H Hb po p0 p1 ab.1 ab.2/\Vo ik ir ia fe fb fc ρ0 (ks.drop i) ab=some abf,
   ⟨ks.length,by simp,Nat.zero_le _,F2,x0,(a,b),yf.refl _,nz _ _ hx0,by rw[W4 hx0];exact rl1.grow g2,so1,T1.grow g2,e5⟩,?_⟩
  rintro i m σ' H' ⟨rfl,hi,F',x,ab,s2,hx,rl',so',T',ep⟩
  obtain⟨stop,go⟩:=ok i F' H' s2 rl'.gr.fh
  by_cases hlt:i < ks.length
  .rw[List.drop_eq_getElem_cons hlt]at ep
   unfold Vo at ep
   obtain⟨ab2,f1,f2⟩:=Option.bind_eq_some_iff.mp ep
   obtain⟨k1,k2⟩:=go ks[i] (by simp[hlt])
   refine .inr ⟨k1,fun σ H=>∃ F x ab,yf F2 F/\x.isO=false/\Rl Fb Hb F H (ρ0.set ik x) σ/\σ[io]?=some (some (.ref po))/\Two F H Hb po p0 p1 ab.1 ab.2/\Vo ik ir ia fe fb fc ρ0 (ks.drop (i+1)) ab=some abf,fun σ' H' w=>⟨ks.length - (i+1),by omega,rfl,hlt,w⟩,λy H3 hy=>?_⟩
   obtain⟨F3,g3,a3⟩:=k2 y H3 hy
   have rl3:=(rl'.grow g3).set (i:=ik) a3
   rw[List.set_set]at rl3
   have nk:∀ (i':Nat) (s:Sl),(ρ0.set ik (.v ks[i]))[i']?=some s->s.isO=false:=λi' s e=>by
    rcases Vx e with rfl | e
    .rfl
    .exact nz i' s e
   refine zfC re rb rc d2 d3 d4 rl3 nk (by rw[List.getElem?_set_ne d5];exact hr0) (by rw[List.getElem?_set_ne d6];exact ha0) (by rw[List.getElem?_set_ne (Ne.symm d1)];exact so') (T'.grow g3) f1 _ λF4 H4 σ4 sF rl4 so4 T4=>⟨F4,.v ks[i],ab2,s2.trans (g3.ff.trans sF),rfl,rl4,so4,T4,f2⟩
  .have e:i=ks.length:=by omega
   subst e
   rw[List.drop_length]at ep
   unfold Vo at ep
   cases ep
   have rl5:=rl'.no ik
   rw[List.set_set]at rl5
   obtain⟨F5,rl6⟩:=T'.freeze rl5 (λi' s e=>by
    rcases Vx e with rfl | e
    .rfl
    .exact nz i' s e) so'
   exact .inl ⟨stop rfl,ru Fb Hb F5 H' _ σ' E rl6 k⟩
end
end Dl
namespace Mz
open PySem Dl
noncomputable abbrev Tie:=Int × Int
noncomputable def ltP (s t:Tie):Prop:=s.1 < t.1\/(s.1=t.1/\s.2 < t.2)
noncomputable instance (s t:Tie):Decidable (ltP s t):=by unfold ltP;infer_instance
noncomputable def zX (t:Tie):D:=.tup [.int t.1,.int t.2]
noncomputable def XC (many:Int)(ties:List Tie):D:=.tup [.int many,.tup (ties.map zX)]
structure zaq (many:Int) (ties:List Tie):Prop where
 lo:1<=many
 hi:many<=8
 rng:∀ t∈ties,0<=t.1/\t.1 < t.2/\t.2 < many
 srt:ties.Pairwise ltP
noncomputable def inR (m a:Int):Bool:=decide (0<=a)&&decide (a<=m - 1)
end Mz
namespace Mz
open Dl
noncomputable def ZK (c k:Int):Int :=
 let a:=(c % 2147483647+977*k+1)*48271 % 2147483647
 let b:=a*a % 2147483629
 (b+40692*(k+3))*69621 % 2147483647 / 8
noncomputable def adj (ts:List Tie)(a b:Int):Prop:=(a,b)∈ts\/(b,a)∈ts
theorem Zm {P:Nat->Prop}:∀ k,P k->∃ j,P j/\∀ i,P i->j<=i:=by
 intro k
 induction k using Nat.strongRecOn with
 | _ k ih =>
  intro h
  by_cases c:∃ i,i < k/\P i
  .obtain⟨i,hi,h2⟩:=c
   exact ih i hi h2
  .exact⟨k,h,λi hi=>Nat.le_of_not_lt λz=>c ⟨i,z,hi⟩⟩
theorem zgN {n:Nat}{i:Int}(h0:0<=i)(h1:i < n):L2.ixN n i=some i.toNat:=by
 unfold L2.ixN
 rw[if_pos h0,if_pos h1]
theorem zgs {α:Type}{xs:List α}{i:Int}{x:α}(h0:0<=i)(h:xs[i.toNat]?=some x):L2.atI xs i=some x:=by
 have:=(List.getElem?_eq_some_iff.mp h).1
 unfold L2.atI
 rw[zgN h0 (by omega)]
 exact h
theorem zkr {m:Bool}{i:Nat}{fk fe:Ev->Option D}{ρ:SE}{ds:List D}{d:D}{k:Int}(h1:vEv m fe ρ=some d)(h2:fk (visG ρ)=some (.int k))(h3:ρ[i]?=some (.o ds))(h4:0<=k)(h5:k < ds.length) :
 XB m i fk fe ρ=.nx (ρ.set i (.o (ds.set k.toNat d))):=by
 unfold XB
 rw[h1,h2,h3]
 show(match ((L2.ixN ds.length k).map λj=>ρ.set i (Sl.o (ds.set j d)))with | some ρ'=>Ctl.nx ρ' | none=>Ctl.no)=_
 rw[zgN h4 h5]
 rfl
theorem zbd:∀ {ns:List Int} {k:Nat} {x:Int} (h:k < ns.length),(ns.set k x).sum=ns.sum - ns[k]+x
 | [],_,_,h=>by simp at h
 | n::ns,0,x,_=>by simp;omega
 | n::ns,k+1,x,h=>by
  have:=zbd (ns:=ns) (k:=k) (x:=x) (by simpa using h)
  simp only[List.set_cons_succ,List.sum_cons,List.getElem_cons_succ,this]
  omega
noncomputable def zkL (b n:Nat):List Tie:=(List.range n).map λ(k:Nat)=>((k:Int),(b:Int))
theorem zhL {d:D}{n:Int}(h0:0<=n)(h1:n<=1000):zgE (.lst [d]) (.int n)=some (List.replicate n.toNat d):=by
 show(if -(2 ^ 63)<=n/\n < 2 ^ 63/\lim (1*n.toNat)=true then _ else none)=_
 rw[if_pos ⟨by omega,by omega,wg (by omega)⟩,List.flatten_replicate_singleton]
theorem zh4 {m:Bool}{i:Nat}{fk fe:Ev->Option D}{ρ:SE}{n b kk:SE->Prop}{r:D->Prop}(ds:List D)(d:D)(k:Int)(h1:vEv m fe ρ=some d)(h2:fk (visG ρ)=some (.int k))(h3:ρ[i]?=some (.o ds))(h4:0<=k)(h5:k < ds.length)(q:n (ρ.set i (.o (ds.set k.toNat d)))) :
 (XB m i fk fe ρ).w n b kk r:=Vd (zkr h1 h2 h3 h4 h5) q
theorem zc7 (n:Nat):(List.replicate n (0:Int)).sum=0:=by
 induction n with
 | zero=>rfl
 | succ n ih=>rw[List.replicate_succ,List.sum_cons,ih];rfl
theorem V6:∀ (ns ws:List Int),zck (ns.map .int) (ws.map .int)=(ns.zip ws).map zX
 | [],ws=>by cases ws <;> rfl
 | n::ns,[]=>rfl
 | n::ns,x::ws=>by
  show D.tup [.int n,.int x]::zck (ns.map .int) (ws.map .int)=_
  rw[V6 ns ws]
  rfl
theorem WO {i j:Int}(h1:-(2 ^ 64) < i)(h2:i < 2 ^ 64):vg (.int i) (.int j)=some (.int (i*j)):=by
 show(if Y8 i j=true then _ else none)=_
 rw[if_pos (show Y8 i j=true from decide_eq_true (.inl ⟨h1,h2⟩))]
theorem zft {α:Type}(xs:List α)(lo hi:Option Int):(Vq xs lo hi).length<=xs.length:=by
 unfold Vq
 rw[List.length_take,List.length_drop]
 omega
theorem Vb {a b:List D}(h:a.length+b.length<=1000):xc (.lst a) (.lst b)=some (.lst (a++b)):=by
 show(if lim (a.length+b.length)=true then _ else none)=_
 rw[if_pos (wg h)]
theorem VP:∀ {ns:List Int},(∀ x∈ns,0<=x)->0<=ns.sum
 | [],_=>by simp
 | n::ns,h=>by
  have:=VP (ns:=ns) λx hx=>h x (List.mem_cons_of_mem _ hx)
  have:=h n List.mem_cons_self
  rw[List.sum_cons]
  omega
theorem XR:∀ {ns:List Int} {y:Int},(∀ x∈ns,0<=x)->y∈ns->y<=ns.sum
 | [],_,_,h=>by simp at h
 | n::ns,y,h,hy=>by
  have h2:∀ x∈ns,0<=x:=λx hx=>h x (List.mem_cons_of_mem _ hx)
  have:=VP h2
  have:=h n List.mem_cons_self
  rw[List.sum_cons]
  rcases List.mem_cons.mp hy with rfl | hy
  .omega
  .have:=XR h2 hy
   omega
theorem wv {m:Bool}{i:Nat}{f:Ev->Option D}{ρ ρ':SE}{d:D}(h:vEv m f ρ=some d)(h2:ρ.set i (.v d)=ρ':=by rfl):wQ m i f ρ=.nx ρ':=by
 unfold wQ
 rw[h,<- h2]
theorem Xc {f:Ev->Option D}{ρ:SE}{d:D}(h:f (visG ρ)=some d):WN f ρ=.nx ρ:=by
 unfold WN
 rw[h]
theorem wn {f:Ev->Option D}{ρ:SE}{d:D}(h:f (visG ρ)=some d):yE f ρ=.rt d:=by
 unfold yE
 rw[h]
theorem zdY {i:Nat}{f:Ev->Option (List D)}{ρ ρ':SE}{ds:List D}(h:f (visF ρ)=some ds)(h2:ρ.set i (.o ds)=ρ':=by rfl):XF i f ρ=.nx ρ':=by
 unfold XF
 rw[h,<- h2]
theorem wX {a b:Int}:neD (.int a) (.int b)=some (.bl (!decide (a=b))):=rfl
theorem vI {a m x:Int}(h:0 < m)(hx:a % m=x):0<=x/\x < m:=by
 subst hx
 exact⟨Int.emod_nonneg _ (by omega),Int.emod_lt_of_pos _ h⟩
theorem zkj {m:Int}(h:1<=m):0 < m:=by omega
theorem zlw {d:D}{m:Int}(h1:1<=m)(h8:m<=8):zgE (.lst [d]) (.int m)=some (List.replicate m.toNat d):=zhL (by omega) (by omega)
theorem xM {a b:Int}:ZI (.int a) (.int b)=some (.bl (decide (a=b))):=rfl
theorem wM {a b:Bool}:ZI (.bl a) (.bl b)=some (.bl (decide (a=b))):=rfl
theorem xO {a b:PySem.Str}:ZI (.str a) (.str b)=some (.bl (decide (a=b))):=rfl
theorem xm {a b:Int}:xc (.int a) (.int b)=some (.int (a+b)):=rfl
theorem zjx {α:Type}(xs:List α)(k:Nat):Vq xs none (some (k:Int))=xs.take k:=by
 unfold Vq
 rw[HT.sIx_none,List.drop_zero,Nat.sub_zero,HT.sIx_nat]
 by_cases h:k<=xs.length
 .rw[Nat.min_eq_left h]
 .rw[Nat.min_eq_right (by omega),List.take_of_length_le (Nat.le_refl _),List.take_of_length_le (by omega)]
theorem zes {α:Type}(xs:List α)(k:Nat):Vq xs (some (k:Int)) none=xs.drop k:=by
 unfold Vq
 rw[HT.sIx_none,HT.sIx_nat]
 by_cases h:k<=xs.length
 .rw[Nat.min_eq_left h,List.take_of_length_le (by rw[List.length_drop];omega)]
 .rw[Nat.min_eq_right (by omega),Nat.sub_self,List.take_zero,List.drop_of_length_le (by omega)]
section
variable {ρ:Ev}{f g h:Ev->Option D}{a:Ev->Option (List D)}{t u:Ev->Option Bool}{d e x y z:D}{ds es:List D}{b c:Bool}
theorem zQ:zr ρ=some []:=rfl
theorem zp (h1:f ρ=some d)(h2:a ρ=some ds):zb f a ρ=some (d::ds):=by unfold zb;rw[h1,h2];rfl
theorem zH {n:Nat}{p:List D->Option D}(h1:a ρ=some ds)(h2:p ds=some d)(hl:ds.length=n:=by rfl):zw n p a ρ=some d:=by
 unfold zw
 rw[h1,Option.bind_some,if_pos hl,h2]
theorem zcE {i:Nat}{f:Ev->Option D}{σ σ':SE}(h:f (visF σ)=some d)(h3:σ.set i (.v d)=σ':=by rfl):wQ false i f σ=.nx σ':=wv (show f (visF σ)=some d from h) h3
theorem zq {k:D->D->Option D}(h1:f ρ=some x)(h2:g ρ=some y)(h3:k x y=some z):zo k f g ρ=some z:=by unfold zo;rw[h1,h2];exact h3
theorem vD (h1:a ρ=some ds):xU a ρ=some (.lst ds):=by unfold xU;rw[h1];rfl
theorem Yp {k:List D->Option D}(h1:a ρ=some ds)(h2:k ds=some d):eFn k a ρ=some d:=by unfold eFn;rw[h1];exact h2
theorem zcY {k:List D->Option (List D)}(h1:a ρ=some ds)(h2:k ds=some es):fFn k a ρ=some es:=by unfold fFn;rw[h1];exact h2
theorem zdC (h1:a ρ=some ds)(hl:ds.length<=1000):yD a ρ=some ds:=by unfold yD;rw[h1,Option.bind_some,if_pos (wg hl)]
theorem V1 (h1:a ρ=some ds)(hl:ds.length<=1000):vL a ρ=some (.tup ds):=by unfold vL;rw[h1,Option.bind_some,if_pos (wg hl)]
theorem VE (h1:f ρ=some d)(h2:wE d=some ds):iOf f ρ=some ds:=by unfold iOf;rw[h1];exact h2
theorem zlo (h1:f ρ=some (.bl b))(h2:g ρ=some (.bl c)):eOr f g ρ=some (.bl (b||c)):=by unfold eOr;rw[h1,h2];cases b <;> rfl
theorem vV (h1:f ρ=some (.bl b)):tOf f ρ=some b:=by unfold tOf;rw[h1];rfl
theorem zgo (h1:t ρ=some b):wb t ρ=some (!b):=by unfold wb;rw[h1];rfl
theorem zhZ (h1:t ρ=some false):vE t u ρ=some false:=by unfold vE;rw[h1];rfl
theorem zgy (h1:t ρ=some true):We t u ρ=some true:=by unfold We;rw[h1];rfl
theorem zhp (h1:t ρ=some true)(h2:u ρ=some c):vE t u ρ=some c:=by unfold vE;rw[h1];exact h2
theorem zbl (h1:t ρ=some false)(h2:u ρ=some c):We t u ρ=some c:=by unfold We;rw[h1];exact h2
end
end Mz
namespace Mz
open PySem L2 Dl
noncomputable def YF:zfc:=[("row",[1,8]),("ring",[3,8]),("cube",[0,3]),("full",[1,8]),("star",[1,7])]
noncomputable def top (i:Nat):Stmt:=PySem.Challenge.pw_twoforone_k54_whole_a_stone_or_a_sweep_p.main.body.getD i (.Pass ⟨0,0,0,0⟩)
noncomputable abbrev Yc:Stmt:=top 9
noncomputable abbrev yZ:Stmt:=top 10
noncomputable abbrev xf:Stmt:=top 11
noncomputable abbrev xl:Stmt:=top 12
noncomputable abbrev Yd:Stmt:=top 13
noncomputable abbrev wY:Stmt:=top 14
noncomputable abbrev xD:Stmt:=top 16
noncomputable abbrev wT:Stmt:=top 18
noncomputable abbrev x5:Stmt:=top 19
noncomputable abbrev YO:Stmt:=top 22
noncomputable abbrev vq:Stmt:=top 23
noncomputable abbrev vB:Stmt:=top 24
noncomputable abbrev vZ:Stmt:=top 25
noncomputable abbrev YS:Stmt:=top 26
noncomputable abbrev xh:Stmt:=top 28
noncomputable abbrev xL:Stmt:=top 29
noncomputable abbrev wa:Stmt:=top 30
noncomputable abbrev W6:Stmt:=top 31
noncomputable abbrev ZX:Stmt:=top 32
noncomputable abbrev wu:Stmt:=top 33
noncomputable abbrev wO:Stmt:=top 34
noncomputable abbrev x9:Stmt:=top 35
noncomputable abbrev wq:Stmt:=top 36
noncomputable abbrev xZ:Stmt:=top 38
noncomputable abbrev vF:Stmt:=top 39
noncomputable abbrev xY:Stmt:=top 40
noncomputable abbrev vn:Stmt:=top 41
noncomputable abbrev wP:Stmt:=top 42
noncomputable abbrev wm:Stmt:=top 43
noncomputable abbrev xb:Stmt:=top 44
noncomputable abbrev zc3:Stmt:=top 45
theorem zbf:zA ["thing"] ["thing"] (zn Yc):=⟨rfl,rfl,rfl,by decide +kernel,rfl,by decide +kernel,by decide +kernel⟩
theorem Yo:zA ["thing","least","most"] ["thing","least","most"] (zn yZ):=⟨rfl,rfl,rfl,by decide +kernel,rfl,by decide +kernel,by decide +kernel⟩
theorem YY:zA ["thing","least","most"] ["thing","least","most"] (zn xf):=⟨rfl,rfl,rfl,by decide +kernel,rfl,by decide +kernel,by decide +kernel⟩
theorem YN:zA ["thing"] ["thing"] (zn xl):=⟨rfl,rfl,rfl,by decide +kernel,rfl,by decide +kernel,by decide +kernel⟩
theorem zaR:zA ["many","thing"] ["many","thing"] (zn Yd):=⟨rfl,rfl,rfl,by decide +kernel,rfl,by decide +kernel,by decide +kernel⟩
theorem Wr:zA ["many","thing"] ["many","thing"] (zn wY):=⟨rfl,rfl,rfl,by decide +kernel,rfl,by decide +kernel,by decide +kernel⟩
theorem Zj:zA ["web","thing"] ["web","thing"] (zn xD):=⟨rfl,rfl,rfl,by decide +kernel,rfl,by decide +kernel,by decide +kernel⟩
theorem Va:zA ["web","thing"] ["web","thing"] (zn wT):=⟨rfl,rfl,rfl,by decide +kernel,rfl,by decide +kernel,by decide +kernel⟩
theorem ZZ:zA ["web","thing"] ["web","thing"] (zn x5):=⟨rfl,rfl,rfl,by decide +kernel,rfl,by decide +kernel,by decide +kernel⟩
theorem zcy:zA ["thing"] ["thing"] (zn YO):=⟨rfl,rfl,rfl,by decide +kernel,rfl,by decide +kernel,by decide +kernel⟩
theorem Zh:zA ["thing","word"] ["thing"] (zn vq):=⟨rfl,rfl,rfl,by decide +kernel,rfl,by decide +kernel,by decide +kernel⟩
theorem V8:zA ["word","size"] ["word","size"] (zn vB):=⟨rfl,rfl,rfl,by decide +kernel,rfl,by decide +kernel,by decide +kernel⟩
theorem zaY:zA ["word","size","one","other"] ["word","size","one","other"] (zn vZ):=⟨rfl,rfl,rfl,by decide +kernel,rfl,by decide +kernel,by decide +kernel⟩
theorem xV:zA ["kind","word","size","many","ties","one"] ["kind"] (zn YS):=⟨rfl,rfl,rfl,by decide +kernel,rfl,by decide +kernel,by decide +kernel⟩
theorem YU:zA ["n"] ["n"] (zn xh):=⟨rfl,rfl,rfl,by decide +kernel,rfl,by decide +kernel,by decide +kernel⟩
theorem w8:zA ["n","heap","place","web"] ["n","heap","place"] (zn xL):=⟨rfl,rfl,rfl,by decide +kernel,rfl,by decide +kernel,by decide +kernel⟩
theorem vt:zA ["n","place","upwards"] ["n","place"] (zn wa):=⟨rfl,rfl,rfl,by decide +kernel,rfl,by decide +kernel,by decide +kernel⟩
theorem Yy:zA ["heap","order","carried","ahead","place"] ["heap","order"] (zn W6):=⟨rfl,rfl,rfl,by decide +kernel,rfl,by decide +kernel,by decide +kernel⟩
theorem zc9:zA ["n","heap","place"] ["n","heap","place"] (zn ZX):=⟨rfl,rfl,rfl,by decide +kernel,rfl,by decide +kernel,by decide +kernel⟩
theorem yK:zA ["heap","order","place","steps","one","other","times"] ["heap","order","place"] (zn wu):=⟨rfl,rfl,rfl,by decide +kernel,rfl,by decide +kernel,by decide +kernel⟩
theorem YG:zA ["n","heap","place","order"] ["n","heap","place"] (zn wO):=⟨rfl,rfl,rfl,by decide +kernel,rfl,by decide +kernel,by decide +kernel⟩
theorem yq:zA ["heap","order","numbers","ahead","place","number"] ["heap","order","numbers"] (zn x9):=⟨rfl,rfl,rfl,by decide +kernel,rfl,by decide +kernel,by decide +kernel⟩
theorem XD:zA ["n","heap","place","thing"] ["n","heap","place","thing"] (zn wq):=⟨rfl,rfl,rfl,by decide +kernel,rfl,by decide +kernel,by decide +kernel⟩
theorem Xl:zA ["script","k"] ["script","k"] (zn xZ):=⟨rfl,rfl,rfl,by decide +kernel,rfl,by decide +kernel,by decide +kernel⟩
theorem wk:zA ["cell","k","number"] ["cell","k"] (zn vF):=⟨rfl,rfl,rfl,by decide +kernel,rfl,by decide +kernel,by decide +kernel⟩
theorem ym:zA ["many","cell","most","found","k","place"] ["many","cell","most"] (zn xY):=⟨rfl,rfl,rfl,by decide +kernel,rfl,by decide +kernel,by decide +kernel⟩
theorem V4:zA ["n"] ["n"] (zn vn):=⟨rfl,rfl,rfl,by decide +kernel,rfl,by decide +kernel,by decide +kernel⟩
theorem yX:zA ["heap","place","by","found","carry","k"] ["heap","place","by"] (zn wP):=⟨rfl,rfl,rfl,by decide +kernel,rfl,by decide +kernel,by decide +kernel⟩
theorem zY:zA ["web","heap","found","todo","here","a","b","other"] ["web","heap"] (zn wm):=⟨rfl,rfl,rfl,by decide +kernel,rfl,by decide +kernel,by decide +kernel⟩
theorem Yv:zA ["web","heap","place"] ["web","heap","place"] (zn xb):=⟨rfl,rfl,rfl,by decide +kernel,rfl,by decide +kernel,by decide +kernel⟩
theorem wl:zA ["script","cell","n","place","heap","comes","rows","turn","other","k","row","at","paper"] ["script"] (zn zc3):=⟨rfl,rfl,rfl,by decide +kernel,rfl,by decide +kernel,by decide +kernel⟩
structure Adr where
 f_is_whole:Addr
 e_is_whole:FuncData
 f_is_whole_within:Addr
 e_is_whole_within:FuncData
 f_must_be_within:Addr
 e_must_be_within:FuncData
 f_is_place_count:Addr
 e_is_place_count:FuncData
 f_is_place:Addr
 e_is_place:FuncData
 f_are_counts:Addr
 e_are_counts:FuncData
 f_must_be_place:Addr
 e_must_be_place:FuncData
 f_are_stones:Addr
 e_are_stones:FuncData
 f_must_be_heap:Addr
 e_must_be_heap:FuncData
 f_is_over:Addr
 e_is_over:FuncData
 f_kind_good:Addr
 e_kind_good:FuncData
 f_places_of:Addr
 e_places_of:FuncData
 f_are_tied:Addr
 e_are_tied:FuncData
 f_web_for:Addr
 e_web_for:FuncData
 f_ring_of_places:Addr
 e_ring_of_places:FuncData
 f_must_fit_ring:Addr
 e_must_fit_ring:FuncData
 f_sweep_orders:Addr
 e_sweep_orders:FuncData
 f_swept:Addr
 e_swept:FuncData
 f_sweeps:Addr
 e_sweeps:FuncData
 f_sweep_steps:Addr
 e_sweep_steps:FuncData
 f_ring_steps:Addr
 e_ring_steps:FuncData
 f_bounds_sweep:Addr
 e_bounds_sweep:FuncData
 f_sweep_holds:Addr
 e_sweep_holds:FuncData
 f__law_cell_at:Addr
 e__law_cell_at:FuncData
 f__law_stir:Addr
 e__law_stir:FuncData
 f__law_heap_by:Addr
 e__law_heap_by:FuncData
 f__law_ring:Addr
 e__law_ring:FuncData
 f__law_sweep:Addr
 e__law_sweep:FuncData
 f__law_behind:Addr
 e__law_behind:FuncData
 f__law_most_there:Addr
 e__law_most_there:FuncData
 f_law:Addr
 e_law:FuncData
 t_MOST_PLACES:Tok
 t_MOST_STONES:Tok
 s_SIZES:Addr
structure Txt (K:W.Frag) (mg:Str->Option Value) (ad:Adr):Prop where
 d_is_whole:Def K mg "is_whole" Yc ["thing"] ad.f_is_whole ad.e_is_whole
 d_is_whole_within:Def K mg "is_whole_within" yZ ["thing","least","most"] ad.f_is_whole_within ad.e_is_whole_within
 d_must_be_within:Def K mg "must_be_within" xf ["thing","least","most"] ad.f_must_be_within ad.e_must_be_within
 d_is_place_count:Def K mg "is_place_count" xl ["thing"] ad.f_is_place_count ad.e_is_place_count
 d_is_place:Def K mg "is_place" Yd ["many","thing"] ad.f_is_place ad.e_is_place
 d_are_counts:Def K mg "are_counts" wY ["many","thing"] ad.f_are_counts ad.e_are_counts
 d_must_be_place:Def K mg "must_be_place" xD ["web","thing"] ad.f_must_be_place ad.e_must_be_place
 d_are_stones:Def K mg "are_stones" wT ["web","thing"] ad.f_are_stones ad.e_are_stones
 d_must_be_heap:Def K mg "must_be_heap" x5 ["web","thing"] ad.f_must_be_heap ad.e_must_be_heap
 d_is_over:Def K mg "is_over" YO ["thing"] ad.f_is_over ad.e_is_over
 d_kind_good:Def K mg "kind_good" vq ["thing"] ad.f_kind_good ad.e_kind_good
 d_places_of:Def K mg "places_of" vB ["word","size"] ad.f_places_of ad.e_places_of
 d_are_tied:Def K mg "are_tied" vZ ["word","size","one","other"] ad.f_are_tied ad.e_are_tied
 d_web_for:Def K mg "web_for" YS ["kind"] ad.f_web_for ad.e_web_for
 d_ring_of_places:Def K mg "ring_of_places" xh ["n"] ad.f_ring_of_places ad.e_ring_of_places
 d_must_fit_ring:Def K mg "must_fit_ring" xL ["n","heap","place"] ad.f_must_fit_ring ad.e_must_fit_ring
 d_sweep_orders:Def K mg "sweep_orders" wa ["n","place"] ad.f_sweep_orders ad.e_sweep_orders
 d_swept:Def K mg "swept" W6 ["heap","order"] ad.f_swept ad.e_swept
 d_sweeps:Def K mg "sweeps" ZX ["n","heap","place"] ad.f_sweeps ad.e_sweeps
 d_sweep_steps:Def K mg "sweep_steps" wu ["heap","order","place"] ad.f_sweep_steps ad.e_sweep_steps
 d_ring_steps:Def K mg "ring_steps" wO ["n","heap","place"] ad.f_ring_steps ad.e_ring_steps
 d_bounds_sweep:Def K mg "bounds_sweep" x9 ["heap","order","numbers"] ad.f_bounds_sweep ad.e_bounds_sweep
 d_sweep_holds:Def K mg "sweep_holds" wq ["n","heap","place","thing"] ad.f_sweep_holds ad.e_sweep_holds
 d__law_cell_at:Def K mg "_law_cell_at" xZ ["script","k"] ad.f__law_cell_at ad.e__law_cell_at
 d__law_stir:Def K mg "_law_stir" vF ["cell","k"] ad.f__law_stir ad.e__law_stir
 d__law_heap_by:Def K mg "_law_heap_by" xY ["many","cell","most"] ad.f__law_heap_by ad.e__law_heap_by
 d__law_ring:Def K mg "_law_ring" vn ["n"] ad.f__law_ring ad.e__law_ring
 d__law_sweep:Def K mg "_law_sweep" wP ["heap","place","by"] ad.f__law_sweep ad.e__law_sweep
 d__law_behind:Def K mg "_law_behind" wm ["web","heap"] ad.f__law_behind ad.e__law_behind
 d__law_most_there:Def K mg "_law_most_there" xb ["web","heap","place"] ad.f__law_most_there ad.e__law_most_there
 d_law:Def K mg "law" zc3 ["script"] ad.f_law ad.e_law
 g_MOST_PLACES:mg "MOST_PLACES"=some (Value.int 8 ad.t_MOST_PLACES)
 g_MOST_STONES:mg "MOST_STONES"=some (Value.int 300 ad.t_MOST_STONES)
 z_all:mg "all"=none
 z_bool:mg "bool"=none
 z_int:mg "int"=none
 z_isinstance:mg "isinstance"=none
 z_len:mg "len"=none
 z_list:mg "list"=none
 z_max:mg "max"=none
 z_range:mg "range"=none
 z_reversed:mg "reversed"=none
 z_sorted:mg "sorted"=none
 z_str:mg "str"=none
 z_sum:mg "sum"=none
 z_tuple:mg "tuple"=none
 z_zip:mg "zip"=none
 g_SIZES:mg "SIZES"=some (Value.ref ad.s_SIZES)
 b_SIZES:∀ h:Heap,K.In h->PyProof.Rows.KTD.TextTab h ad.s_SIZES (Vp YF)
theorem zlh:(["part","many","thing"]:List Str).Nodup:=by decide +kernel
theorem zjf:(["a","b","web","heap","found","todo","here","·a","·b","other"]:List Str).Nodup:=by decide +kernel
theorem zlP:(["other","web","heap","place"]:List Str).Nodup:=by decide +kernel
theorem zlj:(["place","thing"]:List Str).Nodup:=by decide +kernel
theorem zlK:(["other","kind","word","size","many","ties","one"]:List Str).Nodup:=by decide +kernel
theorem zk6:(["at","n","place","upwards"]:List Str).Nodup:=by decide +kernel
theorem zkh:(["order","numbers","n","heap","place","thing"]:List Str).Nodup:=by decide +kernel
theorem zln:(["k","n"]:List Str).Nodup:=by decide +kernel
theorem zk3:(["order","n","heap","place"]:List Str).Nodup:=by decide +kernel
theorem zkW:(["row","script","cell","n","place","heap","comes","rows","turn","other","k","·row","at","paper"]:List Str).Nodup:=by decide +kernel
noncomputable def Yi:D->Bool
 | .int _=>true
 | _=>false
noncomputable def Xb (d:D)(lo hi:Int):Bool:=match d with
 | .int i=>decide (lo<=i)&&decide (i<=hi)
 | _=>false
section
variable {P:Program}{w:World}{K:W.Frag}{mg:Str->Option Value}{base:Heap}{ad:Adr}
noncomputable def zS:List D->Option D
 | [d]=>if noS d=true then some (.bl (Yi d))else none
 | _=>none
noncomputable def Y6:SE->Ctl :=
 (yE (W8 (eUn (vk .int) (zc 0)) (zc0 (eUn (vk .bool) (zc 0)))))
noncomputable def zcC:List D->Option D:=fnD 1 Y6
theorem len1 {α:Type}{ds:List α}(h:ds.length=1):∃ a,ds=[a]:=by match ds,h with | [a],_=>exact⟨a,rfl⟩
theorem zgY {α:Type}{ds:List α}(h:ds.length=2):∃ a b,ds=[a,b]:=by match ds,h with | [a,b],_=>exact⟨a,b,rfl⟩
theorem len3 {α:Type}{ds:List α}(h:ds.length=3):∃ a b c,ds=[a,b,c]:=by match ds,h with | [a,b,c],_=>exact⟨a,b,c,rfl⟩
theorem ifS {c:Bool}{x y:D}(h:(if c=true then some x else none)=some y):c=true/\x=y:=by
 split at h
 .cases h
  exact⟨by assumption,rfl⟩
 .cases h
theorem zaZ:∀ ds d,ds.length=1->zS ds=some d->zcC ds=some d:=by
 intro ds d hl h
 obtain⟨a,rfl⟩:=len1 hl
 obtain⟨hn,rfl⟩:=ifS h
 cases a <;> first | rfl | cases hn
theorem Z8 (T:Txt K mg ad):xz P w K mg base CX0 1 ad.f_is_whole ad.e_is_whole ["thing"] (@spD ⟨K⟩ 1 zS):=by
 letI:KK:=⟨K⟩
 refine Yh (yO (N:=["thing"]) (ps:=["thing"]) T.d_is_whole.fn zbf (g:=Y6) λcdv A outer s H E hr=>?_) zaZ
 unfold Y6
 exact(zh (zx (X8 (xW .int rfl T.z_isinstance (edv 0) (Yb (v:=.ty "int") rfl T.z_int zi3 rfl)) (Zi (zkn (xW .bool rfl T.z_isinstance (edv 0) (Yb (v:=.ty "bool") rfl T.z_bool zg1 rfl)))))))
noncomputable def yb:SE->Ctl :=
 (yE (W8 (zw 1 zS (zb (zc 0) zr)) (w6 leD leD (zc 1) (zc 0) (zc 2))))
noncomputable def wx:List D->Option D:=fnD 3 yb
noncomputable def zy:List D->Option D
 | [d,.int lo,.int hi]=>if noS d=true then some (.bl (Xb d lo hi))else none
 | _=>none
theorem WZ {a:D}{lo hi:Int}(hn:noS a=true)(hw:Yi a=false):wx [a,.int lo,.int hi]=some (.bl false):=by
 have e:zS [a]=some (.bl false):=by
  show(if noS a=true then some (D.bl (Yi a))else none)=_
  rw[if_pos hn,hw]
 refine zan (ρ:=[.v a,.v (.int lo),.v (.int hi)]) rfl ?_
 unfold yb
 refine Zp (wn ?_) rfl
 show(((zS [a]).bind asB).bind λc=>if c=true then _ else some (D.bl false))=_
 rw[e]
 rfl
theorem Yw:∀ ds d,ds.length=3->zy ds=some d->wx ds=some d:=by
 intro ds d hl h
 obtain⟨a,b,c,rfl⟩:=len3 hl
 cases b <;> try cases h
 cases c <;> try cases h
 rename_i lo hi
 obtain⟨hn,rfl⟩:=ifS h
 cases a with
 | scr _=>cases hn
 | int i =>
  refine zan (ρ:=[.v (.int i),.v (.int lo),.v (.int hi)]) rfl ?_
  unfold yb
  refine Zp (wn ?_) rfl
  show(if decide (lo<=i)=true then some (D.bl (decide (i<=hi)))else some (.bl false))=some (.bl (decide (lo<=i)&&decide (i<=hi)))
  cases decide (lo<=i) <;> rfl
 | tup es=>exact WZ hn rfl
 | lst es=>exact WZ hn rfl
 | dct z t ks vs=>exact WZ hn rfl
 | non=>rfl
 | bl _=>rfl
 | str _=>rfl
theorem yl (T:Txt K mg ad):xz P w K mg base CX0 2 ad.f_is_whole_within ad.e_is_whole_within ["thing","least","most"] (@spD ⟨K⟩ 3 zy):=by
 letI:KK:=⟨K⟩
 have G_is_whole:=Z8 (P:=P) (w:=w) (base:=base) T
 refine Yh (yO (N:=["thing","least","most"]) (ps:=["thing","least","most"]) T.d_is_whole_within.fn Yo (g:=yb) λcdv A outer s H E hr=>?_) Yw
 unfold yb
 exact(zh (zx (X8 (zi G_is_whole hr rfl T.d_is_whole (za (edv 0) zd)) (Zi (zfQ zdP zdP yg yg (edv 1) (edv 0) (edv 2) (λa b c=>zfp zdP zdP a b c))))))
noncomputable def yM:SE->Ctl :=
 (yE (zw 3 zy (zb (zc 0) (zb (eC (.int 1)) (zb (eC (.int 8)) zr)))))
noncomputable def xA:List D->Option D:=fnD 1 yM
noncomputable def xG:List D->Option D
 | [d]=>if noS d=true then some (.bl (Xb d 1 8))else none
 | _=>none
theorem YM:∀ ds d,ds.length=1->xG ds=some d->xA ds=some d:=by
 intro ds d hl h
 obtain⟨a,rfl⟩:=len1 hl
 have e:xA [a]=zy [a,.int 1,.int 8]:=by
  cases h2:zy [a,.int 1,.int 8] <;> simp[xA,yM,fnD,zR,yE,Vc,sIf,wQ,WN,sNo,zW,zfR,XF,Ve,zaA,XB,vEv,visF,visG,Sl.f,Sl.g,zc,eC,zo,W8,eOr,zc0,eIf,eUn,zbp,vL,xU,yD,zb,zr,zw,eFn,fFn,tOf,vE,We,wb,asB,asI,xm,Ze,vg,wH,wc,zbr,v6,ltD,leD,gtD,geD,zbJ,xM,wM,xO,wX,zcM,xa,ixD,Zk,vk,isT,eSl,Zt,vo,w6,wE,iOf,XS,wV,Zd,v5,XJ,YD,Yl,fLC,yU,ye,vN,xj,zaO,wA,zbX,b1,b2,h2]
 rw[e]
 exact h
theorem Y9 (T:Txt K mg ad):xz P w K mg base CX0 3 ad.f_is_place_count ad.e_is_place_count ["thing"] (@spD ⟨K⟩ 1 xG):=by
 letI:KK:=⟨K⟩
 have G_is_whole_within:=yl (P:=P) (w:=w) (base:=base) T
 refine Yh (yO (N:=["thing"]) (ps:=["thing"]) T.d_is_place_count.fn YN (g:=yM) λcdv A outer s H E hr=>?_) YM
 unfold yM
 exact(zh (zx (zi G_is_whole_within hr rfl T.d_is_whole_within (za (edv 0) (za (zf zg) (za (zf (za2 (v:=.int 8) rfl T.g_MOST_PLACES ⟨_,rfl⟩)) zd))))))
noncomputable def vH:SE->Ctl :=
 (yE (zw 3 zy (zb (zc 1) (zb (eC (.int 0)) (zb (zo Ze (zc 0) (eC (.int 1))) zr)))))
noncomputable def YJ:List D->Option D:=fnD 2 vH
noncomputable def wF:List D->Option D
 | [.int m,d]=>if noS d=true then some (.bl (Xb d 0 (m - 1)))else none
 | _=>none
theorem zaT:∀ ds d,ds.length=2->wF ds=some d->YJ ds=some d:=by
 intro ds d hl h
 obtain⟨a,b,rfl⟩:=zgY hl
 cases a <;> try cases h
 rename_i m
 have e:YJ [.int m,b]=zy [b,.int 0,.int (m - 1)]:=by
  cases h2:zy [b,.int 0,.int (m - 1)] <;> simp[YJ,vH,fnD,zR,yE,Vc,sIf,wQ,WN,sNo,zW,zfR,XF,Ve,zaA,XB,vEv,visF,visG,Sl.f,Sl.g,zc,eC,zo,W8,eOr,zc0,eIf,eUn,zbp,vL,xU,yD,zb,zr,zw,eFn,fFn,tOf,vE,We,wb,asB,asI,xm,Ze,vg,wH,wc,zbr,v6,ltD,leD,gtD,geD,zbJ,xM,wM,xO,wX,zcM,xa,ixD,Zk,vk,isT,eSl,Zt,vo,w6,wE,iOf,XS,wV,Zd,v5,XJ,YD,Yl,fLC,yU,ye,vN,xj,zaO,wA,zbX,b1,b2,h2]
 rw[e]
 exact h
theorem Xt (T:Txt K mg ad):xz P w K mg base CX0 3 ad.f_is_place ad.e_is_place ["many","thing"] (@spD ⟨K⟩ 2 wF):=by
 letI:KK:=⟨K⟩
 have G_is_whole_within:=yl (P:=P) (w:=w) (base:=base) T
 refine Yh (yO (N:=["many","thing"]) (ps:=["many","thing"]) T.d_is_place.fn zaR (g:=vH) λcdv A outer s H E hr=>?_) zaT
 unfold vH
 exact(zh (zx (zi G_is_whole_within hr rfl T.d_is_whole_within (za (edv 1) (za (zf zg) (za (X4 (edv 0) (zf zg)) zd))))))
theorem zaB {m i:Int}:Xb (.int i) 0 (m - 1)=inR m i:=rfl
noncomputable def yC:D->Bool
 | .int i=>decide (0<=i)
 | _=>false
noncomputable def zlJ:D->Int
 | .int i=>i
 | _=>0
noncomputable def zV (m:Int):D->Bool
 | .tup ds=>decide ((ds.length:Int)=m)&&ds.all yC
 | _=>false
theorem zeZ {α:Type}(f:α->Bool)(l:List α):zil [.lst (l.map λx=>.bl (f x))]=some (.bl (l.all f)):=by
 have:zid (l.map λx=>D.bl (f x))=some (l.map f):=by
  have:=zfl (l.map f)
  rwa[List.map_map]at this
 show((zid (l.map λx=>D.bl (f x))).bind λbs=>some (D.bl (bs.all id)))=_
 rw[this]
 show some (D.bl ((l.map f).all id))=_
 rw[List.all_map]
 rfl
theorem Z6 {ds:List D}(h:ds.all yC=true):∃ ns:List Int,ds=ns.map .int/\∀ n∈ns,0<=n:=by
 induction ds with
 | nil=>exact⟨[],rfl,by simp⟩
 | cons d ds ih =>
  rw[List.all_cons,Bool.and_eq_true]at h
  obtain⟨ns,rfl,hn⟩:=ih h.2
  cases d with
  | int i=>exact⟨i::ns,rfl,λn hm=>by
   rcases List.mem_cons.mp hm with rfl | hm
   .exact of_decide_eq_true h.1
   .exact hn n hm⟩
  | _=>exact absurd h.1 Bool.false_ne_true
theorem zek {ns:List Int}(h:∀ n∈ns,0<=n):(ns.map D.int).all yC=true:=by
 rw[List.all_map,List.all_eq_true]
 exact λn hn=>decide_eq_true (h n hn)
theorem zdT (ns:List Int):zkZ [.tup (ns.map .int)]=some (.int ns.sum):=by
 show((zcc (ns.map .int)).bind λns=>some (D.int ns.sum))=_
 rw[ZF]
 rfl
noncomputable def yR:SE->Ctl :=
 (zR (sIf (We (wb (tOf (eUn (vk .tuple) (zc 1)))) (tOf (zo neD (eFn Zk (zb (zc 1) zr)) (zc 0)))) (yE (eC (.bl false))) zW)
  (yE (eFn zil (zb (xU (fLC (iOf (zc 1)) b1 yU (W8 (zw 1 zS (zb (zc 0) zr)) (zo geD (zc 0) (eC (.int 0)))))) zr))))
noncomputable def Zf:List D->Option D:=fnD 2 yR
noncomputable def yr:List D->Option D
 | [.int m,d]=>if (noS d&&decide (m<=1000))=true then some (.bl (zV m d))else none
 | _=>none
theorem zkw {d:D}(hn:noS d=true):((zS [d]).bind asB).bind (λc=>if c=true then geD d (.int 0)else some (.bl false))=some (.bl (yC d)):=by
 cases d with
 | scr _=>cases hn
 | tup _=>simp[zS,hn,Yi,asB,yC]
 | lst _=>simp[zS,hn,Yi,asB,yC]
 | _=>rfl
theorem W7:∀ ds d,ds.length=2->yr ds=some d->Zf ds=some d:=by
 intro ds d hl h
 obtain⟨a,b,rfl⟩:=zgY hl
 cases a <;> try cases h
 rename_i m
 obtain⟨hn,rfl⟩:=ifS h
 clear h hl
 rw[Bool.and_eq_true,decide_eq_true_eq]at hn
 obtain⟨hn,hm⟩:=hn
 cases b with
 | scr _=>cases hn
 | tup es =>
  by_cases hl:(es.length:Int)=m
  .have e:fLC (iOf (zc 1)) b1 yU (W8 (zw 1 zS (zb (zc 0) zr)) (zo geD (zc 0) (eC (.int 0)))) [some (.int m),some (.tup es)]=some (es.map λd=>.bl (yC d)):=by
    unfold fLC
    show(if lim es.length=true then _ else none)=_
    rw[if_pos (wg (by omega))]
    have:=vx (b:=b1) (t:=yU) (f:=W8 (zw 1 zS (zb (zc 0) zr)) (zo geD (zc 0) (eC (.int 0)))) (ρ:=[some (.int m),some (.tup es)]) id (λd=>.bl (yC d)) es
     (λd hd=>⟨[some d],rfl,rfl,zkw (by obtain⟨j,hj,rfl⟩:=List.getElem_of_mem hd;exact ZO (i:=j) hn (by simp[hj]))⟩)
    rwa[List.map_id]at this
   show fnD 2 yR _=_
   refine zan rfl ?_
   unfold yR
   refine wy (zcN (c:=false) (by simp[fnD,zR,yE,Vc,sIf,wQ,WN,sNo,zW,zfR,XF,Ve,zaA,XB,vEv,visF,visG,Sl.f,Sl.g,zc,eC,zo,W8,eOr,zc0,eIf,eUn,zbp,vL,xU,yD,zb,zr,zw,eFn,fFn,tOf,vE,We,wb,asB,asI,xm,Ze,vg,wH,wc,zbr,v6,ltD,leD,gtD,geD,zbJ,xM,wM,xO,wX,zcM,xa,ixD,Zk,vk,isT,eSl,Zt,vo,w6,wE,iOf,XS,wV,Zd,v5,XJ,YD,Yl,fLC,yU,ye,vN,xj,zaO,wA,zbX,b1,b2,hl]) (λz=>by cases z) λ_=>Vd rfl (Zp (d:=.bl (es.all yC)) ?_ ?_))
   .show(match (((fLC (iOf (zc 1)) b1 yU (W8 (zw 1 zS (zb (zc 0) zr)) (zo geD (zc 0) (eC (.int 0)))) [some (.int m),some (.tup es)]).map D.lst).bind λd=>(some []:Option (List D)).map (d::·)).bind zil with | some d=>Ctl.rt d | none=>Ctl.no)=_
    rw[e]
    show(match zil [.lst (es.map λd=>.bl (yC d))]with | some d=>Ctl.rt d | none=>Ctl.no)=_
    rw[zeZ]
   .show D.bl (es.all yC)=.bl (decide ((es.length:Int)=m)&&es.all yC)
    rw[decide_eq_true hl,Bool.true_and]
  .have e:zV m (.tup es)=false:=by
    show(decide ((es.length:Int)=m)&&es.all yC)=false
    rw[decide_eq_false hl,Bool.false_and]
   rw[e]
   simp[Zf,yR,fnD,zR,yE,Vc,sIf,wQ,WN,sNo,zW,zfR,XF,Ve,zaA,XB,vEv,visF,visG,Sl.f,Sl.g,zc,eC,zo,W8,eOr,zc0,eIf,eUn,zbp,vL,xU,yD,zb,zr,zw,eFn,fFn,tOf,vE,We,wb,asB,asI,xm,Ze,vg,wH,wc,zbr,v6,ltD,leD,gtD,geD,zbJ,xM,wM,xO,wX,zcM,xa,ixD,Zk,vk,isT,eSl,Zt,vo,w6,wE,iOf,XS,wV,Zd,v5,XJ,YD,Yl,fLC,yU,ye,vN,xj,zaO,wA,zbX,b1,b2,hl]
 | _=>rfl
theorem Yk (T:Txt K mg ad):xz P w K mg base CX0 2 ad.f_are_counts ad.e_are_counts ["many","thing"] (@spD ⟨K⟩ 2 yr):=by
 letI:KK:=⟨K⟩
 have G_is_whole:=Z8 (P:=P) (w:=w) (base:=base) T
 refine Yh (yO (N:=["many","thing"]) (ps:=["many","thing"]) T.d_are_counts.fn Wr (g:=yR) λcdv A outer s H E hr=>?_) W7
 unfold yR
 exact(ze (yG (zhl (zcz (vy (wC (xW .tuple rfl T.z_isinstance (edv 1) (Yb (v:=.ty "tuple") rfl T.z_tuple zU rfl)))) (Vr (zT zcm XW (zG _) (zP zM x4 rfl T.z_len vp (za (edv 1) zd)) (edv 0))))) (zh (zx (ve vf))) zE)
  (zh (zx (zP (Xy rfl) za8 rfl T.z_all zdf (za (wz (Xs (L:=["part"]) (M:=["many","thing"]) rfl (vQ (by rfl) (by rfl) (by rfl) (by with_unfolding_all rfl) (by rfl) (by rfl) (by kernel_rfl) all_nil) (Ym (edv 1)) gs1 rb1 (λ_ _ _ _=>(zI (i:=0) zlh rfl (Or.inl rfl) (.inr rfl))) (λ_ _ _ _=>(X8 (zi G_is_whole hr rfl T.d_is_whole (za (edv 0) zd)) (Zi (wB zk5 yg (zG _) (edv 0) (zf zg))))))) zd)))))
noncomputable def Yg (m:Int):D->Bool
 | .tup ds=>zV m (.tup ds)&&decide ((ds.map zlJ).sum<=300)
 | _=>false
theorem X7 (ns:List Int):(ns.map D.int).map zlJ=ns:=by rw[List.map_map];exact(List.map_congr_left λ_ _=>rfl).trans (List.map_id _)
noncomputable def xv:SE->Ctl :=
 (yE (W8 (zw 2 yr (zb (zo ixD (zc 0) (eC (.int 0))) (zb (zc 1) zr))) (zo leD (eFn zkZ (zb (zc 1) zr)) (eC (.int 300)))))
noncomputable def vw:List D->Option D:=fnD 2 xv
noncomputable def yP:List D->Option D
 | [.tup [.int m,_],d]=>if (noS d&&decide (m<=1000))=true then some (.bl (Yg m d))else none
 | _=>none
theorem Wk:∀ ds d,ds.length=2->yP ds=some d->vw ds=some d:=by
 intro ds d hl h
 obtain⟨a,b,rfl⟩:=zgY hl
 unfold yP at h
 split at h
 .rename_i m t b' e
  injection e with e1 e2
  injection e2 with e2 _
  subst e1 e2
  obtain⟨hn,rfl⟩:=ifS h
  have ec:yr [.int m,b]=some (.bl (zV m b)):=by simp only[yr];rw[if_pos hn]
  cases hc:zV m b with
  | false =>
   rw[hc]at ec
   have e3:Yg m b=false:=by
    cases b <;> try rfl
    show(zV m _&&_)=false
    rw[hc]
    rfl
   rw[e3]
   simp[vw,xv,fnD,zR,yE,Vc,sIf,wQ,WN,sNo,zW,zfR,XF,Ve,zaA,XB,vEv,visF,visG,Sl.f,Sl.g,zc,eC,zo,W8,eOr,zc0,eIf,eUn,zbp,vL,xU,yD,zb,zr,zw,eFn,fFn,tOf,vE,We,wb,asB,asI,xm,Ze,vg,wH,wc,zbr,v6,ltD,leD,gtD,geD,zbJ,xM,wM,xO,wX,zcM,xa,ixD,Zk,vk,isT,eSl,Zt,vo,w6,wE,iOf,XS,wV,Zd,v5,XJ,YD,Yl,fLC,yU,ye,vN,xj,zaO,wA,zbX,b1,b2,ec,atI,ixN]
  | true =>
   rw[hc]at ec
   cases b with
   | tup es =>
    have h2:es.all yC=true:=by
     unfold zV at hc
     rw[Bool.and_eq_true]at hc
     exact hc.2
    obtain⟨ns,rfl,hns⟩:=Z6 h2
    have e3:Yg m (.tup (ns.map .int))=decide (ns.sum<=300):=by
     show(zV m _&&decide (((ns.map D.int).map zlJ).sum<=300))=_
     rw[hc,X7,Bool.true_and]
    rw[e3]
    simp[vw,xv,fnD,zR,yE,Vc,sIf,wQ,WN,sNo,zW,zfR,XF,Ve,zaA,XB,vEv,visF,visG,Sl.f,Sl.g,zc,eC,zo,W8,eOr,zc0,eIf,eUn,zbp,vL,xU,yD,zb,zr,zw,eFn,fFn,tOf,vE,We,wb,asB,asI,xm,Ze,vg,wH,wc,zbr,v6,ltD,leD,gtD,geD,zbJ,xM,wM,xO,wX,zcM,xa,ixD,Zk,vk,isT,eSl,Zt,vo,w6,wE,iOf,XS,wV,Zd,v5,XJ,YD,Yl,fLC,yU,ye,vN,xj,zaO,wA,zbX,b1,b2,ec,zdT,atI,ixN]
   | _=>cases hc
 .cases h
theorem Ws (T:Txt K mg ad):xz P w K mg base CX0 3 ad.f_are_stones ad.e_are_stones ["web","thing"] (@spD ⟨K⟩ 2 yP):=by
 letI:KK:=⟨K⟩
 have G_are_counts:=Yk (P:=P) (w:=w) (base:=base) T
 refine Yh (yO (N:=["web","thing"]) (ps:=["web","thing"]) T.d_are_stones.fn Va (g:=xv) λcdv A outer s H E hr=>?_) Wk
 unfold xv
 exact(zh (zx (X8 (zi G_are_counts hr rfl T.d_are_counts (za (yz (edv 0) (zf zg) (λ_ _=>rfl)) (za (edv 1) zd))) (Zi (wB zdP yg (zG _) (zP (zea rfl) zhJ rfl T.z_sum zjb (za (edv 1) zd)) (zf (za2 (v:=.int 300) rfl T.g_MOST_STONES ⟨_,rfl⟩)))))))
noncomputable def xo:SE->Ctl :=
 (sIf (wb (tOf (zw 2 yP (zb (zc 0) (zb (zc 1) zr))))) sNo zW)
noncomputable def vS:List D->Option D:=fnD 2 xo
noncomputable def xp:List D->Option D
 | [.tup [.int m,_],d]=>if (noS d&&decide (m<=1000)&&Yg m d)=true then some .non else none
 | _=>none
theorem Z7:∀ ds d,ds.length=2->xp ds=some d->vS ds=some d:=by
 intro ds d hl h
 obtain⟨a,b,rfl⟩:=zgY hl
 unfold xp at h
 split at h
 .rename_i m t b' e
  injection e with e1 e2
  injection e2 with e2 _
  subst e1 e2
  obtain⟨hn,rfl⟩:=ifS h
  rw[Bool.and_eq_true]at hn
  have ec:yP [.tup [.int m,t],b]=some (.bl true):=by simp only[yP];rw[if_pos hn.1,hn.2]
  simp[vS,xo,fnD,zR,yE,Vc,sIf,wQ,WN,sNo,zW,zfR,XF,Ve,zaA,XB,vEv,visF,visG,Sl.f,Sl.g,zc,eC,zo,W8,eOr,zc0,eIf,eUn,zbp,vL,xU,yD,zb,zr,zw,eFn,fFn,tOf,vE,We,wb,asB,asI,xm,Ze,vg,wH,wc,zbr,v6,ltD,leD,gtD,geD,zbJ,xM,wM,xO,wX,zcM,xa,ixD,Zk,vk,isT,eSl,Zt,vo,w6,wE,iOf,XS,wV,Zd,v5,XJ,YD,Yl,fLC,yU,ye,vN,xj,zaO,wA,zbX,b1,b2,ec]
 .cases h
theorem Z4 (T:Txt K mg ad):xz P w K mg base CX0 4 ad.f_must_be_heap ad.e_must_be_heap ["web","thing"] (@spD ⟨K⟩ 2 xp):=by
 letI:KK:=⟨K⟩
 have G_are_stones:=Ws (P:=P) (w:=w) (base:=base) T
 refine Yh (yO (N:=["web","thing"]) (ps:=["web","thing"]) T.d_must_be_heap.fn ZZ (g:=xo) λcdv A outer s H E hr=>?_) Z7
 unfold xo
 exact(zh (yG (vy (wC (zi G_are_stones hr rfl T.d_are_stones (za (edv 0) (za (edv 1) zd))))) (zh Zx) zE))
noncomputable def Zo (a b:Int):Tie:=(if b < a then b else a,if b > a then b else a)
noncomputable def y8:SE->Ctl :=
 (sIf (wb (tOf (zw 2 wF (zb (zo ixD (zc 0) (eC (.int 0))) (zb (zc 1) zr))))) sNo zW)
noncomputable def vC:List D->Option D:=fnD 2 y8
noncomputable def y6:List D->Option D
 | [.tup [.int m,_],.int p]=>if (decide (0<=p)&&decide (p<=m - 1))=true then some .non else none
 | _=>none
theorem Zs:∀ ds d,ds.length=2->y6 ds=some d->vC ds=some d:=by
 intro ds d hl h
 obtain⟨a,b,rfl⟩:=zgY hl
 unfold y6 at h
 split at h
 .rename_i m t p' e
  injection e with e1 e2
  injection e2 with e2 _
  subst e1 e2
  obtain⟨hn,rfl⟩:=ifS h
  have ec:wF [.int m,.int p']=some (.bl true):=by
   show(if noS (.int p')=true then some (D.bl (Xb (.int p') 0 (m - 1)))else none)=_
   rw[if_pos (show noS (.int p')=true from rfl),zaB]
   unfold inR
   rw[hn]
  simp[vC,y8,fnD,zR,yE,Vc,sIf,wQ,WN,sNo,zW,zfR,XF,Ve,zaA,XB,vEv,visF,visG,Sl.f,Sl.g,zc,eC,zo,W8,eOr,zc0,eIf,eUn,zbp,vL,xU,yD,zb,zr,zw,eFn,fFn,tOf,vE,We,wb,asB,asI,xm,Ze,vg,wH,wc,zbr,v6,ltD,leD,gtD,geD,zbJ,xM,wM,xO,wX,zcM,xa,ixD,Zk,vk,isT,eSl,Zt,vo,w6,wE,iOf,XS,wV,Zd,v5,XJ,YD,Yl,fLC,yU,ye,vN,xj,zaO,wA,zbX,b1,b2,ec,atI,ixN]
 .cases h
theorem Zl (T:Txt K mg ad):xz P w K mg base CX0 4 ad.f_must_be_place ad.e_must_be_place ["web","thing"] (@spD ⟨K⟩ 2 y6):=by
 letI:KK:=⟨K⟩
 have G_is_place:=Xt (P:=P) (w:=w) (base:=base) T
 refine Yh (yO (N:=["web","thing"]) (ps:=["web","thing"]) T.d_must_be_place.fn Zj (g:=y8) λcdv A outer s H E hr=>?_) Zs
 unfold y8
 exact(zh (yG (vy (wC (zi G_is_place hr rfl T.d_is_place (za (yz (edv 0) (zf zg) (λ_ _=>rfl)) (za (edv 1) zd))))) (zh Zx) zE))
noncomputable def nbN (m:Int)(ts:List Tie)(p:Int):List Nat:=(List.range m.toNat).filter λk:Nat=>decide (Zo p k∈ts)
noncomputable def zjy (k:Nat):D:=.int ((0:Int)+(k:Int))
noncomputable def zev (m:Int)(ts:List Tie)(i:Nat):List Tie:=(List.range i).flatMap λk:Nat=>(nbN m ts k).map λo:Nat=>((0:Int)+(k:Int),(0:Int)+(o:Int))
noncomputable def yB (m:Int)(ts:List Tie):List Tie:=zev m ts m.toNat
theorem zct {m:Int}{ns:List Int}(h1:(ns.length:Int)=m)(h2:∀ n∈ns,0<=n)(h3:ns.sum<=300):Yg m (.tup (ns.map .int))=true:=by
 unfold Yg zV
 rw[Bool.and_eq_true,Bool.and_eq_true,decide_eq_true_eq,decide_eq_true_eq,X7,List.length_map]
 exact⟨⟨h1,zek h2⟩,h3⟩
theorem Wf (ns:List Int):noS (.tup (ns.map .int))=true:=by
 show zg2 (ns.map .int)=true
 induction ns with
 | nil=>rfl
 | cons n ns ih=>show(noS (.int n)&&zg2 (ns.map .int))=true;rw[ih];rfl
noncomputable def vAt (ns:List Int)(i:Int):Int:=ns.getD i.toNat 0
theorem wW {ns:List Int}{i:Int}(h0:0<=i)(h1:i < ns.length):atI (ns.map D.int) i=some (.int (vAt ns i)):=by
 unfold vAt
 obtain⟨k,hk⟩:∃ k:Nat,i=k:=⟨i.toNat,by omega⟩
 subst hk
 refine zhQ ?_
 rw[Int.toNat_natCast,List.getElem?_map,List.getElem?_eq_getElem (by omega),List.getD_eq_getElem?_getD,List.getElem?_eq_getElem (by omega)]
 rfl
theorem zfP {ns:List Int}{i m:Int}(h:0<=i/\i < m)(hl:(ns.length:Int)=m):atI (ns.map D.int) i=some (.int (vAt ns i)):=wW h.1 (by omega)
theorem vG {m:Int}{ts:List Tie}{s:Tie}:s∈yB m ts↔(0<=s.1/\s.1 < m)/\(0<=s.2/\s.2 < m)/\Zo s.1 s.2∈ts:=by
 unfold yB zev nbN
 rw[List.mem_flatMap]
 constructor
 .rintro⟨k,hk,h⟩
  obtain⟨o,ho,rfl⟩:=List.mem_map.mp h
  rw[List.mem_filter,List.mem_range,decide_eq_true_eq]at ho
  rw[List.mem_range]at hk
  simp only[Int.zero_add]
  exact⟨⟨by(clear h ho hk;omega),by(clear h ho;omega)⟩,⟨by(clear h ho hk;omega),by omega⟩,ho.2⟩
 .rintro⟨⟨a1,a2⟩,⟨b1,b2⟩,h⟩
  refine⟨s.1.toNat,List.mem_range.mpr (by(clear b2 b1 h;omega)),List.mem_map.mpr ⟨s.2.toNat,?_,?_⟩⟩
  .rw[List.mem_filter,List.mem_range,decide_eq_true_eq]
   refine⟨by omega,?_⟩
   rw[show((s.1.toNat:Nat):Int)=s.1 by(clear b2 b1 h a2;omega),show((s.2.toNat:Nat):Int)=s.2 by omega]
   exact h
  .exact Prod.ext (by show(0:Int)+(s.1.toNat:Int)=s.1;(clear b2 b1 h a2;omega)) (by show(0:Int)+(s.2.toNat:Int)=s.2;omega)
end
theorem zkf {m:Nat}{g:SE->Ctl}{ds:List D}{R:D->Prop}{ρ:SE}(e:ds.map .v++List.replicate (m - ds.length) .no=ρ)(q:(g ρ).w (λ_=>R .non) noP noP R):∃ d,fnD m g ds=some d/\R d:=by
 unfold fnD
 rw[e]
 cases hg:g ρ with
 | nx ρ'=>rw[hg]at q;exact⟨_,rfl,q.nxi⟩
 | rt d'=>rw[hg]at q;exact⟨_,rfl,q.rti⟩
 | bk _=>rw[hg]at q;exact q.bki.elim
 | ct _=>rw[hg]at q;exact q.cti.elim
 | no=>rw[hg]at q;exact q.noi.elim
section
variable {P:Program}{w:World}{K:W.Frag}{mg:Str->Option Value}{base:Heap}{ad:Adr}
noncomputable def wS:SE->Ctl :=
 (zR (wQ false 2 (zo wc (zo vg (zo xc (zo xc (zo wc (zc 0) (eC (.int 2147483647))) (zo vg (eC (.int 977)) (zc 1))) (eC (.int 1))) (eC (.int 48271))) (eC (.int 2147483647))))
  (zR (wQ false 2 (zo wc (zo vg (zc 2) (zc 2)) (eC (.int 2147483629))))
  (zR (wQ false 2 (zo wc (zo vg (zo xc (zc 2) (zo vg (eC (.int 40692)) (zo xc (zc 1) (eC (.int 3))))) (eC (.int 69621))) (eC (.int 2147483647))))
  (yE (zo wH (zc 2) (eC (.int 8)))))))
noncomputable def zau:List D->Option D:=fnD 3 wS
noncomputable def zK:List D->Option D
 | [.int c,.int k]=>some (.int (ZK c k))
 | _=>none
theorem zbe {i j:Int}(h1:-(2 ^ 64) < i)(h2:i < 2 ^ 64):Y8 i j=true:=decide_eq_true (.inl ⟨h1,h2⟩)
theorem zc5 {i j:Int}(h1:-(2 ^ 64) < j)(h2:j < 2 ^ 64):Y8 i j=true:=decide_eq_true (.inr ⟨h1,h2⟩)
theorem Xg {i j:Int}(h:Y8 i j=true):vg (.int i) (.int j)=some (.int (i*j)):=by
 show(if Y8 i j=true then _ else none)=_
 rw[if_pos h]
theorem yo {i j:Int}(h:0 < j):wc (.int i) (.int j)=some (.int (i % j)):=by
 show(if decide (0 < j)=true then _ else none)=_
 rw[if_pos (decide_eq_true h)]
theorem ZB {i j:Int}(h:0 < j)(h2:j < 1606938044258990275541962092341162602522202993782792835301376):wH (.int i) (.int j)=some (.int (i / j)):=by
 show(if decide (0 < j/\j < 1606938044258990275541962092341162602522202993782792835301376)=true then _ else none)=_
 rw[if_pos (decide_eq_true ⟨h,h2⟩)]
theorem VJ:∀ ds d,ds.length=2->zK ds=some d->zau ds=some d:=by
 intro ds d hl h
 obtain⟨a,b,rfl⟩:=zgY hl
 cases a <;> try cases h
 cases b <;> try cases h
 rename_i c k
 have h1:=Int.emod_nonneg ((c % 2147483647+977*k+1)*48271) (show(2147483647:Int)≠0 by decide)
 have h2:=Int.emod_lt_of_pos ((c % 2147483647+977*k+1)*48271) (show(0:Int) < 2147483647 by decide)
 have m1:Y8 977 k=true:=zbe (by decide) (by decide)
 have m2:Y8 (c % 2147483647+977*k+1) 48271=true:=zc5 (by decide) (by decide)
 obtain⟨x,hx⟩:∃ x,(c % 2147483647+977*k+1)*48271 % 2147483647=x:=⟨_,rfl⟩
 rw[hx]at h1 h2
 have m3:Y8 x x=true:=zbe (Int.lt_of_lt_of_le (by decide) h1) (Int.lt_trans h2 (by decide))
 have m4:Y8 40692 (k+3)=true:=zbe (by decide) (by decide)
 have m5:∀ x,Y8 x 69621=true:=λx=>zc5 (by decide) (by decide)
 obtain⟨y,hy⟩:∃ y,x*x % 2147483629=y:=⟨_,rfl⟩
 obtain⟨z,hz⟩:∃ z,(y+40692*(k+3))*69621 % 2147483647=z:=⟨_,rfl⟩
 have hst:ZK c k=z / 8:=by
  show((((c % 2147483647+977*k+1)*48271 % 2147483647)*((c % 2147483647+977*k+1)*48271 % 2147483647) % 2147483629+40692*(k+3))*69621 % 2147483647 / 8)=_
  rw[hx,hy,hz]
 rw[hst]
 refine zan (ρ:=[.v (.int c),.v (.int k),.no]) rfl ?_
 unfold wS
 refine zL (ρ':=[.v (.int c),.v (.int k),.v (.int x)]) (wv ?_) ?_
 .show(((((wc (.int c) (.int 2147483647)).bind λa=>(vg (.int 977) (.int k)).bind λb=>xc a b).bind λa=>xc a (.int 1)).bind λa=>vg a (.int 48271)).bind λa=>wc a (.int 2147483647))=_
  rw[yo (by decide),Xg m1]
  show((vg (.int (c % 2147483647+977*k+1)) (.int 48271)).bind λa=>wc a (.int 2147483647))=_
  rw[Xg m2,<- hx]
  exact yo (by decide)
 refine zL (ρ':=[.v (.int c),.v (.int k),.v (.int y)]) (wv ?_) ?_
 .show((vg (.int x) (.int x)).bind λa=>wc a (.int 2147483629))=_
  rw[Xg m3,<- hy]
  exact yo (by decide)
 refine zL (ρ':=[.v (.int c),.v (.int k),.v (.int z)]) (wv ?_) ?_
 .show((((vg (.int 40692) (.int (k+3))).bind λb=>xc (.int y) b).bind λa=>vg a (.int 69621)).bind λa=>wc a (.int 2147483647))=_
  rw[Xg m4]
  show((vg (.int (y+40692*(k+3))) (.int 69621)).bind λa=>wc a (.int 2147483647))=_
  rw[Xg (m5 _),<- hz]
  exact yo (by decide)
 exact Zp (wn (show wH (.int z) (.int 8)=_ from ZB (by decide) (by decide))) rfl
theorem Za (T:Txt K mg ad):xz P w K mg base CX0 1 ad.f__law_stir ad.e__law_stir ["cell","k"] (@spD ⟨K⟩ 2 zK):=by
 letI:KK:=⟨K⟩
 refine Yh (yO (N:=["cell","k","number"]) (ps:=["cell","k"]) T.d__law_stir.fn wk (g:=wS) λcdv A outer s H E hr=>?_) VJ
 unfold wS
 exact(ze (yA (m:=false) (i:=2) wk.nd rfl (Or.inl rfl) (xx (vb (zN (zN (xx (edv 0) (zf zg)) (vb (zf zg) (edv 1))) (zf zg)) (zf zg)) (zf zg)))
  (ze (yA (m:=false) (i:=2) wk.nd rfl (Or.inl rfl) (xx (vb (edv 2) (edv 2)) (zf zg)))
  (ze (yA (m:=false) (i:=2) wk.nd rfl (Or.inl rfl) (xx (vb (zN (edv 2) (vb (zf zg) (zN (edv 1) (zf zg)))) (zf zg)) (zf zg)))
  (zh (zx (Wu (edv 2) (zf zg)))))))
theorem Wa {i j:Int}(h1:0<=i)(h2:i<=1000)(h3:0<=j)(h4:j<=1000):XJ [.int i,.int j]=some (WK i (j - i).toNat):=by
 show(if zgQ i=true/\zgQ j=true then some (WK i (j - i).toNat)else none)=_
 rw[if_pos ⟨yi.mpr ⟨by(clear h4 h3 h2;omega),by(clear h4 h3;omega)⟩,yi.mpr ⟨by omega,by omega⟩⟩]
theorem vJ {j:Int}(h3:0<=j)(h4:j<=1000000):v5 [.int j]=some (WK 0 j.toNat):=by
 show(if zgQ j=true then some (WK 0 j.toNat)else none)=_
 rw[if_pos (yi.mpr ⟨by omega,by omega⟩)]
noncomputable def yL:SE->Ctl :=
 (zR (wQ false 5 (zo wc (zw 2 zK (zb (zc 1) (zb (zo xc (eC (.int 21)) (zc 4)) zr))) (zc 0)))
  (zR (sIf (vE (tOf (zo ZI (zo wc (zc 1) (eC (.int 3))) (eC (.int 1)))) (tOf (zo gtD (zc 4) (eC (.int 0))))) (wQ false 5 (zo wc (zw 2 zK (zb (zc 1) (zb (zo xc (eC (.int 21)) (zo wH (zc 4) (eC (.int 4)))) zr))) (zc 0))) zW)
  (XB true 3 (zc 5) (zo xc (zo ixD (zc 3) (zc 5)) (eC (.int 1))))))
noncomputable def yJ:SE->Ctl :=
 (zR (XF 3 (fBin zgE (xU (yD (zb (eC (.int 0)) zr))) (zc 0)))
  (zR (wV v5 (zb (zo wc (zw 2 zK (zb (zc 1) (zb (eC (.int 20)) zr))) (zo xc (zc 2) (eC (.int 1)))) zr) (xj 4) yL)
  (sFz 3 (yE (eFn ye (zb (zc 3) zr))))))
noncomputable def wt:List D->Option D:=fnD 6 yJ
theorem zgt {n c mo x pl:Int}{ns:List Int}{N B C:SE->Prop}{R:D->Prop}(p0:0<=pl)(hlt:pl.toNat < ns.length)(hll:pl < ((ns.map D.int).length:Int))
 (q:N [.v (.int n),.v (.int c),.v (.int mo),.o ((ns.set pl.toNat (ns[pl.toNat]+1)).map .int),.v (.int x),.v (.int pl)]) :
 (XB true 3 (zc 5) (zo xc (zo ixD (zc 3) (zc 5)) (eC (.int 1))) [.v (.int n),.v (.int c),.v (.int mo),.o (ns.map .int),.v (.int x),.v (.int pl)]).w N B C R:=by
 have ea:L2.atI (ns.map D.int) pl=some (.int ns[pl.toNat]):=zgs p0 (by rw[List.getElem?_map,List.getElem?_eq_getElem hlt];rfl)
 rw[List.map_set]at q
 refine zh4 (ns.map .int) (.int (ns[pl.toNat]+1)) pl ?_ rfl rfl p0 hll q
 show((((L2.atI (ns.map D.int) pl).bind λa=>xc a (.int 1))).bind λd=>if noL d=true then some d else none)=_
 rw[ea]
 rfl
theorem zjT {n c mo x:Int}{ns:List Int}{o5:Sl}{N B C:SE->Prop}{R:D->Prop}(hn0:0 < n)(hl:(ns.length:Int)=n)
 (q:∀ (k:Nat) (hk:k < ns.length) (o5:Sl),N [.v (.int n),.v (.int c),.v (.int mo),.o ((ns.set k (ns[k]+1)).map .int),.v (.int x),o5]) :
 (yL [.v (.int n),.v (.int c),.v (.int mo),.o (ns.map .int),.v (.int x),o5]).w N B C R:=by
 unfold yL
 have go:∀ y:Int,∃ pl:Int,y % n=pl/\0<=pl/\pl.toNat < ns.length/\pl < ((ns.map D.int).length:Int):=λy=>⟨_,rfl,Int.emod_nonneg _ (by omega),by have:=Int.emod_lt_of_pos y hn0;have:=Int.emod_nonneg y (show n≠0 by omega);omega,by rw[List.length_map,hl];exact Int.emod_lt_of_pos _ hn0⟩
 obtain⟨p1,e1,a0,a1,a2⟩:=go (ZK c (21+x))
 obtain⟨p2,e2,b0,b1,b2⟩:=go (ZK c (21+x / 4))
 refine zL (ρ':=[.v (.int n),.v (.int c),.v (.int mo),.o (ns.map .int),.v (.int x),.v (.int p1)]) (wv (show wc (.int (ZK c (21+x))) (.int n)=some (.int p1) by rw[yo hn0,e1])) ?_
 have f1:tOf (zo ZI (zo wc (zc 1) (eC (.int 3))) (eC (.int 1))) (visG [.v (.int n),.v (.int c),.v (.int mo),.o (ns.map .int),.v (.int x),.v (.int p1)])=some (decide (c % 3=1)):=by
  show((wc (.int c) (.int 3)).bind λy=>ZI y (.int 1)).bind asB=_
  rw[yo (by decide)]
  rfl
 refine wy (zcN (c:=decide (c % 3=1)&&decide (0 < x)) ?_ (λ_=>Vd (ρ':=[.v (.int n),.v (.int c),.v (.int mo),.o (ns.map .int),.v (.int x),.v (.int p2)]) (wv (d:=.int p2) ?_) (zgt b0 b1 b2 (q _ _ _))) (λ_=>Vd rfl (zgt a0 a1 a2 (q _ _ _))))
 .unfold vE
  rw[f1,Option.bind_some]
  show(if decide (c % 3=1)=true then some (decide (0 < x))else some false)=_
  cases decide (c % 3=1) <;> rfl
 .have g1:wH (.int x) (.int 4)=some (.int (x / 4)):=ZB (by decide) (by decide)
  have g2:wc (.int (ZK c (21+x / 4))) (.int n)=some (.int p2):=by rw[yo hn0,e2]
  show(((((wH (.int x) (.int 4)).bind λy=>xc (.int 21) y).bind λd=>(some ([]:List D)).map (d::·)).map (D.int c::·)).bind (λds=>if ds.length=2 then zK ds else none)).bind (λr=>wc r (.int n))=_
  rw[g1]
  exact g2
theorem zaW {n c mo:Int}(h1:1<=n)(h8:n<=8)(hm0:0<=mo)(hm:mo<=1000):∃ ns:List Int,wt [.int n,.int c,.int mo]=some (.tup (ns.map .int))/\(ns.length:Int)=n/\(∀ x∈ns,0<=x)/\ns.sum<=mo:=by
 obtain⟨cn,hcn⟩:∃ cn:Int,ZK c 20 % (mo+1)=cn:=⟨_,rfl⟩
 have hmp:0 < mo+1:=Int.lt_add_one_of_le hm0
 obtain⟨c0,c1⟩:=vI hmp hcn
 have key:=zkf (m:=6) (g:=yJ) (ds:=[.int n,.int c,.int mo]) (R:=λd=>∃ ns:List Int,d=.tup (ns.map .int)/\(ns.length:Int)=n/\(∀ x∈ns,0<=x)/\ns.sum<=mo) (ρ:=[.v (.int n),.v (.int c),.v (.int mo),.no,.no,.no]) rfl ?_
 .obtain⟨d,e,ns,rfl,h⟩:=key
  exact⟨ns,e,h⟩
 unfold yJ
 refine zL (ρ':=[.v (.int n),.v (.int c),.v (.int mo),.o ((List.replicate n.toNat (0:Int)).map .int),.no,.no]) ?_ ?_
 .have e:=zlw (d:=.int 0) h1 h8
  refine zdY (ds:=(List.replicate n.toNat (0:Int)).map .int) ?_
  rw[List.map_replicate]
  exact e
 refine wy (zda (lo:=0) (c:=cn.toNat) (λi ρ=>∃ (ns:List Int) (o4 o5:Sl),ρ=[.v (.int n),.v (.int c),.v (.int mo),.o (ns.map .int),o4,o5]/\(ns.length:Int)=n/\(∀ x∈ns,0<=x)/\ns.sum=(i:Int)) ?_ ⟨_,_,_,rfl,by rw[List.length_replicate];omega,λx hx=>by rw[(List.mem_replicate.mp hx).2];exact Int.le_refl _,?_⟩ ?_ ?_)
 .have e:=vJ c0 (by omega)
  have m1:wc (.int (ZK c 20)) (.int (mo+1))=some (.int cn):=by rw[yo hmp,hcn]
  show((wc (.int (ZK c 20)) (.int (mo+1))).bind λd=>(some []).map (d::·)).bind v5=_
  rw[m1]
  exact e
 .rw[zc7];rfl
 .rintro i ρ hi ⟨ns,o4,o5,rfl,hl,hnn,hs⟩
  refine⟨_,rfl,zjT (zkj h1) hl λk hk o5=>⟨_,_,o5,rfl,by rw[List.length_set];exact hl,λy hy=>?_,?_⟩⟩
  .rcases List.mem_or_eq_of_mem_set hy with h | h
   .exact hnn y h
   .rw[h];exact Int.add_nonneg (hnn _ (List.getElem_mem hk)) (by decide)
  .rw[zbd hk,hs]
   omega
 .rintro ρ ⟨ns,o4,o5,rfl,hl,hnn,hs⟩
  exact zg3 (ρ':=[.v (.int n),.v (.int c),.v (.int mo),.v (.lst (ns.map .int)),o4,o5]) rfl (Zp rfl ⟨ns,rfl,hl,hnn,by omega⟩)
theorem ZV (T:Txt K mg ad):xz P w K mg base CX0 2 ad.f__law_heap_by ad.e__law_heap_by ["many","cell","most"] (@spD ⟨K⟩ 3 wt):=by
 letI:KK:=⟨K⟩
 have G__law_stir:=Za (P:=P) (w:=w) (base:=base) T
 refine yO (N:=["many","cell","most","found","k","place"]) (ps:=["many","cell","most"]) T.d__law_heap_by.fn ym (g:=yJ) λcdv A outer s H E hr=>?_
 unfold yJ yL
 exact(ze (Zb (i:=3) ym.nd rfl (Or.inl rfl) (zkl (wz (wf (za (zf zg) zd))) (edv 0)))
  (ze (W0 PassesOwn.never rfl rfl T.z_range (za (xx (zi G__law_stir hr rfl T.d__law_stir (za (edv 1) (za (zf zg) zd))) (zN (edv 2) (zf zg))) zd) (yW (zI (i:=4) ym.nd rfl (Or.inl rfl))) (ze (yA (m:=false) (i:=5) ym.nd rfl (Or.inl rfl) (xx (zi G__law_stir hr rfl T.d__law_stir (za (edv 1) (za (zN (zf zg) (edv 4)) zd))) (edv 0)))
  (ze (yG (zhl (zgr (zT (xw hr) yu (zG _) (xx (edv 1) (zf zg)) (zf zg)) (zdW (zT XL yg (zG _) (edv 4) (zf zg))))) (zh (yA (m:=false) (i:=5) ym.nd rfl (Or.inl rfl) (xx (zi G__law_stir hr rfl T.d__law_stir (za (edv 1) (za (zN (zf zg) (Wu (edv 4) (zf zg))) zd))) (edv 0)))) zE)
  (zh (zb0 (m:=true) (zN (yz (edv 3) (edv 5) (λ_ _=>rfl)) (zf zg)) (pv 3) (edv 5))))))
  (Zc 3 (zh (zx (yd zC yc rfl T.z_tuple zU (za (edv 3) zd)))))))
noncomputable def xn:SE->Ctl :=
 (zR (sIf (tOf (zo ltD (zc 1) (eFn Zk (zb (zc 0) zr)))) (yE (zo ixD (zc 0) (zc 1))) zW)
  (yE (eC (.int 0))))
noncomputable def yF:List D->Option D:=fnD 2 xn
theorem zcD (ns:List Int):∃ c:Int,yF [.scr ns,.int 0]=some (.int c):=by
 cases ns with
 | nil=>exact⟨0,rfl⟩
 | cons n ns =>
  refine⟨n,?_⟩
  have e:atI (n::ns) 0=some n:=zgs (Int.le_refl _) rfl
  simp[yF,xn,fnD,zR,yE,Vc,sIf,wQ,WN,sNo,zW,zfR,XF,Ve,zaA,XB,vEv,visF,visG,Sl.f,Sl.g,zc,eC,zo,W8,eOr,zc0,eIf,eUn,zbp,vL,xU,yD,zb,zr,zw,eFn,fFn,tOf,vE,We,wb,asB,asI,xm,Ze,vg,wH,wc,zbr,v6,ltD,leD,gtD,geD,zbJ,xM,wM,xO,wX,zcM,xa,ixD,Zk,vk,isT,eSl,Zt,vo,w6,wE,iOf,XS,wV,Zd,v5,XJ,YD,Yl,fLC,yU,ye,vN,xj,zaO,wA,zbX,b1,b2,e]
theorem Xe (T:Txt K mg ad):xz P w K mg base CX0 1 ad.f__law_cell_at ad.e__law_cell_at ["script","k"] (@spD ⟨K⟩ 2 yF):=by
 letI:KK:=⟨K⟩
 refine yO (N:=["script","k"]) (ps:=["script","k"]) T.d__law_cell_at.fn Xl (g:=xn) λcdv A outer s H E hr=>?_
 unfold xn
 exact(ze (yG (zT zlE yg (zG _) (edv 1) (zP zM x4 rfl T.z_len vp (za (edv 0) zd))) (zh (zx (yz (edv 0) (edv 1) (λ_ _=>rfl)))) zE)
  (zh (zx (zf zg))))
theorem zgh {ρ:Ev}(ns:List Int)(k:Int)(h:ns.length<=63):∃ xs:List Int,(iOf (zo xc (xU (yD (zb (zw 2 yF (zb (zc 0) (zb (eC (.int 0)) zr))) zr))) (eSl slD (zc 0) (vo (eC (.int 1))) (vo (eC (.int k)))))) (some (.scr ns)::ρ)=some (xs.map .int):=by
 obtain⟨c,hc⟩:=zcD ns
 refine⟨c::Vq ns (some 1) (some k),?_⟩
 have e:=Vb (a:=[.int c]) (b:=(Vq ns (some 1) (some k)).map .int) (by have:=zft ns (some 1) (some k);simp;omega)
 simp[iOf,zo,xU,yD,zb,zr,zw,zc,eC,hc,wg,eSl,vo,asI,slD,e,wE]
theorem Wq:∀ (N:Nat) (l:List Nat),l.Nodup->(∀ x∈l,x < N)->l.length<=N
 | 0,l,_,h=>by
  cases l with
  | nil=>exact Nat.le_refl _
  | cons a r=>exact absurd (h a (.head _)) (Nat.not_lt_zero _)
 | N+1,l,hn,h=>by
  by_cases hm:N∈l
  .have h1:=Wq N (l.erase N) (hn.erase N) λx hx=>by
    have h2:=(hn.mem_erase_iff).mp hx
    exact Nat.lt_of_le_of_ne (Nat.le_of_lt_succ (h x h2.2)) h2.1
   rw[List.length_erase_of_mem hm]at h1
   omega
  .exact Nat.le_succ_of_le (Wq N l hn λx hx=>Nat.lt_of_le_of_ne (Nat.le_of_lt_succ (h x hx)) λe=>hm (e ▸ hx))
noncomputable def zdU (B:Nat):List Int->Nat
 | []=>0
 | v::r=>v.toNat+B*zdU B r
theorem zeo {B:Nat}:∀ {x:List Int},(∀ v∈x,0<=v/\v < (B:Int))->zdU B x < B ^ x.length
 | [],_=>Nat.one_pos
 | v::r,h=>by
  have h1:=zeo (x:=r) λw hw=>h w (.tail _ hw)
  have h2:=h v (.head _)
  show v.toNat+B*zdU B r < B ^ (r.length+1)
  have h3:v.toNat < B:=by omega
  have h4:B*(zdU B r+1)<=B*B ^ r.length:=Nat.mul_le_mul_left B h1
  rw[Nat.mul_succ]at h4
  rw[Nat.pow_succ,Nat.mul_comm (B ^ r.length) B]
  exact Nat.lt_of_lt_of_le (by rw[Nat.add_comm];exact Nat.add_lt_add_left h3 _) h4
theorem zbI {B:Nat}:∀ {x y:List Int},x.length=y.length->(∀ v∈x,0<=v/\v < (B:Int))->(∀ v∈y,0<=v/\v < (B:Int))->zdU B x=zdU B y->x=y
 | [],[],_,_,_,_=>rfl
 | [],_::_,h,_,_,_=>by cases h
 | _::_,[],h,_,_,_=>by cases h
 | v::r,w::q,hl,hx,hy,e=>by
  have h1:=hx v (.head _)
  have h2:=hy w (.head _)
  have e:v.toNat+B*zdU B r=w.toNat+B*zdU B q:=e
  have hB:0 < B:=by omega
  have e1:v.toNat=w.toNat:=by
   have:=congrArg (· % B) e
   simp only[Nat.add_mul_mod_self_left]at this
   rwa[Nat.mod_eq_of_lt (by omega),Nat.mod_eq_of_lt (by omega)]at this
  have e2:zdU B r=zdU B q:=by
   rw[e1]at e
   exact Nat.eq_of_mul_eq_mul_left hB (Nat.add_left_cancel e)
  rw[zbI (by simpa using hl) (λz hz=>hx z (.tail _ hz)) (λz hz=>hy z (.tail _ hz)) e2]
  congr 1
  omega
theorem zgf {B m:Nat}{l:List (List Int)}(hn:l.Nodup)(h:∀ x∈l,x.length=m/\∀ v∈x,0<=v/\v < (B:Int)):l.length<=B ^ m:=by
 have h1:=Wq (B ^ m) (l.map (zdU B)) ?_ ?_
 .rwa[List.length_map]at h1
 .unfold List.Nodup at hn ⊢
  rw[List.pairwise_map]
  refine List.Pairwise.imp_of_mem (λ{a b} ha hb hab e=>hab ?_) hn
  exact zbI (by rw[(h a ha).1,(h b hb).1]) (h a ha).2 (h b hb).2 e
 .intro x hx
  obtain⟨y,hy,rfl⟩:=List.mem_map.mp hx
  have:=zeo (h y hy).2
  rwa[(h y hy).1]at this
noncomputable abbrev Hl:=List Int
noncomputable def hD (h:Hl):D:=.tup (h.map .int)
noncomputable def hK (h:Hl):List Key:=h.map Sum.inl
theorem zeu:∀ {a b:Hl},hK a=hK b->a=b
 | [],[],_=>rfl
 | [],_::_,h=>by cases h
 | _::_,[],h=>by cases h
 | a::r,b::q,h=>by
  injection h with h1 h2
  injection h1 with h1
  rw[h1,zeu h2]
theorem WC (h:Hl):zeR (hD h)=some (hK h):=by
 show zcb (h.map .int)=some (h.map Sum.inl)
 induction h with
 | nil=>rfl
 | cons a r ih =>
  show(some (Sum.inl a)).bind (λk=>(zcb (r.map .int)).map (k::·))=_
  rw[ih]
  rfl
noncomputable def zam (h:Hl)(i x:Int):Hl:=h.set i.toNat x
noncomputable def moved (h:Hl)(s:Tie):Hl:=zam (zam h s.1 (vAt h s.1 - 2)) s.2 (vAt (zam h s.1 (vAt h s.1 - 2)) s.2+1)
theorem Zw (h:Hl)(i x:Int):(zam h i x).length=h.length:=by unfold zam;exact List.length_set
theorem VR (h:Hl)(s:Tie):(moved h s).length=h.length:=by unfold moved;rw[Zw,Zw]
theorem zfF {h:Hl}{i j x:Int}(hi:0<=i)(hl:i < h.length)(hj:0<=j):vAt (zam h i x) j=if j=i then x else vAt h j:=by
 unfold vAt zam
 rw[List.getD_eq_getElem?_getD,List.getElem?_set,List.getD_eq_getElem?_getD]
 by_cases e:j=i
 .subst e
  rw[if_pos rfl,if_pos (by omega),if_pos rfl]
  rfl
 .rw[if_neg (by omega),if_neg e]
theorem zbq {h:Hl}{i x:Int}(hi:0<=i)(hl:i < h.length):(zam h i x).sum=h.sum - vAt h i+x:=by
 unfold zam
 rw[zbd (h:=by omega)]
 unfold vAt
 rw[Dl.getD_at (by omega)]
theorem zbo {h:Hl}{i x v:Int}(hv:v∈zam h i x):v=x\/v∈h:=by
 unfold zam at hv
 rcases List.mem_or_eq_of_mem_set hv with e | e
 .exact .inr e
 .exact .inl e
structure X9 (n:Nat) (s:Tie):Prop where
 a0:0<=s.1
 a1:s.1 < (n:Int)
 b0:0<=s.2
 b1:s.2 < (n:Int)
 ne:s.1≠s.2
theorem zc6 {h:Hl}{s:Tie}(hs:X9 h.length s):(moved h s).sum=h.sum - 1:=by
 unfold moved
 rw[zbq hs.b0 (by rw[Zw];exact hs.b1),zbq hs.a0 hs.a1]
 omega
theorem zh3 {h:Hl}{i:Int}(hi:0<=i)(hl:i < h.length):vAt h i∈h:=by
 unfold vAt
 exact Dl.getD_mem (by omega)
theorem zf5 {h:Hl}{s:Tie}(hs:X9 h.length s)(hn:∀ v∈h,0<=v)(h2:2<=vAt h s.1):∀ v∈moved h s,0<=v:=by
 intro v hv
 unfold moved at hv
 have e:vAt (zam h s.1 (vAt h s.1 - 2)) s.2=vAt h s.2:=by
  rw[zfF hs.a0 hs.a1 hs.b0,if_neg (λe=>hs.ne e.symm)]
 rcases zbo hv with rfl | hv
 .rw[e]
  have:=hn _ (zh3 hs.b0 hs.b1)
  omega
 .rcases zbo hv with rfl | hv
  .omega
  .exact hn v hv
inductive Beh (ss:List Tie) (h0:Hl):Hl->Prop
 | zero:Beh ss h0 h0
 | step {g:Hl} {s:Tie}:Beh ss h0 g->s∈ss->2<=vAt g s.1->Beh ss h0 (moved g s)
noncomputable abbrev Fd:=List (Hl × Option (Hl × Tie))
noncomputable def zgv:Option (Hl × Tie)->D
 | none=>.non
 | some p=>.tup [hD p.1,zX p.2]
noncomputable def fdK (f:Fd):List (List Key):=f.map λe=>hK e.1
noncomputable def fdV (f:Fd):List D:=f.map λe=>zgv e.2
noncomputable def XH:Fd->Hl->Option (Option (Hl × Tie))
 | [],_=>none
 | e::f,g=>if e.1=g then some e.2 else XH f g
theorem zeA (g:Hl):∀ f:Fd,YQ (fdK f) (fdV f) (hK g)=(XH f g).map zgv
 | []=>rfl
 | e::f=>by
  refine Yj.trans ?_
  show(if hK e.1=hK g then some (zgv e.2)else YQ (fdK f) (fdV f) (hK g))=(if e.1=g then some e.2 else XH f g).map zgv
  by_cases h:e.1=g
  .rw[if_pos h,if_pos (by rw[h])];rfl
  .rw[if_neg h,if_neg (λz=>h (zeu z)),zeA g f]
noncomputable def InF (f:Fd)(g:Hl):Prop:=(XH f g).isSome=true
theorem xi {g:Hl}:∀ {f:Fd},InF f g↔∃ e∈f,e.1=g
 | []=>⟨λh=>(by cases h),λ⟨_,h,_⟩=>(by cases h)⟩
 | e::f=>by
  have ih:=xi (g:=g) (f:=f)
  unfold InF at ih ⊢
  show(if e.1=g then some e.2 else XH f g).isSome=true↔_
  by_cases h:e.1=g
  .rw[if_pos h]
   exact⟨λ_=>⟨e,.head _,h⟩,λ_=>rfl⟩
  .rw[if_neg h,ih]
   constructor
   .rintro⟨x,hx,he⟩
    exact⟨x,.tail _ hx,he⟩
   .rintro⟨x,hx,he⟩
    rcases List.mem_cons.mp hx with rfl | hx
    .exact absurd he h
    .exact⟨x,hx,he⟩
theorem zbz {e:Hl × Option (Hl × Tie)}{g:Hl}:∀ {f:Fd},XH (f++[e]) g=if (XH f g).isSome=true then XH f g else if e.1=g then some e.2 else none
 | []=>rfl
 | x::f=>by
  have ih:=zbz (e:=e) (g:=g) (f:=f)
  show(if x.1=g then some x.2 else XH (f++[e]) g)=if (if x.1=g then some x.2 else XH f g).isSome=true then (if x.1=g then some x.2 else XH f g)else _
  by_cases h:x.1=g
  .rw[if_pos h,if_pos h];rfl
  .rw[if_neg h,if_neg h,ih]
theorem InF.app {f:Fd}{g:Hl}(h:InF f g)(e:Hl × Option (Hl × Tie)):InF (f++[e]) g:=by
 obtain⟨x,hx,he⟩:=xi.mp h
 exact xi.mpr ⟨x,List.mem_append.mpr (.inl hx),he⟩
theorem zdK (f:Fd)(e:Hl × Option (Hl × Tie)):InF (f++[e]) e.1:=xi.mpr ⟨e,List.mem_append.mpr (.inr (.head _)),rfl⟩
theorem zbc {f:Fd}{e:Hl × Option (Hl × Tie)}{g:Hl}(h:InF (f++[e]) g):InF f g\/g=e.1:=by
 obtain⟨x,hx,he⟩:=xi.mp h
 rcases List.mem_append.mp hx with hx | hx
 .exact .inl (xi.mpr ⟨x,hx,he⟩)
 .cases List.mem_singleton.mp hx
  exact .inr he.symm
structure zeG (ss:List Tie) (h0:Hl) (f:Fd):Prop where
 nd:(f.map (·.1)).Nodup
 beh:∀ e∈f,Beh ss h0 e.1
 prv:∀ e∈f,(e.2=none/\e.1=h0)\/∃ p s,e.2=some (p,s)/\s∈ss/\2<=vAt p s.1/\e.1=moved p s/\InF f p
 root:XH f h0=some none
theorem zeG.start (ss:List Tie)(h0:Hl):zeG ss h0 [(h0,none)]:=by
 refine⟨by simp,λe he=>?_,λe he=>?_,?_⟩
 .cases List.mem_singleton.mp he;exact .zero
 .cases List.mem_singleton.mp he;exact .inl ⟨rfl,rfl⟩
 .show(if h0=h0 then _ else _)=_
  rw[if_pos rfl]
theorem zeG.add {ss:List Tie}{h0 p:Hl}{f:Fd}{s:Tie}(h:zeG ss h0 f)(hp:InF f p)(hs:s∈ss)(h2:2<=vAt p s.1)(hn:¬ InF f (moved p s)):zeG ss h0 (f++[(moved p s,some (p,s))]):=by
 refine⟨?_,λe he=>?_,λe he=>?_,?_⟩
 .rw[List.map_append]
  refine List.nodup_append.mpr ⟨h.nd,by simp,λa ha b hb e=>?_⟩
  cases List.mem_singleton.mp hb
  obtain⟨x,hx,he⟩:=List.mem_map.mp ha
  exact hn (xi.mpr ⟨x,hx,he.trans e⟩)
 .rcases List.mem_append.mp he with he | he
  .exact h.beh e he
  .cases List.mem_singleton.mp he
   obtain⟨x,hx,rfl⟩:=xi.mp hp
   exact .step (h.beh x hx) hs h2
 .rcases List.mem_append.mp he with he | he
  .rcases h.prv e he with z | ⟨q,t,z1,z2,z3,z4,z5⟩
   .exact .inl z
   .exact .inr ⟨q,t,z1,z2,z3,z4,z5.app _⟩
  .cases List.mem_singleton.mp he
   exact .inr ⟨p,s,rfl,hs,h2,rfl,hp.app _⟩
 .rw[zbz,h.root]
  rfl
structure HOk (n:Nat) (S:Int) (g:Hl):Prop where
 len:g.length=n
 nn:∀ v∈g,0<=v
 sum:g.sum<=S
theorem Beh.ok {n:Nat}{ss:List Tie}{h0 g:Hl}(hs:∀ s∈ss,X9 n s)(h:HOk n h0.sum h0)(b:Beh ss h0 g):HOk n h0.sum g:=by
 induction b with
 | zero=>exact h
 | step b hs' h2 ih =>
  have e:=hs _ hs'
  rw[<-ih.len]at e
  refine⟨by rw[VR];exact ih.len,zf5 e ih.nn h2,?_⟩
  rw[zc6 e]
  have:=ih.sum
  omega
theorem zeG.count {n:Nat}{ss:List Tie}{h0:Hl}{f:Fd}(hs:∀ s∈ss,X9 n s)(h:HOk n h0.sum h0)(ok:zeG ss h0 f):f.length<=(h0.sum.toNat+1) ^ n:=by
 have e:=zgf (B:=h0.sum.toNat+1) (m:=n) ok.nd λx hx=>by
  obtain⟨y,hy,rfl⟩:=List.mem_map.mp hx
  have b:=(ok.beh y hy).ok hs h
  refine⟨b.len,λv hv=>⟨b.nn v hv,?_⟩⟩
  have h1:=XR b.nn hv
  have h2:=b.sum
  omega
 rwa[List.length_map]at e
noncomputable def zio (ss:List Tie)(f:Fd)(g:Hl):Prop:=∀ s∈ss,2<=vAt g s.1->InF f (moved g s)
structure AllF (ss:List Tie) (h0:Hl) (f:Fd):Prop where
 ok:zeG ss h0 f
 iff:∀ g,InF f g↔Beh ss h0 g
theorem ziv {m:Bool}{i:Nat}{f:Ev->Option D}{ρ ρ':SE}{ds:List D}{d:D}(h1:vEv m f ρ=some d)(h2:ρ[i]?=some (.o ds))(h3:ds.length < sizeLine)(h4:ρ.set i (.o (ds++[d]))=ρ'):Ve m i f ρ=.nx ρ':=by
 unfold Ve
 rw[h1,h2]
 show(match (if decide (ds.length < sizeLine)=true then some (ρ.set i (.o (ds++[d])))else none)with | some ρ'=>Ctl.nx ρ' | none=>Ctl.no)=_
 rw[if_pos (decide_eq_true h3),h4]
theorem zkz {m:Bool}{i:Nat}{fk fe:Ev->Option D}{ρ ρ':SE}{f:Fd}{g:Hl}{o:Option (Hl × Tie)}(h1:vEv m fe ρ=some (zgv o))(h2:fk (visG ρ)=some (hD g))(h3:ρ[i]?=some (.m true (fdK f) (fdV f)))(h4:(XH f g).isSome=false)(h5:f.length < sizeLine)
 (h6:ρ.set i (.m true (fdK (f++[(g,o)])) (fdV (f++[(g,o)])))=ρ'):zaU m i fk fe ρ=.nx ρ':=by
 have e:zf1 ρ i (hD g) (zgv o)=some ρ':=by
  unfold zf1
  rw[h3]
  show(zeR (hD g)).bind (λk=>if decide ((fdK f).length < sizeLine)=true then some (ρ.set i (.m true (VB (fdK f) (fdV f) k) (zaa (fdK f) (fdV f) k (zgv o))))else none)=_
  have hd:(YQ (fdK f) (fdV f) (hK g)).isSome=false:=by rw[zeA,Option.isSome_map];exact h4
  rw[WC,Option.bind_some,if_pos (decide_eq_true (by unfold fdK;rw[List.length_map];exact h5))]
  unfold VB zaa
  rw[hd,if_neg Bool.false_ne_true,if_neg Bool.false_ne_true,<- h6]
  unfold fdK fdV
  rw[List.map_append,List.map_append]
  rfl
 unfold zaU
 rw[h1,h2]
 show(match zf1 ρ i (hD g) (zgv o)with | some ρ'=>Ctl.nx ρ' | none=>Ctl.no)=_
 rw[e]
theorem YE {m:Int}{ts:List Tie}(ok:zaq m ts):∀ s∈yB m ts,X9 m.toNat s:=λs hs=>by
 obtain⟨⟨a0,a1⟩,⟨b0,b1⟩,ht⟩:=vG.mp hs
 refine⟨a0,by omega,b0,by omega,λe=>?_⟩
 have h3:=(ok.rng _ ht).2.1
 rw[show Zo s.1 s.2=(s.2,s.2) by unfold Zo;rw[e,if_neg (Int.lt_irrefl _)]]at h3
 exact absurd h3 (Int.lt_irrefl _)
noncomputable def fdT (f:Fd):List D:=f.map λ_=>D.bl true
theorem zaF (g:Hl):∀ f:Fd,YQ (fdK f) (fdT f) (hK g)=(XH f g).map λ_=>D.bl true
 | []=>rfl
 | e::f=>by
  refine Yj.trans ?_
  show(if hK e.1=hK g then some (D.bl true)else YQ (fdK f) (fdT f) (hK g))=(if e.1=g then some e.2 else XH f g).map λ_=>D.bl true
  by_cases h:e.1=g
  .rw[if_pos h,if_pos (by rw[h])];rfl
  .rw[if_neg h,if_neg (λz=>h (zeu z)),zaF g f]
theorem zfO {m:Bool}{i:Nat}{fk fe:Ev->Option D}{ρ ρ':SE}{f:Fd}{g:Hl}{o:Option (Hl × Tie)}(h1:vEv m fe ρ=some (.bl true))(h2:fk (visG ρ)=some (hD g))(h3:ρ[i]?=some (.m true (fdK f) (fdT f)))(h4:(XH f g).isSome=false)(h5:f.length < sizeLine)
 (h6:ρ.set i (.m true (fdK (f++[(g,o)])) (fdT (f++[(g,o)])))=ρ'):zaU m i fk fe ρ=.nx ρ':=by
 have e:zf1 ρ i (hD g) (D.bl true)=some ρ':=by
  unfold zf1
  rw[h3]
  show(zeR (hD g)).bind (λk=>if decide ((fdK f).length < sizeLine)=true then some (ρ.set i (.m true (VB (fdK f) (fdT f) k) (zaa (fdK f) (fdT f) k (D.bl true))))else none)=_
  have hd:(YQ (fdK f) (fdT f) (hK g)).isSome=false:=by rw[zaF,Option.isSome_map];exact h4
  rw[WC,Option.bind_some,if_pos (decide_eq_true (by unfold fdK;rw[List.length_map];exact h5))]
  unfold VB zaa
  rw[hd,if_neg Bool.false_ne_true,if_neg Bool.false_ne_true,<- h6]
  unfold fdK fdT
  rw[List.map_append,List.map_append]
  rfl
 unfold zaU
 rw[h1,h2]
 show(match zf1 ρ i (hD g) (D.bl true)with | some ρ'=>Ctl.nx ρ' | none=>Ctl.no)=_
 rw[e]
theorem zjW {f:Fd}{g:Hl}{z:Bool}:zkG true (hD g) (.dct z true (fdK f) (fdT f))=some (.bl (!(XH f g).isSome)):=by
 show(zeR (hD g)).map (λk=>D.bl (true != (YQ (fdK f) (fdT f) k).isSome))=_
 rw[WC]
 show some (D.bl (true != (YQ (fdK f) (fdT f) (hK g)).isSome))=_
 rw[zaF,Option.isSome_map]
 cases (XH f g).isSome <;> rfl
structure zeJ (ss:List Tie) (h0:Hl) (f:Fd) (todo:List Hl):Prop where
 ok:zeG ss h0 f
 rim:∀ g∈todo,InF f g
 all:∀ g,InF f g->zio ss f g\/g∈todo
theorem zeJ.start (ss:List Tie)(h0:Hl):zeJ ss h0 [(h0,none)] [h0]:=by
 refine⟨zeG.start ss h0,λg hg=>?_,λg hg=>.inr ?_⟩
 .cases List.mem_singleton.mp hg
  exact xi.mpr ⟨_,.head _,rfl⟩
 .obtain⟨x,hx,rfl⟩:=xi.mp hg
  cases List.mem_singleton.mp hx
  exact .head _
theorem zeJ.fin {ss:List Tie}{h0:Hl}{f:Fd}(h:zeJ ss h0 f []):AllF ss h0 f:=by
 refine⟨h.ok,λg=>⟨λhg=>?_,λhg=>?_⟩⟩
 .obtain⟨x,hx,rfl⟩:=xi.mp hg
  exact h.ok.beh x hx
 .induction hg with
  | zero=>unfold InF;rw[h.ok.root];rfl
  | step b hs h2 ih =>
   rcases h.all _ ih with z | z
   .exact z _ hs h2
   .cases z
structure zg8 (ss:List Tie) (h0 p:Hl) (f:Fd) (todo:List Hl):Prop where
 ok:zeG ss h0 f
 me:InF f p
 rim:∀ g∈todo,InF f g
 all:∀ g,InF f g->zio ss f g\/g∈todo\/g=p
theorem zg8.add {ss:List Tie}{h0 p:Hl}{f:Fd}{todo:List Hl}{s:Tie}(h:zg8 ss h0 p f todo)(hs:s∈ss)(h2:2<=vAt p s.1)(hn:¬ InF f (moved p s)):zg8 ss h0 p (f++[(moved p s,some (p,s))]) (todo++[moved p s]):=by
 refine⟨h.ok.add h.me hs h2 hn,h.me.app _,λg hg=>?_,λg hg=>?_⟩
 .rcases List.mem_append.mp hg with hg | hg
  .exact(h.rim g hg).app _
  .cases List.mem_singleton.mp hg
   exact zdK f (moved p s,some (p,s))
 .rcases zbc hg with hg | rfl
  .rcases h.all g hg with z | z | z
   .exact .inl λt ht ht2=>(z t ht ht2).app _
   .exact .inr (.inl (List.mem_append.mpr (.inl z)))
   .exact .inr (.inr z)
  .exact .inr (.inl (List.mem_append.mpr (.inr (.head _))))
theorem zeJ.pop {ss:List Tie}{h0 p:Hl}{f:Fd}{todo:List Hl}(h:zeJ ss h0 f (todo++[p])):zg8 ss h0 p f todo:=by
 refine⟨h.ok,h.rim p (List.mem_append.mpr (.inr (.head _))),λg hg=>h.rim g (List.mem_append.mpr (.inl hg)),λg hg=>?_⟩
 rcases h.all g hg with z | z
 .exact .inl z
 .rcases List.mem_append.mp z with z | z
  .exact .inr (.inl z)
  .exact .inr (.inr (List.mem_singleton.mp z))
theorem zg8.done {ss:List Tie}{h0 p:Hl}{f:Fd}{todo:List Hl}(h:zg8 ss h0 p f todo)(hd:zio ss f p):zeJ ss h0 f todo:=by
 refine⟨h.ok,h.rim,λg hg=>?_⟩
 rcases h.all g hg with z | z | rfl
 .exact .inl z
 .exact .inr z
 .exact .inl hd
theorem zbN:∀ g:Hl,zcr (hK g)=some g
 | []=>rfl
 | x::g=>by
  show(zcr (hK g)).map (x::·)=_
  rw[zbN g]
  rfl
theorem zbm:∀ f:Fd,(∀ e∈f,e.1≠[])->VF (fdK f)=some (f.map (·.1))
 | [],_=>rfl
 | e::f,h=>by
  have ih:=zbm f λx hx=>h x (.tail _ hx)
  show(match zcr (hK e.1)with | some (i::t)=>(VF (fdK f)).map ((i::t)::·) | _=>none)=_
  rw[zbN,ih]
  cases he:e.1 with
  | nil=>exact absurd he (h e (.head _))
  | cons i t=>show some ((i::t)::f.map (·.1))=some (e.1::f.map (·.1));rw[he]
noncomputable def yV:SE->Ctl :=
 (sIf (tOf (zo gtD (zo ixD (zc 4) (zc 5)) (eC (.int 1)))) (zR (XF 7 (fFn vN (zb (zc 4) zr)))
  (zR (XB true 7 (zc 5) (zo Ze (zo ixD (zc 7) (zc 5)) (eC (.int 2))))
  (zR (XB true 7 (zc 6) (zo xc (zo ixD (zc 7) (zc 6)) (eC (.int 1))))
  (sFz 7 (sIf (tOf (zo (zkG true) (eFn ye (zb (zc 7) zr)) (zc 2))) (zR (zaU false 2 (eFn ye (zb (zc 7) zr)) (eC (.bl true)))
  (Ve false 3 (eFn ye (zb (zc 7) zr)))) zW))))) zW)
noncomputable def yt:SE->Ctl :=
 (zR (ziN 3 4)
  (XS (iOf (zo xc (zo ixD (zc 0) (eC (.int 1))) (eFn ye (zb (xU (fLC (iOf (zo ixD (zc 0) (eC (.int 1)))) b2 yU (vL (zb (zc 1) (zb (zc 0) zr))))) zr)))) (zaO 2 (wA (xj 5) (wA (xj 6) zbX))) yV))
noncomputable def y9:SE->Ctl :=
 (zR (zeX 2 (zc 1) (eC (.bl true)))
  (zR (XF 3 (yD (zb (zc 1) zr)))
  (zR (vP (tOf (zo zi8 (zc 3) (xU (yD zr)))) yt 10000000)
  (sFz 3 (zlF 2 (yE (xU (fFn zbT (zb (zc 2) zr)))))))))
noncomputable def xS:List D->Option D:=fnD 8 y9
theorem zfH {m:Int}{ts:List Tie}{s:Tie}(ok:zaq m ts):s∈ts++ts.map (λt:Tie=>((t.2,t.1):Tie))↔s∈yB m ts:=by
 rw[List.mem_append,vG]
 obtain⟨a,b⟩:=s
 constructor
 .rintro(h | h)
  .have r:=ok.rng _ h
   dsimp only at r ⊢
   refine⟨by omega,by omega,?_⟩
   have:Zo a b=(a,b):=by unfold Zo;rw[if_neg (by omega),if_pos (by omega)]
   rw[this];exact h
  .obtain⟨⟨x,y⟩,ht,e⟩:=List.mem_map.mp h
   cases e
   have r:=ok.rng _ ht
   dsimp only at r ⊢
   refine⟨by omega,by omega,?_⟩
   have:Zo y x=(x,y):=by unfold Zo;rw[if_pos (by omega),if_neg (by omega)]
   rw[this];exact ht
 .rintro⟨_,_,ht⟩
  have r:=ok.rng _ ht
  by_cases c:a < b
  .have e:Zo a b=(a,b):=by unfold Zo;rw[if_neg (by omega),if_pos c]
   left
   have:Zo a b∈ts:=ht
   rw[e]at this
   exact this
  .by_cases c2:b < a
   .have e:Zo a b=(b,a):=by unfold Zo;rw[if_pos c2,if_neg (by omega)]
    right
    have:Zo a b∈ts:=ht
    rw[e]at this
    exact List.mem_map.mpr ⟨(b,a),this,rfl⟩
   .exfalso
    obtain rfl:a=b:=by omega
    have e:Zo a a=(a,a):=by unfold Zo;rw[if_neg (Int.lt_irrefl _)]
    have r':0<=(Zo a a).1/\(Zo a a).1 < (Zo a a).2/\(Zo a a).2 < m:=r
    rw[e]at r'
    exact absurd r'.2.1 (Int.lt_irrefl _)
section
variable {N B C:SE->Prop}{R:D->Prop}{W:D}{h0:Hl}
noncomputable abbrev pSt (W:D)(h0:Hl)(f:Fd)(todo:List Hl)(o4 o5 o6 o7:Sl):SE:=[.v W,.v (hD h0),.m true (fdK f) (fdT f),.o (todo.map hD),o4,o5,o6,o7]
theorem zk2 {p:Hl}{s:Tie}{f:Fd}{todo:List Hl}{o7:Sl}(hs:X9 p.length s)(hl:f.length < sizeLine)(ht:todo.length < sizeLine)
 (q0:¬ 2<=vAt p s.1->∀ o7,N (pSt W h0 f todo (.v (hD p)) (.v (.int s.1)) (.v (.int s.2)) o7))
 (q1:InF f (moved p s)->∀ o7,N (pSt W h0 f todo (.v (hD p)) (.v (.int s.1)) (.v (.int s.2)) o7))
 (q2:2<=vAt p s.1->¬ InF f (moved p s)->∀ o7,N (pSt W h0 (f++[(moved p s,some (p,s))]) (todo++[moved p s]) (.v (hD p)) (.v (.int s.1)) (.v (.int s.2)) o7)) :
 (yV (pSt W h0 f todo (.v (hD p)) (.v (.int s.1)) (.v (.int s.2)) o7)).w N B C R:=by
 obtain⟨a,b⟩:=s
 obtain⟨a0,a1,b0,b1,ne⟩:=hs
 dsimp only at a0 a1 b0 b1 ne q0 q1 q2 ⊢
 have ea:=wW (ns:=p) a0 a1
 unfold yV
 refine zcN (c:=decide (1 < vAt p a)) (vV (zq (x:=.int (vAt p a)) (y:=.int 1) (zq (x:=hD p) (y:=.int a) rfl rfl ea) rfl rfl)) (λc=>?_) (λc=>Vd rfl (q0 (by have:=of_decide_eq_false c;omega) _))
 have c:=of_decide_eq_true c
 obtain⟨g,hg⟩:∃ g,zam p a (vAt p a - 2)=g:=⟨_,rfl⟩
 have gl:g.length=p.length:=by rw[<-hg,Zw]
 have eb:=wW (ns:=g) b0 (by rw[gl];exact b1)
 have hm:moved p (a,b)=zam g b (vAt g b+1):=by unfold moved;rw[hg]
 refine zL (ρ':=pSt W h0 f todo (.v (hD p)) (.v (.int a)) (.v (.int b)) (.o (p.map .int))) rfl ?_
 refine wy (zh4 (p.map .int) (.int (vAt p a - 2)) a ?_ rfl rfl a0 (by rw[List.length_map];exact a1) ?_)
 .show(Option.bind ((atI (p.map D.int) a).bind λx=>Ze x (.int 2)) λd=>if noL d=true then some d else none)=_
  rw[ea]
  rfl
 rw[show(p.map D.int).set a.toNat (.int (vAt p a - 2))=g.map .int by rw[<-hg];unfold zam;rw[List.map_set]]
 refine wy (zh4 (g.map .int) (.int (vAt g b+1)) b ?_ rfl rfl b0 (by rw[List.length_map,gl];exact b1) ?_)
 .show(Option.bind ((atI (g.map D.int) b).bind λx=>xc x (.int 1)) λd=>if noL d=true then some d else none)=_
  rw[eb]
  rfl
 rw[show(g.map D.int).set b.toNat (.int (vAt g b+1))=(moved p (a,b)).map .int by rw[hm];unfold zam;rw[List.map_set]]
 refine zg3 (ρ':=pSt W h0 f todo (.v (hD p)) (.v (.int a)) (.v (.int b)) (.v (.lst ((moved p (a,b)).map .int)))) rfl ?_
 refine zcN (c:=!(XH f (moved p (a,b))).isSome) ?_ (λe=>?_) (λe=>?_)
 .show((zkG true (hD (moved p (a,b))) (.dct false true (fdK f) (fdT f))).bind asB)=_
  rw[zjW]
  rfl
 .have e:(XH f (moved p (a,b))).isSome=false:=by simpa using e
  refine zL (zfO (f:=f) (g:=moved p (a,b)) (o:=some (p,(a,b))) rfl rfl rfl e hl rfl) ?_
  refine Vd (ziv (ds:=todo.map hD) (d:=hD (moved p (a,b))) rfl rfl (by rw[List.length_map];exact ht) rfl) ?_
  have q:=q2 (by omega) (λz=>by unfold InF at z;rw[e]at z;cases z) (.v (.lst ((moved p (a,b)).map .int)))
  rw[pSt,List.map_append]at q
  exact q
 .have e:(XH f (moved p (a,b))).isSome=true:=by simpa using e
  exact Vd rfl (q1 e _)
end
section
variable {N B C:SE->Prop}{R:D->Prop}{m:Int}{ts:List Tie}{h0:Hl}
noncomputable def swB (t:Tie):Tie:=(t.2,t.1)
theorem zhc {ρ:Ev}(h28:ts.length<=28)(h:zc 0 ρ=some (XC m ts)):iOf (zo xc (zo ixD (zc 0) (eC (.int 1))) (eFn ye (zb (xU (fLC (iOf (zo ixD (zc 0) (eC (.int 1)))) b2 yU (vL (zb (zc 1) (zb (zc 0) zr))))) zr))) ρ=some ((ts++ts.map swB).map zX):=by
 have e1:zo ixD (zc 0) (eC (.int 1)) ρ=some (.tup (ts.map zX)):=zq (x:=XC m ts) (y:=.int 1) h rfl rfl
 have e2:fLC (iOf (zo ixD (zc 0) (eC (.int 1)))) b2 yU (vL (zb (zc 1) (zb (zc 0) zr))) ρ=some ((ts.map swB).map zX):=by
  unfold fLC
  rw[VE e1 (show wE (.tup (ts.map zX))=some (ts.map zX)from rfl),Option.bind_some,if_pos (wg (by rw[List.length_map];omega)),List.map_map]
  exact vx zX (zX ∘ swB) ts λt _=>⟨[some (.int t.1),some (.int t.2)],rfl,rfl,rfl⟩
 refine VE (d:=.tup ((ts++ts.map swB).map zX)) (zq (x:=.tup (ts.map zX)) (y:=.tup ((ts.map swB).map zX)) e1 (Yp (ds:=[.lst ((ts.map swB).map zX)]) (zp (vD e2) zQ) rfl) ?_) rfl
 show(if lim ((ts.map zX).length+((ts.map swB).map zX).length)=true then some (D.tup (ts.map zX++(ts.map swB).map zX))else none)=_
 rw[if_pos (wg (by rw[List.length_map,List.length_map,List.length_map];omega)),<- List.map_append]
theorem zly {p:Hl}{f:Fd}{todo:List Hl}{o4 o5 o6 o7:Sl}{K:Nat}(ok:zaq m ts)(h28:ts.length<=28)(h0k:HOk m.toNat h0.sum h0)(hc:(h0.sum.toNat+1) ^ m.toNat < 5000000)(h:zeJ (yB m ts) h0 f (todo++[p]))(ht:todo.length+1<=f.length) :
 (yt (pSt (XC m ts) h0 f (todo++[p]) o4 o5 o6 o7)).w (fun ρ'=>∃ f' todo' o4 o5 o6 o7,ρ'=pSt (XC m ts) h0 f' todo' o4 o5 o6 o7/\zeJ (yB m ts) h0 f' todo'/\todo'.length<=f'.length/\f.length<=f'.length/\todo'.length+f.length=todo.length+f'.length) B C R:=by
 unfold yt
 have hS:=YE ok
 have hm:=h.pop
 have hpl:p.length=m.toNat:=by
  obtain⟨x,hx,rfl⟩:=xi.mp hm.me
  exact((hm.ok.beh x hx).ok hS h0k).len
 refine zL (ρ':=pSt (XC m ts) h0 f todo (.v (hD p)) o5 o6 o7) (zjn (ds:=todo.map hD) (d:=hD p) (by show some (Sl.o ((todo++[p]).map hD))=_;rw[List.map_append];rfl)) ?_
 obtain⟨M,hM⟩:∃ M,ts++ts.map swB=M:=⟨_,rfl⟩
 have hmem:∀ s,s∈M↔s∈yB m ts:=λs=>by rw[<-hM];exact zfH ok
 refine zcA (ds:=M.map zX) (λj ρ=>∃ f' todo' o5 o6 o7,ρ=pSt (XC m ts) h0 f' todo' (.v (hD p)) o5 o6 o7/\zg8 (yB m ts) h0 p f' todo'/\(∀ s∈M.take j,2<=vAt p s.1->InF f' (moved p s))/\todo'.length<=f'.length/\f.length<=f'.length/\todo'.length+f.length=todo.length+f'.length) (by rw[<-hM];exact zhc h28 rfl) ⟨f,todo,o5,o6,o7,rfl,hm,(λs hs=>by rw[List.take_zero]at hs;cases hs),by omega,Nat.le_refl _,rfl⟩ ?_ ?_
 .rintro i d ρ hd ⟨f',todo',o5,o6,o7,rfl,hm',ha,l1,l2,l3⟩
  rw[List.getElem?_map]at hd
  obtain⟨s,hs,rfl⟩:=Option.map_eq_some_iff.mp hd
  have hs1:=(hmem s).mp (List.mem_of_getElem? hs)
  refine⟨pSt (XC m ts) h0 f' todo' (.v (hD p)) (.v (.int s.1)) (.v (.int s.2)) o7,rfl,?_⟩
  have hi:=hS s hs1
  rw[<-hpl]at hi
  have hcnt:f'.length < sizeLine:=Nat.lt_of_le_of_lt (hm'.ok.count hS h0k) (Nat.lt_trans hc (by decide))
  have ht:∀ f2:Fd,(∀ g,InF f' g->InF f2 g)->(2<=vAt p s.1->InF f2 (moved p s))->∀ t∈M.take (i+1),2<=vAt p t.1->InF f2 (moved p t):=λf2 up hin t ht=>by
   rw[List.take_add_one,hs]at ht
   rcases List.mem_append.mp ht with ht | ht
   .exact λh2=>up _ (ha t ht h2)
   .cases List.mem_singleton.mp ht
    exact hin
  refine zk2 hi hcnt (Nat.lt_of_le_of_lt l1 hcnt) (λq o7=>⟨f',todo',_,_,_,rfl,hm',ht f' (λg hg=>hg) (λh2=>absurd h2 q),l1,l2,l3⟩) (λq o7=>⟨f',todo',_,_,_,rfl,hm',ht f' (λg hg=>hg) (λ_=>q),l1,l2,l3⟩) λq2 q o7=>⟨_,_,_,_,_,rfl,hm'.add hs1 q2 q,ht _ (λg hg=>hg.app _) (λ_=>zdK f' (moved p s,some (p,s))),?_,?_,?_⟩
  .rw[List.length_append,List.length_append];exact Nat.succ_le_succ l1
  .rw[List.length_append];exact Nat.le_succ_of_le l2
  .rw[List.length_append,List.length_append];show todo'.length+1+f.length=todo.length+(f'.length+1);omega
 .rintro ρ ⟨f',todo',o5,o6,o7,rfl,hm',ha,l1,l2,l3⟩
  rw[List.length_map,List.take_length]at ha
  exact⟨f',todo',_,o5,o6,o7,rfl,hm'.done λs hs h2=>ha s ((hmem s).mpr hs) h2,l1,l2,l3⟩
noncomputable def zjm (B:Nat):SE->Nat
 | [_,_,.m _ ks _,.o ds,_,_,_,_]=>2*(B - ks.length)+ds.length
 | _=>0
theorem Wl {W:D}{f:Fd}{todo:List Hl}{o4 o5 o6 o7:Sl}{K:Nat}:zjm K (pSt W h0 f todo o4 o5 o6 o7)=2*(K - f.length)+todo.length:=by
 show 2*(K - (fdK f).length)+(todo.map hD).length=_
 unfold fdK
 rw[List.length_map,List.length_map]
theorem zlG (l:List Hl):zi8 (.lst (l.map hD)) (.lst [])=some (.bl (!decide (l=[]))):=by
 have hk:okE 20 (.lst (l.map hD))=true:=by
  show(l.map hD).all (okE 19)=true
  rw[List.all_map,List.all_eq_true]
  intro h _
  show(h.map D.int).all (okE 18)=true
  rw[List.all_map,List.all_eq_true]
  exact λt _=>rfl
 show(if (okE 20 (.lst (l.map hD))&&true)=true then _ else none)=_
 rw[hk,if_pos (show(true&&true)=true from rfl)]
 cases l <;> rfl
theorem zk8 {o4 o5 o6 o7:Sl}(ok:zaq m ts)(h28:ts.length<=28)(h0k:HOk m.toNat h0.sum h0)(hc:(h0.sum.toNat+1) ^ m.toNat < 5000000) :
 (vP (tOf (zo zi8 (zc 3) (xU (yD zr)))) yt 10000000 (pSt (XC m ts) h0 [(h0,none)] [h0] o4 o5 o6 o7)).w (fun ρ'=>∃ f' o4 o5 o6 o7,ρ'=pSt (XC m ts) h0 f' [] o4 o5 o6 o7/\AllF (yB m ts) h0 f') B C R:=by
 have hS:=YE ok
 obtain⟨K,hK⟩:∃ K,(h0.sum.toNat+1) ^ m.toNat=K:=⟨_,rfl⟩
 refine za0 (fun ρ=>∃ f todo o4 o5 o6 o7,ρ=pSt (XC m ts) h0 f todo o4 o5 o6 o7/\zeJ (yB m ts) h0 f todo/\todo.length<=f.length) (zjm K) ?_ 10000000 _ ⟨_,_,o4,o5,o6,o7,rfl,zeJ.start (yB m ts) h0,Nat.le_refl _⟩ ?_
 .rintro ρ ⟨f,todo,o4,o5,o6,o7,rfl,hm,hl⟩
  refine⟨!decide (todo=[]),vV (zq (x:=.lst (todo.map hD)) (y:=.lst []) rfl rfl (zlG todo)),λc=>?_,λc=>?_⟩
  .have hne:todo≠[]:=λe=>by rw[decide_eq_true e]at c;cases c
   obtain⟨td,p,rfl⟩:∃ td p,todo=td++[p]:=⟨todo.dropLast,todo.getLast hne,(List.dropLast_concat_getLast hne).symm⟩
   rw[List.length_append]at hl
   refine zgx (zly (K:=K) ok h28 h0k hc hm hl) ?_ (λ_ h=>h) (λ_ h=>h) (λ_ h=>h)
   rintro ρ ⟨f',todo',o4,o5,o6,o7,rfl,hm',l1,l2,l3⟩
   refine⟨⟨f',todo',o4,o5,o6,o7,rfl,hm',l1⟩,?_⟩
   rw[Wl,Wl,List.length_append]
   have hcnt:=hm'.ok.count hS h0k
   rw[hK]at hcnt
   show 2*(K - f'.length)+todo'.length < 2*(K - f.length)+(td.length+1)
   omega
  .have he:todo=[]:=by
    cases h:decide (todo=[]) with
    | true=>exact of_decide_eq_true h
    | false=>rw[h]at c;cases c
   subst he
   exact⟨f,o4,o5,o6,o7,rfl,hm.fin⟩
 .rw[Wl]
  show 2*(K - 1)+1 < 10000000
  omega
end
theorem WB {m:Int}{ts:List Tie}{h0:Hl}(ok:zaq m ts)(h28:ts.length<=28)(hl:(h0.length:Int)=m)(hn:∀ v∈h0,0<=v)(hc:(h0.sum.toNat+1) ^ m.toNat < 5000000) :
 ∃ E:List Hl,xS [XC m ts,hD h0]=some (.lst (E.map hD))/\(∀ g,g∈E↔Beh (yB m ts) h0 g)/\E.length < 10000000:=by
 have hm1:=ok.lo
 have hS:=YE ok
 have h0k:HOk m.toNat h0.sum h0:=⟨by omega,hn,Int.le_refl _⟩
 obtain⟨d,e,E,rfl,hE⟩:=zkf (m:=8) (g:=y9) (ds:=[XC m ts,hD h0]) (R:=λd=>∃ E:List Hl,d=.lst (E.map hD)/\(∀ g,g∈E↔Beh (yB m ts) h0 g)/\E.length < 10000000) rfl (by
  unfold y9
  refine zL (ρ':=[.v (XC m ts),.v (hD h0),.m true (fdK [(h0,none)]) (fdT [(h0,none)]),.no,.no,.no,.no,.no]) ?_ ?_
  .unfold zeX
   show(match ((zeR (hD h0)).map λk=>Sl.m true [k] [D.bl true])with | some s=>Ctl.nx _ | none=>Ctl.no)=_
   rw[WC]
   rfl
  refine zL (ρ':=pSt (XC m ts) h0 [(h0,none)] [h0] .no .no .no .no) rfl ?_
  refine wy (zgx (zk8 ok h28 h0k hc) ?_ (λ_ h=>h) (λ_ h=>h) (λ_ h=>h))
  rintro ρ ⟨f,o4,o5,o6,o7,rfl,hf⟩
  have hcount:=hf.ok.count hS h0k
  have hne:∀ e∈f,e.1≠[]:=λe he z=>by
   have:=((hf.ok.beh e he).ok hS h0k).len
   rw[z]at this
   have h0':0=m.toNat:=this
   omega
  have es:zbT [.dct true true (fdK f) (fdT f)]=some ((vA (f.map (·.1))).map hD):=by
   show(if (fdK f).length < 10000000 then _ else none)=_
   rw[if_pos (by unfold fdK;rw[List.length_map];omega),zbm f hne]
   rfl
  refine zg3 (ρ':=[.v (XC m ts),.v (hD h0),.m true (fdK f) (fdT f),.v (.lst []),o4,o5,o6,o7]) rfl ?_
  refine Zp (d:=.lst ((vA (f.map (·.1))).map hD)) ?_ ⟨_,rfl,λg=>?_,?_⟩
  .show yE _ [.v (XC m ts),.v (hD h0),.v (.dct true true (fdK f) (fdT f)),.v (.lst []),o4,o5,o6,o7]=_
   exact wn (vD (zcY (ds:=[_]) rfl es))
  .rw[(wJ _).mem_iff,<- hf.iff,xi,List.mem_map]
  .rw[(wJ _).length_eq,List.length_map];omega)
 exact⟨E,e,hE⟩
theorem XG (T:Txt K mg ad):xz P w K mg base CX0 1 ad.f__law_behind ad.e__law_behind ["web","heap"] (@spD ⟨K⟩ 2 xS):=by
 letI:KK:=⟨K⟩
 refine yO (N:=["web","heap","found","todo","here","a","b","other"]) (ps:=["web","heap"]) T.d__law_behind.fn zY (g:=y9) λcdv A outer s H E hr=>?_
 unfold y9 yt yV
 exact(ze (zhA (i:=2) hr zY.nd rfl (Or.inl rfl) (edv 1) (ve vf))
  (ze (Zb (i:=3) zY.nd rfl (Or.inl rfl) (wf (za (edv 1) zd)))
  (ze (zfk 10000000 PassesOwn.never (zT (zjw hr) zhz (zG _) (edv 3) (wz (wf zd))) (ze (zi9 (i:=3) (j:=4) zY.nd rfl (Or.inl rfl) (pv 3) (λa=>zi1 PySem.F.plainAttrs_list PySem.F.slot_list_pop PySem.F.type_list_pop zhb a))
  (zh (XQ PassesOwn.never rfl (Ym (zN (yz (edv 0) (zf zg) (λ_ _=>rfl)) (yd zC yc rfl T.z_tuple zU (za (wz (Xs (L:=["a","b"]) (M:=["web","heap","found","todo","here","·a","·b","other"]) rfl (vQ (by rfl) (by rfl) (by rfl) (by with_unfolding_all rfl) (by rfl) (by rfl) (by kernel_rfl) all_nil) (Ym (yz (edv 0) (zf zg) (λ_ _=>rfl))) gs2 rb2 (λ_ _ _ _=>(zdr rfl (Yt (zI (i:=0) zjf rfl (Or.inl rfl) (.inr rfl)) (Yt (zI (i:=1) zjf rfl (Or.inl rfl) (.inr rfl)) zaz)))) (λ_ _ _ _=>(wG (za (edv 1) (za (edv 0) zd)))))) zd)))) (zei rfl (wK (yW (zI (i:=5) zY.nd rfl (Or.inl rfl))) (wK (yW (zI (i:=6) zY.nd rfl (Or.inl rfl))) zaD))) (zh (yG (zT XL yg (zG _) (yz (edv 4) (edv 5) (λ_ _=>rfl)) (zf zg)) (ze (Zb (i:=7) zY.nd rfl (Or.inl rfl) (zaV rfl T.z_list (za (edv 4) zd)))
  (ze (zb0 (m:=true) (X4 (yz (edv 7) (edv 5) (λ_ _=>rfl)) (zf zg)) (pv 7) (edv 5))
  (ze (zb0 (m:=true) (zN (yz (edv 7) (edv 6) (λ_ _=>rfl)) (zf zg)) (pv 7) (edv 6))
  (Zc 7 (zh (yG (zT (zc1 hr) zhI (by with_unfolding_all rfl) (yd zC yc rfl T.z_tuple zU (za (edv 7) zd)) (edv 2)) (ze (zia (m:=false) hr (ve vf) (pv 2) (yd zC yc rfl T.z_tuple zU (za (edv 7) zd)))
  (zh (zcW (m:=false) (pv 3) (yd zC yc rfl T.z_tuple zU (za (edv 7) zd)) (λa b=>zeN PySem.F.plainAttrs_list PySem.F.slot_list_append PySem.F.type_list_append Xr a b)))) zE)))))) zE))))))
  (Zc 3 (zhS 2 (zh (zx (wz (zcj rfl rfl T.z_sorted (za (edv 2) zd))))))))))
theorem zgi:∀ {ns:List Int},ns≠[]->zbK ns∈ns/\∀ x∈ns,x<=zbK ns:=by
 intro ns h
 obtain⟨M,h1,h2⟩:∃ M∈ns,∀ x∈ns,x<=M:=by
  induction ns with
  | nil=>exact absurd rfl h
  | cons n ns ih =>
   by_cases c:ns=[]
   .subst c
    exact⟨n,List.mem_singleton.mpr rfl,λx hx=>by rw[List.mem_singleton.mp hx];exact Int.le_refl _⟩
   .obtain⟨M,h1,h2⟩:=ih c
    rcases Int.le_total n M with c2 | c2
    .exact⟨M,List.mem_cons_of_mem _ h1,λx hx=>(List.mem_cons.mp hx).elim (λe=>e ▸ c2) (h2 x)⟩
    .exact⟨n,List.mem_cons_self,λx hx=>(List.mem_cons.mp hx).elim (λe=>e ▸ Int.le_refl _) λhx=>Int.le_trans (h2 x hx) c2⟩
 rw[zgD h1 h2]
 exact⟨h1,h2⟩
theorem zdH {ns:List Int}(h:ns≠[]):zaK [.lst (ns.map .int)]=some (.int (zbK ns)):=by
 show(zcc (ns.map .int)).bind (λns=>if ns=[]then none else some (D.int (zbK ns)))=_
 rw[ZF]
 show(if ns=[]then none else some (D.int (zbK ns)))=_
 rw[if_neg h]
noncomputable def yx:SE->Ctl :=
 (yE (eFn zaK (zb (xU (fLC (iOf (zw 2 xS (zb (zc 0) (zb (zc 1) zr)))) b1 yU (zo ixD (zc 0) (zc 3)))) zr)))
noncomputable def xg:List D->Option D:=fnD 3 yx
theorem WR {m p:Int}{ts:List Tie}{h0:Hl}(ok:zaq m ts)(h28:ts.length<=28)(hl:(h0.length:Int)=m)(hn:∀ v∈h0,0<=v)(hc:(h0.sum.toNat+1) ^ m.toNat < 5000000)(hp:0<=p/\p < m) :
 ∃ M,xg [XC m ts,hD h0,.int p]=some (.int M)/\(∃ g,Beh (yB m ts) h0 g/\vAt g p=M)/\∀ g,Beh (yB m ts) h0 g->vAt g p<=M:=by
 obtain⟨E,eE,hE,hEl⟩:=WB ok h28 hl hn hc
 have h0k:HOk m.toNat h0.sum h0:=⟨by omega,hn,Int.le_refl _⟩
 have hne:(E.map λg=>vAt g p)≠[]:=λz=>by
  have:=(hE h0).mpr .zero
  rw[List.map_eq_nil_iff.mp z]at this
  cases this
 obtain⟨x1,x2⟩:=zgi hne
 refine⟨zbK (E.map λg=>vAt g p),?_,?_,λg hg=>x2 _ (List.mem_map.mpr ⟨g,(hE g).mpr hg,rfl⟩)⟩
 .refine zan (ρ:=[.v (XC m ts),.v (hD h0),.v (.int p)]) rfl ?_
  unfold yx
  refine Zp (wn (d:=.int (zbK (E.map λg=>vAt g p))) (Yp (ds:=[.lst ((E.map λg=>vAt g p).map .int)]) (zp (vD ?_) zQ) (zdH hne))) rfl
  unfold fLC
  rw[show iOf (zw 2 xS (zb (zc 0) (zb (zc 1) zr))) (visG [.v (XC m ts),.v (hD h0),.v (.int p)])=some (E.map hD)from VE (d:=.lst (E.map hD)) (zH (ds:=[_,_]) rfl eE) rfl,Option.bind_some,if_pos (show lim (E.map hD).length=true from decide_eq_true (by rw[List.length_map];exact Nat.le_of_lt (Nat.lt_trans hEl (by decide)))),List.map_map]
  refine vx hD _ E λg hg=>⟨[some (hD g)],rfl,rfl,?_⟩
  have hb:=(((hE g).mp hg).ok (YE ok) h0k).len
  show atI (g.map D.int) p=_
  rw[wW hp.1 (by omega)]
  rfl
 .obtain⟨g,hg,e⟩:=List.mem_map.mp x1
  exact⟨g,(hE g).mp hg,e⟩
theorem Ys (T:Txt K mg ad):xz P w K mg base CX0 2 ad.f__law_most_there ad.e__law_most_there ["web","heap","place"] (@spD ⟨K⟩ 3 xg):=by
 letI:KK:=⟨K⟩
 have G__law_behind:=XG (P:=P) (w:=w) (base:=base) T
 refine yO (N:=["web","heap","place"]) (ps:=["web","heap","place"]) T.d__law_most_there.fn Yv (g:=yx) λcdv A outer s H E hr=>?_
 unfold yx
 exact(zh (zx (zP (zaf rfl) zb6 rfl T.z_max zdx (za (wz (Xs (L:=["other"]) (M:=["web","heap","place"]) rfl (vQ (by rfl) (by rfl) (by rfl) (by with_unfolding_all rfl) (by rfl) (by rfl) (by kernel_rfl) (all_cons rfl all_nil)) (Ym (zi G__law_behind hr rfl T.d__law_behind (za (edv 0) (za (edv 1) zd)))) gs1 rb1 (λ_ _ _ _=>(zI (i:=0) zlP rfl (Or.inl rfl) (.inr rfl))) (λ_ _ _ _=>(yz (edv 0) (edv 3) (λ_ _=>rfl))))) zd))))
noncomputable def xJ:SE->Ctl :=
 (sIf (wb (tOf (zw 3 zy (zb (zc 0) (zb (zc 1) (zb (zc 2) zr)))))) sNo zW)
noncomputable def vd:List D->Option D:=fnD 3 xJ
theorem Y4 (T:Txt K mg ad):xz P w K mg base CX0 3 ad.f_must_be_within ad.e_must_be_within ["thing","least","most"] (@spD ⟨K⟩ 3 vd):=by
 letI:KK:=⟨K⟩
 have G_is_whole_within:=yl (P:=P) (w:=w) (base:=base) T
 refine yO (N:=["thing","least","most"]) (ps:=["thing","least","most"]) T.d_must_be_within.fn YY (g:=xJ) λcdv A outer s H E hr=>?_
 unfold xJ
 exact(zh (yG (vy (wC (zi G_is_whole_within hr rfl T.d_is_whole_within (za (edv 0) (za (edv 1) (za (edv 2) zd)))))) (zh Zx) zE))
noncomputable def Xa:SE->Ctl :=
 (zR (sIf (We (wb (tOf (eUn (vk .tuple) (zc 0)))) (wb (tOf (zw 1 xG (zb (eFn Zk (zb (zc 0) zr)) zr))))) (yE (eC (.bl false))) zW)
  (zR (sIf (tOf (zo xa (zo ixD (zc 0) (eC (.int 0))) (eC .non))) (yE (eC (.bl false))) zW)
  (yE (eFn zil (zb (xU (fLC (Zd XJ (zb (eC (.int 1)) (zb (eFn Zk (zb (zc 0) zr)) zr))) b1 yU (zw 2 wF (zb (zc 0) (zb (zo ixD (zc 1) (zc 0)) zr))))) zr)))))
noncomputable def Vt:List D->Option D:=fnD 1 Xa
theorem zcd (T:Txt K mg ad):xz P w K mg base CX0 4 ad.f_is_over ad.e_is_over ["thing"] (@spD ⟨K⟩ 1 Vt):=by
 letI:KK:=⟨K⟩
 have G_is_place_count:=Y9 (P:=P) (w:=w) (base:=base) T
 have G_is_place:=Xt (P:=P) (w:=w) (base:=base) T
 refine yO (N:=["thing"]) (ps:=["thing"]) T.d_is_over.fn zcy (g:=Xa) λcdv A outer s H E hr=>?_
 unfold Xa
 exact(ze (yG (zhl (zcz (vy (wC (xW .tuple rfl T.z_isinstance (edv 0) (Yb (v:=.ty "tuple") rfl T.z_tuple zU rfl)))) (Vr (vy (wC (zi G_is_place_count hr rfl T.d_is_place_count (za (zP zM x4 rfl T.z_len vp (za (edv 0) zd)) zd))))))) (zh (zx (ve vf))) zE)
  (ze (yG (zT VZ X0 (zG _) (yz (edv 0) (zf zg) (λ_ _=>rfl)) (zeP zdz)) (zh (zx (ve vf))) zE)
  (zh (zx (zP (Xy rfl) za8 rfl T.z_all zdf (za (wz (Xs (L:=["place"]) (M:=["thing"]) rfl (vQ (by rfl) (by rfl) (by rfl) (by with_unfolding_all rfl) (by rfl) (by rfl) (by kernel_rfl) (all_cons rfl all_nil)) (Xm rfl T.z_range (za (zf zg) (za (zP zM x4 rfl T.z_len vp (za (edv 0) zd)) zd))) gs1 rb1 (λ_ _ _ _=>(zI (i:=0) zlj rfl (Or.inl rfl) (.inr rfl))) (λ_ _ _ _=>(zi G_is_place hr rfl T.d_is_place (za (edv 0) (za (yz (edv 1) (edv 0) (λ_ _=>rfl)) zd)))))) zd))))))
noncomputable def Ya:SE->Ctl :=
 (zR (sIf (We (wb (tOf (eUn (vk .tuple) (zc 0)))) (tOf (zo neD (eFn Zk (zb (zc 0) zr)) (eC (.int 2))))) (yE (eC (.bl false))) zW)
  (zR (wQ false 1 (zo ixD (zc 0) (eC (.int 0))))
  (zR (sIf (wb (tOf (eUn (vk .str) (zc 1)))) (yE (eC (.bl false))) zW)
  (zR (sIf (tOf (zo ZI (zc 1) (eC (.str "tree")))) (yE (zw 1 Vt (zb (zo ixD (zc 0) (eC (.int 1))) zr))) zW)
  (yE (W8 (eUn (zgp YF) (zc 1)) (zw 3 zy (zb (zo ixD (zc 0) (eC (.int 1))) (zb (eUn (zdN YF 0) (zc 1)) (zb (eUn (zdN YF 1) (zc 1)) zr))))))))))
noncomputable def ZP:List D->Option D:=fnD 2 Ya
theorem VT (T:Txt K mg ad):xz P w K mg base CX0 5 ad.f_kind_good ad.e_kind_good ["thing"] (@spD ⟨K⟩ 1 ZP):=by
 letI:KK:=⟨K⟩
 have G_is_whole_within:=yl (P:=P) (w:=w) (base:=base) T
 have G_is_over:=zcd (P:=P) (w:=w) (base:=base) T
 refine yO (N:=["thing","word"]) (ps:=["thing"]) T.d_kind_good.fn Zh (g:=Ya) λcdv A outer s H E hr=>?_
 unfold Ya
 exact(ze (yG (zhl (zcz (vy (wC (xW .tuple rfl T.z_isinstance (edv 0) (Yb (v:=.ty "tuple") rfl T.z_tuple zU rfl)))) (Vr (zT zcm XW (zG _) (zP zM x4 rfl T.z_len vp (za (edv 0) zd)) (zf zg))))) (zh (zx (ve vf))) zE)
  (ze (yA (m:=false) (i:=1) Zh.nd rfl (Or.inl rfl) (yz (edv 0) (zf zg) (λ_ _=>rfl)))
  (ze (yG (vy (wC (xW .str rfl T.z_isinstance (edv 1) (Yb (v:=.ty "str") rfl T.z_str zjI rfl)))) (zh (zx (ve vf))) zE)
  (ze (yG (zT (xw hr) yu (zG _) (edv 1) (vR vT)) (zh (zx (zi G_is_over hr rfl T.d_is_over (za (yz (edv 0) (zf zg) (λ_ _=>rfl)) zd)))) zE)
  (zh (zx (X8 (zfW T.b_SIZES rfl T.g_SIZES (edv 1)) (Zi (zi G_is_whole_within hr rfl T.d_is_whole_within (za (yz (edv 0) (zf zg) (λ_ _=>rfl)) (za (zb1 T.b_SIZES (by decide) rfl T.g_SIZES (edv 1) (λ_ _=>rfl)) (za (zb1 T.b_SIZES (by decide) rfl T.g_SIZES (edv 1) (λ_ _=>rfl)) zd))))))))))))
noncomputable def vX:SE->Ctl :=
 (zR (sIf (tOf (zo ZI (zc 0) (eC (.str "cube")))) (yE (zo ixD (vL (zb (eC (.int 1)) (zb (eC (.int 2)) (zb (eC (.int 4)) (zb (eC (.int 8)) zr))))) (zc 1))) zW)
  (zR (sIf (tOf (zo ZI (zc 0) (eC (.str "star")))) (yE (zo xc (zc 1) (eC (.int 1)))) zW)
  (zR (sIf (tOf (zo ZI (zc 0) (eC (.str "tree")))) (yE (eFn Zk (zb (zc 1) zr))) zW)
  (yE (zc 1)))))
noncomputable def Xx:List D->Option D:=fnD 2 vX
theorem VD (T:Txt K mg ad):xz P w K mg base CX0 1 ad.f_places_of ad.e_places_of ["word","size"] (@spD ⟨K⟩ 2 Xx):=by
 letI:KK:=⟨K⟩
 refine yO (N:=["word","size"]) (ps:=["word","size"]) T.d_places_of.fn V8 (g:=vX) λcdv A outer s H E hr=>?_
 unfold vX
 exact(ze (yG (zT (xw hr) yu (zG _) (edv 0) (vR vT)) (zh (zx (yz (wG (za (zf zg) (za (zf zg) (za (zf zg) (za (zf zg) zd))))) (edv 1) (λ_ _=>rfl)))) zE)
  (ze (yG (zT (xw hr) yu (zG _) (edv 0) (vR vT)) (zh (zx (zN (edv 1) (zf zg)))) zE)
  (ze (yG (zT (xw hr) yu (zG _) (edv 0) (vR vT)) (zh (zx (zP zM x4 rfl T.z_len vp (za (edv 1) zd)))) zE)
  (zh (zx (edv 1))))))
noncomputable def YW:SE->Ctl :=
 (zR (sIf (tOf (zo ZI (zc 0) (eC (.str "row")))) (yE (zo ZI (zc 3) (zo xc (zc 2) (eC (.int 1))))) zW)
  (zR (sIf (tOf (zo ZI (zc 0) (eC (.str "ring")))) (yE (eOr (zo ZI (zc 3) (zo xc (zc 2) (eC (.int 1)))) (W8 (zo ZI (zc 2) (eC (.int 0))) (zo ZI (zc 3) (zo Ze (zc 1) (eC (.int 1))))))) zW)
  (zR (sIf (tOf (zo ZI (zc 0) (eC (.str "cube")))) (yE (zo inD (zo xorD (zc 2) (zc 3)) (vL (zb (eC (.int 1)) (zb (eC (.int 2)) (zb (eC (.int 4)) zr)))))) zW)
  (zR (sIf (tOf (zo ZI (zc 0) (eC (.str "star")))) (yE (zo ZI (zc 2) (eC (.int 0)))) zW)
  (zR (sIf (tOf (zo ZI (zc 0) (eC (.str "tree")))) (yE (zo ZI (zo ixD (zc 1) (zc 3)) (zc 2))) zW)
  (yE (eC (.bl true))))))))
noncomputable def X6:List D->Option D:=fnD 4 YW
theorem za7 (T:Txt K mg ad):xz P w K mg base CX0 1 ad.f_are_tied ad.e_are_tied ["word","size","one","other"] (@spD ⟨K⟩ 4 X6):=by
 letI:KK:=⟨K⟩
 refine yO (N:=["word","size","one","other"]) (ps:=["word","size","one","other"]) T.d_are_tied.fn zaY (g:=YW) λcdv A outer s H E hr=>?_
 unfold YW
 exact(ze (yG (zT (xw hr) yu (zG _) (edv 0) (vR vT)) (zh (zx (wB (xw hr) yu (zG _) (edv 3) (zN (edv 2) (zf zg))))) zE)
  (ze (yG (zT (xw hr) yu (zG _) (edv 0) (vR vT)) (zh (zx (zjR (wB (xw hr) yu (zG _) (edv 3) (zN (edv 2) (zf zg))) (Zi (X8 (wB (xw hr) yu (zG _) (edv 2) (zf zg)) (Zi (wB (xw hr) yu (zG _) (edv 3) (X4 (edv 1) (zf zg))))))))) zE)
  (ze (yG (zT (xw hr) yu (zG _) (edv 0) (vR vT)) (zh (zx (wB (ziL hr) zjj (by with_unfolding_all rfl) (zji (edv 2) (edv 3)) (wG (za (zf zg) (za (zf zg) (za (zf zg) zd))))))) zE)
  (ze (yG (zT (xw hr) yu (zG _) (edv 0) (vR vT)) (zh (zx (wB (xw hr) yu (zG _) (edv 2) (zf zg)))) zE)
  (ze (yG (zT (xw hr) yu (zG _) (edv 0) (vR vT)) (zh (zx (wB (xw hr) yu (zG _) (yz (edv 1) (edv 3) (λ_ _=>rfl)) (edv 2)))) zE)
  (zh (zx (ve vf))))))))
noncomputable def ZU:SE->Ctl :=
 (zaA 4 (xU (fLC (Zd XJ (zb (zo xc (zc 5) (eC (.int 1))) (zb (zc 3) zr))) b1 (tOf (zw 4 X6 (zb (zc 2) (zb (zc 3) (zb (zc 6) (zb (zc 0) zr)))))) (vL (zb (zc 6) (zb (zc 0) zr))))))
noncomputable def Xu:SE->Ctl :=
 (zR (sIf (wb (tOf (zw 1 ZP (zb (zc 0) zr)))) sNo zW)
  (zR (wQ false 1 (zo ixD (zc 0) (eC (.int 0))))
  (zR (wQ false 2 (zo ixD (zc 0) (eC (.int 1))))
  (zR (wQ false 3 (zw 2 Xx (zb (zc 1) (zb (zc 2) zr))))
  (zR (XF 4 (yD zr))
  (zR (wV v5 (zb (zc 3) zr) (xj 5) ZU)
  (sFz 4 (yE (vL (zb (zc 3) (zb (eFn ye (zb (zc 4) zr)) zr)))))))))))
noncomputable def VL:List D->Option D:=fnD 6 Xu
theorem zcp (T:Txt K mg ad):xz P w K mg base CX0 6 ad.f_web_for ad.e_web_for ["kind"] (@spD ⟨K⟩ 1 VL):=by
 letI:KK:=⟨K⟩
 have G_kind_good:=VT (P:=P) (w:=w) (base:=base) T
 have G_places_of:=VD (P:=P) (w:=w) (base:=base) T
 have G_are_tied:=za7 (P:=P) (w:=w) (base:=base) T
 refine yO (N:=["kind","word","size","many","ties","one"]) (ps:=["kind"]) T.d_web_for.fn xV (g:=Xu) λcdv A outer s H E hr=>?_
 unfold Xu ZU
 exact(ze (yG (vy (wC (zi G_kind_good hr rfl T.d_kind_good (za (edv 0) zd)))) (zh Zx) zE)
  (ze (yA (m:=false) (i:=1) xV.nd rfl (Or.inr rfl) (yz (edv 0) (zf zg) (λ_ _=>rfl)))
  (ze (yA (m:=false) (i:=2) xV.nd rfl (Or.inr rfl) (yz (edv 0) (zf zg) (λ_ _=>rfl)))
  (ze (yA (m:=false) (i:=3) xV.nd rfl (Or.inl rfl) (zi G_places_of hr rfl T.d_places_of (za (edv 1) (za (edv 2) zd))))
  (ze (Zb (i:=4) xV.nd rfl (Or.inl rfl) (wf zd))
  (ze (W0 PassesOwn.never rfl rfl T.z_range (za (edv 3) zd) (yW (zI (i:=5) xV.nd rfl (Or.inr rfl))) (zh (zgF (pv 4) (wz (ziR (L:=["other"]) (M:=["kind","word","size","many","ties","one"]) rfl (vQ (by rfl) (by rfl) (by rfl) (by with_unfolding_all rfl) (by rfl) (by rfl) (by kernel_rfl) (all_cons rfl (all_cons rfl (all_cons rfl all_nil)))) (Xm rfl T.z_range (za (zN (edv 5) (zf zg)) (za (edv 3) zd))) gs1 rb1 (λ_ _ _ _=>(zI (i:=0) zlK rfl (Or.inl rfl) (.inr rfl))) (λ_ _ _ _=>(wC (zi G_are_tied hr rfl T.d_are_tied (za (edv 2) (za (edv 3) (za (edv 6) (za (edv 0) zd))))))) (λ_ _ _ _=>(wG (za (edv 6) (za (edv 0) zd)))))) (λa b=>zeN PySem.F.plainAttrs_list PySem.F.slot_list_extend PySem.F.type_list_extend zah a b))))
  (Zc 4 (zh (zx (wG (za (edv 3) (za (yd zC yc rfl T.z_tuple zU (za (edv 4) zd)) zd))))))))))))
noncomputable def xI:SE->Ctl :=
 (zR (WN (zw 3 vd (zb (zc 0) (zb (eC (.int 3)) (zb (eC (.int 8)) zr)))))
  (yE (zw 1 VL (zb (vL (zb (eC (.str "ring")) (zb (zc 0) zr))) zr))))
noncomputable def yj:List D->Option D:=fnD 1 xI
noncomputable def zcf (n:Int):D:=match yj [.int n] with
 | some (.tup [_,t])=>t
 | _=>.non
theorem zfm {n:Int}(h3:3<=n)(h8:n<=8):∃ t,yj [.int n]=some (.tup [.int n,t]):=by
 have c:n=3\/n=4\/n=5\/n=6\/n=7\/n=8:=by omega
 rcases c with rfl | rfl | rfl | rfl | rfl | rfl
 .exact⟨zcf 3,by kernel_rfl⟩
 .exact⟨zcf 4,by kernel_rfl⟩
 .exact⟨zcf 5,by kernel_rfl⟩
 .exact⟨zcf 6,by kernel_rfl⟩
 .exact⟨zcf 7,by kernel_rfl⟩
 .exact⟨zcf 8,by kernel_rfl⟩
theorem YK (T:Txt K mg ad):xz P w K mg base CX0 7 ad.f_ring_of_places ad.e_ring_of_places ["n"] (@spD ⟨K⟩ 1 yj):=by
 letI:KK:=⟨K⟩
 have G_must_be_within:=Y4 (P:=P) (w:=w) (base:=base) T
 have G_web_for:=zcp (P:=P) (w:=w) (base:=base) T
 refine yO (N:=["n"]) (ps:=["n"]) T.d_ring_of_places.fn YU (g:=xI) λcdv A outer s H E hr=>?_
 unfold xI
 exact(ze (YL (zi G_must_be_within hr rfl T.d_must_be_within (za (edv 0) (za (zf zg) (za (zf zg) zd)))))
  (zh (zx (zi G_web_for hr rfl T.d_web_for (za (wG (za (vR vT) (za (edv 0) zd))) zd)))))
noncomputable def y4:SE->Ctl :=
 (zR (wQ false 3 (zw 1 yj (zb (zc 0) zr)))
  (zR (WN (zw 2 xp (zb (zc 3) (zb (zc 1) zr))))
  (WN (zw 2 y6 (zb (zc 3) (zb (zc 2) zr))))))
noncomputable def yp:List D->Option D:=fnD 4 y4
theorem WF {n p:Int}{hs:List Int}(h3:3<=n)(h8:n<=8)(hl:(hs.length:Int)=n)(hn:∀ x∈hs,0<=x)(hsum:hs.sum<=300)(hp:0<=p/\p < n):yp [.int n,.tup (hs.map .int),.int p]=some .non:=by
 obtain⟨t,et⟩:=zfm h3 h8
 refine zan (ρ:=[.v (.int n),.v (.tup (hs.map .int)),.v (.int p),.no]) rfl ?_
 unfold y4
 refine zL (wv (d:=.tup [.int n,t]) ?_) (zL (Xc (d:=.non) ?_) (Vd (Xc (d:=.non) ?_) rfl))
 .exact(show zw 1 yj (zb (zc 0) zr) [some (.int n),some (.tup (hs.map .int)),some (.int p),none]=_ from zH rfl et)
 .refine zH (ds:=[.tup [.int n,t],.tup (hs.map .int)]) rfl ?_
  show(if (noS (.tup (hs.map .int))&&decide (n<=1000)&&Yg n (.tup (hs.map .int)))=true then some D.non else none)=_
  rw[Wf,decide_eq_true (show n<=1000 by omega),zct hl hn hsum]
  rfl
 .refine zH (ds:=[.tup [.int n,t],.int p]) rfl ?_
  show(if (decide (0<=p)&&decide (p<=n - 1))=true then some D.non else none)=_
  rw[decide_eq_true hp.1,decide_eq_true (by omega)]
  rfl
theorem xF (T:Txt K mg ad):xz P w K mg base CX0 8 ad.f_must_fit_ring ad.e_must_fit_ring ["n","heap","place"] (@spD ⟨K⟩ 3 yp):=by
 letI:KK:=⟨K⟩
 have G_must_be_place:=Zl (P:=P) (w:=w) (base:=base) T
 have G_must_be_heap:=Z4 (P:=P) (w:=w) (base:=base) T
 have G_ring_of_places:=YK (P:=P) (w:=w) (base:=base) T
 refine yO (N:=["n","heap","place","web"]) (ps:=["n","heap","place"]) T.d_must_fit_ring.fn w8 (g:=y4) λcdv A outer s H E hr=>?_
 unfold y4
 exact(ze (yA (m:=false) (i:=3) w8.nd rfl (Or.inl rfl) (zi G_ring_of_places hr rfl T.d_ring_of_places (za (edv 0) zd)))
  (ze (YL (zi G_must_be_heap hr rfl T.d_must_be_heap (za (edv 3) (za (edv 1) zd))))
  (zh (YL (zi G_must_be_place hr rfl T.d_must_be_place (za (edv 3) (za (edv 2) zd)))))))
noncomputable def xu:SE->Ctl :=
 (zR (wQ false 2 (xU (fLC (Zd XJ (zb (eC (.int 1)) (zb (zc 0) zr))) b1 yU (zo wc (zo xc (zc 2) (zc 0)) (zc 1)))))
  (yE (vL (zb (zc 2) (zb (xU (zlr (zc 2))) zr)))))
noncomputable def zZ:List D->Option D:=fnD 3 xu
noncomputable def zB (n p s:Int):List Int:=(List.range (n - 1).toNat).map λk:Nat=>(p+s*((k:Int)+1)) % n
theorem zF (n p s:Int):(zB n p s).length=(n - 1).toNat:=by unfold zB;rw[List.length_map,List.length_range]
theorem YR {n p s:Int}{k:Nat}(h:k < (n - 1).toNat):(zB n p s)[k]?=some ((p+s*((k:Int)+1)) % n):=by
 unfold zB
 rw[List.getElem?_map,List.getElem?_range h]
 rfl
theorem vK {n p s x:Int}(h:0 < n)(hx:x∈zB n p s):0<=x/\x < n:=by
 obtain⟨k,_,rfl⟩:=List.mem_map.mp hx
 exact⟨Int.emod_nonneg _ (by omega),Int.emod_lt_of_pos _ h⟩
theorem ZC {n p:Int}(h:1<=n):(zB n p 1).reverse=zB n p (-1):=by
 refine List.ext_getElem? λk=>?_
 by_cases hk:k < (n - 1).toNat
 .rw[List.getElem?_reverse (by rw[zF];exact hk),zF,YR (by omega),YR hk]
  have e:p+1*((((n - 1).toNat - 1 - k:Nat):Int)+1)=(p+-1*((k:Int)+1))+n:=by omega
  rw[e,Int.add_emod_right]
 .rw[List.getElem?_eq_none (by rw[List.length_reverse,zF];omega),List.getElem?_eq_none (by rw[zF];omega)]
theorem Xv {n p:Int}(h3:3<=n)(h8:n<=8):zZ [.int n,.int p]=some (.tup [.lst ((zB n p 1).map .int),.lst ((zB n p (-1)).map .int)]):=by
 refine zan (ρ:=[.v (.int n),.v (.int p),.no]) rfl ?_
 unfold xu
 refine zL (wv (d:=.lst ((zB n p 1).map .int)) (vD ?_)) (Zp (wn (d:=.tup [.lst ((zB n p 1).map .int),.lst ((zB n p (-1)).map .int)]) ?_) rfl)
 .unfold fLC
  have e1:Zd XJ (zb (eC (.int 1)) (zb (zc 0) zr)) (visF [.v (.int n),.v (.int p),.no])=some (WK 1 (n - 1).toNat):=by
   show XJ [.int 1,.int n]=_
   rw[Wa (by decide) (by decide) (by omega) (by omega)]
  rw[e1,Option.bind_some,if_pos (wg (by rw[za9];omega))]
  unfold zB
  rw[List.map_map]
  refine vx (λj:Nat=>D.int (1+(j:Int))) _ (List.range (n - 1).toNat) λj _=>⟨[some (.int (1+(j:Int)))],rfl,rfl,?_⟩
  refine zq (x:=.int (p+(1+(j:Int)))) (y:=.int n) rfl rfl ?_
  rw[yo (by omega)]
  show some (D.int _)=some (D.int _)
  rw[show p+(1+(j:Int))=p+1*((j:Int)+1) by omega]
 .refine V1 (zp (d:=.lst ((zB n p 1).map .int)) rfl (zp (d:=.lst ((zB n p (-1)).map .int)) (vD ?_) zQ)) (by show 2<=1000;decide)
  show zlr (zc 2) [some (.int n),some (.int p),some (.lst ((zB n p 1).map .int))]=_
  rw[<-ZC (by omega),List.map_reverse]
  rfl
theorem x6 (T:Txt K mg ad):xz P w K mg base CX0 1 ad.f_sweep_orders ad.e_sweep_orders ["n","place"] (@spD ⟨K⟩ 2 zZ):=by
 letI:KK:=⟨K⟩
 refine yO (N:=["n","place","upwards"]) (ps:=["n","place"]) T.d_sweep_orders.fn vt (g:=xu) λcdv A outer s H E hr=>?_
 unfold xu
 exact(ze (zh0 (m:=false) (i:=2) (zhO (L:=["at"]) (M:=["n","place","upwards"]) vt.nd rfl (Or.inl rfl) rfl (vQ (by rfl) (by rfl) (by rfl) (by with_unfolding_all rfl) (by rfl) (by rfl) (by kernel_rfl) (all_cons rfl (all_cons rfl all_nil))) (Xm rfl T.z_range (za (zf zg) (za (edv 0) zd))) gs1 rb1 (λ_ _ _ _=>(zI (i:=0) zk6 rfl (Or.inl rfl) (.inr rfl))) (λ_ _ _ _=>(xx (zN (edv 2) (edv 0)) (edv 1)))))
  (zh (zx (wG (za (edv 2) (za (wz (zcB rfl rfl T.z_list rfl T.z_reversed (edv 2))) zd))))))
noncomputable def chk (hs:List Int):Int->List Int->List Int->Bool
 | a,o::os,x::xs=>decide (vAt hs o+a<=2*x+1)&&chk hs x os xs
 | _,_,_=>true
noncomputable def rgB (hs:List Int):Int->List Int->List D->Bool
 | a,o::os,e::es=>match e with
  | .int x=>decide (0<=x)&&decide (vAt hs o+a<=2*x+1)&&rgB hs x os es
  | _=>false
 | a,_,_=>decide (a=0)
noncomputable def ZJ (hs os:List Int):D->Bool
 | .tup es=>decide (es.length=os.length)&&rgB hs 0 os es
 | _=>false
noncomputable def zD (a:Int):List Int->Int
 | []=>a
 | x::xs=>zD x xs
theorem Zv {hs:List Int}:∀ {os xs:List Int} {a:Int},xs.length=os.length->(∀ x∈xs,0<=x)->rgB hs a os (xs.map .int)=(chk hs a os xs&&decide (zD a xs=0))
 | [],[],a,_,_=>rfl
 | o::os,x::xs,a,hl,hn=>by
  show(decide (0<=x)&&decide (vAt hs o+a<=2*x+1)&&rgB hs x os (xs.map .int))=(decide (vAt hs o+a<=2*x+1)&&chk hs x os xs&&decide (zD x xs=0))
  rw[Zv (by simpa using hl) λy hy=>hn y (List.mem_cons_of_mem _ hy),decide_eq_true (hn x List.mem_cons_self),Bool.true_and,Bool.and_assoc]
 | [],_::_,_,hl,_=>by cases hl
 | _::_,[],_,hl,_=>by cases hl
theorem zaw {hs:List Int}:∀ {os:List Int} {es:List D} {a:Int},es.length=os.length->rgB hs a os es=true->es.all yC=true
 | [],[],_,_,_=>rfl
 | o::os,e::es,a,hl,h=>by
  cases e with
  | int x =>
   have h:(decide (0<=x)&&decide (vAt hs o+a<=2*x+1)&&rgB hs x os es)=true:=h
   rw[Bool.and_eq_true,Bool.and_eq_true]at h
   rw[List.all_cons,Bool.and_eq_true]
   exact⟨h.1.1,zaw (by simpa using hl) h.2⟩
  | _=>cases h
 | [],_::_,_,hl,_=>by cases hl
 | _::_,[],_,hl,_=>by cases hl
theorem zax:∀ {xs:List Int} (a:Int),xs≠[]->xs[xs.length - 1]?=some (zD a xs)
 | [x],a,_=>rfl
 | x::y::xs,a,_=>by
  have:=zax (xs:=y::xs) x (by intro h;cases h)
  show(x::y::xs)[xs.length+1]?=some (zD y xs)
  rw[List.getElem?_cons_succ]
  exact this
theorem Zy {xs:List Int}(h:xs≠[]):atI (xs.map D.int) (-1)=some (.int (zD 0 xs)):=by
 have hl:0 < xs.length:=List.length_pos_iff.mpr h
 unfold atI ixN
 rw[List.length_map,if_neg (by decide),if_pos (by omega)]
 show(xs.map D.int)[(-1+(xs.length:Int)).toNat]?=_
 rw[show(-1+(xs.length:Int)).toNat=xs.length - 1 by omega,List.getElem?_map,zax 0 h]
 rfl
theorem zfe {α β:Type}{xs:List α}{ys:List β}{i:Nat}{t:α × β}(h:(xs.zip ys)[i]?=some t):xs.drop i=t.1::xs.drop (i+1)/\ys.drop i=t.2::ys.drop (i+1):=by
 obtain⟨h1,h2⟩:=List.getElem?_eq_some_iff.mp h
 rw[List.length_zip]at h1
 rw[List.getElem_zip]at h2
 constructor
 .rw[List.drop_eq_getElem_cons (by omega),<- h2]
 .rw[List.drop_eq_getElem_cons (by omega),<- h2]
theorem Wd {n p s:Int}(h3:3<=n):zB n p s≠[]:=λe=>by
 have:=zF n p s
 rw[e,List.length_nil]at this
 omega
noncomputable def xK:SE->Ctl :=
 (zR (sIf (tOf (zo gtD (zo xc (zo ixD (zc 0) (zc 4)) (zc 3)) (zo xc (zo vg (eC (.int 2)) (zc 5)) (eC (.int 1))))) (yE (eC (.bl false))) zW)
  (wQ false 3 (zc 5)))
noncomputable def xt:SE->Ctl :=
 (zR (sIf (We (wb (tOf (zw 2 yr (zb (eFn Zk (zb (zc 1) zr)) (zb (zc 2) zr))))) (tOf (zo neD (zo ixD (zc 2) (eUn zbp (eC (.int 1)))) (eC (.int 0))))) (yE (eC (.bl false))) zW)
  (zR (wQ false 3 (eC (.int 0)))
  (zR (XS (Yl (zb (zc 1) (zb (zc 2) zr))) (zaO 2 (wA (xj 4) (wA (xj 5) zbX))) xK)
  (yE (eC (.bl true))))))
noncomputable def yk:List D->Option D:=fnD 6 xt
theorem VC {hs os:List Int}{d:D}(hd:noS d=true)(h0:os≠[])(h8:os.length<=8)(hr:∀ o∈os,0<=o/\o < (hs.length:Int)):yk [.tup (hs.map .int),.lst (os.map .int),d]=some (.bl (ZJ hs os d)):=by
 have el:eFn Zk (zb (zc 1) zr) (visG [.v (.tup (hs.map .int)),.v (.lst (os.map .int)),.v d,.no,.no,.no])=some (.int (os.length:Int)):=by
  show some (D.int ((os.map D.int).length:Int))=_
  rw[List.length_map]
 have ec:yr [.int (os.length:Int),d]=some (.bl (zV (os.length:Int) d)):=by
  show(if (noS d&&decide ((os.length:Int)<=1000))=true then some (D.bl (zV (os.length:Int) d))else none)=_
  rw[hd,decide_eq_true (by omega)]
  rfl
 refine zan (ρ:=[.v (.tup (hs.map .int)),.v (.lst (os.map .int)),.v d,.no,.no,.no]) rfl ?_
 unfold xt
 by_cases hc:zV (os.length:Int) d=true
 .rw[hc]at ec
  cases d with
  | tup es =>
   unfold zV at hc
   rw[Bool.and_eq_true,decide_eq_true_eq]at hc
   obtain⟨xs,rfl,hn⟩:=Z6 hc.2
   have hl:xs.length=os.length:=by have:=hc.1;rw[List.length_map]at this;omega
   have hx0:xs≠[]:=λe=>h0 (List.eq_nil_of_length_eq_zero (by rw[<-hl,e];rfl))
   have er:ZJ hs os (.tup (xs.map .int))=(chk hs 0 os xs&&decide (zD 0 xs=0)):=by
    show(decide ((xs.map D.int).length=os.length)&&rgB hs 0 os (xs.map .int))=_
    rw[List.length_map,decide_eq_true hl,Bool.true_and,Zv hl hn]
   rw[er]
   refine wy (zcN (c:=!decide (zD 0 xs=0)) ?_ (λz=>Zp rfl ?_) (λz=>Vd rfl ?_))
   .refine zbl (zgo (b:=true) (vV (zH (zp el rfl) ec))) (vV ?_)
    refine zq (x:=.int (zD 0 xs)) (y:=.int 0) ?_ rfl rfl
    exact zq (x:=.tup (xs.map .int)) (y:=.int (-1)) rfl rfl (Zy hx0)
   .rw[Bool.not_eq_true']at z
    rw[z,Bool.and_false]
   .rw[Bool.not_eq_false']at z
    rw[z,Bool.and_true]
    refine zL rfl (wy (zcA (ds:=(os.zip xs).map zX) (λi ρ=>∃ a o4 o5,ρ=[.v (.tup (hs.map .int)),.v (.lst (os.map .int)),.v (.tup (xs.map .int)),.v (.int a),o4,o5]/\chk hs 0 os xs=chk hs a (os.drop i) (xs.drop i)) ?_ ⟨0,_,_,rfl,rfl⟩ ?_ ?_))
    .show(if (os.map D.int).length<=(xs.map D.int).length then some (zck (os.map .int) (xs.map .int))else none)=_
     rw[V6,if_pos (by rw[List.length_map,List.length_map,hl];exact Nat.le_refl _)]
    .rintro i dd ρ hdd ⟨a,o4,o5,rfl,hch⟩
     rw[List.getElem?_map]at hdd
     obtain⟨t,ht,rfl⟩:=Option.map_eq_some_iff.mp hdd
     obtain⟨d1,d2⟩:=zfe ht
     have ho:t.1∈os:=List.mem_of_mem_drop (i:=i) (by rw[d1];exact List.mem_cons_self)
     have hx:t.2∈xs:=List.mem_of_mem_drop (i:=i) (by rw[d2];exact List.mem_cons_self)
     rw[d1,d2]at hch
     have hch:chk hs 0 os xs=(decide (vAt hs t.1+a<=2*t.2+1)&&chk hs t.2 (os.drop (i+1)) (xs.drop (i+1))):=hch
     refine⟨_,rfl,?_⟩
     unfold xK
     refine wy (zcN (c:=!decide (vAt hs t.1+a<=2*t.2+1)) ?_ (λz=>Zp rfl ?_) (λz=>Vd rfl (Vd rfl ⟨t.2,_,_,rfl,?_⟩)))
     .refine vV (zq (x:=.int (vAt hs t.1+a)) (y:=.int (2*t.2+1)) (zq (x:=.int (vAt hs t.1)) (y:=.int a) ?_ rfl rfl) (zq (x:=.int (2*t.2)) (y:=.int 1) (zq (x:=.int 2) (y:=.int t.2) rfl rfl ?_) rfl rfl) ?_)
      .exact zq (x:=.tup (hs.map .int)) (y:=.int t.1) rfl rfl (wW (hr _ ho).1 (hr _ ho).2)
      .exact WO (by decide) (by decide)
      .show some (D.bl (decide (2*t.2+1 < vAt hs t.1+a)))=_
       congr 2
       rw[<-decide_not]
       exact decide_eq_decide.mpr (by omega)
     .rw[Bool.not_eq_true']at z
      rw[hch,z]
      rfl
     .rw[Bool.not_eq_false']at z
      rw[hch,z]
      rfl
    .rintro ρ ⟨a,o4,o5,rfl,hch⟩
     refine Zp rfl ?_
     rw[hch,List.length_map,List.length_zip,hl,Nat.min_self,List.drop_length]
     rfl
  | _=>cases hc
 .have hc:zV (os.length:Int) d=false:=by simpa using hc
  rw[hc]at ec
  have er:ZJ hs os d=false:=by
   cases d with
   | tup es =>
    cases h:ZJ hs os (.tup es) with
    | false=>rfl
    | true =>
     have h:(decide (es.length=os.length)&&rgB hs 0 os es)=true:=h
     rw[Bool.and_eq_true,decide_eq_true_eq]at h
     have hc:(decide ((es.length:Int)=(os.length:Int))&&es.all yC)=false:=hc
     rw[zaw h.1 h.2,Bool.and_true,decide_eq_false_iff_not]at hc
     exact absurd (by rw[h.1]) hc
   | _=>rfl
  rw[er]
  exact wy (zcN (c:=true) (zgy (zgo (b:=false) (vV (zH (zp el rfl) ec)))) (λ_=>Zp rfl rfl) (λz=>by cases z))
theorem ZR (T:Txt K mg ad):xz P w K mg base CX0 3 ad.f_bounds_sweep ad.e_bounds_sweep ["heap","order","numbers"] (@spD ⟨K⟩ 3 yk):=by
 letI:KK:=⟨K⟩
 have G_are_counts:=Yk (P:=P) (w:=w) (base:=base) T
 refine yO (N:=["heap","order","numbers","ahead","place","number"]) (ps:=["heap","order","numbers"]) T.d_bounds_sweep.fn yq (g:=xt) λcdv A outer s H E hr=>?_
 unfold xt xK
 exact(ze (yG (zhl (zcz (vy (wC (zi G_are_counts hr rfl T.d_are_counts (za (zP zM x4 rfl T.z_len vp (za (edv 1) zd)) (za (edv 2) zd))))) (Vr (zT zcm XW (zG _) (yz (edv 2) (zbL (zf zg)) (λ_ _=>rfl)) (zf zg))))) (zh (zx (ve vf))) zE)
  (ze (yA (m:=false) (i:=3) yq.nd rfl (Or.inl rfl) (zf zg))
  (ze (XQ PassesOwn.never rfl (zgP rfl T.z_zip (za (edv 1) (za (edv 2) zd))) (zei rfl (wK (yW (zI (i:=4) yq.nd rfl (Or.inl rfl))) (wK (yW (zI (i:=5) yq.nd rfl (Or.inl rfl))) zaD))) (ze (yG (zT XL yg (zG _) (zN (yz (edv 0) (edv 4) (λ_ _=>rfl)) (edv 3)) (zN (vb (zf zg) (edv 5)) (zf zg))) (zh (zx (ve vf))) zE)
  (zh (yA (m:=false) (i:=3) yq.nd rfl (Or.inl rfl) (edv 5)))))
  (zh (zx (ve vf))))))
noncomputable def xR:SE->Ctl :=
 (zR (WN (zw 3 yp (zb (zc 0) (zb (zc 1) (zb (zc 2) zr)))))
  (zR (sIf (We (wb (tOf (eUn (vk .tuple) (zc 3)))) (We (tOf (zo neD (eFn Zk (zb (zc 3) zr)) (eC (.int 2)))) (tOf (zo gtD (zo ixD (zc 1) (zc 2)) (eC (.int 0)))))) (yE (eC (.bl false))) zW)
  (yE (eFn zil (zb (xU (fLC (Yl (zb (zw 2 zZ (zb (zc 0) (zb (zc 2) zr))) (zb (zc 3) zr))) b2 yU (zw 3 yk (zb (zc 3) (zb (zc 0) (zb (zc 1) zr)))))) zr)))))
noncomputable def xP:List D->Option D:=fnD 4 xR
noncomputable def Vl (n:Int)(hs:List Int)(p:Int):D->Bool
 | .tup [a,b]=>!decide (0 < vAt hs p)&&(ZJ hs (zB n p 1) a&&ZJ hs (zB n p (-1)) b)
 | _=>false
theorem zeb {n:Int}{hs:List Int}{p:Int}{es:List D}(h:es.length≠2):Vl n hs p (.tup es)=false:=by
 unfold Vl
 split
 .rename_i e
  injection e with e
  rw[e]at h
  exact absurd rfl h
 .rfl
theorem zbZ {n p:Int}{hs:List Int}{d:D}(h3:3<=n)(h8:n<=8)(hl:(hs.length:Int)=n)(hn:∀ x∈hs,0<=x)(hsum:hs.sum<=300)(hp:0<=p/\p < n)(hd:noS d=true):xP [.int n,.tup (hs.map .int),.int p,d]=some (.bl (Vl n hs p d)):=by
 have ef:=WF h3 h8 hl hn hsum hp
 refine zan (ρ:=[.v (.int n),.v (.tup (hs.map .int)),.v (.int p),.v d]) rfl ?_
 unfold xR
 refine zL (Xc (d:=.non) (zH rfl ef)) ?_
 cases d with
 | scr _=>cases hd
 | tup es =>
  have e2:tOf (zo gtD (zo ixD (zc 1) (zc 2)) (eC (.int 0))) (visG [.v (.int n),.v (.tup (hs.map .int)),.v (.int p),.v (.tup es)])=some (decide (0 < vAt hs p)) :=
   vV (zq (x:=.int (vAt hs p)) (y:=.int 0) (zq (x:=.tup (hs.map .int)) (y:=.int p) rfl rfl (zfP hp hl)) rfl rfl)
  by_cases h2:es.length=2
  .obtain⟨a,b,rfl⟩:=zgY h2
   have ha:noS a=true:=ZO (ds:=[a,b]) (i:=0) hd rfl
   have hb:noS b=true:=ZO (ds:=[a,b]) (i:=1) hd rfl
   refine wy (zcN (c:=decide (0 < vAt hs p)) (zbl rfl (zbl rfl e2)) (λz=>Zp rfl ?_) (λz=>Vd rfl (Zp (wn (d:=.bl (ZJ hs (zB n p 1) a&&ZJ hs (zB n p (-1)) b)) ?_) ?_)))
   .unfold Vl
    rw[z]
    rfl
   .have r1:=λx hx=>hl ▸ vK (n:=n) (p:=p) (s:=1) (x:=x) (by omega) hx
    have r2:=λx hx=>hl ▸ vK (n:=n) (p:=p) (s:=-1) (x:=x) (by omega) hx
    have e3:=VC (hs:=hs) ha (Wd (p:=p) (s:=1) h3) (by rw[zF];omega) r1
    have e4:=VC (hs:=hs) hb (Wd (p:=p) (s:=-1) h3) (by rw[zF];omega) r2
    have e5:=Xv (p:=p) h3 h8
    refine Yp (ds:=[.lst [.bl (ZJ hs (zB n p 1) a),.bl (ZJ hs (zB n p (-1)) b)]]) (zp (vD ?_) zQ) ?_
    .unfold fLC
     have ez:Yl (zb (zw 2 zZ (zb (zc 0) (zb (zc 2) zr))) (zb (zc 3) zr)) (visG [.v (.int n),.v (.tup (hs.map .int)),.v (.int p),.v (.tup [a,b])])=some [.tup [.lst ((zB n p 1).map .int),a],.tup [.lst ((zB n p (-1)).map .int),b]]:=by
      unfold Yl
      rw[zp (zH (ds:=[.int n,.int p]) rfl e5) (ds:=[.tup [a,b]]) rfl,Option.bind_some]
      rfl
     rw[ez,Option.bind_some,if_pos (wg (by show 2<=1000;decide))]
     have i1:zw 3 yk (zb (zc 3) (zb (zc 0) (zb (zc 1) zr))) ([some (.lst ((zB n p 1).map .int)),some a]++visG [.v (.int n),.v (.tup (hs.map .int)),.v (.int p),.v (.tup [a,b])])=some (.bl (ZJ hs (zB n p 1) a)):=zH rfl e3
     have i2:zw 3 yk (zb (zc 3) (zb (zc 0) (zb (zc 1) zr))) ([some (.lst ((zB n p (-1)).map .int)),some b]++visG [.v (.int n),.v (.tup (hs.map .int)),.v (.int p),.v (.tup [a,b])])=some (.bl (ZJ hs (zB n p (-1)) b)):=zH rfl e4
     have:=vx (b:=b2) (t:=yU) (f:=zw 3 yk (zb (zc 3) (zb (zc 0) (zb (zc 1) zr)))) (ρ:=visG [.v (.int n),.v (.tup (hs.map .int)),.v (.int p),.v (.tup [a,b])]) (λt:D × Bool=>t.1) (λt=>.bl t.2) [(.tup [.lst ((zB n p 1).map .int),a],ZJ hs (zB n p 1) a),(.tup [.lst ((zB n p (-1)).map .int),b],ZJ hs (zB n p (-1)) b)] λt ht=>by
      rcases List.mem_cons.mp ht with rfl | ht
      .exact⟨_,rfl,rfl,i1⟩
      .rcases List.mem_singleton.mp ht with rfl
       exact⟨_,rfl,rfl,i2⟩
     exact this
    .show some (D.bl ([ZJ hs (zB n p 1) a,ZJ hs (zB n p (-1)) b].all id))=_
     simp
   .unfold Vl
    rw[z]
    rfl
  .rw[zeb h2]
   refine wy (zcN (c:=true) (zbl rfl (zgy (vV (zq (x:=.int (es.length:Int)) (y:=.int 2) rfl rfl ?_)))) (λ_=>Zp rfl rfl) (λz=>by cases z))
   show some (D.bl (!decide ((es.length:Int)=2)))=_
   rw[decide_eq_false (by omega)]
   rfl
 | _=>exact wy (zcN (c:=true) rfl (λ_=>Zp rfl rfl) (λz=>by cases z))
theorem XE (T:Txt K mg ad):xz P w K mg base CX0 9 ad.f_sweep_holds ad.e_sweep_holds ["n","heap","place","thing"] (@spD ⟨K⟩ 4 xP):=by
 letI:KK:=⟨K⟩
 have G_must_fit_ring:=xF (P:=P) (w:=w) (base:=base) T
 have G_sweep_orders:=x6 (P:=P) (w:=w) (base:=base) T
 have G_bounds_sweep:=ZR (P:=P) (w:=w) (base:=base) T
 refine yO (N:=["n","heap","place","thing"]) (ps:=["n","heap","place","thing"]) T.d_sweep_holds.fn XD (g:=xR) λcdv A outer s H E hr=>?_
 unfold xR
 exact(ze (YL (zi G_must_fit_ring hr rfl T.d_must_fit_ring (za (edv 0) (za (edv 1) (za (edv 2) zd)))))
  (ze (yG (zhl (zcz (vy (wC (xW .tuple rfl T.z_isinstance (edv 3) (Yb (v:=.ty "tuple") rfl T.z_tuple zU rfl)))) (zcz (zT zcm XW (zG _) (zP zM x4 rfl T.z_len vp (za (edv 3) zd)) (zf zg)) (Vr (zT XL yg (zG _) (yz (edv 1) (edv 2) (λ_ _=>rfl)) (zf zg)))))) (zh (zx (ve vf))) zE)
  (zh (zx (zP (Xy rfl) za8 rfl T.z_all zdf (za (wz (Xs (L:=["order","numbers"]) (M:=["n","heap","place","thing"]) rfl (vQ (by rfl) (by rfl) (by rfl) (by with_unfolding_all rfl) (by rfl) (by rfl) (by kernel_rfl) (all_cons rfl all_nil)) (zgP rfl T.z_zip (za (zi G_sweep_orders hr rfl T.d_sweep_orders (za (edv 0) (za (edv 2) zd))) (za (edv 3) zd))) gs2 rb2 (λ_ _ _ _=>(zdr rfl (Yt (zI (i:=0) zkh rfl (Or.inl rfl) (.inr rfl)) (Yt (zI (i:=1) zkh rfl (Or.inl rfl) (.inr rfl)) zaz)))) (λ_ _ _ _=>(zi G_bounds_sweep hr rfl T.d_bounds_sweep (za (edv 3) (za (edv 0) (za (edv 1) zd))))))) zd))))))
noncomputable def car (hs:List Int):Int->List Int->List Int
 | _,[]=>[]
 | a,o::os=>(vAt hs o+a) / 2::car hs ((vAt hs o+a) / 2) os
theorem yT (hs:List Int):∀ (os:List Int) (a:Int),(car hs a os).length=os.length
 | [],_=>rfl
 | o::os,a=>by
  show(car hs _ os).length+1=_
  rw[yT hs os]
  rfl
theorem VH {hs:List Int}:∀ {os:List Int} {a:Int},(∀ o∈os,0<=vAt hs o)->0<=a->∀ c∈car hs a os,0<=c
 | [],_,_,_,_,h=>by cases h
 | o::os,a,h,ha,c,hc=>by
  have h0:=h o List.mem_cons_self
  have h1:0<=(vAt hs o+a) / 2:=Int.ediv_nonneg (by omega) (by decide)
  rcases List.mem_cons.mp hc with rfl | hc
  .exact h1
  .exact VH (λx hx=>h x (List.mem_cons_of_mem _ hx)) h1 c hc
theorem Ww {hs:List Int}:∀ (os:List Int) (a:Int) (i:Nat) (o:Int),os[i]?=some o->(car hs a os).take (i+1)=(car hs a os).take i++[(vAt hs o+zD a ((car hs a os).take i)) / 2]
 | x::os,a,0,o,h=>by
  cases h
  rfl
 | x::os,a,i+1,o,h=>by
  show(vAt hs x+a) / 2::(car hs ((vAt hs x+a) / 2) os).take (i+1)=(vAt hs x+a) / 2::((car hs ((vAt hs x+a) / 2) os).take i++[(vAt hs o+zD ((vAt hs x+a) / 2) ((car hs ((vAt hs x+a) / 2) os).take i)) / 2])
  rw[Ww os _ i o (by simpa using h)]
theorem YZ:∀ (xs:List Int) (a x:Int),zD a (xs++[x])=x
 | [],_,_=>rfl
 | y::xs,_,x=>YZ xs y x
theorem zbR {xs:List Int}:∀ {a:Int},0<=a->(∀ x∈xs,0<=x)->0<=zD a xs:=by
 induction xs with
 | nil=>exact λh _=>h
 | cons x xs ih=>exact λ_ h=>ih (h x List.mem_cons_self) λy hy=>h y (List.mem_cons_of_mem _ hy)
noncomputable def zjK (hs:List Int):List Int->Int
 | []=>0
 | o::os=>vAt hs o+2*zjK hs os
theorem ZQ {hs:List Int}:∀ {os:List Int} {a:Int},a+zjK hs os+1<=2 ^ os.length*(zD a (car hs a os)+1)
 | [],a=>by
  show a+0+1<=1*(a+1)
  omega
 | o::os,a=>by
  have ih:=ZQ (hs:=hs) (os:=os) (a:=(vAt hs o+a) / 2)
  show a+(vAt hs o+2*zjK hs os)+1<=2 ^ (os.length+1)*(zD ((vAt hs o+a) / 2) (car hs ((vAt hs o+a) / 2) os)+1)
  rw[Int.pow_succ,Int.mul_comm (2 ^ os.length) 2,Int.mul_assoc]
  generalize 2 ^ os.length*(zD ((vAt hs o+a) / 2) (car hs ((vAt hs o+a) / 2) os)+1)=R at ih ⊢
  omega
theorem zdo {hs:List Int}:∀ {os:List Int} {a:Int},chk hs a os (car hs a os)=true
 | [],_=>rfl
 | o::os,a=>by
  show(decide (vAt hs o+a<=2*((vAt hs o+a) / 2)+1)&&chk hs ((vAt hs o+a) / 2) os (car hs ((vAt hs o+a) / 2) os))=true
  rw[zdo,decide_eq_true (by omega)]
  rfl
noncomputable def stL (p:Int):List Int->List Int->List Tie
 | [o],c::_=>List.replicate c.toNat (o,p)
 | o::o2::os,c::cs=>List.replicate c.toNat (o,o2)++stL p (o2::os) cs
 | _,_=>[]
noncomputable def plS (gs:List Int)(s:Tie):List Int:=(gs.set s.1.toNat (vAt gs s.1 - 2)).set s.2.toNat (vAt (gs.set s.1.toNat (vAt gs s.1 - 2)) s.2+1)
inductive XN (n:Int):List Int->List Tie->List Int->Prop
 | nil {gs:List Int}:XN n gs [] gs
 | cons {gs gs':List Int} {s:Tie} {ss:List Tie}:(0<=s.1/\s.1 < n)->(0<=s.2/\s.2 < n)->2<=vAt gs s.1->XN n (plS gs s) ss gs'->XN n gs (s::ss) gs'
theorem XN.app {n:Int}{gs gs1 gs2:List Int}{ss tt:List Tie}(h:XN n gs ss gs1)(h2:XN n gs1 tt gs2):XN n gs (ss++tt) gs2:=by
 induction h with
 | nil=>exact h2
 | cons a b c _ ih=>exact .cons a b c (ih h2)
theorem za6 {ls:List Int}{i j:Int}{x:Int}(hi:0<=i)(hl:i < (ls.length:Int))(hj:0<=j):vAt (ls.set i.toNat x) j=if j=i then x else vAt ls j:=by
 unfold vAt
 rw[List.getD_eq_getElem?_getD,List.getD_eq_getElem?_getD,List.getElem?_set]
 by_cases c:j=i
 .subst c
  rw[if_pos rfl,if_pos rfl,if_pos (by omega)]
  rfl
 .rw[if_neg (by omega),if_neg c]
theorem zis (gs:List Int)(s:Tie):(plS gs s).length=gs.length:=by unfold plS;rw[List.length_set,List.length_set]
theorem zdh {n:Int}{gs:List Int}{a b:Int}(hl:(gs.length:Int)=n)(ha:0<=a/\a < n)(hb:0<=b/\b < n)(hab:a≠b){v:Int}(hv:0<=v):vAt (plS gs (a,b)) v=if v=b then vAt gs b+1 else if v=a then vAt gs a - 2 else vAt gs v:=by
 unfold plS
 simp only
 rw[za6 hb.1 (by rw[List.length_set];omega) hv,za6 ha.1 (by omega) hb.1,za6 ha.1 (by omega) hv,if_neg (Ne.symm hab)]
theorem Xd {n:Int}{a b:Int}(ha:0<=a/\a < n)(hb:0<=b/\b < n)(hab:a≠b):∀ (c:Nat) (gs:List Int),(gs.length:Int)=n->2*(c:Int)<=vAt gs a ->
 ∃ gs',XN n gs (List.replicate c (a,b)) gs'/\(gs'.length:Int)=n/\∀ v,0<=v->vAt gs' v=if v=b then vAt gs b+(c:Int)else if v=a then vAt gs a - 2*(c:Int)else vAt gs v
 | 0,gs,hl,_=>⟨gs,.nil,hl,λv _=>by
  by_cases c1:v=b
  .rw[if_pos c1,c1];omega
  .rw[if_neg c1]
   by_cases c2:v=a
   .rw[if_pos c2,c2];omega
   .rw[if_neg c2]⟩
 | c+1,gs,hl,h=>by
  have e1:=λ{v:Int} (hv:0<=v)=>zdh (v:=v) hl ha hb hab hv
  have ea:vAt (plS gs (a,b)) a=vAt gs a - 2:=by rw[e1 ha.1,if_neg hab,if_pos rfl]
  have eb:vAt (plS gs (a,b)) b=vAt gs b+1:=by rw[e1 hb.1,if_pos rfl]
  obtain⟨gs',h1,h2,h3⟩:=Xd ha hb hab c (plS gs (a,b)) (by rw[zis];exact hl) (by rw[ea];omega)
  refine⟨gs',?_,h2,λv hv=>?_⟩
  .rw[List.replicate_succ]
   exact .cons ha hb (by show 2<=vAt gs a;omega) h1
  .rw[h3 v hv,ea,eb,e1 hv]
   by_cases c1:v=b
   .rw[if_pos c1,if_pos c1];omega
   .rw[if_neg c1,if_neg c1,if_neg c1]
    by_cases c2:v=a
    .rw[if_pos c2,if_pos c2];omega
    .rw[if_neg c2,if_neg c2,if_neg c2]
theorem Z9 {n p:Int}{hs:List Int}(hp:0<=p/\p < n):∀ (os:List Int) (a:Int) (gs:List Int),(∀ o∈os,0<=o/\o < n)->(p::os).Nodup->(gs.length:Int)=n->os≠[]->(∀ o∈os,0<=vAt hs o)->0<=a ->
 (∀ o∈os.tail,vAt gs o=vAt hs o)->(∀ o,os.head?=some o->vAt gs o=vAt hs o+a) ->
 ∃ gs',XN n gs (stL p os (car hs a os)) gs'/\(gs'.length:Int)=n/\vAt gs' p=vAt gs p+zD a (car hs a os)
 | [],_,_,_,_,_,h,_,_,_,_=>absurd rfl h
 | [o],a,gs,hr,nd,hl,_,hn,ha,_,hh=>by
  have ho:=hr o List.mem_cons_self
  have hop:o≠p:=λe=>(List.nodup_cons.mp nd).1 (by rw[e];exact List.mem_cons_self)
  have e0:=hh o rfl
  have h0:=hn o List.mem_cons_self
  have hc:0<=(vAt hs o+a) / 2:=Int.ediv_nonneg (by omega) (by decide)
  obtain⟨gs',h1,h2,h3⟩:=Xd ho hp hop ((vAt hs o+a) / 2).toNat gs hl (by rw[e0];omega)
  refine⟨gs',h1,h2,?_⟩
  rw[h3 p hp.1,if_pos rfl]
  show vAt gs p+_=vAt gs p+(vAt hs o+a) / 2
  omega
 | o::o2::os,a,gs,hr,nd,hl,_,hn,ha,ht,hh=>by
  have ho:=hr o List.mem_cons_self
  have ho2:=hr o2 (by simp)
  have nd1:=List.nodup_cons.mp nd
  have nd2:=List.nodup_cons.mp nd1.2
  have ho12:o≠o2:=λe=>nd2.1 (by rw[e];exact List.mem_cons_self)
  have hpo:p≠o:=λe=>nd1.1 (by rw[e];exact List.mem_cons_self)
  have hpo2:p≠o2:=λe=>nd1.1 (by rw[e];simp)
  have e0:=hh o rfl
  have h0:=hn o List.mem_cons_self
  have hc:0<=(vAt hs o+a) / 2:=Int.ediv_nonneg (by omega) (by decide)
  obtain⟨g1,h1,h2,h3⟩:=Xd ho ho2 ho12 ((vAt hs o+a) / 2).toNat gs hl (by rw[e0];omega)
  have nd3:(p::o2::os).Nodup:=List.nodup_cons.mpr ⟨λh=>nd1.1 (List.mem_cons_of_mem _ h),nd2.2⟩
  have t1:∀ x∈(o2::os).tail,vAt g1 x=vAt hs x:=λx hx=>by
   have hx:x∈os:=hx
   have hxr:=hr x (by simp[hx])
   have n1:x≠o2:=λe=>(List.nodup_cons.mp nd2.2).1 (by rw[<-e];exact hx)
   have n2:x≠o:=λe=>nd2.1 (by rw[<-e];simp[hx])
   rw[h3 x hxr.1,if_neg n1,if_neg n2]
   exact ht x (by simp[hx])
  have t2:∀ x,(o2::os).head?=some x->vAt g1 x=vAt hs x+(vAt hs o+a) / 2:=λx hx=>by
   cases hx
   rw[h3 o2 ho2.1,if_pos rfl,ht o2 (by simp)]
   omega
  obtain⟨g2,k1,k2,k3⟩:=Z9 hp (o2::os) ((vAt hs o+a) / 2) g1 (λx hx=>hr x (List.mem_cons_of_mem _ hx)) nd3 h2 (by intro h;cases h) (λx hx=>hn x (List.mem_cons_of_mem _ hx)) hc t1 t2
  refine⟨g2,h1.app k1,k2,?_⟩
  rw[k3,h3 p hp.1,if_neg hpo2,if_neg hpo]
  rfl
noncomputable def zee:List (Nat × Nat):=[3,4,5,6,7,8].flatMap λn=>(List.range n).map λp=>(n,p)
theorem zci {n p:Int}(h3:3<=n)(h8:n<=8)(hp:0<=p/\p < n):(n.toNat,p.toNat)∈zee:=by
 unfold zee
 refine List.mem_flatMap.mpr ⟨n.toNat,?_,List.mem_map.mpr ⟨p.toNat,List.mem_range.mpr (by omega),rfl⟩⟩
 have:n.toNat=3\/n.toNat=4\/n.toNat=5\/n.toNat=6\/n.toNat=7\/n.toNat=8:=by omega
 simp only[List.mem_cons,List.not_mem_nil,or_false]
 exact this
theorem zde:∀ q∈zee,((q.2:Int)::zB (q.1:Int) (q.2:Int) 1).isPerm ((List.range q.1).map λk:Nat=>(k:Int))=true:=by decide +kernel
theorem X2 {n p:Int}(h3:3<=n)(h8:n<=8)(hp:0<=p/\p < n):(p::zB n p 1).Perm ((List.range n.toNat).map λk:Nat=>(k:Int)):=by
 have:=List.isPerm_iff.mp (zde _ (zci h3 h8 hp))
 rwa[show((n.toNat:Nat):Int)=n by omega,show((p.toNat:Nat):Int)=p by omega]at this
theorem zbx {l m:List Int}(h:l.Perm m):l.sum=m.sum:=by
 induction h with
 | nil=>rfl
 | cons x _ ih=>rw[List.sum_cons,List.sum_cons,ih]
 | swap x y l=>rw[List.sum_cons,List.sum_cons,List.sum_cons,List.sum_cons];omega
 | trans _ _ ih1 ih2=>exact ih1.trans ih2
theorem zh5 {hs:List Int}:hs.sum=(((List.range hs.length).map λk:Nat=>(k:Int)).map (vAt hs)).sum:=by
 congr 1
 refine List.ext_getElem? λi=>?_
 by_cases c:i < hs.length
 .rw[List.getElem?_map,List.getElem?_map,List.getElem?_range c,List.getElem?_eq_getElem c]
  show some hs[i]=some (hs.getD ((i:Int).toNat) 0)
  rw[Int.toNat_natCast,List.getD_eq_getElem?_getD,List.getElem?_eq_getElem c]
  rfl
 .rw[List.getElem?_eq_none (by omega),List.getElem?_eq_none (by simp;omega)]
theorem zac {n p:Int}{hs:List Int}(h3:3<=n)(h8:n<=8)(hp:0<=p/\p < n)(hl:(hs.length:Int)=n):hs.sum=vAt hs p+((zB n p 1).map (vAt hs)).sum:=by
 rw[zh5,show hs.length=n.toNat by omega,<- zbx ((X2 h3 h8 hp).map (vAt hs))]
 rfl
theorem ZT {n p:Int}(h3:3<=n)(h8:n<=8)(hp:0<=p/\p < n):(p::zB n p 1).Nodup:=by
 refine(X2 h3 h8 hp).nodup_iff.mpr ?_
 rw[List.nodup_iff_pairwise_ne,List.pairwise_map]
 exact List.nodup_range.imp λh e=>h (Int.ofNat.inj e)
theorem zae {n p:Int}(h3:3<=n)(h8:n<=8)(hp:0<=p/\p < n):(p::zB n p (-1)).Nodup:=by
 rw[<-ZC (by omega)]
 have:=List.nodup_cons.mp (ZT h3 h8 hp)
 exact List.nodup_cons.mpr ⟨λh=>this.1 (List.mem_reverse.mp h),(List.reverse_perm (zB n p 1)).nodup_iff.mpr this.2⟩
noncomputable def zjD (n:Int):Int:=if n=3 then 3 else if n=4 then 4 else if n=5 then 5 else if n=6 then 8 else if n=7 then 11 else 16
noncomputable def wL:List Int->Int
 | []=>0
 | b::bs=>b+2*wL bs
theorem zba (hs:List Int):∀ os:List Int,zjK hs os=wL (os.map (vAt hs))
 | []=>rfl
 | o::os=>by
  show vAt hs o+2*zjK hs os=vAt hs o+2*wL (os.map (vAt hs))
  rw[zba hs os]
theorem zga {n:Int}{bs:List Int}(h3:3<=n)(h8:n<=8)(hl:bs.length=(n - 1).toNat)(hn:∀ b∈bs,0<=b)(h1:wL bs+1<=2 ^ bs.length)(h2:wL bs.reverse+1<=2 ^ bs.length):bs.sum < zjD n:=by
 have c:n=3\/n=4\/n=5\/n=6\/n=7\/n=8:=by omega
 rw[hl]at h1 h2
 rcases c with rfl | rfl | rfl | rfl | rfl | rfl
 .match bs,hl with
  | [a,b],_ =>
   have e1:a+2*(b+2*0)+1<=4:=h1
   have e2:b+2*(a+2*0)+1<=4:=h2
   have:=hn a (by simp);have:=hn b (by simp)
   show a+(b+0) < 3
   omega
 .match bs,hl with
  | [a,b,c],_ =>
   have e1:a+2*(b+2*(c+2*0))+1<=8:=h1
   have e2:c+2*(b+2*(a+2*0))+1<=8:=h2
   have:=hn a (by simp);have:=hn b (by simp);have:=hn c (by simp)
   show a+(b+(c+0)) < 4
   omega
 .match bs,hl with
  | [a,b,c,d],_ =>
   have e1:a+2*(b+2*(c+2*(d+2*0)))+1<=16:=h1
   have e2:d+2*(c+2*(b+2*(a+2*0)))+1<=16:=h2
   have:=hn a (by simp);have:=hn b (by simp);have:=hn c (by simp);have:=hn d (by simp)
   show a+(b+(c+(d+0))) < 5
   omega
 .match bs,hl with
  | [a,b,c,d,e],_ =>
   have e1:a+2*(b+2*(c+2*(d+2*(e+2*0))))+1<=32:=h1
   have e2:e+2*(d+2*(c+2*(b+2*(a+2*0))))+1<=32:=h2
   have:=hn a (by simp);have:=hn b (by simp);have:=hn c (by simp);have:=hn d (by simp);have:=hn e (by simp)
   show a+(b+(c+(d+(e+0)))) < 8
   omega
 .match bs,hl with
  | [a,b,c,d,e,f],_ =>
   have e1:a+2*(b+2*(c+2*(d+2*(e+2*(f+2*0)))))+1<=64:=h1
   have e2:f+2*(e+2*(d+2*(c+2*(b+2*(a+2*0)))))+1<=64:=h2
   have:=hn a (by simp);have:=hn b (by simp);have:=hn c (by simp);have:=hn d (by simp);have:=hn e (by simp);have:=hn f (by simp)
   show a+(b+(c+(d+(e+(f+0))))) < 11
   omega
 .match bs,hl with
  | [a,b,c,d,e,f,g],_ =>
   have e1:a+2*(b+2*(c+2*(d+2*(e+2*(f+2*(g+2*0))))))+1<=128:=h1
   have e2:g+2*(f+2*(e+2*(d+2*(c+2*(b+2*(a+2*0))))))+1<=128:=h2
   have:=hn a (by simp);have:=hn b (by simp);have:=hn c (by simp);have:=hn d (by simp);have:=hn e (by simp);have:=hn f (by simp);have:=hn g (by simp)
   show a+(b+(c+(d+(e+(f+(g+0)))))) < 16
   omega
theorem Yu {hs:List Int}(h:∀ x∈hs,0<=x)(o:Int):0<=vAt hs o:=by
 unfold vAt
 rw[List.getD_eq_getElem?_getD]
 cases e:hs[o.toNat]? with
 | none=>exact Int.le_refl _
 | some x=>exact h x (List.mem_of_getElem? e)
theorem ziw {n p:Int}{hs:List Int}(h3:3<=n)(h8:n<=8)(hp:0<=p/\p < n)(hl:(hs.length:Int)=n)(hn:∀ x∈hs,0<=x)(h0:vAt hs p=0)(h1:zD 0 (car hs 0 (zB n p 1))=0)(h2:zD 0 (car hs 0 (zB n p (-1)))=0):hs.sum < zjD n:=by
 rw[zac h3 h8 hp hl,h0,Int.zero_add]
 have w1:=ZQ (hs:=hs) (os:=zB n p 1) (a:=0)
 have w2:=ZQ (hs:=hs) (os:=zB n p (-1)) (a:=0)
 rw[h1,zba,Int.zero_add,Int.zero_add,Int.mul_one]at w1
 rw[h2,zba,Int.zero_add,Int.zero_add,Int.mul_one,<- ZC (by omega),List.map_reverse,List.length_reverse]at w2
 refine zga h3 h8 (by rw[List.length_map,zF]) (λb hb=>?_) (by rw[List.length_map];exact w1) (by rw[List.length_map];exact w2)
 obtain⟨o,_,rfl⟩:=List.mem_map.mp hb
 exact Yu hn o
noncomputable def Xn:SE->Ctl :=
 (zR (wQ false 3 (zo wH (zo xc (zo ixD (zc 0) (zc 4)) (zc 3)) (eC (.int 2))))
  (Ve false 2 (zc 3)))
noncomputable def WH:SE->Ctl :=
 (zR (XF 2 (yD zr))
  (zR (wQ false 3 (eC (.int 0)))
  (zR (XS (iOf (zc 1)) (xj 4) Xn)
  (sFz 2 (yE (zc 2))))))
noncomputable def YT:List D->Option D:=fnD 5 WH
theorem WQ {hs os:List Int}(h8:os.length<=8)(hr:∀ o∈os,0<=o/\o < (hs.length:Int)):YT [.tup (hs.map .int),.lst (os.map .int)]=some (.lst ((car hs 0 os).map .int)):=by
 refine zan (ρ:=[.v (.tup (hs.map .int)),.v (.lst (os.map .int)),.no,.no,.no]) rfl ?_
 unfold WH
 refine zL rfl (zL rfl (wy (zcA (ds:=os.map .int) (λi ρ=>∃ o4,ρ=[.v (.tup (hs.map .int)),.v (.lst (os.map .int)),.o (((car hs 0 os).take i).map .int),.v (.int (zD 0 ((car hs 0 os).take i))),o4]) rfl ⟨_,rfl⟩ ?_ ?_)))
 .rintro i d ρ hd ⟨o4,rfl⟩
  rw[List.getElem?_map]at hd
  obtain⟨o,ho,rfl⟩:=Option.map_eq_some_iff.mp hd
  have hor:=hr o (List.mem_of_getElem? ho)
  have hi:i < os.length:=(List.getElem?_eq_some_iff.mp ho).1
  refine⟨_,rfl,?_⟩
  unfold Xn
  rw[Ww os 0 i o ho,YZ,List.map_append]
  have hl:((car hs 0 os).take i).length<=i:=List.length_take_le _ _
  generalize (car hs 0 os).take i=cs at hl ⊢
  refine zL (wv (d:=.int ((vAt hs o+zD 0 cs) / 2)) ?_) ?_
  .show zo wH _ (eC (.int 2)) (visF [.v (.tup (hs.map .int)),.v (.lst (os.map .int)),.o (cs.map .int),.v (.int (zD 0 cs)),.v (.int o)])=_
   exact zq (x:=.int (vAt hs o+zD 0 cs)) (y:=.int 2) (zq (x:=.int (vAt hs o)) (y:=.int (zD 0 cs)) (zq (x:=.tup (hs.map .int)) (y:=.int o) rfl rfl (wW hor.1 hor.2)) rfl rfl) rfl (ZB (by decide) (by decide))
  .exact Vd (zgR (m:=false) (i:=2) (f:=zc 3) (ds:=cs.map .int) (d:=.int ((vAt hs o+zD 0 cs) / 2)) rfl rfl (by rw[List.length_map];omega)) ⟨.v (.int o),rfl⟩
 .rintro ρ ⟨o4,rfl⟩
  rw[List.length_map,<- yT hs os 0,List.take_length]
  exact zg3 rfl (Zp rfl rfl)
theorem Wv (T:Txt K mg ad):xz P w K mg base CX0 1 ad.f_swept ad.e_swept ["heap","order"] (@spD ⟨K⟩ 2 YT):=by
 letI:KK:=⟨K⟩
 refine yO (N:=["heap","order","carried","ahead","place"]) (ps:=["heap","order"]) T.d_swept.fn Yy (g:=WH) λcdv A outer s H E hr=>?_
 unfold WH Xn
 exact(ze (Zb (i:=2) Yy.nd rfl (Or.inl rfl) (wf zd))
  (ze (yA (m:=false) (i:=3) Yy.nd rfl (Or.inl rfl) (zf zg))
  (ze (XQ PassesOwn.never rfl (Ym (edv 1)) (yW (zI (i:=4) Yy.nd rfl (Or.inl rfl))) (ze (yA (m:=false) (i:=3) Yy.nd rfl (Or.inl rfl) (Wu (zN (yz (edv 0) (edv 4) (λ_ _=>rfl)) (edv 3)) (zf zg)))
  (zh (zcW (m:=false) (pv 2) (edv 3) (λa b=>zeN PySem.F.plainAttrs_list PySem.F.slot_list_append PySem.F.type_list_append Xr a b)))))
  (Zc 2 (zh (zx (edv 2)))))))
noncomputable def yY:SE->Ctl :=
 (zaA 3 (zo vg (xU (yD (zb (vL (zb (zc 4) (zb (zc 5) zr))) zr))) (zc 6)))
noncomputable def xQ:SE->Ctl :=
 (zR (XF 3 (yD zr))
  (zR (XS (zby (zb (zc 1) (zb (zo xc (eSl slD (zc 1) (vo (eC (.int 1))) Zt) (xU (yD (zb (zc 2) zr)))) (zb (zw 2 YT (zb (zc 0) (zb (zc 1) zr))) zr)))) (zaO 3 (wA (xj 4) (wA (xj 5) (wA (xj 6) zbX)))) yY)
  (sFz 3 (yE (zc 3)))))
noncomputable def wI:List D->Option D:=fnD 7 xQ
theorem zik {d:D}{n:Int}(h0:0<=n)(h1:n<=1000):vg (.lst [d]) (.int n)=some (.lst (List.replicate n.toNat d)):=by
 show(if -(2 ^ 63)<=n/\n < 2 ^ 63/\lim (1*n.toNat)=true then _ else none)=_
 rw[if_pos ⟨by omega,by omega,wg (by omega)⟩,List.flatten_replicate_singleton]
theorem zjM {i:Nat}{f:Ev->Option D}{ρ:SE}{ds es:List D}(h1:f (visF ρ)=some (.lst es))(h2:ρ[i]?=some (.o ds))(h3:ds.length+es.length<=1000):zaA i f ρ=.nx (ρ.set i (.o (ds++es))):=by
 unfold zaA
 rw[h1,h2]
 show(match (if lim (ds.length+es.length)=true then some (ρ.set i (Sl.o (ds++es)))else none)with | some ρ'=>Ctl.nx ρ' | none=>Ctl.no)=_
 rw[if_pos (wg h3)]
theorem zhE {p:Int}:∀ {i:Nat} {os cs:List Int} {o o2 c:Int},os[i]?=some o->(os.drop 1++[p])[i]?=some o2->cs[i]?=some c->stL p (os.drop i) (cs.drop i)=List.replicate c.toNat (o,o2)++stL p (os.drop (i+1)) (cs.drop (i+1)):=by
 intro i
 induction i with
 | zero =>
  intro os cs o o2 c h1 h2 h3
  cases os with
  | nil=>cases h1
  | cons x os =>
   cases cs with
   | nil=>cases h3
   | cons y cs =>
    cases h1
    cases h3
    cases os with
    | nil =>
     cases h2
     exact(List.append_nil _).symm
    | cons z os =>
     cases h2
     rfl
 | succ i ih =>
  intro os cs o o2 c h1 h2 h3
  cases os with
  | nil=>cases h1
  | cons x os =>
   cases cs with
   | nil=>cases h3
   | cons y cs =>
    cases os with
    | nil=>cases h1
    | cons z os=>exact ih (os:=z::os) (cs:=cs) h1 h2 h3
theorem zhP {hs:List Int}:∀ {os:List Int} {a:Int},(∀ o∈os,0<=vAt hs o)->0<=a->(car hs a os).sum<=(os.map (vAt hs)).sum+a:=by
 intro os
 induction os with
 | nil =>
  intro a _ h
  show(0:Int)<=0+a
  omega
 | cons o os ih =>
  intro a h ha
  have h0:=h o List.mem_cons_self
  have:=ih (a:=(vAt hs o+a) / 2) (λx hx=>h x (List.mem_cons_of_mem _ hx)) (Int.ediv_nonneg (by omega) (by decide))
  show(vAt hs o+a) / 2+(car hs ((vAt hs o+a) / 2) os).sum<=(vAt hs o+(os.map (vAt hs)).sum)+a
  omega
theorem zin {p:Int}:∀ {os cs:List Int},(∀ c∈cs,0<=c)->((stL p os cs).length:Int)<=cs.sum:=by
 intro os
 induction os with
 | nil =>
  intro cs h
  exact VP h
 | cons o os ih =>
  intro cs h
  cases cs with
  | nil =>
   cases os <;> exact Int.le_refl _
  | cons c cs =>
   have h0:=h c List.mem_cons_self
   have h1:∀ x∈cs,0<=x:=λx hx=>h x (List.mem_cons_of_mem _ hx)
   have:=VP h1
   have e:(c::cs).sum=c+cs.sum:=rfl
   cases os with
   | nil =>
    show((List.replicate c.toNat ((o,p):Tie)).length:Int)<=_
    rw[List.length_replicate]
    omega
   | cons o2 os =>
    have:=ih h1
    show((List.replicate c.toNat ((o,o2):Tie)++stL p (o2::os) cs).length:Int)<=_
    rw[List.length_append,List.length_replicate]
    omega
theorem zha {hs os:List Int}{p:Int}{N B C:SE->Prop}{R:D->Prop}(h8:os.length<=8)(hr:∀ o∈os,0<=o/\o < (hs.length:Int))(hn:∀ o∈os,0<=vAt hs o)(hsum:(os.map (vAt hs)).sum<=300)
 (q:∀ o4 o5 o6,N [.v (.tup (hs.map .int)),.v (.lst (os.map .int)),.v (.int p),.o ((stL p os (car hs 0 os)).map zX),o4,o5,o6]) :
 (XS (zby (zb (zc 1) (zb (zo xc (eSl slD (zc 1) (vo (eC (.int 1))) Zt) (xU (yD (zb (zc 2) zr)))) (zb (zw 2 YT (zb (zc 0) (zb (zc 1) zr))) zr)))) (zaO 3 (wA (xj 4) (wA (xj 5) (wA (xj 6) zbX)))) yY [.v (.tup (hs.map .int)),.v (.lst (os.map .int)),.v (.int p),.o [],.no,.no,.no]).w N B C R:=by
 have es:=WQ h8 hr
 obtain⟨cs,hcs⟩:∃ cs,car hs 0 os=cs:=⟨_,rfl⟩
 have hcl:cs.length=os.length:=by rw[<-hcs,yT]
 have hcn:∀ c∈cs,0<=c:=by rw[<-hcs];exact VH hn (Int.le_refl _)
 have hc3:cs.sum<=300:=by have:=zhP (a:=0) hn (Int.le_refl _);rw[hcs]at this;omega
 have hst:=zin (p:=p) (os:=os) hcn
 rw[hcs]at es q
 refine zcA (ds:=Zq (os.map .int) ((os.drop 1++[p]).map .int) (cs.map .int)) (λi ρ=>∃ (acc:List Tie) (o4 o5 o6:Sl),ρ=[.v (.tup (hs.map .int)),.v (.lst (os.map .int)),.v (.int p),.o (acc.map zX),o4,o5,o6]/\stL p os cs=acc++stL p (os.drop i) (cs.drop i)) ?_ ⟨[],_,_,_,rfl,rfl⟩ ?_ ?_
 .unfold zby
  rw[zp (d:=.lst (os.map .int)) (ds:=[.lst ((os.drop 1++[p]).map .int),.lst (cs.map .int)]) rfl (zp (zq (x:=.lst (Vq (os.map .int) (some 1) none)) (y:=.lst [.int p]) rfl rfl ?_) (zp (zH (ds:=[.tup (hs.map .int),.lst (os.map .int)]) rfl es) zQ)),Option.bind_some]
  .show(if (os.map D.int).length<=((os.drop 1++[p]).map D.int).length/\(os.map D.int).length<=(cs.map D.int).length then _ else none)=_
   rw[if_pos ⟨by rw[List.length_map,List.length_map,List.length_append,List.length_drop];show os.length<=os.length - 1+1;omega,by rw[List.length_map,List.length_map];omega⟩]
  .rw[show(some (1:Int))=some ((1:Nat):Int)from rfl,zes,Vb (by rw[List.length_drop,List.length_map];show os.length - 1+1<=1000;omega),List.map_append,List.map_drop]
   rfl
 .rintro i d ρ hd ⟨acc,o4,o5,o6,rfl,hacc⟩
  obtain⟨x,y,u,hx,hy,hu,rfl⟩:=Z5 _ _ _ _ _ hd
  rw[List.getElem?_map]at hx hy hu
  obtain⟨o,ho,rfl⟩:=Option.map_eq_some_iff.mp hx
  obtain⟨o2,ho2,rfl⟩:=Option.map_eq_some_iff.mp hy
  obtain⟨c,hc,rfl⟩:=Option.map_eq_some_iff.mp hu
  have h0:=hcn c (List.mem_of_getElem? hc)
  rw[zhE ho ho2 hc,<- List.append_assoc]at hacc
  have hlen:acc.length+c.toNat<=300:=by
   have:=congrArg List.length hacc
   rw[List.length_append,List.length_append,List.length_replicate]at this
   omega
  refine⟨_,rfl,?_⟩
  unfold yY
  refine Vd (zjM (ds:=acc.map zX) (es:=List.replicate c.toNat (zX (o,o2))) ?_ rfl (by rw[List.length_map,List.length_replicate];omega)) ⟨acc++List.replicate c.toNat (o,o2),.v (.int o),.v (.int o2),.v (.int c),?_,hacc⟩
  .exact zq (x:=.lst [zX (o,o2)]) (y:=.int c) rfl rfl (zik h0 (by omega))
  .rw[List.map_append,List.map_replicate]
   rfl
 .rintro ρ ⟨acc,o4,o5,o6,rfl,hacc⟩
  rw[vv _ _ _ (by rw[List.length_map,List.length_map,List.length_append,List.length_drop];show os.length<=os.length - 1+1;omega) (by rw[List.length_map,List.length_map];omega),List.length_map,List.drop_length]at hacc
  have hacc:stL p os cs=acc++[]:=hacc
  rw[List.append_nil]at hacc
  rw[hacc]at q
  exact q _ _ _
theorem zfg {a:Ev->Option (List D)}{ρ:Ev}{hs os:List Int}{p:Int}(ha:a ρ=some [.tup (hs.map .int),.lst (os.map .int),.int p])(h8:os.length<=8)(hr:∀ o∈os,0<=o/\o < (hs.length:Int))(hn:∀ o∈os,0<=vAt hs o)(hsum:(os.map (vAt hs)).sum<=300):zw 3 wI a ρ=some (.lst ((stL p os (car hs 0 os)).map zX)):=by
 refine zH ha (zan (ρ:=[.v (.tup (hs.map .int)),.v (.lst (os.map .int)),.v (.int p),.no,.no,.no,.no]) rfl ?_)
 unfold xQ
 exact zL rfl (wy (zha h8 hr hn hsum λ_ _ _=>zg3 rfl (Zp rfl rfl)))
theorem XI (T:Txt K mg ad):xz P w K mg base CX0 2 ad.f_sweep_steps ad.e_sweep_steps ["heap","order","place"] (@spD ⟨K⟩ 3 wI):=by
 letI:KK:=⟨K⟩
 have G_swept:=Wv (P:=P) (w:=w) (base:=base) T
 refine yO (N:=["heap","order","place","steps","one","other","times"]) (ps:=["heap","order","place"]) T.d_sweep_steps.fn yK (g:=xQ) λcdv A outer s H E hr=>?_
 unfold xQ yY
 exact(ze (Zb (i:=3) yK.nd rfl (Or.inl rfl) (wf zd))
  (ze (XQ PassesOwn.never rfl (zif rfl T.z_zip (za (edv 1) (za (zN (zbs (edv 1) (zbh (zf zg)) zhF) (wz (wf (za (edv 2) zd)))) (za (zi G_swept hr rfl T.d_swept (za (edv 0) (za (edv 1) zd))) zd)))) (zei rfl (wK (yW (zI (i:=4) yK.nd rfl (Or.inl rfl))) (wK (yW (zI (i:=5) yK.nd rfl (Or.inl rfl))) (wK (yW (zI (i:=6) yK.nd rfl (Or.inl rfl))) zaD)))) (zh (zgF (pv 3) (vb (wz (wf (za (wG (za (edv 4) (za (edv 5) zd))) zd))) (edv 6)) (λa b=>zeN PySem.F.plainAttrs_list PySem.F.slot_list_extend PySem.F.type_list_extend zah a b))))
  (Zc 3 (zh (zx (edv 3))))))
noncomputable def xq:SE->Ctl :=
 (sIf (tOf (zo gtD (zo ixD (zw 2 YT (zb (zc 1) (zb (zc 3) zr))) (eUn zbp (eC (.int 1)))) (eC (.int 0)))) (yE (zw 3 wI (zb (zc 1) (zb (zc 3) (zb (zc 2) zr))))) zW)
noncomputable def we:SE->Ctl :=
 (zR (WN (zw 3 yp (zb (zc 0) (zb (zc 1) (zb (zc 2) zr)))))
  (zR (sIf (tOf (zo gtD (zo ixD (zc 1) (zc 2)) (eC (.int 0)))) (yE (xU (yD zr))) zW)
  (zR (XS (iOf (zw 2 zZ (zb (zc 0) (zb (zc 2) zr)))) (xj 3) xq)
  (yE (eC .non)))))
noncomputable def vm:List D->Option D:=fnD 4 we
noncomputable def vc (n:Int)(hs:List Int)(p:Int):D :=
 if 0 < vAt hs p then .lst []else if 0 < zD 0 (car hs 0 (zB n p 1))then .lst ((stL p (zB n p 1) (car hs 0 (zB n p 1))).map zX)
 else if 0 < zD 0 (car hs 0 (zB n p (-1)))then .lst ((stL p (zB n p (-1)) (car hs 0 (zB n p (-1)))).map zX)else .non
theorem zh2 {n p s:Int}{hs:List Int}(h3:3<=n)(h8:n<=8)(hp:0<=p/\p < n)(hl:(hs.length:Int)=n)(hn:∀ x∈hs,0<=x)(hs1:s=1\/s=-1):((zB n p s).map (vAt hs)).sum<=hs.sum:=by
 have e:=zac h3 h8 hp hl
 have:=Yu hn p
 rcases hs1 with rfl | rfl
 .omega
 .rw[<-ZC (by omega),List.map_reverse,zbx (List.reverse_perm _)]
  omega
theorem WV {n p:Int}{hs:List Int}(h3:3<=n)(h8:n<=8)(hl:(hs.length:Int)=n)(hn:∀ x∈hs,0<=x)(hsum:hs.sum<=300)(hp:0<=p/\p < n):vm [.int n,.tup (hs.map .int),.int p]=some (vc n hs p):=by
 have ef:=WF h3 h8 hl hn hsum hp
 have eo:=Xv (p:=p) h3 h8
 have hr:∀ s:Int,∀ o∈zB n p s,0<=o/\o < (hs.length:Int):=λs x hx=>hl ▸ vK (n:=n) (p:=p) (s:=s) (x:=x) (by omega) hx
 have ol:∀ s:Int,(zB n p s).length<=8:=λs=>by rw[zF];omega
 have on:∀ s:Int,∀ o∈zB n p s,0<=vAt hs o:=λs o _=>Yu hn o
 refine zan (ρ:=[.v (.int n),.v (.tup (hs.map .int)),.v (.int p),.no]) rfl ?_
 unfold we
 refine zL (Xc (d:=.non) (zH rfl ef)) ?_
 refine wy (zcN (c:=decide (0 < vAt hs p)) (vV (zq (x:=.int (vAt hs p)) (y:=.int 0) (zq (x:=.tup (hs.map .int)) (y:=.int p) rfl rfl (zfP hp hl)) rfl rfl)) (λz=>Zp rfl ?_) (λz=>Vd rfl ?_))
 .unfold vc
  rw[if_pos (of_decide_eq_true z)]
 have body:∀ (s:Int) (N:SE->Prop) (hs1:s=1\/s=-1) (h1:0 < zD 0 (car hs 0 (zB n p s))->vc n hs p=.lst ((stL p (zB n p s) (car hs 0 (zB n p s))).map zX)) (h2:¬ 0 < zD 0 (car hs 0 (zB n p s))->N [.v (.int n),.v (.tup (hs.map .int)),.v (.int p),.v (.lst ((zB n p s).map .int))]),(xq [.v (.int n),.v (.tup (hs.map .int)),.v (.int p),.v (.lst ((zB n p s).map .int))]).w N (fun ρ=>(yE (eC .non) ρ).w (λ_=>vc n hs p=.non) noP noP (λd'=>d'=vc n hs p)) N (λd'=>d'=vc n hs p):=by
  intro s N hs1 h1 h2
  have e1:=WQ (ol s) (hr s)
  have c0:car hs 0 (zB n p s)≠[]:=λe=>Wd (p:=p) (s:=s) h3 (List.eq_nil_of_length_eq_zero (by rw[<-yT hs _ 0,e];rfl))
  unfold xq
  refine zcN (c:=decide (0 < zD 0 (car hs 0 (zB n p s)))) (vV (zq (x:=.int (zD 0 (car hs 0 (zB n p s)))) (y:=.int 0) (zq (x:=.lst ((car hs 0 (zB n p s)).map .int)) (y:=.int (-1)) (zH (ds:=[.tup (hs.map .int),.lst ((zB n p s).map .int)]) rfl e1) rfl (Zy c0)) rfl rfl)) (λy=>Zp (wn (zfg (hs:=hs) (os:=zB n p s) (p:=p) rfl (ol s) (hr s) (on s) (Int.le_trans (zh2 h3 h8 hp hl hn hs1) hsum))) (h1 (of_decide_eq_true y)).symm) (λy=>Vd rfl (h2 (of_decide_eq_false y)))
 have z:=of_decide_eq_false z
 refine wy (zcA (ds:=[.lst ((zB n p 1).map .int),.lst ((zB n p (-1)).map .int)]) (λi ρ=>∃ o3,ρ=[.v (.int n),.v (.tup (hs.map .int)),.v (.int p),o3]/\(0 < i->¬ 0 < zD 0 (car hs 0 (zB n p 1)))/\(1 < i->¬ 0 < zD 0 (car hs 0 (zB n p (-1))))) (VE (zH (ds:=[.int n,.int p]) rfl eo) rfl) ⟨_,rfl,λh=>absurd h (Nat.lt_irrefl _),λh=>absurd h (by decide)⟩ ?_ ?_)
 .rintro i d ρ hd ⟨o3,rfl,k1,k2⟩
  have hi:i < 2:=(List.getElem?_eq_some_iff.mp hd).1
  have:i=0\/i=1:=by omega
  rcases this with rfl | rfl
  .cases hd
   refine⟨_,rfl,body 1 _ (.inl rfl) (λy=>?_) (λy=>⟨_,rfl,λ_=>y,λh=>absurd h (by decide)⟩)⟩
   unfold vc
   rw[if_neg z,if_pos y]
  .cases hd
   refine⟨_,rfl,body (-1) _ (.inr rfl) (λy=>?_) (λy=>⟨_,rfl,λ_=>k1 (by decide),λ_=>y⟩)⟩
   unfold vc
   rw[if_neg z,if_neg (k1 (by decide)),if_pos y]
 .rintro ρ ⟨o3,rfl,k1,k2⟩
  refine Zp rfl ?_
  unfold vc
  rw[if_neg z,if_neg (k1 (show 0 < 2 by decide)),if_neg (k2 (show 1 < 2 by decide))]
theorem Wy (T:Txt K mg ad):xz P w K mg base CX0 9 ad.f_ring_steps ad.e_ring_steps ["n","heap","place"] (@spD ⟨K⟩ 3 vm):=by
 letI:KK:=⟨K⟩
 have G_must_fit_ring:=xF (P:=P) (w:=w) (base:=base) T
 have G_sweep_orders:=x6 (P:=P) (w:=w) (base:=base) T
 have G_swept:=Wv (P:=P) (w:=w) (base:=base) T
 have G_sweep_steps:=XI (P:=P) (w:=w) (base:=base) T
 refine yO (N:=["n","heap","place","order"]) (ps:=["n","heap","place"]) T.d_ring_steps.fn YG (g:=we) λcdv A outer s H E hr=>?_
 unfold we xq
 exact(ze (YL (zi G_must_fit_ring hr rfl T.d_must_fit_ring (za (edv 0) (za (edv 1) (za (edv 2) zd)))))
  (ze (yG (zT XL yg (zG _) (yz (edv 1) (edv 2) (λ_ _=>rfl)) (zf zg)) (zh (zx (wz (wf zd)))) zE)
  (ze (XQ PassesOwn.never rfl (Ym (zi G_sweep_orders hr rfl T.d_sweep_orders (za (edv 0) (za (edv 2) zd)))) (yW (zI (i:=3) YG.nd rfl (Or.inl rfl))) (zh (yG (zT XL yg (zG _) (yz (zi G_swept hr rfl T.d_swept (za (edv 1) (za (edv 3) zd))) (zbL (zf zg)) (λ_ _=>rfl)) (zf zg)) (zh (zx (zi G_sweep_steps hr rfl T.d_sweep_steps (za (edv 1) (za (edv 3) (za (edv 2) zd)))))) zE)))
  (zh (zx (zeP zdz))))))
theorem zew {p:Int}:∀ {os cs:List Int} {s:Tie},s∈stL p os cs->∃ i:Nat,os[i]?=some s.1/\(os.drop 1++[p])[i]?=some s.2:=by
 intro os
 induction os with
 | nil=>intro cs s h;cases h
 | cons o os ih =>
  intro cs s h
  cases cs with
  | nil=>cases os <;> cases h
  | cons c cs =>
   cases os with
   | nil =>
    have h:s∈List.replicate c.toNat ((o,p):Tie):=h
    rw[(List.mem_replicate.mp h).2]
    exact⟨0,rfl,rfl⟩
   | cons o2 os =>
    have h:s∈List.replicate c.toNat ((o,o2):Tie)++stL p (o2::os) cs:=h
    rcases List.mem_append.mp h with h | h
    .rw[(List.mem_replicate.mp h).2]
     exact⟨0,rfl,rfl⟩
    .obtain⟨i,h1,h2⟩:=ih h
     exact⟨i+1,h1,h2⟩
theorem zf4 {n p s:Int}{cs:List Int}{t:Tie}(h3:3<=n)(hp:0<=p/\p < n)(h:t∈stL p (zB n p s) cs):(t.1+s) % n=t.2:=by
 obtain⟨i,h1,h2⟩:=zew h
 have hi:i < (n - 1).toNat:=by have:=(List.getElem?_eq_some_iff.mp h1).1;rwa[zF]at this
 rw[YR hi]at h1
 injection h1 with h1
 rw[<-h1,Int.emod_add_emod,Int.add_assoc,show s*((i:Int)+1)+s=s*(((i+1:Nat):Int)+1) by rw[Int.mul_add,Int.mul_add,Int.mul_one,Int.natCast_succ,Int.mul_add,Int.mul_one]]
 by_cases c:i+1 < (n - 1).toNat
 .rw[List.getElem?_append_left (by rw[List.length_drop,zF];omega),List.getElem?_drop,Nat.add_comm 1 i,YR c]at h2
  injection h2
 .have ei:i=((zB n p s).drop 1).length:=by rw[List.length_drop,zF];omega
  rw[ei,List.getElem?_append_right (Nat.le_refl _),Nat.sub_self]at h2
  have h2:some p=some t.2:=h2
  injection h2 with h2
  rw[<-h2,show(((i+1:Nat):Int)+1)=n by omega,Int.add_mul_emod_self_right,Int.emod_eq_of_lt hp.1 hp.2]
noncomputable def Adj (n:Int)(ts:List Tie):Prop:=∀ a b:Int,(0<=a/\a < n)->(0<=b/\b < n)->((a+1) % n=b\/(b+1) % n=a)->Zo a b∈ts
theorem zgX {n p s:Int}{cs:List Int}{ts:List Tie}(h3:3<=n)(hp:0<=p/\p < n)(ha:Adj n ts)(hs1:s=1\/s=-1):∀ t∈stL p (zB n p s) cs,Zo t.1 t.2∈ts:=λt ht=>by
 have e:=zf4 h3 hp ht
 obtain⟨i,h1,_⟩:=zew ht
 have r1:=vK (by omega) (List.mem_of_getElem? h1)
 have r2:0<=t.2/\t.2 < n:=by rw[<-e];exact⟨Int.emod_nonneg _ (by omega),Int.emod_lt_of_pos _ (by omega)⟩
 refine ha _ _ r1 r2 ?_
 rcases hs1 with rfl | rfl
 .exact .inl e
 .refine .inr ?_
  rw[<-e,Int.emod_add_emod,Int.neg_add_cancel_right,Int.emod_eq_of_lt r1.1 r1.2]
noncomputable def wD (n:Nat):List Tie:=(0,1)::(0,(n:Int) - 1)::(List.range (n - 2)).map λk:Nat=>(((k:Int)+1,(k:Int)+2):Tie)
noncomputable def zcg (n:Nat):List Tie:=((List.range (n - 1)).map λk:Nat=>(((k:Int),(k:Int)+1):Tie))++[((0:Int),(n:Int) - 1)]
theorem zie:∀ n:Nat,n∈[3,4,5,6,7,8]->zf0 (zcg n)=wD n:=by
 intro n hn
 simp only[List.mem_cons,List.not_mem_nil,or_false]at hn
 rcases hn with rfl | rfl | rfl | rfl | rfl | rfl <;> exact(XV (List.isPerm_iff.mp (by decide +kernel)) (by decide +kernel)).symm
theorem k38 {k:Int}(h:3<=k/\k<=8):k.toNat∈[3,4,5,6,7,8]:=by
 have:k.toNat=3\/k.toNat=4\/k.toNat=5\/k.toNat=6\/k.toNat=7\/k.toNat=8:=by omega
 simp only[List.mem_cons,List.not_mem_nil,or_false]
 exact this
noncomputable def ziG (n:Nat):Bool:=decide ((wD n).length=n)&&(wD n).all (λt=>decide (0<=t.1/\t.1 < t.2/\t.2 < (n:Int)))&&(List.range n).all (λa=>(List.range n).all λb=>decide (Zo (a:Int) (b:Int)∈wD n) == (decide (((a:Int)+1) % (n:Int)=(b:Int))||decide (((b:Int)+1) % (n:Int)=(a:Int))))
theorem zjZ:∀ n:Nat,n∈[3,4,5,6,7,8]->ziG n=true:=by decide +kernel
theorem zjv:∀ n:Nat,n∈[3,4,5,6,7,8]->(wD n).Pairwise ltP:=by
 intro n hn
 show(wD n).Pairwise λs t:Tie=>s.1 < t.1\/s.1=t.1/\s.2 < t.2
 simp only[List.mem_cons,List.not_mem_nil,or_false]at hn
 rcases hn with rfl | rfl | rfl | rfl | rfl | rfl <;> decide +kernel
structure zix (n:Int) (ts:List Tie):Prop where
 ok:zaq n ts
 len:ts.length<=28
 adj:∀ a b:Int,(0<=a/\a < n)->(0<=b/\b < n)->(Zo a b∈ts↔((a+1) % n=b\/(b+1) % n=a))
theorem zlq {n:Int}(h:3<=n/\n<=8):zix n (wD n.toNat):=by
 have hc:=zjZ n.toNat (k38 h)
 have hs:=zjv n.toNat (k38 h)
 have en:((n.toNat:Nat):Int)=n:=by omega
 unfold ziG at hc
 rw[Bool.and_eq_true,Bool.and_eq_true,en]at hc
 obtain⟨⟨c1,c2⟩,c3⟩:=hc
 have c1:=of_decide_eq_true c1
 refine⟨⟨by omega,by omega,λt ht=>of_decide_eq_true (List.all_eq_true.mp c2 t ht),hs⟩,by omega,λa b ha hb=>?_⟩
 have:=List.all_eq_true.mp (List.all_eq_true.mp c3 a.toNat (List.mem_range.mpr (by omega))) b.toNat (List.mem_range.mpr (by omega))
 rw[beq_iff_eq,show((a.toNat:Nat):Int)=a by omega,show((b.toNat:Nat):Int)=b by omega]at this
 constructor
 .intro h
  rw[decide_eq_true h]at this
  have:=this.symm
  rw[Bool.or_eq_true]at this
  exact this.imp of_decide_eq_true of_decide_eq_true
 .intro h
  have e:(decide ((a+1) % n=b)||decide ((b+1) % n=a))=true:=by
   rw[Bool.or_eq_true]
   exact h.imp decide_eq_true decide_eq_true
  rw[e]at this
  exact of_decide_eq_true this
noncomputable def pos (n p s k:Int):Int:=if s=1 then (if p+k < n then p+k else p+k - n)else (if 0<=p - k then p - k else p - k+n)
section
variable {n p s:Int}
theorem Wz {x r q:Int}(e:x=r+n*q)(h0:0<=r)(h1:r < n):x % n=r:=by rw[e,Int.add_mul_emod_self_left,Int.emod_eq_of_lt h0 h1]
theorem zgc (hs1:s=1\/s=-1)(hp:0<=p/\p < n){k:Int}(hk:0<=k/\k < n):(p+s*k) % n=pos n p s k:=by
 unfold pos
 rcases hs1 with rfl | rfl
 .rw[if_pos rfl,Int.one_mul]
  split
  .exact Wz (q:=0) (by omega) (by omega) (by omega)
  .exact Wz (q:=1) (by omega) (by omega) (by omega)
 .rw[if_neg (by decide)]
  split
  .exact Wz (q:=0) (by omega) (by omega) (by omega)
  .exact Wz (q:=-1) (by omega) (by omega) (by omega)
theorem zay (hp:0<=p/\p < n){k:Int}(hk:0<=k/\k < n):0<=pos n p s k/\pos n p s k < n:=by
 unfold pos
 split <;> split <;> omega
theorem Xw (hp:0<=p/\p < n){k j:Int}(hk:0<=k/\k < n)(hj:0<=j/\j < n)(h:pos n p s k=pos n p s j):k=j:=by
 unfold pos at h
 split at h <;> split at h <;> split at h <;> omega
structure Pap (n p s:Int) (hs:List Int) (f:Int->Int):Prop where
 z:f 0=0
 e:f (n - 1)=0
 nn:∀ k,1<=k->k<=n - 1->0<=f k
 le:∀ k,1<=k->k<=n - 1->vAt hs (pos n p s k)+f (k - 1)<=2*f k+1
theorem Pap.nn' {hs:List Int}{f:Int->Int}(P:Pap n p s hs f){k:Int}(h0:0<=k)(h1:k<=n - 1):0<=f k:=by
 by_cases c:k=0
 .subst c;rw[P.z];exact Int.le_refl _
 .exact P.nn k (by omega) h1
theorem zbE (hp:0<=p/\p < n){hs:List Int}{f:Int->Int}(hl:(hs.length:Int)=n)(P:Pap n p s hs f){i j:Int}(hi:1<=i/\i<=n - 1)(hj:(j=i+1/\i+1<=n - 1)\/(j=i - 1/\2<=i))(h2:2<=vAt hs (pos n p s i)) :
 ∃ f',Pap n p s (moved hs (pos n p s i,pos n p s j)) f':=by
 have hj':1<=j/\j<=n - 1:=by omega
 have ra:=zay (s:=s) hp (k:=i) (by omega)
 have rb:=zay (s:=s) hp (k:=j) (by omega)
 have ne:pos n p s i≠pos n p s j:=λe=>by have:=Xw hp (by omega) (by omega) e;omega
 have at_:∀ k,1<=k->k<=n - 1->vAt (moved hs (pos n p s i,pos n p s j)) (pos n p s k)=if k=j then vAt hs (pos n p s j)+1 else if k=i then vAt hs (pos n p s i) - 2 else vAt hs (pos n p s k):=λk k1 k2=>by
  have rk:=zay (s:=s) hp (k:=k) (by omega)
  have e:=zdh (gs:=hs) hl ra rb ne (v:=pos n p s k) rk.1
  have e:vAt (moved hs (pos n p s i,pos n p s j)) (pos n p s k)=_:=e
  rw[e]
  by_cases c1:k=j
  .rw[if_pos c1,if_pos (by rw[c1])]
  .rw[if_neg c1,if_neg λz=>c1 (Xw hp (by omega) (by omega) z)]
   by_cases c2:k=i
   .rw[if_pos c2,if_pos (by rw[c2])]
   .rw[if_neg c2,if_neg λz=>c2 (Xw hp (by omega) (by omega) z)]
 have p0:=P.nn' (k:=i - 1) (by omega) (by omega)
 have pi:=P.le i hi.1 hi.2
 rcases hj with ⟨rfl,hj2⟩ | ⟨rfl,hj2⟩
 .refine⟨λk=>if k=i then f i - 1 else f k,?_,?_,λk k1 k2=>?_,λk k1 k2=>?_⟩
  .show(if (0:Int)=i then _ else _)=_
   rw[if_neg (by omega),P.z]
  .show(if n - 1=i then _ else _)=_
   rw[if_neg (by omega),P.e]
  .show 0<=if k=i then f i - 1 else f k
   split
   .omega
   .exact P.nn k k1 k2
  .rw[at_ k k1 k2]
   show _+(if k - 1=i then f i - 1 else f (k - 1))<=2*(if k=i then f i - 1 else f k)+1
   have pk:=P.le k k1 k2
   by_cases c1:k=i+1
   .subst c1
    rw[if_pos rfl,if_pos (by omega),if_neg (by omega)]
    rw[show i+1 - 1=i by omega]at pk
    omega
   .rw[if_neg c1,if_neg (show ¬ k - 1=i by omega)]
    by_cases c2:k=i
    .subst c2
     rw[if_pos rfl,if_pos rfl]
     omega
    .rw[if_neg c2,if_neg c2]
     exact pk
 .refine⟨λk=>if k=i - 1 then f (i - 1)+1 else f k,?_,?_,λk k1 k2=>?_,λk k1 k2=>?_⟩
  .show(if (0:Int)=i - 1 then _ else _)=_
   rw[if_neg (by omega),P.z]
  .show(if n - 1=i - 1 then _ else _)=_
   rw[if_neg (by omega),P.e]
  .show 0<=if k=i - 1 then f (i - 1)+1 else f k
   split
   .omega
   .exact P.nn k k1 k2
  .rw[at_ k k1 k2]
   show _+(if k - 1=i - 1 then f (i - 1)+1 else f (k - 1))<=2*(if k=i - 1 then f (i - 1)+1 else f k)+1
   have pk:=P.le k k1 k2
   by_cases c1:k=i - 1
   .subst c1
    rw[if_pos rfl,if_neg (show ¬ i - 1 - 1=i - 1 by omega),if_pos rfl]
    omega
   .rw[if_neg c1,if_neg c1]
    by_cases c2:k=i
    .subst c2
     rw[if_pos rfl,if_pos rfl]
     omega
    .rw[if_neg c2,if_neg (show ¬ k - 1=i - 1 by omega)]
     exact pk
structure zhU (n p:Int) (hs:List Int):Prop where
 len:(hs.length:Int)=n
 at0:vAt hs p=0
 fwd:∃ f,Pap n p 1 hs f
 bwd:∃ f,Pap n p (-1) hs f
theorem zdc (h3:3<=n)(hp:0<=p/\p < n){hs:List Int}(B:zhU n p hs){a b:Int}(ha:0<=a/\a < n)(hb:0<=b/\b < n)(hab:(a+1) % n=b\/(b+1) % n=a)(h2:2<=vAt hs a):zhU n p (moved hs (a,b)):=by
 obtain⟨hl,h0,⟨f,F⟩,⟨g,G⟩⟩:=B
 have hap:a≠p:=by rintro rfl;omega
 obtain⟨i,hi⟩:∃ i:Int,(if p < a then a - p else a - p+n)=i:=⟨_,rfl⟩
 have hi':1<=i/\i<=n - 1:=by split at hi <;> omega
 have ea:a=pos n p 1 i:=by
  unfold pos
  rw[if_pos rfl]
  split at hi <;> split <;> omega
 have ea':a=pos n p (-1) (n - i):=by
  unfold pos
  rw[if_neg (by decide)]
  split at hi <;> split <;> omega
 have fe:=F.le (n - 1) (by omega) (by omega)
 have ge:=G.le (n - 1) (by omega) (by omega)
 rw[F.e]at fe
 rw[G.e]at ge
 have f2:=F.nn' (k:=n - 1 - 1) (by omega) (by omega)
 have g2:=G.nn' (k:=n - 1 - 1) (by omega) (by omega)
 obtain⟨j,hj,eb,eb'⟩:∃ j:Int,((j=i+1/\i+1<=n - 1)\/(j=i - 1/\2<=i))/\b=pos n p 1 j/\b=pos n p (-1) (n - j):=by
  rcases hab with e | e
  .have eb:b=if a+1 < n then a+1 else 0:=by
    rw[<-e]
    split
    .exact Int.emod_eq_of_lt (by omega) (by assumption)
    .rw[show a+1=n by omega,Int.emod_self]
   by_cases c:i=n - 1
   .rw[<-c,<- ea]at fe
    have z:=F.nn' (k:=i - 1) (by omega) (by omega)
    omega
   .refine⟨i+1,.inl ⟨rfl,by omega⟩,?_,?_⟩
    .unfold pos
     rw[if_pos rfl,eb]
     split at hi <;> split <;> split <;> omega
    .unfold pos
     rw[if_neg (by decide),eb]
     split at hi <;> split <;> split <;> omega
  .have eb:b=if 0 < a then a - 1 else n - 1:=by
    by_cases c:b+1 < n
    .rw[Int.emod_eq_of_lt (by omega) c]at e
     rw[if_pos (by omega)];omega
    .rw[show b+1=n by omega,Int.emod_self]at e
     rw[if_neg (by omega)];omega
   by_cases c:i=1
   .rw[show n - 1=n - i by omega,<- ea']at ge
    have z:=G.nn' (k:=n - i - 1) (by omega) (by omega)
    omega
   .refine⟨i - 1,.inr ⟨rfl,by omega⟩,?_,?_⟩
    .unfold pos
     rw[if_pos rfl,eb]
     split at hi <;> split <;> split <;> omega
    .unfold pos
     rw[if_neg (by decide),eb]
     split at hi <;> split <;> split <;> omega
 have hbp:b≠p:=λz=>by
  have:pos n p 1 j=pos n p 1 0:=by
   rw[<-eb,z]
   unfold pos
   rw[if_pos rfl,if_pos (by omega)]
   omega
  have:=Xw hp (by omega) (by omega) this
  omega
 have hne:a≠b:=λz=>by
  rw[ea,eb]at z
  have:=Xw hp (by omega) (by omega) z
  omega
 refine⟨by rw[VR];exact hl,?_,?_,?_⟩
 .have e:=zdh (gs:=hs) hl ha hb hne (v:=p) hp.1
  have e:vAt (moved hs (a,b)) p=_:=e
  rw[e,if_neg (Ne.symm hbp),if_neg (Ne.symm hap)]
  exact h0
 .have:=zbE hp hl F hi' hj (by rw[<-ea];exact h2)
  rw[<-ea,<- eb]at this
  exact this
 .have:=zbE (i:=n - i) (j:=n - j) hp hl G (by omega) (by omega) (by rw[<-ea'];exact h2)
  rw[<-ea',<- eb']at this
  exact this
end
theorem zki {hs:List Int}:∀ (os xs:List Int) (a:Int),xs.length=os.length->chk hs a os xs=true->∀ (i:Nat) (o:Int),os[i]?=some o->vAt hs o+(if i=0 then a else xs.getD (i - 1) 0)<=2*xs.getD i 0+1:=by
 intro os
 induction os with
 | nil=>intro xs a _ _ i o h;cases h
 | cons o os ih =>
  intro xs a hl hc i o' ho
  cases xs with
  | nil=>cases hl
  | cons x xs =>
   have hc:(decide (vAt hs o+a<=2*x+1)&&chk hs x os xs)=true:=hc
   rw[Bool.and_eq_true]at hc
   cases i with
   | zero =>
    cases ho
    exact of_decide_eq_true hc.1
   | succ i =>
    have:=ih xs x (by simpa using hl) hc.2 i o' ho
    rw[if_neg (Nat.succ_ne_zero i)]
    cases i with
    | zero=>exact this
    | succ i=>rw[if_neg (Nat.succ_ne_zero i)]at this;exact this
structure zcH (hs os xs:List Int):Prop where
 len:xs.length=os.length
 nn:∀ x∈xs,0<=x
 chk:chk hs 0 os xs=true
 last:zD 0 xs=0
theorem zhu {xs:List Int}(h:∀ x∈xs,0<=x)(i:Nat):0<=xs.getD i 0:=by
 rw[List.getD_eq_getElem?_getD]
 cases e:xs[i]? with
 | none=>exact Int.le_refl _
 | some x=>exact h x (List.mem_of_getElem? e)
theorem zgK {n p s:Int}{hs xs:List Int}(h3:3<=n)(hp:0<=p/\p < n)(hs1:s=1\/s=-1)(R:zcH hs (zB n p s) xs):∃ f,Pap n p s hs f:=by
 have hl:=R.len
 rw[zF]at hl
 refine⟨λk=>if k<=0 then 0 else xs.getD (k - 1).toNat 0,?_,?_,λk k1 k2=>?_,λk k1 k2=>?_⟩
 .exact if_pos (Int.le_refl _)
 .show(if n - 1<=0 then (0:Int)else xs.getD (n - 1 - 1).toNat 0)=0
  rw[if_neg (by omega)]
  have:=zax (xs:=xs) 0 (λz=>by rw[z]at hl;simp at hl;omega)
  rw[R.last]at this
  rw[List.getD_eq_getElem?_getD,show(n - 1 - 1).toNat=xs.length - 1 by omega,this]
  rfl
 .show 0<=if k<=0 then (0:Int)else xs.getD (k - 1).toNat 0
  rw[if_neg (by omega)]
  exact zhu R.nn _
 .show vAt hs (pos n p s k)+(if k - 1<=0 then (0:Int)else xs.getD (k - 1 - 1).toNat 0)<=2*(if k<=0 then 0 else xs.getD (k - 1).toNat 0)+1
  have e:=zki _ xs 0 R.len R.chk (k - 1).toNat _ (YR (by omega))
  rw[show((((k - 1).toNat:Nat):Int)+1)=k by omega,zgc hs1 hp ⟨by omega,by omega⟩]at e
  rw[if_neg (show ¬ k<=0 by omega)]
  by_cases c:k=1
  .subst c
   rw[if_pos (by decide)]at e ⊢
   exact e
  .rw[if_neg (by omega)]at e ⊢
   rw[show(k - 1 - 1).toNat=(k - 1).toNat - 1 by omega]
   exact e
theorem zel {n p:Int}{hs xs ys:List Int}(h3:3<=n)(hp:0<=p/\p < n)(hl:(hs.length:Int)=n)(h0:vAt hs p=0)(R1:zcH hs (zB n p 1) xs)(R2:zcH hs (zB n p (-1)) ys):zhU n p hs :=
 ⟨hl,h0,zgK h3 hp (.inl rfl) R1,zgK h3 hp (.inr rfl) R2⟩
theorem zd2 {hs os xs:List Int}(h:ZJ hs os (.tup (xs.map .int))=true):zcH hs os xs:=by
 have h:(decide ((xs.map D.int).length=os.length)&&rgB hs 0 os (xs.map .int))=true:=h
 rw[Bool.and_eq_true,List.length_map]at h
 have hl:xs.length=os.length:=of_decide_eq_true h.1
 have nn:∀ x∈xs,0<=x:=λx hx=>by
  have:=List.all_eq_true.mp (zaw (by rw[List.length_map];exact hl) h.2) (.int x) (List.mem_map_of_mem hx)
  exact of_decide_eq_true this
 have e:=h.2
 rw[Zv hl nn,Bool.and_eq_true]at e
 exact⟨hl,nn,e.1,of_decide_eq_true e.2⟩
theorem ziD {hs os xs:List Int}(R:zcH hs os xs):ZJ hs os (.tup (xs.map .int))=true:=by
 show(decide ((xs.map D.int).length=os.length)&&rgB hs 0 os (xs.map .int))=true
 rw[List.length_map,decide_eq_true R.len,Zv R.len R.nn,R.chk,decide_eq_true R.last]
 rfl
theorem zbi {n p s:Int}{hs:List Int}(hn:∀ x∈hs,0<=x)(h:zD 0 (car hs 0 (zB n p s))=0):zcH hs (zB n p s) (car hs 0 (zB n p s)) :=
 ⟨yT _ _ _,VH (λo _=>Yu hn o) (Int.le_refl _),zdo,h⟩
theorem zbD {n p:Int}{hs g:List Int}{ts:List Tie}(h3:3<=n)(hp:0<=p/\p < n)(R:zix n ts)(B:zhU n p hs)(b:Beh (yB n ts) hs g):zhU n p g:=by
 induction b with
 | zero=>exact B
 | @step g s _ hs h2 ih =>
  obtain⟨r1,r2,r3⟩:=vG.mp hs
  exact zdc h3 hp ih r1 r2 ((R.adj s.1 s.2 r1 r2).mp r3) h2
theorem zdi {n:Int}{ts:List Tie}{hs gs gs':List Int}{ss:List Tie}(b:Beh (yB n ts) hs gs)(hp:XN n gs ss gs')(ht:∀ s∈ss,Zo s.1 s.2∈ts):Beh (yB n ts) hs gs':=by
 induction hp with
 | nil=>exact b
 | @cons gs gs' s ss a1 a2 a3 _ ih =>
  exact ih (.step b (vG.mpr ⟨a1,a2,ht s (.head _)⟩) a3) λt h=>ht t (.tail _ h)
theorem zhg {n:Int}{ts:List Tie}(R:zix n ts):Adj n ts:=λa b ha hb h=>(R.adj a b ha hb).mpr h
theorem zdX {n p M:Int}{hs:List Int}{ts:List Tie}(h3:3<=n)(h8:n<=8)(hp:0<=p/\p < n)(hl:(hs.length:Int)=n)(hn:∀ x∈hs,0<=x)(R:zix n ts)(hM:∃ g,Beh (yB n ts) hs g/\vAt g p=M)(hA:∀ g,Beh (yB n ts) hs g->vAt g p<=M) :
 0 < M↔(0 < vAt hs p\/0 < zD 0 (car hs 0 (zB n p 1))\/0 < zD 0 (car hs 0 (zB n p (-1)))):=by
 have nl:∀ s:Int,0<=zD 0 (car hs 0 (zB n p s)):=λs=>zbR (Int.le_refl _) (VH (λo _=>Yu hn o) (Int.le_refl _))
 have v0:=Yu hn p
 constructor
 .intro h
  by_cases c0:0 < vAt hs p
  .exact .inl c0
  by_cases c1:0 < zD 0 (car hs 0 (zB n p 1))
  .exact .inr (.inl c1)
  by_cases c2:0 < zD 0 (car hs 0 (zB n p (-1)))
  .exact .inr (.inr c2)
  exfalso
  have n1:=nl 1
  have n2:=nl (-1)
  have B:zhU n p hs:=zel h3 hp hl (by omega) (zbi hn (by omega)) (zbi hn (by omega))
  obtain⟨g,hg,e⟩:=hM
  have:=(zbD h3 hp R B hg).at0
  omega
 .have sw:∀ s:Int,(s=1\/s=-1)->0 < zD 0 (car hs 0 (zB n p s))->0 < M:=λs hs1 h=>by
   have nd:(p::zB n p s).Nodup:=by
    rcases hs1 with rfl | rfl
    .exact ZT h3 h8 hp
    .exact zae h3 h8 hp
   obtain⟨gs,a1,a2,a3⟩:=Z9 (hs:=hs) hp (zB n p s) 0 hs (λo ho=>vK (by omega) ho) nd hl (Wd h3) (λo _=>Yu hn o) (Int.le_refl _) (λo _=>rfl) (λo _=>(Int.add_zero _).symm)
   have:=hA _ (zdi .zero a1 (zgX h3 hp (zhg R) hs1))
   omega
  rintro(h | h | h)
  .have:=hA hs .zero
   omega
  .exact sw 1 (.inl rfl) h
  .exact sw (-1) (.inr rfl) h
theorem zii {n p M:Int}{hs xs ys:List Int}{ts:List Tie}(h3:3<=n)(hp:0<=p/\p < n)(hl:(hs.length:Int)=n)(hn:∀ x∈hs,0<=x)(R:zix n ts)(hM:∃ g,Beh (yB n ts) hs g/\vAt g p=M)(h:Vl n hs p (.tup [.tup (xs.map .int),.tup (ys.map .int)])=true):¬ 0 < M:=by
 have h:(!decide (0 < vAt hs p)&&(ZJ hs (zB n p 1) (.tup (xs.map .int))&&ZJ hs (zB n p (-1)) (.tup (ys.map .int))))=true:=h
 rw[Bool.and_eq_true,Bool.and_eq_true,Bool.not_eq_true']at h
 obtain⟨c0,c1,c2⟩:=h
 have c0:=of_decide_eq_false c0
 have v0:=Yu hn p
 have B:zhU n p hs:=zel h3 hp hl (by omega) (zd2 c1) (zd2 c2)
 obtain⟨g,hg,e⟩:=hM
 have:=(zbD h3 hp R B hg).at0
 omega
theorem zfq {n p:Int}{hs:List Int}(hn:∀ x∈hs,0<=x):Vl n hs p (.tup [.tup ((car hs 0 (zB n p 1)).map .int),.tup ((car hs 0 (zB n p (-1))).map .int)])=!decide (0 < vAt hs p\/0 < zD 0 (car hs 0 (zB n p 1))\/0 < zD 0 (car hs 0 (zB n p (-1)))):=by
 have nl:∀ s:Int,0<=zD 0 (car hs 0 (zB n p s)):=λs=>zbR (Int.le_refl _) (VH (λo _=>Yu hn o) (Int.le_refl _))
 have rw_:∀ s:Int,ZJ hs (zB n p s) (.tup ((car hs 0 (zB n p s)).map .int))=!decide (0 < zD 0 (car hs 0 (zB n p s))):=λs=>by
  have:=nl s
  by_cases c:0 < zD 0 (car hs 0 (zB n p s))
  .rw[decide_eq_true c]
   cases e:ZJ hs (zB n p s) (.tup ((car hs 0 (zB n p s)).map .int)) with
   | false=>rfl
   | true=>have:=(zd2 e).last;omega
  .rw[decide_eq_false c,ziD (zbi hn (by omega))]
   rfl
 show(!decide (0 < vAt hs p)&&(ZJ hs (zB n p 1) (.tup ((car hs 0 (zB n p 1)).map .int))&&ZJ hs (zB n p (-1)) (.tup ((car hs 0 (zB n p (-1))).map .int))))=_
 rw[rw_,rw_,Bool.decide_or,Bool.decide_or,Bool.not_or,Bool.not_or]
noncomputable def wU:SE->Ctl :=
 (yE (vL (zb (zc 0) (zb (eFn ye (zb (xU (fFn Vz (zb (zo xc (xU (fLC (Zd v5 (zb (zo Ze (zc 0) (eC (.int 1))) zr)) b1 yU (vL (zb (zc 0) (zb (zo xc (zc 0) (eC (.int 1))) zr))))) (xU (yD (zb (vL (zb (eC (.int 0)) (zb (zo Ze (zc 0) (eC (.int 1))) zr))) zr)))) zr))) zr)) zr))))
noncomputable def vW:List D->Option D:=fnD 1 wU
theorem zaL {ts:List Tie}(h:ts.length < 64):Vz [.lst (ts.map zX)]=some ((zf0 ts).map zX):=by
 show(if (ts.map zX).length < 64 then _ else none)=_
 rw[if_pos (by rw[List.length_map];exact h),show zbb (ts.map zX)=some ts from zdq ts]
 rfl
theorem zfs {i:Nat}:zjy i=.int (i:Int):=by unfold zjy;rw[Int.zero_add]
theorem zch {ρ:List (Option D)}{k:Int}(h7:zc 0 ρ=some (.int k))(h:3<=k/\k<=8):vL (zb (zc 0) (zb (eFn ye (zb (xU (fFn Vz (zb (zo xc (xU (fLC (Zd v5 (zb (zo Ze (zc 0) (eC (.int 1))) zr)) b1 yU (vL (zb (zc 0) (zb (zo xc (zc 0) (eC (.int 1))) zr))))) (xU (yD (zb (vL (zb (eC (.int 0)) (zb (zo Ze (zc 0) (eC (.int 1))) zr))) zr)))) zr))) zr)) zr)) ρ=some (XC k (wD k.toNat)):=by
 have ek:((k.toNat:Nat):Int)=k:=by omega
 have er:Zd v5 (zb (zo Ze (zc 0) (eC (.int 1))) zr) ρ=some ((List.range (k.toNat - 1)).map zjy):=by
  obtain⟨j,hj⟩:∃ j:Int,k - 1=j:=⟨_,rfl⟩
  have ea:zb (zo Ze (zc 0) (eC (.int 1))) zr ρ=some [.int j]:=zp (zq (x:=.int k) (y:=.int 1) h7 rfl (by rw[<-hj];rfl)) zQ
  have:=vJ (j:=j) (by omega) (by omega)
  rw[show j.toNat=k.toNat - 1 by omega]at this
  unfold Zd
  rw[ea,Option.bind_some]
  exact this
 have el:xU (fLC (Zd v5 (zb (zo Ze (zc 0) (eC (.int 1))) zr)) b1 yU (vL (zb (zc 0) (zb (zo xc (zc 0) (eC (.int 1))) zr)))) ρ=some (.lst ((List.range (k.toNat - 1)).map λi:Nat=>zX ((i:Int),(i:Int)+1))):=by
  refine vD ?_
  unfold fLC
  rw[er,Option.bind_some,if_pos (wg (by rw[List.length_map,List.length_range];omega))]
  refine vx (b:=b1) (t:=yU) zjy (λi:Nat=>zX ((i:Int),(i:Int)+1)) (List.range (k.toNat - 1)) λi hi=>⟨[some (zjy i)],rfl,rfl,?_⟩
  rw[zfs]
  rfl
 have es:Vz [.lst ((zcg k.toNat).map zX)]=some ((wD k.toNat).map zX):=by
  rw[zaL (by unfold zcg;rw[List.length_append,List.length_map,List.length_range];show _+1 < 64;omega),zie k.toNat (k38 h)]
 have eo:xU (yD (zb (vL (zb (eC (.int 0)) (zb (zo Ze (zc 0) (eC (.int 1))) zr))) zr)) ρ=some (.lst [zX (0,k - 1)]):=vD (zdC (ds:=[zX (0,k - 1)]) (zp (V1 (ds:=[.int 0,.int (k - 1)]) (zp rfl (zp (zq (x:=.int k) (y:=.int 1) h7 rfl rfl) zQ)) (by show 2<=1000;decide)) zQ) (by show 1<=1000;decide))
 have ea:zo xc (xU (fLC (Zd v5 (zb (zo Ze (zc 0) (eC (.int 1))) zr)) b1 yU (vL (zb (zc 0) (zb (zo xc (zc 0) (eC (.int 1))) zr))))) (xU (yD (zb (vL (zb (eC (.int 0)) (zb (zo Ze (zc 0) (eC (.int 1))) zr))) zr))) ρ=some (.lst ((zcg k.toNat).map zX)):=by
  refine zq el eo ?_
  rw[Vb (by rw[List.length_map,List.length_range];show _+1<=1000;omega)]
  unfold zcg
  rw[List.map_append,List.map_map,ek]
  rfl
 exact V1 (ds:=[.int k,.tup ((wD k.toNat).map zX)]) (zp h7 (zp (Yp (ds:=[.lst ((wD k.toNat).map zX)]) (zp (vD (zcY (ds:=[.lst ((zcg k.toNat).map zX)]) (zp ea zQ) es)) zQ) rfl) zQ)) (by show 2<=1000;decide)
theorem zaH {n:Int}(h:3<=n/\n<=8):vW [.int n]=some (XC n (wD n.toNat)):=by
 refine zan (ρ:=[.v (.int n)]) rfl ?_
 unfold wU
 exact Zp (wn (zch rfl h)) rfl
theorem Vu (T:Txt K mg ad):xz P w K mg base CX0 1 ad.f__law_ring ad.e__law_ring ["n"] (@spD ⟨K⟩ 1 vW):=by
 letI:KK:=⟨K⟩
 refine yO (N:=["n"]) (ps:=["n"]) T.d__law_ring.fn V4 (g:=wU) λcdv A outer s H E hr=>?_
 unfold wU
 exact(zh (zx (wG (za (edv 0) (za (yd zC yc rfl T.z_tuple zU (za (wz (zd0 rfl rfl T.z_sorted (za (zN (wz (Xs (L:=["k"]) (M:=["n"]) rfl (vQ (by rfl) (by rfl) (by rfl) (by with_unfolding_all rfl) (by rfl) (by rfl) (by kernel_rfl) all_nil) (Vm rfl T.z_range (za (X4 (edv 0) (zf zg)) zd)) gs1 rb1 (λ_ _ _ _=>(zI (i:=0) zln rfl (Or.inl rfl) (.inr rfl))) (λ_ _ _ _=>(wG (za (edv 0) (za (zN (edv 0) (zf zg)) zd)))))) (wz (wf (za (wG (za (zf zg) (za (X4 (edv 0) (zf zg)) zd))) zd)))) zd))) zd)) zd)))))
noncomputable def wo:SE->Ctl :=
 (zR (wQ false 4 (zo wH (zo xc (zo ixD (zc 0) (zo wc (zo xc (zc 1) (zo vg (zc 2) (zc 5))) (eFn Zk (zb (zc 0) zr)))) (zc 4)) (eC (.int 2))))
  (Ve false 3 (zc 4)))
noncomputable def wj:SE->Ctl :=
 (zR (XF 3 (yD zr))
  (zR (wQ false 4 (eC (.int 0)))
  (zR (wV XJ (zb (eC (.int 1)) (zb (eFn Zk (zb (zc 0) zr)) zr)) (xj 5) wo)
  (sFz 3 (yE (zc 3))))))
noncomputable def wd:List D->Option D:=fnD 6 wj
theorem Zg {n p s:Int}{hs:List Int}(h3:3<=n)(h8:n<=8)(hl:(hs.length:Int)=n)(hs1:s=1\/s=-1):wd [.tup (hs.map .int),.int p,.int s]=some (.lst ((car hs 0 (zB n p s)).map .int)):=by
 refine zan (ρ:=[.v (.tup (hs.map .int)),.v (.int p),.v (.int s),.no,.no,.no]) rfl ?_
 have elen:∀ ρ:Ev,ρ[0]?=some (some (.tup (hs.map .int)))->eFn Zk (zb (zc 0) zr) ρ=some (.int n):=fun ρ h=>by
  refine Yp (zp (d:=.tup (hs.map .int)) ?_ zQ) ?_
  .unfold zc;rw[h];rfl
  .show some (D.int ((hs.map D.int).length:Int))=_
   rw[List.length_map,hl]
 unfold wj
 refine zL rfl (zL rfl (wy (zda (lo:=1) (c:=(n - 1).toNat) (λi ρ=>∃ (o5:Sl),ρ=[.v (.tup (hs.map .int)),.v (.int p),.v (.int s),.o (((car hs 0 (zB n p s)).take i).map .int),.v (.int (zD 0 ((car hs 0 (zB n p s)).take i))),o5]) ?_ ⟨_,rfl⟩ ?_ ?_)))
 .rw[zp (d:=.int 1) (ds:=[.int n]) rfl (zp (elen _ rfl) zQ),Option.bind_some,Wa (by decide) (by decide) (by omega) (by omega)]
 .rintro i ρ hi ⟨o5,rfl⟩
  have ho:=YR (n:=n) (p:=p) (s:=s) hi
  rw[show(i:Int)+1=1+(i:Int) by omega]at ho
  obtain⟨k,hk⟩:∃ k:Int,(1:Int)+(i:Int)=k:=⟨_,rfl⟩
  rw[hk]at ho ⊢
  refine⟨_,rfl,?_⟩
  obtain⟨o,hok⟩:∃ o,(p+s*k) % n=o:=⟨_,rfl⟩
  rw[hok]at ho
  have hor:0<=o/\o < n:=by rw[<-hok];exact⟨Int.emod_nonneg _ (by omega),Int.emod_lt_of_pos _ (by omega)⟩
  rw[Ww (zB n p s) 0 i o ho,YZ,List.map_append]
  have hl2:((car hs 0 (zB n p s)).take i).length<=i:=List.length_take_le _ _
  generalize (car hs 0 (zB n p s)).take i=cs at hl2 ⊢
  unfold wo
  refine zL (wv (d:=.int ((vAt hs o+zD 0 cs) / 2)) ?_) ?_
  .show zo wH _ (eC (.int 2)) (visF [.v (.tup (hs.map .int)),.v (.int p),.v (.int s),.o (cs.map .int),.v (.int (zD 0 cs)),.v (.int k)])=_
   refine zq (x:=.int (vAt hs o+zD 0 cs)) (y:=.int 2) (zq (x:=.int (vAt hs o)) (y:=.int (zD 0 cs)) (zq (x:=.tup (hs.map .int)) (y:=.int o) rfl (zq (x:=.int (p+s*k)) (y:=.int n) (zq (x:=.int p) (y:=.int (s*k)) rfl (zq (x:=.int s) (y:=.int k) rfl rfl ?_) rfl) (elen _ rfl) ?_) (zfP hor hl)) rfl rfl) rfl (ZB (by decide) (by decide))
   .rcases hs1 with rfl | rfl <;> exact WO (by decide) (by decide)
   .rw[yo (by omega),hok]
  .exact Vd (zgR (m:=false) (i:=3) (f:=zc 4) (ds:=cs.map .int) (d:=.int ((vAt hs o+zD 0 cs) / 2)) rfl rfl (by rw[List.length_map];omega)) ⟨.v (.int k),rfl⟩
 .rintro ρ ⟨o5,rfl⟩
  rw[<-zF n p s,<- yT hs (zB n p s) 0,List.take_length]
  exact zg3 rfl (Zp rfl rfl)
theorem W2 (T:Txt K mg ad):xz P w K mg base CX0 1 ad.f__law_sweep ad.e__law_sweep ["heap","place","by"] (@spD ⟨K⟩ 3 wd):=by
 letI:KK:=⟨K⟩
 refine yO (N:=["heap","place","by","found","carry","k"]) (ps:=["heap","place","by"]) T.d__law_sweep.fn yX (g:=wj) λcdv A outer s H E hr=>?_
 unfold wj wo
 exact(ze (Zb (i:=3) yX.nd rfl (Or.inl rfl) (wf zd))
  (ze (yA (m:=false) (i:=4) yX.nd rfl (Or.inl rfl) (zf zg))
  (ze (zff PassesOwn.never rfl rfl T.z_range (za (zf zg) (za (zP zM x4 rfl T.z_len vp (za (edv 0) zd)) zd)) (yW (zI (i:=5) yX.nd rfl (Or.inl rfl))) (ze (yA (m:=false) (i:=4) yX.nd rfl (Or.inl rfl) (Wu (zN (yz (edv 0) (xx (zN (edv 1) (vb (edv 2) (edv 5))) (zP zM x4 rfl T.z_len vp (za (edv 0) zd))) (λ_ _=>rfl)) (edv 4)) (zf zg)))
  (zh (zcW (m:=false) (pv 3) (edv 4) (λa b=>zeN PySem.F.plainAttrs_list PySem.F.slot_list_append PySem.F.type_list_append Xr a b)))))
  (Zc 3 (zh (zx (edv 3)))))))
theorem zkc {xs:List Int}{k:Nat}{y:Int}(h:∀ x∈xs,0<=x)(hy:0<=y):∀ x∈xs.set k y,0<=x:=λx hx=>by
 rcases List.mem_or_eq_of_mem_set hx with hx | rfl
 .exact h x hx
 .exact hy
noncomputable def ZA:SE->Ctl :=
 (zR (WN (zw 3 yp (zb (zc 0) (zb (zc 1) (zb (zc 2) zr)))))
  (yE (eFn ye (zb (xU (fLC (iOf (zw 2 zZ (zb (zc 0) (zb (zc 2) zr)))) b1 yU (zo ixD (zw 2 YT (zb (zc 2) (zb (zc 0) zr))) (eUn zbp (eC (.int 1)))))) zr))))
noncomputable def YC:List D->Option D:=fnD 3 ZA
theorem zdB {n p:Int}{hs:List Int}(h3:3<=n)(h8:n<=8)(hl:(hs.length:Int)=n)(hn:∀ x∈hs,0<=x)(hsum:hs.sum<=300)(hp:0<=p/\p < n):YC [.int n,.tup (hs.map .int),.int p]=some (.tup [.int (zD 0 (car hs 0 (zB n p 1))),.int (zD 0 (car hs 0 (zB n p (-1))))]):=by
 have ef:=WF h3 h8 hl hn hsum hp
 have eo:=Xv (p:=p) h3 h8
 refine zan (ρ:=[.v (.int n),.v (.tup (hs.map .int)),.v (.int p)]) rfl ?_
 unfold ZA
 refine zL (Xc (d:=.non) (zH rfl ef)) (Zp (wn (d:=.tup [.int (zD 0 (car hs 0 (zB n p 1))),.int (zD 0 (car hs 0 (zB n p (-1))))]) ?_) rfl)
 refine Yp (ds:=[.lst [.int (zD 0 (car hs 0 (zB n p 1))),.int (zD 0 (car hs 0 (zB n p (-1))))]]) (zp (vD ?_) zQ) rfl
 unfold fLC
 have ei:iOf (zw 2 zZ (zb (zc 0) (zb (zc 2) zr))) (visG [.v (.int n),.v (.tup (hs.map .int)),.v (.int p)])=some [.lst ((zB n p 1).map .int),.lst ((zB n p (-1)).map .int)]:=VE (zH (ds:=[.int n,.int p]) rfl eo) rfl
 rw[ei,Option.bind_some,if_pos (wg (by show 2<=1000;decide))]
 refine vx (λs:Int=>D.lst ((zB n p s).map .int)) (λs:Int=>D.int (zD 0 (car hs 0 (zB n p s)))) [1,-1] λs _=>⟨[some (.lst ((zB n p s).map .int))],rfl,rfl,?_⟩
 have c0:car hs 0 (zB n p s)≠[]:=λe=>Wd (p:=p) (s:=s) h3 (List.eq_nil_of_length_eq_zero (by rw[<-yT hs _ 0,e];rfl))
 exact zq (x:=.lst ((car hs 0 (zB n p s)).map .int)) (y:=.int (-1)) (zH (ds:=[.tup (hs.map .int),.lst ((zB n p s).map .int)]) rfl (WQ (by rw[zF];omega) (λx hx=>hl ▸ vK (n:=n) (p:=p) (s:=s) (x:=x) (by omega) hx))) rfl (Zy c0)
theorem zeO (T:Txt K mg ad):xz P w K mg base CX0 9 ad.f_sweeps ad.e_sweeps ["n","heap","place"] (@spD ⟨K⟩ 3 YC):=by
 letI:KK:=⟨K⟩
 have G_must_fit_ring:=xF (P:=P) (w:=w) (base:=base) T
 have G_sweep_orders:=x6 (P:=P) (w:=w) (base:=base) T
 have G_swept:=Wv (P:=P) (w:=w) (base:=base) T
 refine yO (N:=["n","heap","place"]) (ps:=["n","heap","place"]) T.d_sweeps.fn zc9 (g:=ZA) λcdv A outer s H E hr=>?_
 unfold ZA
 exact(ze (YL (zi G_must_fit_ring hr rfl T.d_must_fit_ring (za (edv 0) (za (edv 1) (za (edv 2) zd)))))
  (zh (zx (yd zC yc rfl T.z_tuple zU (za (wz (Xs (L:=["order"]) (M:=["n","heap","place"]) rfl (vQ (by rfl) (by rfl) (by rfl) (by with_unfolding_all rfl) (by rfl) (by rfl) (by kernel_rfl) (all_cons rfl all_nil)) (Ym (zi G_sweep_orders hr rfl T.d_sweep_orders (za (edv 0) (za (edv 2) zd)))) gs1 rb1 (λ_ _ _ _=>(zI (i:=0) zk3 rfl (Or.inl rfl) (.inr rfl))) (λ_ _ _ _=>(yz (zi G_swept hr rfl T.d_swept (za (edv 2) (za (edv 0) zd))) (zbL (zf zg)) (λ_ _=>rfl))))) zd)))))
theorem zhw (a b:Int):zaK [.tup [.int a,.int b]]=some (.int (if b > a then b else a)):=by
 show some (D.int (zbK [a,b]))=_
 congr 2
 show max a b=_
 by_cases c:b > a
 .rw[if_pos c];omega
 .rw[if_neg c];omega
theorem ziX {m:Bool}{i:Nat}{fk fe:Ev->Option D}{ρ:SE}{ds:List D}{d:D}{k:Int}{j:Nat}(h1:vEv m fe ρ=some d)(h2:fk (visG ρ)=some (.int k))(h3:ρ[i]?=some (.o ds))(h4:L2.ixN ds.length k=some j) :
 XB m i fk fe ρ=.nx (ρ.set i (.o (ds.set j d))):=by
 unfold XB
 rw[h1,h2,h3]
 show(match ((L2.ixN ds.length k).map λj=>ρ.set i (Sl.o (ds.set j d)))with | some ρ'=>Ctl.nx ρ' | none=>Ctl.no)=_
 rw[h4]
 rfl
noncomputable def W9:SE->Ctl :=
 (zR (zdm 8 9 10 11 (iOf (zc 6)) (fFn vN (zb (zc 0) zr)) (Zd v5 (zb (eC (.int 3)) zr)) (zo wc (zw 2 zK (zb (zc 1) (zb (zo xc (zo xc (eC (.int 30)) (zo vg (eC (.int 9)) (zc 7))) (zc 9)) zr))) (eC (.int 2))) (zo wc (zw 2 zK (zb (zc 1) (zb (zo xc (zo xc (eC (.int 90)) (zo vg (eC (.int 9)) (zc 7))) (zc 9)) zr))) (eFn Zk (zb (zc 10) zr))) (eFn zg9 (zb (eC (.int 0)) (zb (zo Ze (zo xc (zo ixD (zc 10) (zc 11)) (eC (.int 1))) (zo vg (eC (.int 2)) (zo wc (zw 2 zK (zb (zc 1) (zb (zo xc (zo xc (eC (.int 150)) (zo vg (eC (.int 9)) (zc 7))) (zc 9)) zr))) (eC (.int 2))))) zr))))
  (zR (wQ false 12 (vL (zb (eFn ye (zb (zo ixD (zc 8) (eC (.int 0))) zr)) (zb (eFn ye (zb (zo ixD (zc 8) (eC (.int 1))) zr)) zr))))
  (sIf (vE (tOf (zc 5)) (tOf (zo zcM (zw 4 xP (zb (zc 2) (zb (zc 4) (zb (zc 3) (zb (zc 12) zr))))) (eC (.bl true))))) (yE (eC (.bl false))) zW)))
noncomputable def Wn:SE->Ctl :=
 (zR (wQ false 2 (zo xc (eC (.int 3)) (zo wc (zw 2 zK (zb (zc 1) (zb (eC (.int 1)) zr))) (eC (.int 5)))))
  (zR (wQ false 3 (zo wc (zw 2 zK (zb (zc 1) (zb (eC (.int 2)) zr))) (zc 2)))
  (zR (XF 4 (fFn vN (zb (zw 3 wt (zb (zc 2) (zb (zw 2 zK (zb (zc 1) (zb (eC (.int 3)) zr))) (zb (zo ixD (xU (yD (zb (eC (.int 5)) (zb (eC (.int 6)) (zb (eC (.int 8)) zr))))) (zo wc (zc 1) (eC (.int 3)))) zr)))) zr)))
  (zR (sIf (tOf (zo gtD (zo wc (zc 1) (eC (.int 8))) (eC (.int 0)))) (XB false 4 (zc 3) (eC (.int 0))) zW)
  (sFz 4 (zR (wQ false 4 (eFn ye (zb (zc 4) zr)))
  (zR (wQ false 5 (zo gtD (zw 3 xg (zb (zw 1 vW (zb (zc 2) zr)) (zb (zc 4) (zb (zc 3) zr)))) (eC (.int 0))))
  (zR (sIf (tOf (zo neD (zo xa (zw 3 vm (zb (zc 2) (zb (zc 4) (zb (zc 3) zr)))) (eC .non)) (zc 5))) (yE (eC (.bl false))) zW)
  (zR (sIf (tOf (zo neD (eOr (zo gtD (zo ixD (zc 4) (zc 3)) (eC (.int 0))) (zo gtD (eFn zaK (zb (zw 3 YC (zb (zc 2) (zb (zc 4) (zb (zc 3) zr)))) zr)) (eC (.int 0)))) (zc 5))) (yE (eC (.bl false))) zW)
  (zR (wQ false 6 (xU (yD (zb (zw 3 wd (zb (zc 4) (zb (zc 3) (zb (eC (.int 1)) zr)))) (zb (zw 3 wd (zb (zc 4) (zb (zc 3) (zb (eUn zbp (eC (.int 1))) zr)))) zr)))))
  (zR (sIf (tOf (zo ZI (zw 4 xP (zb (zc 2) (zb (zc 4) (zb (zc 3) (zb (vL (zb (eFn ye (zb (zo ixD (zc 6) (eC (.int 0))) zr)) (zb (eFn ye (zb (zo ixD (zc 6) (eC (.int 1))) zr)) zr))) zr))))) (zc 5))) (yE (eC (.bl false))) zW)
  (wV v5 (zb (eC (.int 6)) zr) (xj 7) W9))))))))))))
noncomputable def zeU:SE->Ctl :=
 (zR (XS (iOf (zo xc (xU (yD (zb (zw 2 yF (zb (zc 0) (zb (eC (.int 0)) zr))) zr))) (eSl slD (zc 0) (vo (eC (.int 1))) (vo (eC (.int 5)))))) (xj 1) Wn)
  (yE (eC (.bl true))))
noncomputable def zjX:List D->Option D:=fnD 13 zeU
noncomputable abbrev sX (c:Int):Ev->Option D:=zw 2 zK (zb (zc 1) (zb (zo xc (zo xc (eC (.int c)) (zo vg (eC (.int 9)) (zc 7))) (zc 9)) zr))
theorem zbj {c z t k:Int}{ρ:Ev}(v1:zc 1 ρ=some (.int z))(v7:zc 7 ρ=some (.int t))(v9:zc 9 ρ=some (.int k)):sX c ρ=some (.int (ZK z (c+9*t+k))) :=
 zH (ds:=[.int z,.int (c+9*t+k)]) (zp v1 (zp (zq (x:=.int (c+9*t)) (y:=.int k) (zq (x:=.int c) (y:=.int (9*t)) rfl (zq (x:=.int 9) (y:=.int t) rfl v7 (WO (by decide) (by decide))) rfl) v9 rfl) zQ)) rfl
noncomputable abbrev xE:Ev->Option D:=zo wc (sX 30) (eC (.int 2))
noncomputable abbrev xB:Ev->Option D:=zo wc (sX 90) (eFn Zk (zb (zc 10) zr))
noncomputable abbrev xC:Ev->Option D:=eFn zg9 (zb (eC (.int 0)) (zb (zo Ze (zo xc (zo ixD (zc 10) (zc 11)) (eC (.int 1))) (zo vg (eC (.int 2)) (zo wc (sX 150) (eC (.int 2))))) zr))
section
variable {s H C R:D}{z n p t:Int}{o9 o12:Sl}
theorem zex (k:Int){x:List Int}(hx:x≠[]):∃ x':List Int,zjV 10 11 xB xC [.v s,.v (.int z),.v (.int n),.v (.int p),.v H,.v C,.v R,.v (.int t),.no,.v (.int k),.no,.no,o12] x=some x'/\x'≠[]:=by
 have hl:0 < (x.length:Int):=by have:=List.length_pos_iff.mpr hx;omega
 obtain⟨j,hj⟩:∃ j:Int,ZK z (90+9*t+k) % (x.length:Int)=j:=⟨_,rfl⟩
 obtain⟨j0,j1⟩:=vI hl hj
 have eb:xB (visG [.v s,.v (.int z),.v (.int n),.v (.int p),.v H,.v C,.v R,.v (.int t),.no,.v (.int k),.o (x.map .int),.no,o12])=some (.int j):=by
  refine zq (x:=.int (ZK z (90+9*t+k))) (y:=.int (x.length:Int)) (zbj rfl rfl rfl) (Yp (ds:=[.lst (x.map .int)]) (zp rfl zQ) ?_) (by rw[yo hl,hj])
  show some (D.int ((x.map D.int).length:Int))=_
  rw[List.length_map]
 obtain⟨y,ey⟩:∃ y:Int,xC (visG [.v s,.v (.int z),.v (.int n),.v (.int p),.v H,.v C,.v R,.v (.int t),.no,.v (.int k),.o (x.map .int),.v (.int j),o12])=some (.int y):=by
  refine⟨_,Yp (ds:=[.int 0,.int (vAt x j+1 - 2*(ZK z (150+9*t+k) % 2))]) (zp rfl (zp (zq (x:=.int (vAt x j+1)) (y:=.int (2*(ZK z (150+9*t+k) % 2))) (zq (x:=.int (vAt x j)) (y:=.int 1) (zq (x:=.lst (x.map .int)) (y:=.int j) rfl rfl ?_) rfl rfl) (zq (x:=.int 2) (y:=.int (ZK z (150+9*t+k) % 2)) rfl (zq (x:=.int (ZK z (150+9*t+k))) (y:=.int 2) (zbj rfl rfl rfl) rfl (yo (by decide))) (WO (by decide) (by decide))) rfl) zQ)) rfl⟩
  show L2.atI (x.map D.int) j=_
  exact wW j0 j1
 have en:L2.ixN x.length j=some j.toNat:=by
  unfold L2.ixN
  rw[if_pos j0,if_pos j1]
 refine⟨x.set j.toNat y,?_,λz=>hx (by rw[<-List.length_eq_zero_iff]at z ⊢;rw[List.length_set]at z;exact z)⟩
 show(match xB (visG [.v s,.v (.int z),.v (.int n),.v (.int p),.v H,.v C,.v R,.v (.int t),.no,.v (.int k),.o (x.map .int),.no,o12]) with
  | some (.int j)=>(match xC (visG [.v s,.v (.int z),.v (.int n),.v (.int p),.v H,.v C,.v R,.v (.int t),.no,.v (.int k),.o (x.map .int),.v (.int j),o12]) with
   | some (.int y)=>(L2.ixN x.length j).map λn=>x.set n y
   | _=>none)
  | _=>none)=_
 rw[eb]
 dsimp only
 rw[ey]
 dsimp only
 rw[en]
 rfl
theorem zg6 (k:Int){a b:List Int}(ha:a≠[])(hb:b≠[]):∃ a' b':List Int,zce 10 11 xE xB xC [.v s,.v (.int z),.v (.int n),.v (.int p),.v H,.v C,.v R,.v (.int t),.no,.v (.int k),.no,.no,o12] (a,b)=some (a',b')/\a'≠[]/\b'≠[]:=by
 obtain⟨i,hi⟩:∃ i:Int,ZK z (30+9*t+k) % 2=i:=⟨_,rfl⟩
 obtain⟨i0,i1⟩:=vI (by decide) hi
 have ee:xE (visF [.v s,.v (.int z),.v (.int n),.v (.int p),.v H,.v C,.v R,.v (.int t),.no,.v (.int k),.no,.no,o12])=some (.int i) :=
  zq (x:=.int (ZK z (30+9*t+k))) (y:=.int 2) (zbj rfl rfl rfl) rfl (by rw[yo (by decide),hi])
 obtain⟨a',ea,na⟩:=zex (s:=s) (H:=H) (C:=C) (R:=R) (z:=z) (n:=n) (p:=p) (t:=t) (o12:=o12) k ha
 obtain⟨b',eb,nb⟩:=zex (s:=s) (H:=H) (C:=C) (R:=R) (z:=z) (n:=n) (p:=p) (t:=t) (o12:=o12) k hb
 unfold zce
 rw[ee]
 dsimp only
 have:i=0\/i=1:=by omega
 rcases this with rfl | rfl
 .rw[if_pos rfl,ea]
  exact⟨a',b,rfl,na,hb⟩
 .rw[if_neg (by decide),if_pos rfl,eb]
  exact⟨a,b',rfl,ha,nb⟩
theorem zhm:∀ (ks:List Int) (a b:List Int),a≠[]->b≠[]->∃ a' b':List Int,Vo 9 10 11 xE xB xC [.v s,.v (.int z),.v (.int n),.v (.int p),.v H,.v C,.v R,.v (.int t),.no,o9,.no,.no,o12] (ks.map .int) (a,b)=some (a',b'):=by
 intro ks
 induction ks with
 | nil=>intro a b _ _;exact⟨a,b,rfl⟩
 | cons k ks ih =>
  intro a b ha hb
  obtain⟨a1,b1,e1,n1,n2⟩:=zg6 (s:=s) (H:=H) (C:=C) (R:=R) (z:=z) (n:=n) (p:=p) (t:=t) (o12:=o12) k ha hb
  obtain⟨a2,b2,e2⟩:=ih a1 b1 n1 n2
  refine⟨a2,b2,?_⟩
  show(zce 10 11 xE xB xC [.v s,.v (.int z),.v (.int n),.v (.int p),.v H,.v C,.v R,.v (.int t),.no,.v (.int k),.no,.no,o12] (a,b)).bind _=_
  rw[e1]
  exact e2
theorem zg4 {xs ys:List Int}{o8 o10 o11:Sl}(hx:xs≠[])(hy:ys≠[])(h8:o8.isO=false)(h9:o9.isO=false)(h10:o10.isO=false)(h11:o11.isO=false)(h12:o12.isO=false):∃ a b:List Int,
 zdm 8 9 10 11 (iOf (zc 6)) (fFn vN (zb (zc 0) zr)) (Zd v5 (zb (eC (.int 3)) zr)) xE xB xC [.v s,.v (.int z),.v (.int n),.v (.int p),.v H,.v C,.v (.lst [.lst (xs.map .int),.lst (ys.map .int)]),.v (.int t),o8,o9,o10,o11,o12] =
  .nx [.v s,.v (.int z),.v (.int n),.v (.int p),.v H,.v C,.v (.lst [.lst (xs.map .int),.lst (ys.map .int)]),.v (.int t),.v (.lst [.lst (a.map .int),.lst (b.map .int)]),.no,.no,.no,o12]:=by
 obtain⟨a,b,e⟩:=zhm (s:=s) (H:=H) (C:=C) (R:=.lst [.lst (xs.map .int),.lst (ys.map .int)]) (z:=z) (n:=n) (p:=p) (t:=t) (o9:=o9) (o12:=o12) [0,1,2] xs ys hx hy
 refine⟨a,b,?_⟩
 have er:Zd v5 (zb (eC (.int 3)) zr) (visF [.v s,.v (.int z),.v (.int n),.v (.int p),.v H,.v C,.v (.lst [.lst (xs.map .int),.lst (ys.map .int)]),.v (.int t),.no,o9,.no,.no,o12])=some ([0,1,2].map D.int):=by
  show v5 [.int 3]=_
  rw[vJ (by decide) (by decide)]
  rfl
 have eo:zd8 8 9 10 11 (iOf (zc 6)) (fFn vN (zb (zc 0) zr)) (Zd v5 (zb (eC (.int 3)) zr)) xE xB xC [.v s,.v (.int z),.v (.int n),.v (.int p),.v H,.v C,.v (.lst [.lst (xs.map .int),.lst (ys.map .int)]),.v (.int t),o8,o9,o10,o11,o12] =
  some [.v s,.v (.int z),.v (.int n),.v (.int p),.v H,.v C,.v (.lst [.lst (xs.map .int),.lst (ys.map .int)]),.v (.int t),.v (.lst [.lst (a.map .int),.lst (b.map .int)]),.no,.no,.no,o12]:=by
  unfold zd8
  rw[if_pos ⟨by simp only[List.all_cons,List.all_nil,h8,h9,h10,h11,h12];rfl,by show 8 < 13;decide,by show 9 < 13;decide,by show 10 < 13;decide,by show 11 < 13;decide⟩]
  show((some (xs.map D.int)).bind zcc).bind _=_
  rw[Option.bind_some,ZF,Option.bind_some]
  show((some (ys.map D.int)).bind zcc).bind _=_
  rw[Option.bind_some,ZF,Option.bind_some]
  show(Zd v5 (zb (eC (.int 3)) zr) (visF [.v s,.v (.int z),.v (.int n),.v (.int p),.v H,.v C,.v (.lst [.lst (xs.map .int),.lst (ys.map .int)]),.v (.int t),.no,o9,.no,.no,o12])).bind _=_
  rw[er,Option.bind_some]
  show(Vo 9 10 11 xE xB xC [.v s,.v (.int z),.v (.int n),.v (.int p),.v H,.v C,.v (.lst [.lst (xs.map .int),.lst (ys.map .int)]),.v (.int t),.no,o9,.no,.no,o12] ([0,1,2].map .int) (xs,ys)).map _=_
  rw[e]
  rfl
 unfold zdm
 rw[eo]
end
theorem zho {n p:Int}{hs:List Int}:xa (vc n hs p) .non=some (.bl (decide (0 < vAt hs p\/0 < zD 0 (car hs 0 (zB n p 1))\/0 < zD 0 (car hs 0 (zB n p (-1)))))):=by
 unfold vc
 by_cases c0:0 < vAt hs p
 .rw[if_pos c0,decide_eq_true (.inl c0)]
  rfl
 rw[if_neg c0]
 by_cases c1:0 < zD 0 (car hs 0 (zB n p 1))
 .rw[if_pos c1,decide_eq_true (.inr (.inl c1))]
  rfl
 rw[if_neg c1]
 by_cases c2:0 < zD 0 (car hs 0 (zB n p (-1)))
 .rw[if_pos c2,decide_eq_true (.inr (.inr c2))]
  rfl
 rw[if_neg c2,decide_eq_false (λh=>h.elim c0 λh=>h.elim c1 c2)]
 rfl
theorem zj3 (c:Bool):neD (.bl c) (.bl c)=some (.bl false):=by cases c <;> rfl
theorem zjS (c:Bool):ZI (.bl (!c)) (.bl c)=some (.bl false):=by cases c <;> rfl
theorem zfr {t:Ev->Option Bool}{g h:SE->Ctl}{ρ:SE}{c:Ctl}(e:t (visG ρ)=some true)(e2:g ρ=c):sIf t g h ρ=c:=by
 unfold sIf
 rw[e]
 exact e2
theorem Xz {t:Ev->Option Bool}{g:SE->Ctl}{ρ:SE}(e:t (visG ρ)=some false):sIf t g zW ρ=.nx ρ:=by
 unfold sIf
 rw[e]
 rfl
theorem zkm {s:Int}{m:Int}(h0:0<=s)(h8:s<=8)(h7:m<=7):(s.toNat+1) ^ m.toNat < 5000000 :=
 Nat.lt_of_le_of_lt (Nat.le_trans (Nat.pow_le_pow_left (show s.toNat+1<=9 by omega) _) (Nat.pow_le_pow_right (by decide) (show m.toNat<=7 by omega))) (by decide)
theorem zdp {a b:List Int}:noS (.tup [.tup (a.map .int),.tup (b.map .int)])=true:=by
 show(noS (.tup (a.map .int))&&(noS (.tup (b.map .int))&&true))=true
 rw[Wf,Wf]
 rfl
theorem zjQ {s:D}{z n p t M:Int}{hs xs ys:List Int}{ts:List Tie}{o8 o9 o10 o11 o12:Sl}{N B C:SE->Prop}{Q:D->Prop}(h3:3<=n)(h8:n<=8)(hp:0<=p/\p < n)(hl:(hs.length:Int)=n)(hn:∀ x∈hs,0<=x)(hsum:hs.sum<=300)(R:zix n ts)(hM:∃ g,Beh (yB n ts) hs g/\vAt g p=M)
 (hx:xs≠[]) (hy:ys≠[]) (i8:o8.isO=false) (i9:o9.isO=false) (i10:o10.isO=false) (i11:o11.isO=false) (i12:o12.isO=false)
 (q:∀ d8 d12,N [.v s,.v (.int z),.v (.int n),.v (.int p),.v (.tup (hs.map .int)),.v (.bl (decide (0 < M))),.v (.lst [.lst (xs.map .int),.lst (ys.map .int)]),.v (.int t),.v d8,.no,.no,.no,.v d12]) :
 (W9 [.v s,.v (.int z),.v (.int n),.v (.int p),.v (.tup (hs.map .int)),.v (.bl (decide (0 < M))),.v (.lst [.lst (xs.map .int),.lst (ys.map .int)]),.v (.int t),o8,o9,o10,o11,o12]).w N B C Q:=by
 obtain⟨a,b,e⟩:=zg4 (s:=s) (H:=.tup (hs.map .int)) (C:=.bl (decide (0 < M))) (z:=z) (n:=n) (p:=p) (t:=t) hx hy i8 i9 i10 i11 i12
 have eh:=zbZ (d:=.tup [.tup (a.map .int),.tup (b.map .int)]) h3 h8 hl hn hsum hp zdp
 unfold W9
 refine zL e ?_
 refine zL (ρ':=[.v s,.v (.int z),.v (.int n),.v (.int p),.v (.tup (hs.map .int)),.v (.bl (decide (0 < M))),.v (.lst [.lst (xs.map .int),.lst (ys.map .int)]),.v (.int t),.v (.lst [.lst (a.map .int),.lst (b.map .int)]),.no,.no,.no,.v (.tup [.tup (a.map .int),.tup (b.map .int)])]) (zcE (V1 (ds:=[.tup (a.map .int),.tup (b.map .int)]) (zp (Yp (ds:=[.lst (a.map .int)]) (zp (zq (x:=.lst [.lst (a.map .int),.lst (b.map .int)]) (y:=.int 0) rfl rfl rfl) zQ) rfl) (zp (Yp (ds:=[.lst (b.map .int)]) (zp (zq (x:=.lst [.lst (a.map .int),.lst (b.map .int)]) (y:=.int 1) rfl rfl rfl) zQ) rfl) zQ)) (by show 2<=1000;decide))) ?_
 refine Vd (Xz ?_) (q _ _)
 have t1:tOf (zc 5) (visG [.v s,.v (.int z),.v (.int n),.v (.int p),.v (.tup (hs.map .int)),.v (.bl (decide (0 < M))),.v (.lst [.lst (xs.map .int),.lst (ys.map .int)]),.v (.int t),.v (.lst [.lst (a.map .int),.lst (b.map .int)]),.no,.no,.no,.v (.tup [.tup (a.map .int),.tup (b.map .int)])])=some (decide (0 < M)):=rfl
 by_cases c:0 < M
 .rw[decide_eq_true c]at t1 ⊢
  refine zhp t1 (vV (zq (x:=.bl false) (y:=.bl true) (zH (ds:=[.int n,.tup (hs.map .int),.int p,.tup [.tup (a.map .int),.tup (b.map .int)]]) rfl ?_) rfl rfl))
  rw[eh]
  cases eg:Vl n hs p (.tup [.tup (a.map .int),.tup (b.map .int)]) with
  | false=>rfl
  | true=>exact absurd c (zii h3 hp hl hn R hM eg)
 .rw[decide_eq_false c]at t1 ⊢
  exact zhZ t1
theorem mo3 {r:Int}(h0:0<=r)(h1:r < 3):∃ mo:Int,L2.atI [D.int 5,.int 6,.int 8] r=some (.int mo)/\0<=mo/\mo<=8:=by
 have:r=0\/r=1\/r=2:=by omega
 rcases this with rfl | rfl | rfl
 .exact⟨5,rfl,by decide,by decide⟩
 .exact⟨6,rfl,by decide,by decide⟩
 .exact⟨8,rfl,by decide,by decide⟩
theorem zfB:∀ (xs:List Int) (k:Nat),(∀ x∈xs,0<=x)->(xs.set k 0).sum<=xs.sum:=by
 intro xs
 induction xs with
 | nil=>intro k _;exact Int.le_refl _
 | cons x xs ih =>
  intro k h
  have hx:=h x (.head _)
  cases k with
  | zero=>rw[List.set_cons_zero,List.sum_cons,List.sum_cons];omega
  | succ k =>
   have:=ih k λy hy=>h y (.tail _ hy)
   rw[List.set_cons_succ,List.sum_cons,List.sum_cons];omega
structure Fz5 (o8 o9 o10 o11 o12:Sl):Prop where
 i8:o8.isO=false
 i9:o9.isO=false
 i10:o10.isO=false
 i11:o11.isO=false
 i12:o12.isO=false
theorem ziO {s:D}{z:Int}{o2 o3 o4 o5 o6 o7 o8 o9 o10 o11 o12:Sl}{N B C:SE->Prop}{Q:D->Prop}(f5:Fz5 o8 o9 o10 o11 o12)
 (q:∀ o2 o3 o4 o5 o6 o7 o8 o9 o10 o11 o12,Fz5 o8 o9 o10 o11 o12->N [.v s,.v (.int z),o2,o3,o4,o5,o6,o7,o8,o9,o10,o11,o12]) :
 (Wn [.v s,.v (.int z),o2,o3,o4,o5,o6,o7,o8,o9,o10,o11,o12]).w N B C Q:=by
 obtain⟨u,hu⟩:∃ u:Int,ZK z 1 % 5=u:=⟨_,rfl⟩
 obtain⟨u0,u1⟩:=vI (by decide) hu
 obtain⟨n,hnn⟩:∃ n:Int,3+u=n:=⟨_,rfl⟩
 have h3:3<=n:=by omega
 have h7:n<=7:=by omega
 have h8:n<=8:=by omega
 have hn0:0 < n:=by omega
 obtain⟨p,hpp⟩:∃ p:Int,ZK z 2 % n=p:=⟨_,rfl⟩
 have hp:=vI hn0 hpp
 obtain⟨r,hr⟩:∃ r:Int,z % 3=r:=⟨_,rfl⟩
 obtain⟨r0,r1⟩:=vI (by decide) hr
 obtain⟨mo,emo,mo0,mo8⟩:=mo3 r0 r1
 obtain⟨h0,eh0,hl0,hn0',hs0⟩:=zaW (n:=n) (c:=ZK z 3) (mo:=mo) (by omega) h8 mo0 (by omega)
 obtain⟨w,hw⟩:∃ w:Int,z % 8=w:=⟨_,rfl⟩
 obtain⟨hs,hl,hn,hsum8,est⟩:∃ hs:List Int,(hs.length:Int)=n/\(∀ x∈hs,0<=x)/\hs.sum<=8/\sIf (tOf (zo gtD (zo wc (zc 1) (eC (.int 8))) (eC (.int 0)))) (XB false 4 (zc 3) (eC (.int 0))) zW [.v s,.v (.int z),.v (.int n),.v (.int p),.o (h0.map .int),o5,o6,o7,o8,o9,o10,o11,o12]=.nx [.v s,.v (.int z),.v (.int n),.v (.int p),.o (hs.map .int),o5,o6,o7,o8,o9,o10,o11,o12]:=by
  have tt:tOf (zo gtD (zo wc (zc 1) (eC (.int 8))) (eC (.int 0))) (visG [.v s,.v (.int z),.v (.int n),.v (.int p),.o (h0.map .int),o5,o6,o7,o8,o9,o10,o11,o12])=some (decide (w > 0)):=vV (zq (x:=.int w) (y:=.int 0) (zq (x:=.int z) (y:=.int 8) rfl rfl (by rw[yo (by decide),hw])) rfl rfl)
  by_cases c:w > 0
  .rw[decide_eq_true c]at tt
   refine⟨h0.set p.toNat 0,by rw[List.length_set];exact hl0,zkc hn0' (Int.le_refl _),by have:=zfB h0 p.toNat hn0';omega,zfr tt ?_⟩
   rw[ziX (d:=.int 0) (k:=p) (j:=p.toNat) (ds:=h0.map .int) rfl rfl rfl ?_]
   .rw[List.map_set]
    rfl
   .rw[List.length_map]
    unfold L2.ixN
    rw[if_pos hp.1,if_pos (by omega)]
  .rw[decide_eq_false c]at tt
   exact⟨h0,hl0,hn0',by omega,Xz tt⟩
 have hsum0:0<=hs.sum:=VP hn
 have hsum:hs.sum<=300:=by omega
 have R:=zlq (n:=n) ⟨h3,h8⟩
 have er:=zaH (n:=n) ⟨h3,h8⟩
 generalize wD n.toNat=ts at R er
 obtain⟨M,eM,hM,hA⟩:=WR R.ok R.len hl hn (zkm hsum0 hsum8 h7) hp
 have ci:=zdX h3 h8 hp hl hn R hM hA
 have ec:decide (0 < vAt hs p\/0 < zD 0 (car hs 0 (zB n p 1))\/0 < zD 0 (car hs 0 (zB n p (-1))))=decide (0 < M):=decide_eq_decide.mpr ci.symm
 have eS:=WV h3 h8 hl hn hsum hp
 have eW:=zdB h3 h8 hl hn hsum hp
 have e1:=Zg (p:=p) h3 h8 hl (.inl rfl:(1:Int)=1\/(1:Int)=-1)
 have e2:=Zg (p:=p) h3 h8 hl (.inr rfl:(-1:Int)=1\/(-1:Int)=-1)
 have eG:=zbZ (d:=.tup [.tup ((car hs 0 (zB n p 1)).map .int),.tup ((car hs 0 (zB n p (-1))).map .int)]) h3 h8 hl hn hsum hp zdp
 rw[zfq hn,ec]at eG
 have sc:=zho (n:=n) (p:=p) (hs:=hs)
 rw[ec]at sc
 have ne:∀ s:Int,car hs 0 (zB n p s)≠[]:=λs e=>Wd (p:=p) (s:=s) h3 (List.eq_nil_of_length_eq_zero (by rw[<-yT hs _ 0,e];rfl))
 have ne1:=ne 1
 have ne2:=ne (-1)
 obtain⟨A,hA1⟩:∃ A:Int,zD 0 (car hs 0 (zB n p 1))=A:=⟨_,rfl⟩
 obtain⟨E,hE1⟩:∃ E:Int,zD 0 (car hs 0 (zB n p (-1)))=E:=⟨_,rfl⟩
 rw[hA1,hE1]at eW ci
 generalize car hs 0 (zB n p 1)=xs at e1 eG ne1
 generalize car hs 0 (zB n p (-1))=ys at e2 eG ne2
 obtain⟨c,hc⟩:∃ c:Bool,decide (0 < M)=c:=⟨_,rfl⟩
 unfold Wn
 refine zL (ρ':=[.v s,.v (.int z),.v (.int n),o3,o4,o5,o6,o7,o8,o9,o10,o11,o12]) (zcE (zq (x:=.int 3) (y:=.int u) rfl (zq (x:=.int (ZK z 1)) (y:=.int 5) rfl rfl (by rw[yo (by decide),hu])) (by rw[xm,hnn]))) ?_
 refine zL (ρ':=[.v s,.v (.int z),.v (.int n),.v (.int p),o4,o5,o6,o7,o8,o9,o10,o11,o12]) (zcE (zq (x:=.int (ZK z 2)) (y:=.int n) rfl rfl (by rw[yo hn0,hpp]))) ?_
 refine zL (ρ':=[.v s,.v (.int z),.v (.int n),.v (.int p),.o (h0.map .int),o5,o6,o7,o8,o9,o10,o11,o12]) (zdY (zcY (ds:=[.tup (h0.map .int)]) (zp (zH (ds:=[.int n,.int (ZK z 3),.int mo]) (zp rfl (zp rfl (zp (zq (x:=.lst [D.int 5,.int 6,.int 8]) (y:=.int r) rfl (zq (x:=.int z) (y:=.int 3) rfl rfl (by rw[yo (by decide),hr])) emo) zQ))) eh0) zQ) rfl)) ?_
 refine zL est ?_
 refine zg3 (ρ':=[.v s,.v (.int z),.v (.int n),.v (.int p),.v (.lst (hs.map .int)),o5,o6,o7,o8,o9,o10,o11,o12]) rfl ?_
 refine zL (ρ':=[.v s,.v (.int z),.v (.int n),.v (.int p),.v (.tup (hs.map .int)),o5,o6,o7,o8,o9,o10,o11,o12]) (zcE (Yp (ds:=[.lst (hs.map .int)]) (zp rfl zQ) rfl)) ?_
 refine zL (ρ':=[.v s,.v (.int z),.v (.int n),.v (.int p),.v (.tup (hs.map .int)),.v (.bl c),o6,o7,o8,o9,o10,o11,o12]) (zcE (zq (x:=.int M) (y:=.int 0) (zH (ds:=[XC n ts,.tup (hs.map .int),.int p]) (zp (zH (ds:=[.int n]) rfl er) (zp rfl (zp rfl zQ))) eM) rfl (show gtD (.int M) (.int 0)=some (.bl c) by rw[<-hc];rfl))) ?_
 refine zL (ρ':=[.v s,.v (.int z),.v (.int n),.v (.int p),.v (.tup (hs.map .int)),.v (.bl c),o6,o7,o8,o9,o10,o11,o12]) (Xz (vV (zq (x:=.bl c) (y:=.bl c) (zq (x:=vc n hs p) (y:=.non) (zH (ds:=[.int n,.tup (hs.map .int),.int p]) rfl eS) rfl (by rw[sc,hc])) rfl (zj3 c)))) ?_
 have tv2:eOr (zo gtD (zo ixD (zc 4) (zc 3)) (eC (.int 0))) (zo gtD (eFn zaK (zb (zw 3 YC (zb (zc 2) (zb (zc 4) (zb (zc 3) zr)))) zr)) (eC (.int 0))) (visG [.v s,.v (.int z),.v (.int n),.v (.int p),.v (.tup (hs.map .int)),.v (.bl c),o6,o7,o8,o9,o10,o11,o12])=some (.bl c):=by
  have a1:zo gtD (zo ixD (zc 4) (zc 3)) (eC (.int 0)) (visG [.v s,.v (.int z),.v (.int n),.v (.int p),.v (.tup (hs.map .int)),.v (.bl c),o6,o7,o8,o9,o10,o11,o12])=some (.bl (decide (vAt hs p > 0))):=zq (x:=.int (vAt hs p)) (y:=.int 0) (zq (x:=.tup (hs.map .int)) (y:=.int p) rfl rfl (zfP hp hl)) rfl rfl
  have a2:zo gtD (eFn zaK (zb (zw 3 YC (zb (zc 2) (zb (zc 4) (zb (zc 3) zr)))) zr)) (eC (.int 0)) (visG [.v s,.v (.int z),.v (.int n),.v (.int p),.v (.tup (hs.map .int)),.v (.bl c),o6,o7,o8,o9,o10,o11,o12])=some (.bl (decide ((if E > A then E else A) > 0))):=zq (x:=.int (if E > A then E else A)) (y:=.int 0) (Yp (ds:=[.tup [.int A,.int E]]) (zp (zH (ds:=[.int n,.tup (hs.map .int),.int p]) rfl eW) zQ) (zhw A E)) rfl rfl
  rw[zlo a1 a2,<- hc,<- Bool.decide_or]
  congr 2
  refine decide_eq_decide.mpr ⟨λh=>ci.mpr ?_,λh=>?_⟩
  .split at h <;> omega
  .have:=ci.mp h
   split <;> omega
 refine zL (ρ':=[.v s,.v (.int z),.v (.int n),.v (.int p),.v (.tup (hs.map .int)),.v (.bl c),o6,o7,o8,o9,o10,o11,o12]) (Xz (vV (zq (x:=.bl c) (y:=.bl c) tv2 rfl (zj3 c)))) ?_
 refine zL (ρ':=[.v s,.v (.int z),.v (.int n),.v (.int p),.v (.tup (hs.map .int)),.v (.bl c),.v (.lst [.lst (xs.map .int),.lst (ys.map .int)]),o7,o8,o9,o10,o11,o12]) (zcE (vD (zdC (ds:=[.lst (xs.map .int),.lst (ys.map .int)]) (zp (zH (ds:=[.tup (hs.map .int),.int p,.int 1]) rfl e1) (zp (zH (ds:=[.tup (hs.map .int),.int p,.int (-1)]) rfl e2) zQ)) (by show 2<=1000;decide)))) ?_
 rw[hc]at eG
 refine zL (ρ':=[.v s,.v (.int z),.v (.int n),.v (.int p),.v (.tup (hs.map .int)),.v (.bl c),.v (.lst [.lst (xs.map .int),.lst (ys.map .int)]),o7,o8,o9,o10,o11,o12]) (Xz (vV (zq (x:=.bl (!c)) (y:=.bl c) (zH (ds:=[.int n,.tup (hs.map .int),.int p,.tup [.tup (xs.map .int),.tup (ys.map .int)]]) (zp rfl (zp rfl (zp rfl (zp (V1 (ds:=[.tup (xs.map .int),.tup (ys.map .int)]) (zp (Yp (ds:=[.lst (xs.map .int)]) (zp (zq (x:=.lst [.lst (xs.map .int),.lst (ys.map .int)]) (y:=.int 0) rfl rfl rfl) zQ) rfl) (zp (Yp (ds:=[.lst (ys.map .int)]) (zp (zq (x:=.lst [.lst (xs.map .int),.lst (ys.map .int)]) (y:=.int 1) rfl rfl rfl) zQ) rfl) zQ)) (by show 2<=1000;decide)) zQ)))) eG) rfl (zjS c)))) ?_
 refine zda (lo:=0) (c:=6) (λ_ ρ=>∃ o7 o8 o9 o10 o11 o12,Fz5 o8 o9 o10 o11 o12/\ρ=[.v s,.v (.int z),.v (.int n),.v (.int p),.v (.tup (hs.map .int)),.v (.bl c),.v (.lst [.lst (xs.map .int),.lst (ys.map .int)]),o7,o8,o9,o10,o11,o12]) (show v5 [.int 6]=some (WK 0 6)from vJ (by decide) (by decide)) ⟨_,_,_,_,_,_,f5,rfl⟩ ?_ ?_
 .rintro i ρ hi ⟨o7,o8,o9,o10,o11,o12,f5,rfl⟩
  refine⟨_,rfl,?_⟩
  rw[<-hc]
  refine zjQ h3 h8 hp hl hn hsum R hM ne1 ne2 f5.i8 f5.i9 f5.i10 f5.i11 f5.i12 λd8 d12=>?_
  exact⟨_,_,_,_,_,_,⟨rfl,rfl,rfl,rfl,rfl⟩,rfl⟩
 .rintro ρ ⟨o7,o8,o9,o10,o11,o12,f5,rfl⟩
  exact q _ _ _ _ _ _ _ _ _ _ _ f5
theorem ze2:∀ ns:List Int,ns.length<=63->zjX [.scr ns]=some (.bl true):=by
 intro ns hns
 refine zan (ρ:=[.v (.scr ns),.no,.no,.no,.no,.no,.no,.no,.no,.no,.no,.no,.no]) rfl ?_
 unfold zeU
 obtain⟨xs,hxs⟩:=zgh (ρ:=[none,none,none,none,none,none,none,none,none,none,none,none]) ns 5 hns
 refine wy (zcA (ds:=xs.map .int) (λi ρ=>∃ o1 o2 o3 o4 o5 o6 o7 o8 o9 o10 o11 o12,Fz5 o8 o9 o10 o11 o12/\ρ=[.v (.scr ns),o1,o2,o3,o4,o5,o6,o7,o8,o9,o10,o11,o12]) hxs ⟨_,_,_,_,_,_,_,_,_,_,_,_,⟨rfl,rfl,rfl,rfl,rfl⟩,rfl⟩ ?_ ?_)
 .rintro i d ρ hd ⟨o1,o2,o3,o4,o5,o6,o7,o8,o9,o10,o11,o12,f5,rfl⟩
  rw[List.getElem?_map]at hd
  obtain⟨z,hz,rfl⟩:=Option.map_eq_some_iff.mp hd
  exact⟨_,rfl,ziO f5 λ_ _ _ _ _ _ _ _ _ _ _ f=>⟨_,_,_,_,_,_,_,_,_,_,_,_,f,rfl⟩⟩
 .rintro ρ ⟨o1,o2,o3,o4,o5,o6,o7,o8,o9,o10,o11,o12,f5,rfl⟩
  exact Zp rfl rfl
theorem zjc (T:Txt K mg ad):xz P w K mg base CX0 20 ad.f_law ad.e_law ["script"] (zdd K):=by
 letI:KK:=⟨K⟩
 have G_sweeps:=zeO (P:=P) (w:=w) (base:=base) T
 have G_ring_steps:=Wy (P:=P) (w:=w) (base:=base) T
 have G_sweep_holds:=XE (P:=P) (w:=w) (base:=base) T
 have G__law_cell_at:=Xe (P:=P) (w:=w) (base:=base) T
 have G__law_stir:=Za (P:=P) (w:=w) (base:=base) T
 have G__law_heap_by:=ZV (P:=P) (w:=w) (base:=base) T
 have G__law_ring:=Vu (P:=P) (w:=w) (base:=base) T
 have G__law_sweep:=W2 (P:=P) (w:=w) (base:=base) T
 have G__law_most_there:=Ys (P:=P) (w:=w) (base:=base) T
 refine(zjN (p:=zjX) (yO (N:=["script","cell","n","place","heap","comes","rows","turn","other","k","row","at","paper"]) (ps:=["script"]) T.d_law.fn wl (g:=zeU) λcdv A outer s H E hr=>?_) ze2).mono (j:=10) (by decide)
 unfold zeU Wn W9
 exact(ze (XQ PassesOwn.never rfl (Ym (zN (wz (wf (za (zi G__law_cell_at hr rfl T.d__law_cell_at (za (edv 0) (za (zf zg) zd))) zd))) (zbs (edv 0) (zbh (zf zg)) (zbh (zf zg))))) (yW (zI (i:=1) wl.nd rfl (Or.inl rfl))) (ze (yA (m:=false) (i:=2) wl.nd rfl (Or.inl rfl) (zN (zf zg) (xx (zi G__law_stir hr rfl T.d__law_stir (za (edv 1) (za (zf zg) zd))) (zf zg))))
  (ze (yA (m:=false) (i:=3) wl.nd rfl (Or.inl rfl) (xx (zi G__law_stir hr rfl T.d__law_stir (za (edv 1) (za (zf zg) zd))) (edv 2)))
  (ze (Zb (i:=4) wl.nd rfl (Or.inl rfl) (zaV rfl T.z_list (za (zi G__law_heap_by hr rfl T.d__law_heap_by (za (edv 2) (za (zi G__law_stir hr rfl T.d__law_stir (za (edv 1) (za (zf zg) zd))) (za (yz (wz (wf (za (zf zg) (za (zf zg) (za (zf zg) zd))))) (xx (edv 1) (zf zg)) (λ_ _=>rfl)) zd)))) zd)))
  (ze (yG (zT XL yg (zG _) (xx (edv 1) (zf zg)) (zf zg)) (zh (zb0 (m:=false) (zf zg) (pv 4) (edv 3))) zE)
  (Zc 4 (ze (yA (m:=false) (i:=4) wl.nd rfl (Or.inl rfl) (yd zC yc rfl T.z_tuple zU (za (edv 4) zd)))
  (ze (yA (m:=false) (i:=5) wl.nd rfl (Or.inl rfl) (wB XL yg (zG _) (zi G__law_most_there hr rfl T.d__law_most_there (za (zi G__law_ring hr rfl T.d__law_ring (za (edv 2) zd)) (za (edv 4) (za (edv 3) zd)))) (zf zg)))
  (ze (yG (zT zcm XW (zG _) (wB VZ X0 (zG _) (zi G_ring_steps hr rfl T.d_ring_steps (za (edv 2) (za (edv 4) (za (edv 3) zd)))) (zeP zdz)) (edv 5)) (zh (zx (ve vf))) zE)
  (ze (yG (zT zcm XW (zG _) (zjR (wB XL yg (zG _) (yz (edv 4) (edv 3) (λ_ _=>rfl)) (zf zg)) (Zi (wB XL yg (zG _) (zP (zaf rfl) zb6 rfl T.z_max zdx (za (zi G_sweeps hr rfl T.d_sweeps (za (edv 2) (za (edv 4) (za (edv 3) zd)))) zd)) (zf zg)))) (edv 5)) (zh (zx (ve vf))) zE)
  (ze (yA (m:=false) (i:=6) wl.nd rfl (Or.inl rfl) (wz (wf (za (zi G__law_sweep hr rfl T.d__law_sweep (za (edv 4) (za (edv 3) (za (zf zg) zd)))) (za (zi G__law_sweep hr rfl T.d__law_sweep (za (edv 4) (za (edv 3) (za (zbL (zf zg)) zd)))) zd)))))
  (ze (yG (zT (xw hr) yu (zG _) (zi G_sweep_holds hr rfl T.d_sweep_holds (za (edv 2) (za (edv 4) (za (edv 3) (za (wG (za (yd zC yc rfl T.z_tuple zU (za (yz (edv 6) (zf zg) (λ_ _=>rfl)) zd)) (za (yd zC yc rfl T.z_tuple zU (za (yz (edv 6) (zf zg) (λ_ _=>rfl)) zd)) zd))) zd))))) (edv 5)) (zh (zx (ve vf))) zE)
  (zh (W0 PassesOwn.never rfl rfl T.z_range (za (zf zg) zd) (yW (zI (i:=7) wl.nd rfl (Or.inl rfl))) (zgm (io:=8) (ik:=9) (ir:=10) (ia:=11) (by decide) PassesOwn.never rfl (zgg (L:=["row"]) (M:=["script","cell","n","place","heap","comes","rows","turn","other","k","·row","at","paper"]) (i:=8) wl.nd rfl (Or.inl rfl) rfl (vQ (by rfl) (by rfl) (by rfl) (by with_unfolding_all rfl) (by rfl) (by rfl) (by kernel_rfl) all_nil) (Ym (edv 6)) gs1 rb1 (λ_ _ _ _=>(zI (i:=0) zkW rfl (Or.inl rfl) (.inr rfl))) (λ_ _ _ _=>(zaV rfl T.z_list (za (edv 0) zd)))) (zI (i:=9) wl.nd rfl (Or.inl rfl)) (Vm rfl T.z_range (za (zf zg) zd)) (zfE (i:=10) wl.nd rfl (Or.inl rfl) (pv 8) (xx (zi G__law_stir hr rfl T.d__law_stir (za (edv 1) (za (zN (zN (zf zg) (vb (zf zg) (edv 7))) (edv 9)) zd))) (zf zg)) (λ_ _=>rfl)) (zfa (i:=11) wl.nd rfl (Or.inl rfl) (xx (zi G__law_stir hr rfl T.d__law_stir (za (edv 1) (za (zN (zN (zf zg) (vb (zf zg) (edv 7))) (edv 9)) zd))) (zP zM x4 rfl T.z_len vp (za (edv 10) zd)))) (zfN (zP (zdF rfl) zfz rfl T.z_max zdx (za (zf zg) (za (X4 (zN (yz (edv 10) (edv 11) (λ_ _=>rfl)) (zf zg)) (vb (zf zg) (xx (zi G__law_stir hr rfl T.d__law_stir (za (edv 1) (za (zN (zN (zf zg) (vb (zf zg) (edv 7))) (edv 9)) zd))) (zf zg)))) zd))) (pv 10) (pv 11))
  (ze (yA (m:=false) (i:=12) wl.nd rfl (Or.inl rfl) (wG (za (yd zC yc rfl T.z_tuple zU (za (yz (edv 8) (zf zg) (λ_ _=>rfl)) zd)) (za (yd zC yc rfl T.z_tuple zU (za (yz (edv 8) (zf zg) (λ_ _=>rfl)) zd)) zd))))
  (zh (yG (zhl (zgr (wC (edv 5)) (zdW (zT zjB zhh (zG _) (zi G_sweep_holds hr rfl T.d_sweep_holds (za (edv 2) (za (edv 4) (za (edv 3) (za (edv 12) zd))))) (ve vf))))) (zh (zx (ve vf))) zE))))))))))))))))))
  (zh (zx (ve vf))))
end
theorem zlA {us:List Value}(h:us.length=1):∃ x0,us=[x0]:=by
 cases us with
 | nil=>cases h
 | cons x0 us =>
  cases us with
  | nil=>exact⟨x0,rfl⟩
  | cons _ _=>cases h
theorem zlk {us:List Value}(h:us.length=2):∃ x0 x1,us=[x0,x1]:=by
 cases us with
 | nil=>cases h
 | cons x0 us =>
  cases us with
  | nil=>cases h
  | cons x1 us =>
   cases us with
   | nil=>exact⟨x0,x1,rfl⟩
   | cons _ _=>cases h
theorem zlM {us:List Value}(h:us.length=3):∃ x0 x1 x2,us=[x0,x1,x2]:=by
 cases us with
 | nil=>cases h
 | cons x0 us =>
  cases us with
  | nil=>cases h
  | cons x1 us =>
   cases us with
   | nil=>cases h
   | cons x2 us =>
    cases us with
    | nil=>exact⟨x0,x1,x2,rfl⟩
    | cons _ _=>cases h
theorem zlC {us:List Value}(h:us.length=4):∃ x0 x1 x2 x3,us=[x0,x1,x2,x3]:=by
 cases us with
 | nil=>cases h
 | cons x0 us =>
  cases us with
  | nil=>cases h
  | cons x1 us =>
   cases us with
   | nil=>cases h
   | cons x2 us =>
    cases us with
    | nil=>cases h
    | cons x3 us =>
     cases us with
     | nil=>exact⟨x0,x1,x2,x3,rfl⟩
     | cons _ _=>cases h
noncomputable abbrev Lk (x:Str)(st:Stmt)(oc:Value)(od:Option Addr)(kV dc pm:Value)(an:Option Addr)(cd ct:Value)(sl:Array (Option Value)):Option Obj:=some ⟨oc,od,.func (W.fnOf x x (Ye st) (wR st) (zn st) .none kV dc pm an cd ct),sl⟩
theorem mkD {K:W.Frag}{h:Heap}{mg:Str->Option Value}{x:Str}{st:Stmt}{ps:List Str}{f:Addr}{oc kV dc pm cd ct:Value}{od an:Option Addr}{sl:Array (Option Value)}(X:K.In h)(G:h.Ns mainGlobals mg)(a:W.nsIn K mainGlobals x=some (some (.ref f)))(l:K.lookup f=Lk x st oc od kV dc pm an cd ct sl)(c:W.codeIn K cd x=true)(k:W.keepIn K (.ref f)=true)
 (b:∀ (kV doc pm:Value) (an:Option Addr) (cdv ct:Value) (us:List Value),us.length=ps.length->bindArgs (W.fnOf x x (Ye st) (wR st) (zn st) .none kV doc pm an cdv ct) ⟨us,[]⟩=pure (ps.zip us)):Def K mg x st ps f (W.fnOf x x (Ye st) (wR st) (zn st) .none kV dc pm an cd ct):=⟨zgA l c k,(zgA l c k).binds b,W.mg_of X G a⟩
theorem bn1 {F:Value->Value->Value->Option Addr->Value->Value->List Value->Prop}(h:∀ a b c d e f x0,F a b c d e f [x0]):∀ a b c d e f us,us.length=1->F a b c d e f us:=λa b c d e f us hl=>by obtain⟨x0,rfl⟩:=zlA hl;exact h a b c d e f x0
theorem bn2 {F:Value->Value->Value->Option Addr->Value->Value->List Value->Prop}(h:∀ a b c d e f x0 x1,F a b c d e f [x0,x1]):∀ a b c d e f us,us.length=2->F a b c d e f us:=λa b c d e f us hl=>by obtain⟨x0,x1,rfl⟩:=zlk hl;exact h a b c d e f x0 x1
theorem bn3 {F:Value->Value->Value->Option Addr->Value->Value->List Value->Prop}(h:∀ a b c d e f x0 x1 x2,F a b c d e f [x0,x1,x2]):∀ a b c d e f us,us.length=3->F a b c d e f us:=λa b c d e f us hl=>by obtain⟨x0,x1,x2,rfl⟩:=zlM hl;exact h a b c d e f x0 x1 x2
theorem bn4 {F:Value->Value->Value->Option Addr->Value->Value->List Value->Prop}(h:∀ a b c d e f x0 x1 x2 x3,F a b c d e f [x0,x1,x2,x3]):∀ a b c d e f us,us.length=4->F a b c d e f us:=λa b c d e f us hl=>by obtain⟨x0,x1,x2,x3,rfl⟩:=zlC hl;exact h a b c d e f x0 x1 x2 x3
theorem all_mk {l:W.OpenLaw} {w:World} {K:W.Frag} {h:Heap} {mg:Str->Option Value} {fa f0 f1 f2 f3 f4 f5 f6 f7 f8 f9 f10 f11 f12 f13 f14 f15 f16 f17 f18 f19 f20 f21 f22 f23 f24 f25 f26 f27 f28 f29 f30:Addr} (X:K.In h) (G:h.Ns mainGlobals mg) (hfa:mg "law"=some (.ref fa))
 {od0 an0 od1 an1 od2 an2 od3 an3 od4 an4 od5 an5 od6 an6 od7 an7 od8 an8 od9 an9 od10 an10 od11 an11 od12 an12 od13 an13 od14 an14 od15 an15 od16 an16 od17 an17 od18 an18 od19 an19 od20 an20 od21 an21 od22 an22 od23 an23 od24 an24 od25 an25 od26 an26 od27 an27 od28 an28 od29 an29 od30 an30:Option Addr} {sl0 sl1 sl2 sl3 sl4 sl5 sl6 sl7 sl8 sl9 sl10 sl11 sl12 sl13 sl14 sl15 sl16 sl17 sl18 sl19 sl20 sl21 sl22 sl23 sl24 sl25 sl26 sl27 sl28 sl29 sl30:Array (Option Value)} {oc0 kV0 dc0 pm0 ct0 cd0 oc1 kV1 dc1 pm1 ct1 cd1 oc2 kV2 dc2 pm2 ct2 cd2 oc3 kV3 dc3 pm3 ct3 cd3 oc4 kV4 dc4 pm4 ct4 cd4 oc5 kV5 dc5 pm5 ct5 cd5 oc6 kV6 dc6 pm6 ct6 cd6 oc7 kV7 dc7 pm7 ct7 cd7 oc8 kV8 dc8 pm8 ct8 cd8 oc9 kV9 dc9 pm9 ct9 cd9 oc10 kV10 dc10 pm10 ct10 cd10 oc11 kV11 dc11 pm11 ct11 cd11 oc12 kV12 dc12 pm12 ct12 cd12 oc13 kV13 dc13 pm13 ct13 cd13 oc14 kV14 dc14 pm14 ct14 cd14 oc15 kV15 dc15 pm15 ct15 cd15 oc16 kV16 dc16 pm16 ct16 cd16 oc17 kV17 dc17 pm17 ct17 cd17 oc18 kV18 dc18 pm18 ct18 cd18 oc19 kV19 dc19 pm19 ct19 cd19 oc20 kV20 dc20 pm20 ct20 cd20 oc21 kV21 dc21 pm21 ct21 cd21 oc22 kV22 dc22 pm22 ct22 cd22 oc23 kV23 dc23 pm23 ct23 cd23 oc24 kV24 dc24 pm24 ct24 cd24 oc25 kV25 dc25 pm25 ct25 cd25 oc26 kV26 dc26 pm26 ct26 cd26 oc27 kV27 dc27 pm27 ct27 cd27 oc28 kV28 dc28 pm28 ct28 cd28 oc29 kV29 dc29 pm29 ct29 cd29 oc30 kV30 dc30 pm30 ct30 cd30:Value} {tk0:Tok} {tk1:Tok}
 {sz0 ep0:Nat} {rr0_0 rr0_1 rr0_2 rr0_3 rr0_4:Addr} {hh0_0 hh0_1 hh0_2 hh0_3 hh0_4:Int} {tt0_0 tu0_0_0 tu0_0_1 tt0_1 tu0_1_0 tu0_1_1 tt0_2 tu0_2_0 tu0_2_1 tt0_3 tu0_3_0 tu0_3_1 tt0_4 tu0_4_0 tu0_4_1:Tok} {nn0_0 nn0_1 nn0_2 nn0_3 nn0_4:Nat} {oo0_0 oo0_1 oo0_2 oo0_3 oo0_4:Option Addr} {ss0_0 ss0_1 ss0_2 ss0_3 ss0_4:Array (Option Value)}
 (a0:W.nsIn K mainGlobals "is_whole"=some (some (.ref f0))) (l0:K.lookup f0=Lk "is_whole" Yc oc0 od0 kV0 dc0 pm0 an0 cd0 ct0 sl0) (c0:W.codeIn K cd0 "is_whole"=true) (k0:W.keepIn K (.ref f0)=true)
 (a1:W.nsIn K mainGlobals "is_whole_within"=some (some (.ref f1))) (l1:K.lookup f1=Lk "is_whole_within" yZ oc1 od1 kV1 dc1 pm1 an1 cd1 ct1 sl1) (c1:W.codeIn K cd1 "is_whole_within"=true) (k1:W.keepIn K (.ref f1)=true)
 (a2:W.nsIn K mainGlobals "must_be_within"=some (some (.ref f2))) (l2:K.lookup f2=Lk "must_be_within" xf oc2 od2 kV2 dc2 pm2 an2 cd2 ct2 sl2) (c2:W.codeIn K cd2 "must_be_within"=true) (k2:W.keepIn K (.ref f2)=true)
 (a3:W.nsIn K mainGlobals "is_place_count"=some (some (.ref f3))) (l3:K.lookup f3=Lk "is_place_count" xl oc3 od3 kV3 dc3 pm3 an3 cd3 ct3 sl3) (c3:W.codeIn K cd3 "is_place_count"=true) (k3:W.keepIn K (.ref f3)=true)
 (a4:W.nsIn K mainGlobals "is_place"=some (some (.ref f4))) (l4:K.lookup f4=Lk "is_place" Yd oc4 od4 kV4 dc4 pm4 an4 cd4 ct4 sl4) (c4:W.codeIn K cd4 "is_place"=true) (k4:W.keepIn K (.ref f4)=true)
 (a5:W.nsIn K mainGlobals "are_counts"=some (some (.ref f5))) (l5:K.lookup f5=Lk "are_counts" wY oc5 od5 kV5 dc5 pm5 an5 cd5 ct5 sl5) (c5:W.codeIn K cd5 "are_counts"=true) (k5:W.keepIn K (.ref f5)=true)
 (a6:W.nsIn K mainGlobals "must_be_place"=some (some (.ref f6))) (l6:K.lookup f6=Lk "must_be_place" xD oc6 od6 kV6 dc6 pm6 an6 cd6 ct6 sl6) (c6:W.codeIn K cd6 "must_be_place"=true) (k6:W.keepIn K (.ref f6)=true)
 (a7:W.nsIn K mainGlobals "are_stones"=some (some (.ref f7))) (l7:K.lookup f7=Lk "are_stones" wT oc7 od7 kV7 dc7 pm7 an7 cd7 ct7 sl7) (c7:W.codeIn K cd7 "are_stones"=true) (k7:W.keepIn K (.ref f7)=true)
 (a8:W.nsIn K mainGlobals "must_be_heap"=some (some (.ref f8))) (l8:K.lookup f8=Lk "must_be_heap" x5 oc8 od8 kV8 dc8 pm8 an8 cd8 ct8 sl8) (c8:W.codeIn K cd8 "must_be_heap"=true) (k8:W.keepIn K (.ref f8)=true)
 (a9:W.nsIn K mainGlobals "is_over"=some (some (.ref f9))) (l9:K.lookup f9=Lk "is_over" YO oc9 od9 kV9 dc9 pm9 an9 cd9 ct9 sl9) (c9:W.codeIn K cd9 "is_over"=true) (k9:W.keepIn K (.ref f9)=true)
 (a10:W.nsIn K mainGlobals "kind_good"=some (some (.ref f10))) (l10:K.lookup f10=Lk "kind_good" vq oc10 od10 kV10 dc10 pm10 an10 cd10 ct10 sl10) (c10:W.codeIn K cd10 "kind_good"=true) (k10:W.keepIn K (.ref f10)=true)
 (a11:W.nsIn K mainGlobals "places_of"=some (some (.ref f11))) (l11:K.lookup f11=Lk "places_of" vB oc11 od11 kV11 dc11 pm11 an11 cd11 ct11 sl11) (c11:W.codeIn K cd11 "places_of"=true) (k11:W.keepIn K (.ref f11)=true)
 (a12:W.nsIn K mainGlobals "are_tied"=some (some (.ref f12))) (l12:K.lookup f12=Lk "are_tied" vZ oc12 od12 kV12 dc12 pm12 an12 cd12 ct12 sl12) (c12:W.codeIn K cd12 "are_tied"=true) (k12:W.keepIn K (.ref f12)=true)
 (a13:W.nsIn K mainGlobals "web_for"=some (some (.ref f13))) (l13:K.lookup f13=Lk "web_for" YS oc13 od13 kV13 dc13 pm13 an13 cd13 ct13 sl13) (c13:W.codeIn K cd13 "web_for"=true) (k13:W.keepIn K (.ref f13)=true)
 (a14:W.nsIn K mainGlobals "ring_of_places"=some (some (.ref f14))) (l14:K.lookup f14=Lk "ring_of_places" xh oc14 od14 kV14 dc14 pm14 an14 cd14 ct14 sl14) (c14:W.codeIn K cd14 "ring_of_places"=true) (k14:W.keepIn K (.ref f14)=true)
 (a15:W.nsIn K mainGlobals "must_fit_ring"=some (some (.ref f15))) (l15:K.lookup f15=Lk "must_fit_ring" xL oc15 od15 kV15 dc15 pm15 an15 cd15 ct15 sl15) (c15:W.codeIn K cd15 "must_fit_ring"=true) (k15:W.keepIn K (.ref f15)=true)
 (a16:W.nsIn K mainGlobals "sweep_orders"=some (some (.ref f16))) (l16:K.lookup f16=Lk "sweep_orders" wa oc16 od16 kV16 dc16 pm16 an16 cd16 ct16 sl16) (c16:W.codeIn K cd16 "sweep_orders"=true) (k16:W.keepIn K (.ref f16)=true)
 (a17:W.nsIn K mainGlobals "swept"=some (some (.ref f17))) (l17:K.lookup f17=Lk "swept" W6 oc17 od17 kV17 dc17 pm17 an17 cd17 ct17 sl17) (c17:W.codeIn K cd17 "swept"=true) (k17:W.keepIn K (.ref f17)=true)
 (a18:W.nsIn K mainGlobals "sweeps"=some (some (.ref f18))) (l18:K.lookup f18=Lk "sweeps" ZX oc18 od18 kV18 dc18 pm18 an18 cd18 ct18 sl18) (c18:W.codeIn K cd18 "sweeps"=true) (k18:W.keepIn K (.ref f18)=true)
 (a19:W.nsIn K mainGlobals "sweep_steps"=some (some (.ref f19))) (l19:K.lookup f19=Lk "sweep_steps" wu oc19 od19 kV19 dc19 pm19 an19 cd19 ct19 sl19) (c19:W.codeIn K cd19 "sweep_steps"=true) (k19:W.keepIn K (.ref f19)=true)
 (a20:W.nsIn K mainGlobals "ring_steps"=some (some (.ref f20))) (l20:K.lookup f20=Lk "ring_steps" wO oc20 od20 kV20 dc20 pm20 an20 cd20 ct20 sl20) (c20:W.codeIn K cd20 "ring_steps"=true) (k20:W.keepIn K (.ref f20)=true)
 (a21:W.nsIn K mainGlobals "bounds_sweep"=some (some (.ref f21))) (l21:K.lookup f21=Lk "bounds_sweep" x9 oc21 od21 kV21 dc21 pm21 an21 cd21 ct21 sl21) (c21:W.codeIn K cd21 "bounds_sweep"=true) (k21:W.keepIn K (.ref f21)=true)
 (a22:W.nsIn K mainGlobals "sweep_holds"=some (some (.ref f22))) (l22:K.lookup f22=Lk "sweep_holds" wq oc22 od22 kV22 dc22 pm22 an22 cd22 ct22 sl22) (c22:W.codeIn K cd22 "sweep_holds"=true) (k22:W.keepIn K (.ref f22)=true)
 (a23:W.nsIn K mainGlobals "_law_cell_at"=some (some (.ref f23))) (l23:K.lookup f23=Lk "_law_cell_at" xZ oc23 od23 kV23 dc23 pm23 an23 cd23 ct23 sl23) (c23:W.codeIn K cd23 "_law_cell_at"=true) (k23:W.keepIn K (.ref f23)=true)
 (a24:W.nsIn K mainGlobals "_law_stir"=some (some (.ref f24))) (l24:K.lookup f24=Lk "_law_stir" vF oc24 od24 kV24 dc24 pm24 an24 cd24 ct24 sl24) (c24:W.codeIn K cd24 "_law_stir"=true) (k24:W.keepIn K (.ref f24)=true)
 (a25:W.nsIn K mainGlobals "_law_heap_by"=some (some (.ref f25))) (l25:K.lookup f25=Lk "_law_heap_by" xY oc25 od25 kV25 dc25 pm25 an25 cd25 ct25 sl25) (c25:W.codeIn K cd25 "_law_heap_by"=true) (k25:W.keepIn K (.ref f25)=true)
 (a26:W.nsIn K mainGlobals "_law_ring"=some (some (.ref f26))) (l26:K.lookup f26=Lk "_law_ring" vn oc26 od26 kV26 dc26 pm26 an26 cd26 ct26 sl26) (c26:W.codeIn K cd26 "_law_ring"=true) (k26:W.keepIn K (.ref f26)=true)
 (a27:W.nsIn K mainGlobals "_law_sweep"=some (some (.ref f27))) (l27:K.lookup f27=Lk "_law_sweep" wP oc27 od27 kV27 dc27 pm27 an27 cd27 ct27 sl27) (c27:W.codeIn K cd27 "_law_sweep"=true) (k27:W.keepIn K (.ref f27)=true)
 (a28:W.nsIn K mainGlobals "_law_behind"=some (some (.ref f28))) (l28:K.lookup f28=Lk "_law_behind" wm oc28 od28 kV28 dc28 pm28 an28 cd28 ct28 sl28) (c28:W.codeIn K cd28 "_law_behind"=true) (k28:W.keepIn K (.ref f28)=true)
 (a29:W.nsIn K mainGlobals "_law_most_there"=some (some (.ref f29))) (l29:K.lookup f29=Lk "_law_most_there" xb oc29 od29 kV29 dc29 pm29 an29 cd29 ct29 sl29) (c29:W.codeIn K cd29 "_law_most_there"=true) (k29:W.keepIn K (.ref f29)=true)
 (a30:W.nsIn K mainGlobals "law"=some (some (.ref f30))) (l30:K.lookup f30=Lk "law" zc3 oc30 od30 kV30 dc30 pm30 an30 cd30 ct30 sl30) (c30:W.codeIn K cd30 "law"=true) (k30:W.keepIn K (.ref f30)=true)
 (gg0:W.nsIn K mainGlobals "MOST_PLACES"=some (some (.int 8 tk0)))
 (gg1:W.nsIn K mainGlobals "MOST_STONES"=some (some (.int 300 tk1)))
 (sa0:W.nsIn K mainGlobals "SIZES"=some (some (.ref sz0))) (sb0:K.lookup sz0=some { cls:=.type "dict",data:=.dict #[{ hash:=hh0_0,key:=.str "row" tt0_0,val:=.ref rr0_0 },{ hash:=hh0_1,key:=.str "ring" tt0_1,val:=.ref rr0_1 },{ hash:=hh0_2,key:=.str "cube" tt0_2,val:=.ref rr0_2 },{ hash:=hh0_3,key:=.str "full" tt0_3,val:=.ref rr0_3 },{ hash:=hh0_4,key:=.str "star" tt0_4,val:=.ref rr0_4 }] ep0 }) (sd0:(sz0 == sysModules)=false)
 (sc0_0:K.lookup rr0_0=some { cls:=.type "tuple",dict:=oo0_0,data:=.seq #[.int 1 tu0_0_0,.int 8 tu0_0_1] nn0_0,slots:=ss0_0 })
 (sc0_1:K.lookup rr0_1=some { cls:=.type "tuple",dict:=oo0_1,data:=.seq #[.int 3 tu0_1_0,.int 8 tu0_1_1] nn0_1,slots:=ss0_1 })
 (sc0_2:K.lookup rr0_2=some { cls:=.type "tuple",dict:=oo0_2,data:=.seq #[.int 0 tu0_2_0,.int 3 tu0_2_1] nn0_2,slots:=ss0_2 })
 (sc0_3:K.lookup rr0_3=some { cls:=.type "tuple",dict:=oo0_3,data:=.seq #[.int 1 tu0_3_0,.int 8 tu0_3_1] nn0_3,slots:=ss0_3 })
 (sc0_4:K.lookup rr0_4=some { cls:=.type "tuple",dict:=oo0_4,data:=.seq #[.int 1 tu0_4_0,.int 7 tu0_4_1] nn0_4,slots:=ss0_4 })
 (z0:W.nsIn K mainGlobals "all"=some none)
 (z1:W.nsIn K mainGlobals "bool"=some none)
 (z2:W.nsIn K mainGlobals "int"=some none)
 (z3:W.nsIn K mainGlobals "isinstance"=some none)
 (z4:W.nsIn K mainGlobals "len"=some none)
 (z5:W.nsIn K mainGlobals "list"=some none)
 (z6:W.nsIn K mainGlobals "max"=some none)
 (z7:W.nsIn K mainGlobals "range"=some none)
 (z8:W.nsIn K mainGlobals "reversed"=some none)
 (z9:W.nsIn K mainGlobals "sorted"=some none)
 (z10:W.nsIn K mainGlobals "str"=some none)
 (z11:W.nsIn K mainGlobals "sum"=some none)
 (z12:W.nsIn K mainGlobals "tuple"=some none)
 (z13:W.nsIn K mainGlobals "zip"=some none)
 : ∃ fd:FuncData,(∀ (s:Shared) (v:Value),BindsTo s fd ⟨[v],[]⟩ [("script",v)])/\∀ base:Heap,K.In base->base.Ns mainGlobals mg->xz l.prog w K mg base CX0 20 fa fd ["script"] (zdd K):=by
 have e:=hfa.symm.trans (W.mg_of X G a30)
 cases e
 have T:Txt K mg ⟨_,_,_,_,_,_,_,_,_,_,_,_,_,_,_,_,_,_,_,_,_,_,_,_,_,_,_,_,_,_,_,_,_,_,_,_,_,_,_,_,_,_,_,_,_,_,_,_,_,_,_,_,_,_,_,_,_,_,_,_,_,_,tk0,tk1,sz0⟩:=⟨
  mkD X G a0 l0 c0 k0 (bn1 λ_ _ _ _ _ _ _=>rfl),
  mkD X G a1 l1 c1 k1 (bn3 λ_ _ _ _ _ _ _ _ _=>rfl),
  mkD X G a2 l2 c2 k2 (bn3 λ_ _ _ _ _ _ _ _ _=>rfl),
  mkD X G a3 l3 c3 k3 (bn1 λ_ _ _ _ _ _ _=>rfl),
  mkD X G a4 l4 c4 k4 (bn2 λ_ _ _ _ _ _ _ _=>rfl),
  mkD X G a5 l5 c5 k5 (bn2 λ_ _ _ _ _ _ _ _=>rfl),
  mkD X G a6 l6 c6 k6 (bn2 λ_ _ _ _ _ _ _ _=>rfl),
  mkD X G a7 l7 c7 k7 (bn2 λ_ _ _ _ _ _ _ _=>rfl),
  mkD X G a8 l8 c8 k8 (bn2 λ_ _ _ _ _ _ _ _=>rfl),
  mkD X G a9 l9 c9 k9 (bn1 λ_ _ _ _ _ _ _=>rfl),
  mkD X G a10 l10 c10 k10 (bn1 λ_ _ _ _ _ _ _=>rfl),
  mkD X G a11 l11 c11 k11 (bn2 λ_ _ _ _ _ _ _ _=>rfl),
  mkD X G a12 l12 c12 k12 (bn4 λ_ _ _ _ _ _ _ _ _ _=>rfl),
  mkD X G a13 l13 c13 k13 (bn1 λ_ _ _ _ _ _ _=>rfl),
  mkD X G a14 l14 c14 k14 (bn1 λ_ _ _ _ _ _ _=>rfl),
  mkD X G a15 l15 c15 k15 (bn3 λ_ _ _ _ _ _ _ _ _=>rfl),
  mkD X G a16 l16 c16 k16 (bn2 λ_ _ _ _ _ _ _ _=>rfl),
  mkD X G a17 l17 c17 k17 (bn2 λ_ _ _ _ _ _ _ _=>rfl),
  mkD X G a18 l18 c18 k18 (bn3 λ_ _ _ _ _ _ _ _ _=>rfl),
  mkD X G a19 l19 c19 k19 (bn3 λ_ _ _ _ _ _ _ _ _=>rfl),
  mkD X G a20 l20 c20 k20 (bn3 λ_ _ _ _ _ _ _ _ _=>rfl),
  mkD X G a21 l21 c21 k21 (bn3 λ_ _ _ _ _ _ _ _ _=>rfl),
  mkD X G a22 l22 c22 k22 (bn4 λ_ _ _ _ _ _ _ _ _ _=>rfl),
  mkD X G a23 l23 c23 k23 (bn2 λ_ _ _ _ _ _ _ _=>rfl),
  mkD X G a24 l24 c24 k24 (bn2 λ_ _ _ _ _ _ _ _=>rfl),
  mkD X G a25 l25 c25 k25 (bn3 λ_ _ _ _ _ _ _ _ _=>rfl),
  mkD X G a26 l26 c26 k26 (bn1 λ_ _ _ _ _ _ _=>rfl),
  mkD X G a27 l27 c27 k27 (bn3 λ_ _ _ _ _ _ _ _ _=>rfl),
  mkD X G a28 l28 c28 k28 (bn2 λ_ _ _ _ _ _ _ _=>rfl),
  mkD X G a29 l29 c29 k29 (bn3 λ_ _ _ _ _ _ _ _ _=>rfl),
  mkD X G a30 l30 c30 k30 (bn1 λ_ _ _ _ _ _ _=>rfl),
  W.mg_of X G gg0,
  W.mg_of X G gg1,
  W.mg_none_of X G z0,
  W.mg_none_of X G z1,
  W.mg_none_of X G z2,
  W.mg_none_of X G z3,
  W.mg_none_of X G z4,
  W.mg_none_of X G z5,
  W.mg_none_of X G z6,
  W.mg_none_of X G z7,
  W.mg_none_of X G z8,
  W.mg_none_of X G z9,
  W.mg_none_of X G z10,
  W.mg_none_of X G z11,
  W.mg_none_of X G z12,
  W.mg_none_of X G z13,
  W.mg_of X G sa0,
  λh hK=>⟨sd0,_,_,_,hK _ _ sb0,⟨rfl,rfl,rfl⟩,rfl,(.cons rfl ⟨_,_,rfl,⟨_,hK _ _ sc0_0,rfl,_,rfl⟩,(.cons (.int _ _) (.cons (.int _ _) .nil))⟩ (.cons rfl ⟨_,_,rfl,⟨_,hK _ _ sc0_1,rfl,_,rfl⟩,(.cons (.int _ _) (.cons (.int _ _) .nil))⟩ (.cons rfl ⟨_,_,rfl,⟨_,hK _ _ sc0_2,rfl,_,rfl⟩,(.cons (.int _ _) (.cons (.int _ _) .nil))⟩ (.cons rfl ⟨_,_,rfl,⟨_,hK _ _ sc0_3,rfl,_,rfl⟩,(.cons (.int _ _) (.cons (.int _ _) .nil))⟩ (.cons rfl ⟨_,_,rfl,⟨_,hK _ _ sc0_4,rfl,_,rfl⟩,(.cons (.int _ _) (.cons (.int _ _) .nil))⟩ .nil)))))⟩⟩
 exact⟨_,λs v=>.of_eq rfl,λbase _ _=>zjc T⟩
theorem walk {l:W.OpenLaw}{q:Program}{loose:List Str}{XP:(Str->Option Value)->Heap->Prop}{YP:World->Heap->Prop}{d:DefRec}{K:Params->W.Frag}(hn:l.most=some 63)(hdf:d.params.defaults=[])
 (hY:∀ (w:World) (h:Heap),YP w h->(K w.params).In h)
 (F:∀ (w:World) (mg:Str->Option Value) (fa:Addr) (h:Heap),(K w.params).In h->h.Ns mainGlobals mg->mg d.name=some (.ref fa) ->
  ∃ fd:FuncData,(∀ (s:Shared) (u:Value),BindsTo s fd ⟨[u],[]⟩ [("script",u)])/\∀ base:Heap,(K w.params).In base->base.Ns mainGlobals mg->xz l.prog w (K w.params) mg base CX0 20 fa fd ["script"] (zdd (K w.params))) :
 PySem.W.WalkO q loose XP YP l.row.toRowW d [] (λf vs=>PySem.call f vs) :=
 L2.walk_of (n:=63) (k:=20) (x:="script") (CX:=λ_=>CX0) (sp:=λw=>zdd (K w.params)) hn (by decide) hdf ⟨rfl,by decide,by decide⟩ hY F (λ_ _ a ns hl _ hS=>⟨a,ns,rfl,hS,hl,λ_=>rfl⟩) λ_ _ _ _ _ z=>z
end Mz
open PySem PySem.W PyProof.Rows
theorem PySem.W.Fast.tw3508217803307814148:True:=⟨⟩
theorem PySem.W.Fast.tw4613737939276695348:True:=⟨⟩
theorem PySem.W.Fast.tw1858866473362351525:True:=⟨⟩
theorem PySem.W.Fast.tw11987814720230562556:True:=⟨⟩
theorem PySem.W.Fast.tw5571434126489867009:True:=⟨⟩
theorem PySem.W.Fast.tw12209222471211747184:True:=⟨⟩
theorem PySem.W.Fast.tw10785647157945462804:True:=⟨⟩
theorem PySem.W.Fast.tw7413202344587523650:True:=⟨⟩
theorem PySem.W.Fast.tw15212005619502498774:True:=⟨⟩
theorem PySem.W.Fast.tw17224047554524746711:True:=⟨⟩
theorem PySem.W.Fast.tw13281731470840222559:True:=⟨⟩
theorem PySem.W.Fast.tw8393576045496992211:True:=⟨⟩
theorem PySem.W.Fast.tw7513108728091224278:True:=⟨⟩
theorem PySem.W.Fast.tw10195698549018584215:True:=⟨⟩
theorem PySem.W.Fast.tw9014347255163299329:True:=⟨⟩
theorem PySem.W.Fast.tw2882160588757409119:True:=⟨⟩
theorem PySem.W.Fast.tw6949479383803690016:True:=⟨⟩
theorem PySem.W.Fast.tw17714938182280915282:True:=⟨⟩
theorem PySem.W.Fast.tw9388888703702734371:True:=⟨⟩
theorem PySem.W.Fast.tw5828894097002988906:True:=⟨⟩
set_option maxRecDepth 100000 in
set_option maxHeartbeats 0 in
theorem PySem.Challenge.cw_twoforone_k54_whole_a_stone_or_a_sweep_p_holds : PySem.Challenge.rw_twoforone_k54_whole_a_stone_or_a_sweep_p.Holds := by
  w_on;o_law;k_head;(case hw=>w_witness2)
  k_fill
  refine Mz.walk (l:=PySem.Challenge.rw_twoforone_k54_whole_a_stone_or_a_sweep_p) rfl rfl (fun w h Y=>PySem.W.kIn_of Y) ?F
  case F =>
    intro w mg fa h KX G hmg
    refine' Mz.all_mk KX G hmg ?a0 ?l0 ?c0 ?k0 ?a1 ?l1 ?c1 ?k1 ?a2 ?l2 ?c2 ?k2 ?a3 ?l3 ?c3 ?k3 ?a4 ?l4 ?c4 ?k4 ?a5 ?l5 ?c5 ?k5 ?a6 ?l6 ?c6 ?k6 ?a7 ?l7 ?c7 ?k7 ?a8 ?l8 ?c8 ?k8 ?a9 ?l9 ?c9 ?k9 ?a10 ?l10 ?c10 ?k10 ?a11 ?l11 ?c11 ?k11 ?a12 ?l12 ?c12 ?k12 ?a13 ?l13 ?c13 ?k13 ?a14 ?l14 ?c14 ?k14 ?a15 ?l15 ?c15 ?k15 ?a16 ?l16 ?c16 ?k16 ?a17 ?l17 ?c17 ?k17 ?a18 ?l18 ?c18 ?k18 ?a19 ?l19 ?c19 ?k19 ?a20 ?l20 ?c20 ?k20 ?a21 ?l21 ?c21 ?k21 ?a22 ?l22 ?c22 ?k22 ?a23 ?l23 ?c23 ?k23 ?a24 ?l24 ?c24 ?k24 ?a25 ?l25 ?c25 ?k25 ?a26 ?l26 ?c26 ?k26 ?a27 ?l27 ?c27 ?k27 ?a28 ?l28 ?c28 ?k28 ?a29 ?l29 ?c29 ?k29 ?a30 ?l30 ?c30 ?k30 ?gg0 ?gg1 ?sa0 ?sb0 ?sd0 ?sc0_0 ?sc0_1 ?sc0_2 ?sc0_3 ?sc0_4 ?z0 ?z1 ?z2 ?z3 ?z4 ?z5 ?z6 ?z7 ?z8 ?z9 ?z10 ?z11 ?z12 ?z13
    case a0 | l0 | c0 | k0 | a1 | l1 | c1 | k1 | a2 | l2 | c2 | k2 | a3 | l3 | c3 | k3 | a4 | l4 | c4 | k4 | a5 | l5 | c5 | k5 | a6 | l6 | c6 | k6 | a7 | l7 | c7 | k7 | a8 | l8 | c8 | k8 | a9 | l9 | c9 | k9 | a10 | l10 | c10 | k10 | a11 | l11 | c11 | k11 | a12 | l12 | c12 | k12 | a13 | l13 | c13 | k13 | a14 | l14 | c14 | k14 | a15 | l15 | c15 | k15 | a16 | l16 | c16 | k16 | a17 | l17 | c17 | k17 | a18 | l18 | c18 | k18 | a19 | l19 | c19 | k19 | a20 | l20 | c20 | k20 | a21 | l21 | c21 | k21 | a22 | l22 | c22 | k22 | a23 | l23 | c23 | k23 | a24 | l24 | c24 | k24 | a25 | l25 | c25 | k25 | a26 | l26 | c26 | k26 | a27 | l27 | c27 | k27 | a28 | l28 | c28 | k28 | a29 | l29 | c29 | k29 | a30 | l30 | c30 | k30 | gg0 | gg1 | sa0 | sb0=>k_is
    case sd0=>decide
    case sc0_0 | sc0_1 | sc0_2 | sc0_3 | sc0_4 | z0 | z1 | z2 | z3 | z4 | z5 | z6 | z7 | z8 | z9 | z10 | z11 | z12 | z13=>k_is
