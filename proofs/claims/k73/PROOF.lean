import PyProof.Rows.All
import Wide.All
import OpenK.AllK
import Wide.FinOn
import Lean
import PyProof.EqAt
import PyProof.EqKinds
import PyProof.TupleCall
import PyProof.NeKinds
import PySem.Challenge.RW_twoforone_k73_whole_shows_bound
set_option Elab.async false
set_option linter.all false
set_option maxRecDepth 100000
set_option maxHeartbeats 4000000
namespace L2
open PySem PySem.Spec PyProof.Rows
noncomputable abbrev Key:=Sum Int Str
noncomputable def zcw:Key->Value->Bool
 | .inl k,v=>Value.isInt k v
 | .inr x,v=>Value.isStrOf x v
noncomputable def keyH (w:World):Key->Int
 | .inl k=>hashInt k
 | .inr x=>hashStr w x
theorem yd:∀ {k:Key} {v:Value},zcw k v=true->(∃ i t,k=Sum.inl i/\v=Value.int i t)\/(∃ x t,k=Sum.inr x/\v=Value.str x t)
 | .inl i,v,h=>by
  obtain⟨t,e⟩:=Value.isInt_shape (k:=i) (v:=v) h
  exact .inl ⟨i,t,rfl,e⟩
 | .inr x,v,h=>by
  obtain⟨t,e⟩:=Value.isStrOf_shape (x:=x) (v:=v) h
  exact .inr ⟨x,t,rfl,e⟩
theorem zdu (i:Int)(t:Tok):zcw (.inl i) (.int i t)=true:=by simp[zcw,Value.isInt]
theorem zfk (x:Str)(t:Tok):zcw (.inr x) (.str x t)=true:=by simp[zcw,Value.isStrOf]
theorem zkY (a b:Int):decide ((Sum.inl a:Key)=Sum.inl b)=(a == b):=by
 by_cases e:a=b
 .subst e;simp
 .have h:¬ (Sum.inl a:Key)=Sum.inl b:=λq=>e (Sum.inl.inj q)
  rw[decide_eq_false h]
  exact(beq_eq_false_iff_ne.mpr e).symm
theorem zjw (a b:Str):decide ((Sum.inr a:Key)=Sum.inr b)=decide (a=b):=by
 by_cases e:a=b
 .subst e;simp
 .have h:¬ (Sum.inr a:Key)=Sum.inr b:=λq=>e (Sum.inr.inj q)
  rw[decide_eq_false h,decide_eq_false e]
theorem zjS (a:Int)(b:Str):decide ((Sum.inl a:Key)=Sum.inr b)=false:=decide_eq_false (λq=>nomatch q)
theorem zjE (a:Str)(b:Int):decide ((Sum.inr a:Key)=Sum.inl b)=false:=decide_eq_false (λq=>nomatch q)
noncomputable def yO (prog:Program)(w:World):PySem.KeyKind prog w Key where
 is:=zcw
 hash:=keyH w
 inj:=λv a b ha hb=>by
  rcases yd ha with ⟨i,t,rfl,rfl⟩ | ⟨x,t,rfl,rfl⟩
  .rcases yd hb with ⟨j,u,rfl,e⟩ | ⟨y,u,rfl,e⟩
   .injection e with e1 _;rw[e1]
   .exact nomatch e
  .rcases yd hb with ⟨j,u,rfl,e⟩ | ⟨y,u,rfl,e⟩
   .exact nomatch e
   .injection e with e1 _;rw[e1]
 byValue:=λk v h=>by
  rcases yd h with ⟨i,t,rfl,rfl⟩ | ⟨x,t,rfl,rfl⟩ <;> rfl
 pyHash:=λhv h=>by
  rcases yd hv with ⟨i,t,rfl,rfl⟩ | ⟨x,t,rfl,rfl⟩
  .exact wpAny_pyHash_int h
  .exact wpAny_pyHash_str h
 eqBool:=λhu hv h=>by
  rcases yd hu with ⟨i,t,rfl,rfl⟩ | ⟨x,t,rfl,rfl⟩
  .rcases yd hv with ⟨j,u,rfl,rfl⟩ | ⟨y,u,rfl,rfl⟩
   .rw[zkY]at h;exact wpAny_eqBool_int h
   .rw[zjS]at h;exact SeqAt.EqAt.int_str i t y u _ _ _ _ h
  .rcases yd hv with ⟨j,u,rfl,rfl⟩ | ⟨y,u,rfl,rfl⟩
   .rw[zjE]at h;exact SeqAt.EqAt.str_int x t j u _ _ _ _ h
   .rw[zjw]at h;exact wpAny_eqBool_str h
 «strs»:=λk x t v h=>by
  rcases yd h with ⟨i,u,rfl,e⟩ | ⟨y,u,rfl,e⟩
  .exact nomatch e
  .injection e with e1 _
   subst e1
   cases v <;> rfl
theorem zaN (prog:Program)(w:World)(i:Int)(t:Tok):(yO prog w).is (.inl i) (.int i t)=true:=zdu i t
theorem zbl (prog:Program)(w:World)(x:Str)(t:Tok):(yO prog w).is (.inr x) (.str x t)=true:=zfk x t
inductive V where
 | non | bl (b:Bool) | int (i:Int) | str (x:Str) | byt (b:Array UInt8) | flt (b:UInt64) | ref (a:Addr) | ty (n:String)
 deriving DecidableEq
noncomputable def yF:V->Value->Prop
 | .non,u=>u=Value.none
 | .bl b,u=>u=Value.bool b
 | .int i,u=>∃ t,u=Value.int i t
 | .str x,u=>∃ t,u=Value.str x t
 | .byt b,u=>∃ t,u=Value.bytes b t
 | .flt b,u=>∃ t,u=Value.float b t
 | .ref a,u=>u=Value.ref a
 | .ty n,u=>u=Value.type n
noncomputable abbrev yf:List V->List Value->Prop:=Paired yF
theorem yf.length {xs:List V}{us:List Value}(r:yf xs us):xs.length=us.length:=Paired.length r
theorem yf.get:∀ {xs:List V} {us:List Value} {i:Nat} {x:V},yf xs us->xs[i]?=some x->∃ u,us[i]?=some u/\yF x u
 | _,_,_,_,.nil,e=>by simp at e
 | _,_,0,_,.cons r _,e=>by simp at e;subst e;exact⟨_,rfl,r⟩
 | _,_,i+1,x,.cons _ t,e=>by
  obtain⟨u,h1,h2⟩:=yf.get (i:=i) (x:=x) t (by simpa using e)
  exact⟨u,by simpa using h1,h2⟩
theorem yf.set {x:V}{u:Value}(r:yF x u):∀ {xs:List V} {us:List Value} (i:Nat),yf xs us->yf (xs.set i x) (us.set i u)
 | _,_,_,.nil=>.nil
 | _,_,0,.cons _ t=>.cons r t
 | _,_,i+1,.cons q t=>.cons q (yf.set r i t)
theorem yf.append:∀ {xs ys:List V} {us ws:List Value},yf xs us->yf ys ws->yf (xs++ys) (us++ws):=by
 intro xs ys us ws h s
 induction h with
 | nil=>exact s
 | cons r t ih=>exact .cons r ih
theorem yf.take:∀ {xs:List V} {us:List Value} (n:Nat),yf xs us->yf (xs.take n) (us.take n)
 | _,_,0,_=>.nil
 | _,_,_+1,.nil=>.nil
 | _,_,n+1,.cons r t=>.cons r (yf.take n t)
theorem yf.drop:∀ {xs:List V} {us:List Value} (n:Nat),yf xs us->yf (xs.drop n) (us.drop n)
 | _,_,0,r=>r
 | _,_,_+1,.nil=>.nil
 | _,_,n+1,.cons _ t=>yf.drop n t
noncomputable def zeH:Option V->Option Value->Prop
 | some v,some u=>yF v u
 | none,none=>True
 | _,_=>False
noncomputable def KV {κ:Type}:List (κ × V)->List (κ × Value)->Prop:=Paired λ(p:κ × V) (q:κ × Value)=>p.1=q.1/\yF p.2 q.2
noncomputable def kV:Key->V
 | .inl i=>.int i
 | .inr x=>.str x
inductive HO where
 | lst (xs:List V)
 | tup (xs:List V)
 | dK (kvs:List (Key × V)) | dT (kvs:List (List Key × V))
 | set (S:Int->Bool) (n:Nat)
 | ins (C dx:Addr) (fs:List (Str × V))
 | own (x:Addr)
 | xd (fs:List (Str × V))
 | met (f x:Addr)
 | rng (lo hi:Int)
 | frz (o:Obj) (u:HO)
 | tbl (ps:Array Value)
 | ext (φ:Heap->Prop)
noncomputable abbrev Hp:=Addr->Option HO
noncomputable def upd (H:Hp)(a:Addr)(o:HO):Hp:=λb=>if b=a then some o else H b
theorem zo {H:Hp}{a:Addr}{o:HO}:upd H a o a=some o:=by unfold upd;rw[if_pos rfl]
theorem zp {H:Hp}{a b:Addr}{o:HO}(h:b≠a):upd H a o b=H b:=by unfold upd;rw[if_neg h]
theorem zaP {H:Hp}{a:Addr}{o u:HO}:upd (upd H a o) a u=upd H a u:=by
 funext b;unfold upd;split <;> rfl
theorem ziZ {H:Hp}{a b:Addr}{o u:HO}(h:H a=some o)(h':H b=some u)(d:o≠u):a≠b:=by
 intro e;subst e;rw[h]at h';exact d (Option.some.inj h')
theorem zm {H:Hp}{a b:Addr}{o:HO}(h:H a=some o)(h':H b=none):a≠b:=by
 intro e;subst e;rw[h]at h';cases h'
section
variable (P:Program)(w:World)
noncomputable def yt (H:Hp)(h:Heap)(a:Addr):HO->Prop
 | .lst xs=>xs.length<=sizeLine/\∃ (its:List Value) (n:Nat),yf xs its/\h.get? a=some { cls:=.type "list",data:=.seq its.toArray n }
 | .tup xs=>xs.length<=sizeLine/\∃ its:List Value,yf xs its/\IsTup h a its.toArray
 | .dK kvs=>kvs.length<=sizeLine/\(a == sysModules)=false/\∃ vs,KV kvs vs/\h.DictOf (yO P w) a vs
 | .dT kvs=>kvs.length<=sizeLine/\(a == sysModules)=false/\∃ xs:List (List Key × Addr × Value),
  Paired (λ(p:List Key × V) (q:List Key × Addr × Value)=>p.1=q.1/\H q.2.1=some (.tup (p.1.map kV))/\yF p.2 q.2.2) kvs xs /\
  ∃ o es ep,h.get? a=some o/\o.ExactDict/\o.data=.dict es ep/\es.toList=xs.map (entryOfKey (tupleKind (yO P w)))/\(xs.map (·.1)).Nodup
 | .set S n=>h.SetOf (intKind P w) a S n
 | .ins C dx fs=>H dx=some (.own a)/\fs.length<=1000/\dx≠a/\h.get? a=some (PySem.W.instObj C dx) /\
  ∃ mA,h.Ns1 dx mA/\(∀ f,zeH (fs.lookup f) (mA f))/\PySem.Within mA (fs.map (·.1))
 | .own _=>∃ o,h.get? a=some o
 | .xd fs=>∃ mA,h.Ns1 a mA/\∀ f,zeH (fs.lookup f) (mA f)
 | .rng lo hi=>∃ t u v,h.get? a=some { cls:=.type "range",data:=.fields #[.int lo t,.int hi u,.int 1 v] }
 | .frz o u=>h.get? a=some o/\yt H h a u
 | .tbl ps=>h.get? a=some { cls:=.none,data:=.fields ps }
 | .met f x=>h.get? a=some (PySem.W.methodObj (.ref f) (.ref x))
 | .ext φ=>φ h/\(∃ o,h.get? a=some o)/\∀ h1 h2:Heap,φ h1->(∀ o,h1.get? a=some o->h2.get? a=some o)->φ h2
noncomputable def HOk (H:Hp)(h:Heap):Prop:=∀ a o,H a=some o->yt P w H h a o
end
section
variable {P:Program}{w:World}{H H':Hp}{h h':Heap}{a:Addr}{o:HO}
theorem yt.lt (x:yt P w H h a o):a < h.objs.size:=by
 cases o with
 | lst xs=>obtain⟨_,_,_,_,e⟩:=x;exact Heap.lt_size e
 | tup xs=>obtain⟨_,_,_,p⟩:=x;exact p.lt
 | dK kvs=>obtain⟨_,_,_,_,o,_,_,e,_⟩:=x;exact Heap.lt_size e
 | dT kvs=>obtain⟨_,_,_,_,o,_,_,e,_⟩:=x;exact Heap.lt_size e
 | set S n=>obtain⟨o,_,_,_,e,_⟩:=x;exact Heap.lt_size e
 | ins C dx fs=>obtain⟨_,_,_,e,_⟩:=x;exact Heap.lt_size e
 | own y=>obtain⟨_,e⟩:=x;exact Heap.lt_size e
 | xd fs=>obtain⟨_,⟨_,_,_,e,_⟩,_⟩:=x;exact Heap.lt_size e
 | rng lo hi=>obtain⟨_,_,_,e⟩:=x;exact Heap.lt_size e
 | frz ob u=>obtain⟨e,_⟩:=x;exact Heap.lt_size e
 | tbl ps=>exact Heap.lt_size (show h.get? a=some _ from x)
 | met f y=>exact Heap.lt_size (show h.get? a=some _ from x)
 | ext φ=>obtain⟨_,⟨_,e⟩,_⟩:=x;exact Heap.lt_size e
theorem Paired.mapP {α β:Type}{F G:α->β->Prop}:∀ {l₁:List α} {l₂:List β},Paired F l₁ l₂->(∀ a b,F a b->G a b)->Paired G l₁ l₂:=by
 intro l1 l2 h f
 induction h with
 | nil=>exact .nil
 | cons r t ih=>exact .cons (f _ _ r) ih
theorem yt.stay (x:yt P w H h a o)(k:∀ b u,(b=a\/H b=some (.own a))->h.get? b=some u->h'.get? b=some u)
 (ho:∀ b,H b=some (.own a)->H' b=some (.own a)) (ht:∀ b xs,H b=some (.tup xs)->H' b=some (.tup xs)):yt P w H' h' a o:=by
 induction o with
 | lst xs=>obtain⟨z,its,n,r,e⟩:=x;exact⟨z,its,n,r,k _ _ (.inl rfl) e⟩
 | tup xs=>obtain⟨z,its,r,ob,e,c⟩:=x;exact⟨z,its,r,ob,k _ _ (.inl rfl) e,c⟩
 | dK kvs=>obtain⟨z,y,vs,r,ob,es,ep,e,c⟩:=x;exact⟨z,y,vs,r,ob,es,ep,k _ _ (.inl rfl) e,c⟩
 | dT kvs =>
  obtain⟨z,y,xs,r,ob,es,ep,e,c⟩:=x
  exact⟨z,y,xs,Paired.mapP r λp q z=>⟨z.1,ht _ _ z.2.1,z.2.2⟩,ob,es,ep,k _ _ (.inl rfl) e,c⟩
 | set S n=>obtain⟨ob,es,ep,t,e,c⟩:=x;exact⟨ob,es,ep,t,k _ _ (.inl rfl) e,c⟩
 | ins C dx fs =>
  obtain⟨d,z,ne,e,mA,⟨od,es,ep,e2,c⟩,r⟩:=x
  exact⟨ho _ d,z,ne,k _ _ (.inl rfl) e,mA,⟨od,es,ep,k _ _ (.inr d) e2,c⟩,r⟩
 | own y=>obtain⟨ob,e⟩:=x;exact⟨ob,k _ _ (.inl rfl) e⟩
 | xd fs=>obtain⟨mA,⟨od,es,ep,e,c⟩,r⟩:=x;exact⟨mA,⟨od,es,ep,k _ _ (.inl rfl) e,c⟩,r⟩
 | rng lo hi=>obtain⟨t,u,v,e⟩:=x;exact⟨t,u,v,k _ _ (.inl rfl) e⟩
 | frz ob u ih=>obtain⟨e,q⟩:=x;exact⟨k _ _ (.inl rfl) e,ih q⟩
 | tbl ps =>
  have e:h.get? a=some { cls:=.none,data:=.fields ps }:=x
  show h'.get? a=some { cls:=.none,data:=.fields ps }
  exact k a _ (.inl rfl) e
 | met f y =>
  have e:h.get? a=some (PySem.W.methodObj (.ref f) (.ref y)):=x
  show h'.get? a=some (PySem.W.methodObj (.ref f) (.ref y))
  exact k a _ (.inl rfl) e
 | ext φ=>obtain⟨p,⟨o,e⟩,st⟩:=x;exact⟨st _ _ p λo q=>k _ _ (.inl rfl) q,⟨o,k _ _ (.inl rfl) e⟩,st⟩
theorem HOk.lt (x:HOk P w H h)(e:H a=some o):a < h.objs.size:=(x a o e).lt
theorem HOk.fresh (x:HOk P w H h)(e:h.objs.size<=a):H a=none:=by
 cases q:H a with
 | none=>rfl
 | some u=>exact absurd (Nat.lt_of_lt_of_le (x.lt q) e) (Nat.lt_irrefl _)
theorem HOk.kept (x:HOk P w H h)(k:∀ b u,h.get? b=some u->h'.get? b=some u):HOk P w H h':=λa o e =>
 (x a o e).stay (λb u _ q=>k b u q) (λ_ q=>q) λ_ _ q=>q
theorem HOk.laid (x:HOk P w H h)(k:∀ b u,h.get? b=some u->h'.get? b=some u)(hp:h.objs.size<=a)(new:yt P w (upd H a o) h' a o):HOk P w (upd H a o) h':=λb u e=>by
 have hn:=x.fresh hp
 by_cases hb:b=a
 .subst hb;rw[zo]at e;cases e;exact new
 .rw[zp hb]at e
  exact(x b u e).stay (λc v _ q=>k c v q) (λc q=>by rw[zp (zm q hn)];exact q) λc xs q=>by rw[zp (zm q hn)];exact q
end
noncomputable def Rd (H:Hp)(a:Addr)(u:HO):Prop:=H a=some u\/∃ o,H a=some (.frz o u)
theorem Rd.ok {P:Program}{w:World}{H:Hp}{h:Heap}{a:Addr}{u:HO}(r:Rd H a u)(x:HOk P w H h):yt P w H h a u:=by
 rcases r with r | ⟨o,r⟩
 .exact x a u r
 .obtain⟨_,q⟩:=x a _ r
  exact q
noncomputable def Mut:Option HO->Prop
 | some (.lst _)=>True
 | some (.dK _)=>True
 | some (.dT _)=>True
 | some (.set _ _)=>True
 | some (.ins _ _ _)=>True
 | some (.ext _)=>True
 | _=>False
section
variable {P:Program}{w:World}{H:Hp}{h h':Heap}{x e:Addr}{o':HO}
theorem HOk.write (ok:HOk P w H h)(mu:Mut (H x))(he:e=x\/H e=some (.own x))(k:∀ b u,b≠e->h.get? b=some u->h'.get? b=some u)(heo:∃ u,h'.get? e=some u)
 (new:yt P w (upd H x o') h' x o'):HOk P w (upd H x o') h':=λb u q=>by
 have nown:∀ c y,H c=some (.own y)->c≠x:=λc y r z=>by subst z;rw[r]at mu;exact mu
 have ntup:∀ c xs,H c=some (.tup xs)->c≠x:=λc xs r z=>by subst z;rw[r]at mu;exact mu
 by_cases hb:b=x
 .subst hb;rw[zo]at q;cases q;exact new
 .rw[zp hb]at q
  by_cases hbe:b=e
  .have q':H b=some (.own x):=by
    rcases he with z | z
    .exact absurd (hbe.trans z) hb
    .rw[hbe];exact z
   rw[q]at q';cases q'
   obtain⟨v,hv⟩:=heo
   exact⟨v,by rw[hbe];exact hv⟩
  .refine(ok b u q).stay (λc v hc r=>k c v ?_ r) (λc r=>by rw[zp (nown c b r)];exact r) λc xs r=>by rw[zp (ntup c xs r)];exact r
   rcases hc with rfl | hc
   .exact hbe
   .rintro rfl
    rcases he with z | z
    .exact nown c b hc z
    .rw[hc]at z;cases z;exact hb rfl
end
set_option genInjectivity false in
set_option genSizeOf false in
set_option genCtorIdx false in
structure Un (fs ex:List Addr) (H H':Hp) (h h':Heap):Prop where
 keep:∀ b o,h.get? b=some o->H b=none->b∉fs->b∉ex->h'.get? b=some o
 slot:∀ b o,h.get? b=some o->H b=none->b∈fs->b∉ex->∃ sl,h'.get? b=some { o with slots:=sl }
 free:∀ b o,h.get? b=some o->H b=none->b∉ex->H' b=none
 there:∀ b o,h.get? b=some o->b∉ex->∃ o',h'.get? b=some o'
 tups:∀ b xs,H b=some (.tup xs)->H' b=some (.tup xs)
 frzs:∀ b o u,H b=some (.frz o u)->H' b=some (.frz o u)
 tbls:∀ b ps,H b=some (.tbl ps)->∃ more,H' b=some (.tbl (ps++more))
section
variable {fs fs' ex ex':List Addr}{H H1 H2:Hp}{h h1 h2 h':Heap}{a x e:Addr}{o:HO}
theorem Un.any (u:Un fs ex H H1 h h1){b:Addr}{ob:Obj}(q:h.get? b=some ob)(n:H b=none)(hx:b∉ex):∃ sl,h1.get? b=some { ob with slots:=sl }:=by
 by_cases hb:b∈fs
 .exact u.slot b ob q n hb hx
 .exact⟨ob.slots,u.keep b ob q n hb hx⟩
theorem Un.kept (k:∀ b u,h.get? b=some u->h'.get? b=some u):Un fs ex H H h h' :=
 ⟨λb ob q _ _ _=>k b ob q,λb ob q _ _ _=>⟨ob.slots,k b ob q⟩,λ_ _ _ n _=>n,λb ob q _=>⟨ob,k b ob q⟩,λ_ _ q=>q,λ_ _ _ q=>q,λ_ ps q=>⟨#[],by rw[q];simp⟩⟩
theorem Un.refl:Un fs ex H H h h:=Un.kept λ_ _ q=>q
theorem Un.laid (k:∀ b u,h.get? b=some u->h'.get? b=some u)(hp:h.objs.size<=a)(hn:H a=none):Un fs ex H (upd H a o) h h' where
 keep:=λb u q _ _ _=>k b u q
 slot:=λb u q _ _ _=>⟨u.slots,k b u q⟩
 free:=λb u q n _=>by rw[zp (Nat.ne_of_lt (Nat.lt_of_lt_of_le (Heap.lt_size q) hp))];exact n
 there:=λb u q _=>⟨u,k b u q⟩
 tups:=λb xs q=>by rw[zp (zm q hn)];exact q
 frzs:=λb u xs q=>by rw[zp (zm q hn)];exact q
 tbls:=λb ps q=>⟨#[],by rw[zp (zm q hn),q];simp⟩
theorem Un.write (mu:Mut (H x))(he:e=x\/H e=some (.own x))(k:∀ b u,b≠e->h.get? b=some u->h'.get? b=some u)(heo:∃ u,h'.get? e=some u):Un fs ex H (upd H x o) h h':=by
 have hx:∀ b,H b=none->b≠x:=λb n z=>by subst z;rw[n]at mu;exact mu
 have hb:∀ b,H b=none->b≠e:=λb n z=>by
  subst z
  rcases he with r | r
  .exact hx b n r
  .rw[n]at r;cases r
 have hm:∀ b u,H b=some u->¬ Mut (some u)->b≠x:=λb u q nm z=>by subst z;rw[q]at mu;exact nm mu
 refine⟨λb u q n _ _=>k b u (hb b n) q,λb u q n _ _=>⟨u.slots,k b u (hb b n) q⟩,λb u q n _=>by rw[zp (hx b n)];exact n,λb u q _=>?_,
  λb xs q=>by rw[zp (hm b _ q λz=>z)];exact q,λb u xs q=>by rw[zp (hm b _ q λz=>z)];exact q,λb ps q=>⟨#[],by rw[zp (hm b _ q λz=>z),q];simp⟩⟩
 by_cases hbe:b=e
 .subst hbe;exact heo
 .exact⟨u,k b u hbe q⟩
end
noncomputable def trk (h:Heap)(H:Hp):List Addr:=(List.range h.objs.size).filter λa=>(H a).isSome
noncomputable def zfY (h:Heap)(H:Hp):Heap:=PySem.W.hideAll h (trk h H)
theorem zdy (h:Heap)(H:Hp):(zfY h H).objs.size=h.objs.size:=PySem.W.hideAll_size _ _
theorem zfw {h:Heap}{H:Hp}{b:Addr}{o:Obj}(e:h.get? b=some o)(n:H b=none):(zfY h H).get? b=some o :=
 PySem.W.hideAll_get _ e λhm=>by
  have q:(H b).isSome=true:=(List.mem_filter.mp hm).2
  rw[n]at q;simp at q
theorem zhV {h:Heap}{H:Hp}{b:Addr}{o:Obj}(e:(zfY h H).get? b=some o):h.get? b=some o/\H b=none:=by
 have e':h.get? b=some o:=PySem.W.of_hideAll (trk h H) e
 refine⟨e',?_⟩
 cases q:H b with
 | none=>rfl
 | some x =>
  have hm:b∈trk h H:=List.mem_filter.mpr ⟨List.mem_range.mpr (Heap.lt_size e'),by simp[q]⟩
  have z:(zfY h H).get? b=none:=PySem.W.hideAll_none (trk h H) hm
  rw[z]at e;cases e
noncomputable def zit (g h:Heap)(L:Addr):List (Addr × Obj):=(List.range h.objs.size).filterMap λa=>if a=L\/(g.get? a).isSome=true then none else (h.get? a).map λo=>(a,o)
noncomputable def rest (g h:Heap)(L d:Addr):List (Addr × Obj):=(zit g h L).filter λp=>decide (p.1≠d)
structure Mod (K:PySem.W.Frag) (mg:Str->Option Value) (base:Heap):Prop where
 kin:K.In base
 glob:base.Ns mainGlobals mg
 blt:∃ mb,base.Ns builtinsNs mb/\∀ x:Str,x≠"__name__"->mb x=bootBuiltins x
 nolimit:base.NoLimit
structure Cx where
 prog:Program
 w:World
 K:PySem.W.Frag
 mg:Str->Option Value
 base:Heap
 A:Around
 N:List Str
 s₀:Shared
 H₀:Hp
 env:Env
 outer:List Env
 stack:List Env
 ex:List Addr
 fn:Str->Bool
 calm:Bool
 pn:List (Addr × Obj)
 xe:Value->Shared->Prop
noncomputable def frs (l:List Env):List Addr:=l.filterMap (·.frame)
noncomputable abbrev Cx.fs (X:Cx):List Addr:=frs X.outer
noncomputable def Vis (sc:Scope)(x:Str):Prop:=sc.names.lookup x=some .local\/sc.names.lookup x=some .cell\/sc.names.lookup x=some .free
noncomputable def Loc (sc:Scope)(x:Str):Prop:=sc.names.lookup x=some .local\/sc.names.lookup x=some .cell
noncomputable def Look (env:Env)(h:Heap)(m:Str->Option Value)(x:Str)(u:Value):Prop :=
 (env.kindOf x=some .local/\m x=some u)\/((env.kindOf x=some .cell\/env.kindOf x=some .free)/\∃ c,env.cells.lookup x=some c/\h.IsCell c (some u))
set_option genInjectivity false in
set_option genSizeOf false in
set_option genCtorIdx false in
structure Cx.Ok (X:Cx):Prop where
 mod:Mod X.K X.mg X.base
 kind:X.env.scope.kind=.function
 glob:X.env.globals=mainGlobals
 blt:X.env.builtins=builtinsNs
 above:X.s₀.heap.objs.size<=X.env.locals
 inj:∀ x y c,X.env.cells.lookup x=some c->X.env.cells.lookup y=some c->x=y
 has:∀ x,(X.env.kindOf x=some .cell\/X.env.kindOf x=some .free)->∃ c,X.env.cells.lookup x=some c
 cab:∀ x c,X.fn x=true->X.env.cells.lookup x=some c->X.s₀.heap.objs.size<=c
 hd:X.calm=true->X.A.handled=none
 frames:X.A.frames=some X.stack
 stk:X.stack=X.outer\/(X.stack=X.env::X.outer/\X.env.frame=some X.env.locals)
 exf:∀ b∈X.ex,b≠X.env.locals/\∀ x c,X.env.cells.lookup x=some c->c≠b
 bs:∀ b o,X.base.get? b=some o->X.s₀.heap.get? b=some o/\X.H₀ b=none
 bsz:X.base.objs.size<=X.s₀.heap.objs.size
 noex:∀ b o,X.base.get? b=some o->b∉X.ex
 exfs:∀ b∈X.ex,b∉X.fs
 funs:X.s₀.heap.FunFrames X.base X.outer
 frf:∀ b∈X.fs,X.H₀ b=none
set_option genInjectivity false in
set_option genSizeOf false in
set_option genCtorIdx false in
structure Inv (X:Cx) (pins:List (Addr × Obj)) (σ:List (Option V)) (H:Hp) (s:Shared):Prop where
 ok:X.Ok
 os:s.os=X.s₀.os
 bare:AllBare s.gens
 base:Un X.fs X.ex X.H₀ H X.s₀.heap s.heap
 loc:∃ m,s.heap.Ns X.env.locals m/\∀ (i:Nat) (x:Str) (v:V),X.N[i]?=some x->σ[i]?=some (some v)->Vis X.env.scope x->∃ u,yF v u/\Look X.env s.heap m x u
 cell:∀ x c,X.env.cells.lookup x=some c->∃ v,s.heap.IsCell c v
 free:H X.env.locals=none
 freeC:∀ x c,X.env.cells.lookup x=some c->H c=none
 pin:∀ p∈X.pn++pins,s.heap.get? p.1=some p.2/\H p.1=none/\p.1≠X.env.locals/\p.1∉X.fs/\∀ v,p.2.data≠.cell v
 hok:HOk X.prog X.w H s.heap
 len:σ.length=X.N.length
section
variable {X:Cx}{pins:List (Addr × Obj)}{σ:List (Option V)}{H H':Hp}{s:Shared}{h':Heap}
theorem Cx.Ok.nofr (ok:X.Ok){b:Addr}{o:Obj}(e:X.base.get? b=some o):b∉X.fs:=λhb=>by
 have:=(ok.funs.mem hb).1
 rw[e]at this;cases this
theorem Inv.bs (I:Inv X pins σ H s):∀ b o,X.base.get? b=some o->s.heap.get? b=some o/\H b=none:=λb o e =>
 ⟨I.base.keep b o (I.ok.bs b o e).1 (I.ok.bs b o e).2 (I.ok.nofr e) (I.ok.noex b o e),I.base.free b o (I.ok.bs b o e).1 (I.ok.bs b o e).2 (I.ok.noex b o e)⟩
theorem Inv.bk (I:Inv X pins σ H s):∀ b o,X.base.get? b=some o->s.heap.get? b=some o:=λb o e=>(I.bs b o e).1
theorem Inv.mod (I:Inv X pins σ H s):Mod X.K X.mg X.base:=I.ok.mod
theorem Inv.kIn (I:Inv X pins σ H s):X.K.In s.heap:=I.ok.mod.kin.keeps I.bk
theorem Inv.fr (I:Inv X pins σ H s):∃ m,Fr X.base X.env.locals s.heap m :=
 let ⟨m,hn,_⟩:=I.loc
 ⟨m,hn,I.bk,Nat.le_trans I.ok.bsz I.ok.above⟩
theorem Inv.lt (I:Inv X pins σ H s):X.env.locals < s.heap.objs.size:=let ⟨_,hn,_⟩:=I.loc;hn.lt
theorem Inv.sz (I:Inv X pins σ H s):X.s₀.heap.objs.size<=s.heap.objs.size:=Nat.le_trans I.ok.above (Nat.le_of_lt I.lt)
theorem Inv.nofs (I:Inv X pins σ H s){a:Addr}(h:s.heap.objs.size<=a):a∉X.fs:=λhb=>by
 obtain⟨_,o,ho,_⟩:=I.ok.funs.mem hb
 exact absurd (Nat.lt_of_lt_of_le (Heap.lt_size ho) (Nat.le_trans I.sz h)) (Nat.lt_irrefl _)
theorem Inv.cne (I:Inv X pins σ H s):∀ x c,X.env.cells.lookup x=some c->c≠X.env.locals:=λx c e z=>by
 obtain⟨v,o,ho,hd⟩:=I.cell x c e
 obtain⟨m,⟨o',es,ep,ho',hd',_⟩,_⟩:=I.loc
 rw[z,ho']at ho;cases ho;rw[hd']at hd;cases hd
theorem Inv.funs (I:Inv X pins σ H s):s.heap.FunFrames X.base X.outer:=by
 have all:∀ (l:List Env),(∀ b∈frs l,b∈X.fs)->X.s₀.heap.FunFrames X.base l->s.heap.FunFrames X.base l:=by
  intro l
  induction l with
  | nil=>intro _ _;trivial
  | cons env r ih =>
   intro hs hl
   obtain⟨hk,⟨L,o,hf,hn,ho,hd⟩,hr⟩:=hl
   have hL:L∈X.fs:=hs L (by unfold frs;rw[List.filterMap_cons,hf];exact List.mem_cons_self)
   obtain⟨sl,e⟩:=I.base.slot L o ho (I.ok.frf L hL) hL λz=>I.ok.exfs L z hL
   exact⟨hk,⟨L,_,hf,hn,e,hd⟩,ih (λb hb=>hs b (by unfold frs;rw[List.filterMap_cons,hf];exact List.mem_cons_of_mem _ hb)) hr⟩
 exact all X.outer (λ_ hb=>hb) I.ok.funs
theorem Inv.stack (I:Inv X pins σ H s):s.heap.FunFrames X.base X.stack:=by
 rcases I.ok.stk with e | ⟨e,hf⟩
 .rw[e];exact I.funs
 .rw[e]
  obtain⟨m,hn,_⟩:=I.loc
  refine .cons (by rw[I.ok.kind];decide) hf hn ?_ I.funs
  exact Heap.get?_none_of_le (Nat.le_trans I.ok.bsz I.ok.above)
theorem Inv.stkSub (I:Inv X pins σ H s):∀ b∈frs X.stack,b∈X.env.locals::X.fs:=λb hb=>by
 rcases I.ok.stk with e | ⟨e,hf⟩
 .rw[e]at hb;exact List.mem_cons_of_mem _ hb
 .rw[e]at hb
  unfold frs at hb
  rw[List.filterMap_cons,hf]at hb
  exact hb
theorem Inv.stkFree (I:Inv X pins σ H s):∀ b∈frs X.stack,H b=none:=λb hb=>by
 rcases List.mem_cons.mp (I.stkSub b hb)with e | hb
 .rw[e];exact I.free
 .obtain⟨_,o,ho,_⟩:=I.ok.funs.mem hb
  exact I.base.free b o ho (I.ok.frf b hb) λz=>I.ok.exfs b z hb
theorem Inv.step {g':Array GenState}{t':Nat}{d':Drawn}{ch:List Addr}(I:Inv X pins σ H s)
 (hch:∀ b∈ch,(b∈X.ex\/X.s₀.heap.objs.size<=b)/\b≠X.env.locals/\(∀ x c,X.env.cells.lookup x=some c->c≠b)/\∀ p∈X.pn++pins,p.1≠b)
 (keep:∀ b o,b≠X.env.locals->b∉X.fs->b∉ch->s.heap.get? b=some o->H b=none->h'.get? b=some o)
 (slot:∀ b o,b≠X.env.locals->b∈X.fs->b∉ch->s.heap.get? b=some o->H b=none->∃ sl,h'.get? b=some { o with slots:=sl }) (free:∀ b o,b∉ch->s.heap.get? b=some o->H b=none->H' b=none)
 (there:∀ b o,b∉ch->s.heap.get? b=some o->∃ o',h'.get? b=some o')
 (tups:∀ b xs,H b=some (.tup xs)->H' b=some (.tup xs)) (frzs:∀ b o u,H b=some (.frz o u)->H' b=some (.frz o u)) (tbls:∀ b ps,H b=some (.tbl ps)->∃ more,H' b=some (.tbl (ps++more)))
 (ns:∀ m,s.heap.Ns X.env.locals m->h'.Ns X.env.locals m) (hok:HOk X.prog X.w H' h') (hg:AllBare g') :
 Inv X pins σ H' { s with heap:=h',gens:=g',drawn:=d',toks:=t' }:=by
 have neL:∀ b o,X.s₀.heap.get? b=some o->b≠X.env.locals:=λb o e=>Nat.ne_of_lt (Nat.lt_of_lt_of_le (Heap.lt_size e) I.ok.above)
 have neC:∀ b o,X.s₀.heap.get? b=some o->b∉X.ex->b∉ch:=λb o e hx hb=>by
  rcases(hch b hb).1 with z | z
  .exact hx z
  .exact absurd (Nat.lt_of_lt_of_le (Heap.lt_size e) z) (Nat.lt_irrefl _)
 have cellK:∀ x c,X.env.cells.lookup x=some c->∀ v,s.heap.IsCell c v->h'.IsCell c v:=λx c e v ⟨o,ho,hd⟩=>by
  have nch:c∉ch:=λz=>(hch c z).2.2.1 x c e rfl
  by_cases hc:c∈X.fs
  .obtain⟨sl,q⟩:=slot c o (I.cne x c e) hc nch ho (I.freeC x c e)
   exact⟨_,q,hd⟩
  .exact⟨o,keep c o (I.cne x c e) hc nch ho (I.freeC x c e),hd⟩
 refine⟨I.ok,I.os,hg,⟨λb o e n hb hx=>?_,λb o e n hb hx=>?_,λb o e n hx=>?_,λb o e hx=>?_,λb xs e=>tups b xs (I.base.tups b xs e),λb o xs e=>frzs b o xs (I.base.frzs b o xs e),λb ps e=>?_⟩,?_,λx c e=>?_,?_,λx c e=>?_,λp hp=>?_,hok,I.len⟩
 .exact keep b o (neL b o e) hb (neC b o e hx) (I.base.keep b o e n hb hx) (I.base.free b o e n hx)
 .obtain⟨sl,e1⟩:=I.base.slot b o e n hb hx
  obtain⟨sl',e2⟩:=slot b _ (neL b o e) hb (neC b o e hx) e1 (I.base.free b o e n hx)
  exact⟨sl',e2⟩
 .obtain⟨o',e1⟩:=I.base.there b o e hx
  exact free b o' (neC b o e hx) e1 (I.base.free b o e n hx)
 .obtain⟨o',e1⟩:=I.base.there b o e hx
  exact there b o' (neC b o e hx) e1
 .obtain⟨m1,e1⟩:=I.base.tbls b ps e
  obtain⟨m2,e2⟩:=tbls b _ e1
  exact⟨m1++m2,by rw[e2,Array.append_assoc]⟩
 .obtain⟨m,hn,hl⟩:=I.loc
  refine⟨m,ns m hn,λi x v e1 e2 e3=>?_⟩
  obtain⟨u,r,l⟩:=hl i x v e1 e2 e3
  refine⟨u,r,?_⟩
  rcases l with l | ⟨k,c,e,z⟩
  .exact .inl l
  .exact .inr ⟨k,c,e,cellK x c e _ z⟩
 .obtain⟨v,z⟩:=I.cell x c e
  exact⟨v,cellK x c e v z⟩
 .obtain⟨m,⟨o,_,_,ho,_⟩,_⟩:=I.loc
  exact free _ o (λz=>(hch _ z).2.1 rfl) ho I.free
 .obtain⟨v,o,ho,hd⟩:=I.cell x c e
  exact free c o (λz=>(hch c z).2.2.1 x c e rfl) ho (I.freeC x c e)
 .obtain⟨e,n,ne,nf,d⟩:=I.pin p hp
  have nch:p.1∉ch:=λz=>(hch p.1 z).2.2.2 p hp rfl
  exact⟨keep p.1 p.2 ne nf nch e n,free p.1 p.2 nch e n,ne,nf,d⟩
theorem Inv.un {t':Nat}(I:Inv X pins σ H s)(u:Un X.fs [] H H' s.heap h')(hok:HOk X.prog X.w H' h'):Inv X pins σ H' { s with heap:=h',toks:=t' }:=by
 obtain⟨m,⟨o,es,ep,ho,r⟩,_⟩:=id I.loc
 obtain⟨sl,hL⟩:=u.any ho I.free (by simp)
 exact I.step (g':=s.gens) (d':=s.drawn) (ch:=[]) (λ_ z=>nomatch z) (λb o _ hb _ e n=>u.keep b o e n hb (by simp)) (λb o _ hb _ e n=>u.slot b o e n hb (by simp)) (λb o _ e n=>u.free b o e n (by simp)) (λb o _ e=>u.there b o e (by simp)) u.tups u.frzs u.tbls (λm' hm=>by
  obtain⟨o',es',ep',ho',r'⟩:=hm
  rw[ho]at ho';cases ho'
  exact⟨_,es',ep',hL,r'⟩) hok I.bare
theorem Inv.call {g':Array GenState}{t':Nat}{d':Drawn}{ch:List Addr}(I:Inv X pins σ H s)(u:Un (frs X.stack) ch H H' s.heap h')(hok:HOk X.prog X.w H' h')(hg:AllBare g')
 (hch:∀ b∈ch,(b∈X.ex\/X.s₀.heap.objs.size<=b)/\b≠X.env.locals/\(∀ x c,X.env.cells.lookup x=some c->c≠b)/\∀ p∈X.pn++pins,p.1≠b) :
 Inv X pins σ H' { s with heap:=h',gens:=g',drawn:=d',toks:=t' }:=by
 obtain⟨m,⟨o,es,ep,ho,r⟩,_⟩:=id I.loc
 obtain⟨sl,hL⟩:=u.any ho I.free λz=>(hch _ z).2.1 rfl
 exact I.step (ch:=ch) hch (λb o hL hb hc e n=>u.keep b o e n (λz=>(List.mem_cons.mp (I.stkSub b z)).elim hL hb) hc) (λb o _ _ hc e n=>u.any e n hc) (λb o hc e n=>u.free b o e n hc) (λb o hc e=>u.there b o e hc) u.tups u.frzs u.tbls (λm' hm=>by
  obtain⟨o',es',ep',ho',r'⟩:=hm
  rw[ho]at ho';cases ho'
  exact⟨_,es',ep',hL,r'⟩) hok hg
theorem Inv.turned {t':Nat}{it:Addr}(I:Inv X pins σ H s)(k:∀ b o,b≠it->s.heap.get? b=some o->h'.get? b=some o)(hn:H it=none)(hL:it≠X.env.locals)
 (h1:it∈X.ex\/X.s₀.heap.objs.size<=it) (h2:∀ x c,X.env.cells.lookup x=some c->c≠it) (h3:∀ p∈X.pn++pins,p.1≠it):Inv X pins σ H { s with heap:=h',toks:=t' }:=by
 have nit:∀ b u,H b=some u->b≠it:=λb u e z=>by rw[z,hn]at e;cases e
 refine I.step (g':=s.gens) (d':=s.drawn) (ch:=[it]) (λb hb=>?_) (λb o _ _ hc e _=>k b o (λz=>hc (by simp[z])) e) (λb o _ _ hc e _=>⟨o.slots,k b o (λz=>hc (by simp[z])) e⟩) (λ_ _ _ _ n=>n)
  (λb o hc e=>⟨o,k b o (λz=>hc (by simp[z])) e⟩) (λ_ _ e=>e) (λ_ _ _ e=>e) (λb ps e=>⟨#[],by rw[e];simp⟩) (λm hm=>?_) (λb u e=>?_) I.bare
 .have e:b=it:=by simpa using hb
  subst e
  exact⟨h1,hL,h2,h3⟩
 .obtain⟨o,es,ep,ho,r⟩:=hm
  exact⟨o,es,ep,k _ o (Ne.symm hL) ho,r⟩
 .refine(I.hok b u e).stay (λc v hc q=>k c v ?_ q) (λ_ q=>q) λ_ _ q=>q
  rcases hc with z | z
  .rw[z];exact nit b u e
  .exact nit c _ z
theorem Inv.tok (I:Inv X pins σ H s)(t:Nat):Inv X pins σ H { s with toks:=t }:=I.un (h':=s.heap) (t':=t) Un.refl I.hok
theorem Inv.kept {t':Nat}(I:Inv X pins σ H s)(k:∀ b u,s.heap.get? b=some u->h'.get? b=some u):Inv X pins σ H { s with heap:=h',toks:=t' }:=I.un (Un.kept k) (I.hok.kept k)
theorem Inv.laid {a:Addr}{o:HO}{t':Nat}(I:Inv X pins σ H s)(k:∀ b u,s.heap.get? b=some u->h'.get? b=some u)(hp:s.heap.objs.size<=a)(new:yt X.prog X.w (upd H a o) h' a o) :
 Inv X pins σ (upd H a o) { s with heap:=h',toks:=t' }:=I.un (Un.laid k hp (I.hok.fresh hp)) (I.hok.laid k hp new)
theorem Inv.write {x e:Addr}{o:HO}{t':Nat}(I:Inv X pins σ H s)(mu:Mut (H x))(he:e=x\/H e=some (.own x))(k:∀ b u,b≠e->s.heap.get? b=some u->h'.get? b=some u)(heo:∃ u,h'.get? e=some u)
 (new:yt X.prog X.w (upd H x o) h' x o):Inv X pins σ (upd H x o) { s with heap:=h',toks:=t' }:=I.un (Un.write mu he k heo) (I.hok.write mu he k heo new)
theorem Inv.weak {σ':List (Option V)}(I:Inv X pins σ H s)(hl:σ'.length=σ.length)(w:∀ (i:Nat) v,σ'[i]?=some (some v)->σ[i]?=some (some v)):Inv X pins σ' H s :=
 ⟨I.ok,I.os,I.bare,I.base,let ⟨m,hn,hl'⟩:=I.loc;⟨m,hn,λi x v e1 e2 e3=>hl' i x v e1 (w i v e2) e3⟩,I.cell,I.free,I.freeC,I.pin,I.hok,hl.trans I.len⟩
theorem Inv.pins_of {pins':List (Addr × Obj)}(I:Inv X pins σ H s)(h:∀ p∈pins',s.heap.get? p.1=some p.2/\H p.1=none/\p.1≠X.env.locals/\p.1∉X.fs/\∀ v,p.2.data≠.cell v):Inv X pins' σ H s :=
 ⟨I.ok,I.os,I.bare,I.base,I.loc,I.cell,I.free,I.freeC,λp hp=>(List.mem_append.mp hp).elim (λz=>I.pin p (List.mem_append_left _ z)) (h p),I.hok,I.len⟩
theorem zbN {N:List Str}(hN:N.Nodup){i j:Nat}{x:Str}(a:N[i]?=some x)(b:N[j]?=some x):i=j:=by
 obtain⟨h1,e1⟩:=List.getElem?_eq_some_iff.mp a
 obtain⟨h2,e2⟩:=List.getElem?_eq_some_iff.mp b
 exact(List.getElem_inj hN).mp (e1.trans e2.symm)
theorem zec {M:Model}{A:Around}{E:Value->Shared->Prop}{i:Nat}{x:Str}{v:V}{u:Value}{Q:Unit->Shared->Prop}(I:Inv X pins σ H s)(hN:X.N.Nodup)(hi:X.N[i]?=some x)(hx:Loc X.env.scope x)(r:yF v u)
 (h:∀ s',Inv X pins (σ.set i (some v)) H s'->(∃ a,Heap.SameBut a s.heap s'.heap/\(a=X.env.locals\/X.env.cells.lookup x=some a))->Q () s') (hf:X.fn x=true\/X.env.scope.names.lookup x=some .local:=by first | exact .inl rfl | exact .inr rfl | assumption):wpAny M A (storeName X.env x u) Q E s:=by
 obtain⟨m,hn,hl⟩:=id I.loc
 have hcls:(X.env.scope.kind == .class||(X.env.scope.kind == .module&&X.env.locals != X.env.globals))=false:=by rw[I.ok.kind];rfl
 have hiσ:i < σ.length:=by rw[I.len];exact(List.getElem?_eq_some_iff.mp hi).1
 have cne:=I.cne
 have tracked:∀ {a:Addr} {h':Heap},(∃ o,s.heap.get? a=some o/\H a=none)->Heap.SameBut a s.heap h'->HOk X.prog X.w H h':=λ{a h'} ha hs b ob e=>by
  obtain⟨_,_,hfree⟩:=ha
  refine(I.hok b ob e).stay (λc w' hc q=>(hs.2 c ?_).trans q) (λ_ q=>q) λ_ _ q=>q
  rintro rfl
  rcases hc with rfl | hc
  .rw[hfree]at e;cases e
  .rw[hfree]at hc;cases hc
 rcases hx with hk | hk
 .refine wpAny_storeName_local hk hn (λh' hn' hs=>?_) hcls
  obtain⟨oL,_,_,hoL,_⟩:=id hn
  refine h _ ⟨I.ok,I.os,I.bare,⟨λb o e n hb hx=>?_,λb o e n hb hx=>?_,I.base.free,λb o e hx=>?_,I.base.tups,I.base.frzs,I.base.tbls⟩,⟨_,hn',λj y v' e1 e2 e3=>?_⟩,λy c e=>?_,I.free,I.freeC,λp hp=>?_,tracked ⟨oL,hoL,I.free⟩ hs,by simpa using I.len⟩ ⟨_,hs,.inl rfl⟩
  .exact(hs.2 b (Nat.ne_of_lt (Nat.lt_of_lt_of_le (Heap.lt_size e) I.ok.above))).trans (I.base.keep b o e n hb hx)
  .obtain⟨sl,e1⟩:=I.base.slot b o e n hb hx
   exact⟨sl,(hs.2 b (Nat.ne_of_lt (Nat.lt_of_lt_of_le (Heap.lt_size e) I.ok.above))).trans e1⟩
  .obtain⟨o',e1⟩:=I.base.there b o e hx
   exact⟨o',(hs.2 b (Nat.ne_of_lt (Nat.lt_of_lt_of_le (Heap.lt_size e) I.ok.above))).trans e1⟩
  .by_cases hj:j=i
   .subst hj
    rw[hi]at e1;cases e1
    rw[List.getElem?_set_self hiσ]at e2
    cases e2
    exact⟨u,r,.inl ⟨hk,by simp⟩⟩
   .rw[List.getElem?_set_ne (Ne.symm hj)]at e2
    obtain⟨u',r',q⟩:=hl j y v' e1 e2 e3
    refine⟨u',r',?_⟩
    rcases q with ⟨k,e⟩ | ⟨k,c,e,z⟩
    .refine .inl ⟨k,?_⟩
     have:y≠x:=λe=>hj (zbN hN e1 (e ▸ hi))
     simp[this,e]
    .exact .inr ⟨k,c,e,z.sameBut hs (cne y c e)⟩
  .obtain⟨w',z⟩:=I.cell y c e
   exact⟨w',z.sameBut hs (cne y c e)⟩
  .obtain⟨e,n,ne,nf,d⟩:=I.pin p hp
   exact⟨(hs.2 p.1 ne).trans e,n,ne,nf,d⟩
 .have hfn:X.fn x=true:=by
   rcases hf with z | z
   .exact z
   .rw[z]at hk;cases hk
  obtain⟨c,hc⟩:=I.ok.has x (.inl hk)
  obtain⟨w',z⟩:=I.cell x c hc
  refine wpAny_storeName_cell I.ok.kind hk hc z (λh' hc' hs=>?_)
  obtain⟨oc,hoc,hocd⟩:=id z
  refine h { s with heap:=h' } ⟨I.ok,I.os,I.bare,⟨λb o e n hb hx=>?_,λb o e n hb hx=>?_,I.base.free,λb o e hx=>?_,I.base.tups,I.base.frzs,I.base.tbls⟩,⟨m,hn.sameBut hs (Ne.symm (cne x c hc)),λj y v' e1 e2 e3=>?_⟩,λy c' e=>?_,I.free,I.freeC,λp hp=>?_,tracked ⟨oc,hoc,I.freeC x c hc⟩ hs,by simpa using I.len⟩ ⟨c,hs,.inr hc⟩
  .exact(hs.2 b (Nat.ne_of_lt (Nat.lt_of_lt_of_le (Heap.lt_size e) (I.ok.cab x c hfn hc)))).trans (I.base.keep b o e n hb hx)
  .obtain⟨sl,e1⟩:=I.base.slot b o e n hb hx
   exact⟨sl,(hs.2 b (Nat.ne_of_lt (Nat.lt_of_lt_of_le (Heap.lt_size e) (I.ok.cab x c hfn hc)))).trans e1⟩
  .obtain⟨o',e1⟩:=I.base.there b o e hx
   exact⟨o',(hs.2 b (Nat.ne_of_lt (Nat.lt_of_lt_of_le (Heap.lt_size e) (I.ok.cab x c hfn hc)))).trans e1⟩
  .by_cases hj:j=i
   .subst hj
    rw[hi]at e1;cases e1
    rw[List.getElem?_set_self hiσ]at e2
    cases e2
    exact⟨u,r,.inr ⟨.inl hk,c,hc,hc'⟩⟩
   .rw[List.getElem?_set_ne (Ne.symm hj)]at e2
    obtain⟨u',r',q⟩:=hl j y v' e1 e2 e3
    refine⟨u',r',?_⟩
    rcases q with q | ⟨k,c',e,z'⟩
    .exact .inl q
    .refine .inr ⟨k,c',e,z'.sameBut hs ?_⟩
     rintro rfl
     exact hj (zbN hN e1 (I.ok.inj _ _ _ e hc ▸ hi))
  .by_cases hcc:c'=c
   .subst hcc;exact⟨_,hc'⟩
   .obtain⟨w2,z2⟩:=I.cell y c' e
    exact⟨w2,z2.sameBut hs hcc⟩
  .obtain⟨e,n,ne,nf,d⟩:=I.pin p hp
   refine⟨(hs.2 p.1 ?_).trans e,n,ne,nf,d⟩
   intro q
   rw[q,hoc]at e
   have q':oc=p.2:=Option.some.inj e
   exact d w' (by rw[<-q'];exact hocd)
theorem zbB {M:Model}{A:Around}{E:Value->Shared->Prop}{i:Nat}{x:Str}{v:V}{u:Value}{Q:Unit->Shared->Prop}(I:Inv X pins σ H s)(hN:X.N.Nodup)(hi:X.N[i]?=some x)(hx:Loc X.env.scope x)(r:yF v u)
 (h:∀ s',Inv X pins (σ.set i (some v)) H s'->Q () s') (hf:X.fn x=true\/X.env.scope.names.lookup x=some .local:=by first | exact .inl rfl | exact .inr rfl | assumption):wpAny M A (storeName X.env x u) Q E s :=
 zec I hN hi hx r (λs' I' _=>h s' I') hf
theorem Inv.call' {s':Shared}{ch:List Addr}(I:Inv X pins σ H s)(ho:s'.os=s.os)(u:Un (frs X.stack) ch H H' s.heap s'.heap)(hok:HOk X.prog X.w H' s'.heap)(hg:AllBare s'.gens)
 (hch:∀ b∈ch,(b∈X.ex\/X.s₀.heap.objs.size<=b)/\b≠X.env.locals/\(∀ x c,X.env.cells.lookup x=some c->c≠b)/\∀ p∈X.pn++pins,p.1≠b):Inv X pins σ H' s':=by
 obtain⟨h',g',d',t',o'⟩:=s'
 have e:o'=s.os:=ho
 subst e
 exact I.call (g':=g') (t':=t') (d':=d') u hok hg hch
end
noncomputable abbrev XK:=Value->Option Addr->Hp->Prop
noncomputable abbrev St:=List (Option V)
noncomputable abbrev VK:=V->Hp->Prop
noncomputable abbrev TE:=St->Hp->VK->Prop
noncomputable abbrev TT:=St->Hp->(Bool->Hp->Prop)->Prop
noncomputable abbrev TA:=St->Hp->(List V->Hp->Prop)->Prop
structure zgJ where
 nx:St->Hp->Prop
 rt:VK
 bk:St->Hp->Prop:=λ_ _=>False
 ct:St->Hp->Prop:=λ_ _=>False
noncomputable abbrev TS:=zgJ->St->Hp->Prop
noncomputable def EP (X:Cx)(pins:List (Addr × Obj))(σ:St)(Q:VK)(u:Value)(s':Shared):Prop:=∃ v H',Inv X pins σ H' s'/\yF v u/\Q v H'
noncomputable def TP (X:Cx)(pins:List (Addr × Obj))(σ:St)(Q:Bool->Hp->Prop)(b:Bool)(s':Shared):Prop:=∃ H',Inv X pins σ H' s'/\Q b H'
noncomputable def AP (X:Cx)(pins:List (Addr × Obj))(σ:St)(Q:List V->Hp->Prop)(us:List Value)(s':Shared):Prop:=∃ vs H',Inv X pins σ H' s'/\yf vs us/\Q vs H'
noncomputable def SP (X:Cx)(pins:List (Addr × Obj))(D:zgJ)(f:Flow)(s':Shared):Prop :=
 match f with
 | .next=>∃ σ' H',Inv X pins σ' H' s'/\D.nx σ' H'
 | .brk=>∃ σ' H',Inv X pins σ' H' s'/\D.bk σ' H'
 | .cont=>∃ σ' H',Inv X pins σ' H' s'/\D.ct σ' H'
 | .ret u=>∃ v σ' H',Inv X pins σ' H' s'/\yF v u/\D.rt v H'
noncomputable def PE (X:Cx)(e:Expr)(t:TE):Prop :=
 ∀ (pins:List (Addr × Obj)) (s:Shared) (σ:St) (H:Hp) (Q:VK),Inv X pins σ H s->t σ H Q->wpAny (model X.prog X.w) X.A (eval e X.env) (EP X pins σ Q) X.xe s
noncomputable def PT (X:Cx)(e:Expr)(t:TT):Prop :=
 ∀ (pins:List (Addr × Obj)) (s:Shared) (σ:St) (H:Hp) (Q:Bool->Hp->Prop),Inv X pins σ H s->t σ H Q->wpAny (model X.prog X.w) X.A (isTrue e X.env (eval e X.env)) (TP X pins σ Q) X.xe s
noncomputable def PW (X:Cx)(e:Expr)(t:TT):Prop :=
 ∀ (whole:Sem Value) (pins:List (Addr × Obj)) (s:Shared) (σ:St) (H:Hp) (Q:Bool->Hp->Prop),Inv X pins σ H s->t σ H Q->wpAny (model X.prog X.w) X.A (isTrue e X.env whole) (TP X pins σ Q) X.xe s
theorem PW.pt {X:Cx}{e:Expr}{t:TT}(h:PW X e t):PT X e t:=h _
noncomputable def PA (X:Cx)(es:List Expr)(t:TA):Prop :=
 ∀ (pos:Pos) (pins:List (Addr × Obj)) (s:Shared) (σ:St) (H:Hp) (Q:List V->Hp->Prop),Inv X pins σ H s->t σ H Q->wpAny (model X.prog X.w) X.A (spliced (backTo pos (starEach es X.env))) (AP X pins σ Q) X.xe s
noncomputable def PS (X:Cx)(st:Stmt)(t:TS):Prop :=
 ∀ (pins:List (Addr × Obj)) (s:Shared) (σ:St) (H:Hp) (D:zgJ),Inv X pins σ H s->t D σ H->wpAny (model X.prog X.w) X.A (exec st X.env) (SP X pins D) X.xe s
noncomputable def PSs (X:Cx)(st:List Stmt)(t:TS):Prop :=
 ∀ (pins:List (Addr × Obj)) (s:Shared) (σ:St) (H:Hp) (D:zgJ),Inv X pins σ H s->t D σ H->wpAny (model X.prog X.w) X.A (execs st X.env) (SP X pins D) X.xe s
theorem thn {α:Type}{t:Sem α}{Q Q':α->Shared->Prop}{M:Model}{A:Around}{E:Value->Shared->Prop}{s:Shared}(h:wpAny M A t Q E s)(hQ:∀ a s,Q a s->Q' a s):wpAny M A t Q' E s:=wpAny_mono h hQ λ_ _ x=>x
section
variable {X:Cx}
theorem bin {a b:Expr}{ta tb:TE}(ha:PE X a ta)(hb:PE X b tb){pins:List (Addr × Obj)}{s:Shared}{σ:St}{H:Hp}{R:V->V->Hp->Prop}(I:Inv X pins σ H s)(h:ta σ H λx H1=>tb σ H1 λy H2=>R x y H2)
 {α:Type} {Q:α->Shared->Prop} {f:Value->Value->Sem α}
 (hf:∀ v u s2 x y H2,Inv X pins σ H2 s2->yF x v->yF y u->R x y H2->wpAny (model X.prog X.w) X.A (f v u) Q X.xe s2) :
 wpAny (model X.prog X.w) X.A (eval a X.env) (λv s₁=>wpAny (model X.prog X.w) X.A (eval b X.env) (λu s₂=>wpAny (model X.prog X.w) X.A (f v u) Q X.xe s₂) X.xe s₁) X.xe s:=by
 refine thn (ha pins s σ H _ I h) λv s1 hh9=>?_
 obtain⟨x,H1,I1,r1,q1⟩:=hh9
 refine thn (hb pins s1 σ H1 _ I1 q1) λu s2 hh9=>?_
 obtain⟨y,H2,I2,r2,q2⟩:=hh9
 exact hf v u s2 x y H2 I2 r1 r2 q2
noncomputable def zir (i:Nat):TE:=fun σ H Q=>∃ v,σ[i]?=some (some v)/\Q v H
noncomputable def tC (v:V):TE:=λ_ H Q=>Q v H
theorem zkr {i:Nat} {x:Str} {pos:Pos} (hN:X.N[i]?=some x) (hv:Vis X.env.scope x) (hd:(x == ("__debug__":Str))=false:=by decide) (hcd:(x == ("__classdict__":Str))=false:=by decide):PE X (.Name x pos) (zir i):=by
 intro pins s σ H Q I h
 obtain⟨v,e,h⟩:=h
 obtain⟨m,hn,hl⟩:=I.loc
 obtain⟨u,r,l⟩:=hl i x v hN e hv
 have fin:EP X pins σ Q u s:=⟨v,H,I,r,h⟩
 rcases l with ⟨hk,hm⟩ | ⟨hk,c,hc,hcell⟩
 .exact wpAny_Name (wpAny_loadName_local I.ok.kind hk hn hm fin) hd
 .rcases hk with hk | hk
  .exact wpAny_Name (wpAny_loadName_cell I.ok.kind hk hc hcell fin) hd
  .exact wpAny_Name (wpAny_loadName_free I.ok.kind hk hc hcell fin hcd) hd
theorem ze {i j pos}:PE X (.Constant (.int i) j pos) (tC (.int i)):=λ_ _ _ H _ I h=>wpAny_Constant_int ⟨.int i,H,I.tok _,⟨_,rfl⟩,h⟩
theorem wd {b j pos}:PE X (.Constant (.bool b) j pos) (tC (.bl b)):=λ_ _ _ H _ I h=>Constant_bool ⟨.bl b,H,I,rfl,h⟩
theorem XC {j pos}:PE X (.Constant .none j pos) (tC .non):=λ_ _ _ H _ I h=>Constant_none ⟨.non,H,I,rfl,h⟩
noncomputable def Gl (X:Cx)(x:Str):Prop:=X.env.kindOf x=some .globalImplicit
theorem zfg {E:Value->Shared->Prop}{pins:List (Addr × Obj)}{s:Shared}{σ:St}{H:Hp}{x:Str}{u:Value}{pos:Pos}{Q:Value->Shared->Prop}(I:Inv X pins σ H s)(hg:Gl X x)(hm:X.mg x=some u)(h:Q u s)
 (hd:(x == ("__debug__":Str))=false:=by decide):wpAny (model X.prog X.w) X.A (eval (.Name x pos) X.env) Q E s :=
 Calls.Name_function_global I.ok.kind hg (Calls.loadGlobal_global (by rw[I.ok.glob];exact I.mod.glob.keeps I.bk) hm h) hd
theorem XM {E:Value->Shared->Prop}{pins:List (Addr × Obj)}{s:Shared}{σ:St}{H:Hp}{x:Str}{u:Value}{pos:Pos}{Q:Value->Shared->Prop}(I:Inv X pins σ H s)(hg:Gl X x)(hm:X.mg x=none)(hv:bootBuiltins x=some u)(h:Q u s)
 (hn:x≠"__name__":=by decide) (hd:(x == ("__debug__":Str))=false:=by decide):wpAny (model X.prog X.w) X.A (eval (.Name x pos) X.env) Q E s:=by
 obtain⟨mb,h1,h2⟩:=I.mod.blt
 exact Calls.Name_function_global I.ok.kind hg (Calls.loadGlobal_builtin (by rw[I.ok.glob];exact I.mod.glob.keeps I.bk) hm (by rw[I.ok.blt];exact h1.keeps I.bk) ((h2 x hn).trans hv) h) hd
theorem ziN {x:Str} {v:V} {u:Value} {pos:Pos} (hg:Gl X x) (hm:X.mg x=some u) (r:yF v u) (hd:(x == ("__debug__":Str))=false:=by decide):PE X (.Name x pos) (tC v) :=
 λ_ _ _ H _ I h=>zfg I hg hm ⟨v,H,I,r,h⟩ hd
theorem wv {x:Str} {v:V} {u:Value} {pos:Pos} (hg:Gl X x) (hm:X.mg x=none) (hv:bootBuiltins x=some u) (r:yF v u) (hn:x≠"__name__":=by decide) (hd:(x == ("__debug__":Str))=false:=by decide):PE X (.Name x pos) (tC v) :=
 λ_ _ _ H _ I h=>XM I hg hm hv ⟨v,H,I,r,h⟩ hn hd
variable {a b:Expr}{ta tb:TE}{pos:Pos}
noncomputable def PC (X:Cx)(op:CmpOp)(a b:Expr)(t:TE):Prop :=
 ∀ (pins:List (Addr × Obj)) (s:Shared) (σ:St) (H:Hp) (Q:VK),Inv X pins σ H s->t σ H Q ->
  wpAny (model X.prog X.w) X.A (eval a X.env) (λv s₁=>wpAny (model X.prog X.w) X.A (eval b X.env) (λu s₂=>wpAny (model X.prog X.w) X.A (compareOp op v u) (EP X pins σ Q) X.xe s₂) X.xe s₁) X.xe s
theorem zfA (b:Expr){op:CmpOp}(h:op≠.In)(h2:op≠.NotIn):behindInMarks op b=false:=by
 have e1:(op == CmpOp.In)=false:=by cases op <;> first | rfl | exact absurd rfl h
 have e2:(op == CmpOp.NotIn)=false:=by cases op <;> first | rfl | exact absurd rfl h2
 cases b <;> simp[behindInMarks,e1,e2]
noncomputable def tB (t:TE):TT:=fun σ H Q=>t σ H λx H1=>∃ c,x=.bl c/\Q c H1
theorem pt_cmp {op:CmpOp}{t:TE}(h:PC X op a b t)(h1:behindInMarks op b=false:=by first | exact zfA _ (by decide) (by decide) | rfl):PT X (.Compare a [op] [b] pos) (tB t):=by
 intro pins s σ H Q I hw
 refine wpAny_isTrue_Compare1 (thn (h pins s σ H _ I hw) λv s1 h1=>thn h1 λu s2 h2=>thn h2 λc s3 hh9=>?_) h1
 obtain⟨x,H1,I1,r1,q1⟩:=hh9
 obtain⟨d,rfl,q⟩:=q1
 cases r1
 exact wpAny_truthy_bool ⟨H1,I1,q⟩
theorem zki {e:Expr}{t:TE}(h:PE X e t)(he:∀ whole,isTrue e X.env whole=(do let v<-whole;standAt e.pos;holding [v] (truthy v)):=by intro _;rfl):PT X e (tB t):=by
 intro pins s σ H Q I hw
 refine isTrue_plain (thn (h pins s σ H _ I hw) λv s1 hh9=>?_) (he _)
 obtain⟨x,H1,I1,r1,q1⟩:=hh9
 obtain⟨d,rfl,q⟩:=q1
 cases r1
 exact wpAny_truthy_bool ⟨H1,I1,q⟩
variable {tA tB':TT}{rest:List Expr}
noncomputable def tAnd (t u:TT):TT:=fun σ H Q=>t σ H λc H1=>if c=true then u σ H1 Q else Q false H1
noncomputable def tOr (t u:TT):TT:=fun σ H Q=>t σ H λc H1=>if c=true then Q true H1 else u σ H1 Q
noncomputable def tNot (t:TT):TT:=fun σ H Q=>t σ H λc H1=>Q (!c) H1
theorem zio (ha:PT X a tA):PW X (.BoolOp .And [a] pos) tA:=by
 intro wh pins s σ H Q I h
 refine isTrue_and (thn (ha pins s σ H Q I h) λc s1 e=>?_)
 cases c with
 | true=>exact isTrue_and_nil e
 | false=>exact e
theorem zjz (ha:PT X a tA):PW X (.BoolOp .Or [a] pos) tA:=by
 intro wh pins s σ H Q I h
 refine isTrue_or (thn (ha pins s σ H Q I h) λc s1 e=>?_)
 cases c with
 | false=>exact isTrue_or_nil e
 | true=>exact e
theorem zkz (ha:PT X a tA)(hb:PW X (.BoolOp .And (b::rest) pos) tB'):PW X (.BoolOp .And (a::b::rest) pos) (tAnd tA tB'):=by
 intro wh pins s σ H Q I h
 refine isTrue_and (thn (ha pins s σ H _ I h) λc s1 hh9=>?_)
 obtain⟨H1,I1,q1⟩:=hh9
 cases c with
 | true=>exact hb wh pins s1 σ H1 Q I1 q1
 | false=>exact⟨H1,I1,q1⟩
theorem zlK (ha:PT X a tA)(hb:PW X (.BoolOp .Or (b::rest) pos) tB'):PW X (.BoolOp .Or (a::b::rest) pos) (tOr tA tB'):=by
 intro wh pins s σ H Q I h
 refine isTrue_or (thn (ha pins s σ H _ I h) λc s1 hh9=>?_)
 obtain⟨H1,I1,q1⟩:=hh9
 cases c with
 | true=>exact⟨H1,I1,q1⟩
 | false=>exact hb wh pins s1 σ H1 Q I1 q1
theorem zj4 (ha:PT X a tA):PT X (.UnaryOp .Not a pos) (tNot tA):=by
 intro pins s σ H Q I h
 exact isTrue_not (ha pins s σ H (λc H1=>Q (!c) H1) I h)
noncomputable def zlP (ta tb:TE):TE:=fun σ H Q=>ta σ H λx H1=>∃ c,x=.bl c/\if c=true then tb σ H1 Q else Q (.bl false) H1
noncomputable def zlD (ta:TE):TE:=fun σ H Q=>ta σ H λx H1=>∃ c,x=.bl c/\Q (.bl (!c)) H1
theorem zkB {op}{t:TE}(h:PE X a t):PE X (.BoolOp op [a] pos) t:=λpins s σ H Q I hw=>BoolOp_one (h pins s σ H Q I hw)
theorem zku (ha:PE X a ta)(hb:PE X (.BoolOp .And (b::rest) pos) tb):PE X (.BoolOp .And (a::b::rest) pos) (zlP ta tb):=by
 intro pins s σ H Q I h
 refine BoolOp_and (thn (ha pins s σ H _ I h) λv s1 hh9=>?_)
 obtain⟨x,H1,I1,r1,q1⟩:=hh9
 obtain⟨c,rfl,q1⟩:=q1
 cases r1
 refine wpAny_truthy_bool ?_
 cases c with
 | true=>exact hb pins s1 σ H1 Q I1 q1
 | false=>exact⟨.bl false,H1,I1,rfl,q1⟩
theorem zj1 (ha:PE X a ta):PE X (.UnaryOp .Not a pos) (zlD ta):=by
 intro pins s σ H Q I h
 refine UnaryOp_ (thn (ha pins s σ H _ I h) λv s1 hh9=>?_)
 obtain⟨x,H1,I1,r1,q1⟩:=hh9
 obtain⟨c,rfl,q1⟩:=q1
 cases r1
 exact not_of (wpAny_truthy_bool ⟨.bl (!c),H1,I1,rfl,q1⟩)
end
noncomputable def SqL (K:PySem.W.Frag)(H:Hp)(a:Addr)(xs:List V):Prop :=
 Rd H a (.lst xs) \/
  ∃ (o:Obj) (its:Array Value) (n:Nat),K.lookup a=some o/\o.cls=.type "list"/\o.dict=none/\o.data=.seq its n/\its.size<=sizeLine/\yf xs its.toList
noncomputable def SqT (K:PySem.W.Frag)(H:Hp)(a:Addr)(xs:List V):Prop :=
 Rd H a (.tup xs) \/
  ∃ (o:Obj) (its:Array Value) (n:Nat),K.lookup a=some o/\o.cls=.type "tuple"/\o.data=.seq its n/\its.size<=sizeLine/\yf xs its.toList
noncomputable def absV:Value->Option V
 | .none=>some .non
 | .bool b=>some (.bl b)
 | .int i _=>some (.int i)
 | .str x _=>some (.str x)
 | .bytes b _=>some (.byt b)
 | .float b _=>some (.flt b)
 | .ref a=>some (.ref a)
 | .type n=>some (.ty n)
 | _=>none
theorem yF.abs {x:V}{u:Value}(r:yF x u):absV u=some x:=by
 cases x with
 | non=>cases r;rfl
 | bl _=>cases r;rfl
 | int _=>obtain⟨t,rfl⟩:=r;rfl
 | str _=>obtain⟨t,rfl⟩:=r;rfl
 | byt _=>obtain⟨t,rfl⟩:=r;rfl
 | flt _=>obtain⟨t,rfl⟩:=r;rfl
 | ref _=>cases r;rfl
 | ty _=>cases r;rfl
theorem yF.inj {x y:V}{u:Value}(r:yF x u)(q:yF y u):x=y:=Option.some.inj (r.abs.symm.trans q.abs)
theorem yf.inj:∀ {xs ys:List V} {us:List Value},yf xs us->yf ys us->xs=ys:=by
 intro xs ys us h
 induction h generalizing ys with
 | nil=>intro h2;cases h2;rfl
 | cons r t ih=>intro h2;cases h2 with | cons r' t'=>rw[r.inj r',ih t']
section
variable {X:Cx}{pins:List (Addr × Obj)}{σ:St}{H:Hp}{s:Shared}{a:Addr}{xs ys:List V}
theorem SqL.of {K:PySem.W.Frag}(h:H a=some (.lst xs)):SqL K H a xs:=.inl (.inl h)
theorem SqT.of {K:PySem.W.Frag}(h:H a=some (.tup xs)):SqT K H a xs:=.inl (.inl h)
theorem Inv.list (I:Inv X pins σ H s)(h:SqL X.K H a xs):∃ its:List Value,yf xs its/\PlainL s.heap a its.toArray/\xs.length<=sizeLine:=by
 rcases h with h | ⟨o,its,n,hk,hc,hd,hs,hz,r⟩
 .obtain⟨z,its,n,r,e⟩:=h.ok I.hok
  exact⟨its,r,⟨_,n,e,rfl,rfl,rfl⟩,z⟩
 .refine⟨its.toList,r,⟨o,n,I.kIn a o hk,hc,hd,by simpa using hs⟩,?_⟩
  have e:=r.length
  simp only[Array.length_toList]at e
  omega
theorem Inv.tuple (I:Inv X pins σ H s)(h:SqT X.K H a xs):∃ its:List Value,yf xs its/\IsTup s.heap a its.toArray/\xs.length<=sizeLine:=by
 rcases h with h | ⟨o,its,n,hk,hc,hs,hz,r⟩
 .obtain⟨z,its,r,p⟩:=h.ok I.hok
  exact⟨its,r,p,z⟩
 .refine⟨its.toList,r,⟨o,I.kIn a o hk,hc,n,by simpa using hs⟩,?_⟩
  have e:=r.length
  simp only[Array.length_toList]at e
  omega
theorem Inv.list_inj (I:Inv X pins σ H s)(h:SqL X.K H a xs)(h':SqL X.K H a ys):xs=ys:=by
 obtain⟨its,r,⟨o,n,e,_,_,d⟩,_⟩:=I.list h
 obtain⟨its',r',⟨o',n',e',_,_,d'⟩,_⟩:=I.list h'
 rw[e]at e';cases e'
 rw[d]at d'
 injection d' with d1 _
 have:its=its':=by simpa using congrArg Array.toList d1
 subst this
 exact r.inj r'
theorem Inv.tuple_inj (I:Inv X pins σ H s)(h:SqT X.K H a xs)(h':SqT X.K H a ys):xs=ys:=by
 obtain⟨its,r,⟨o,e,_,n,d⟩,_⟩:=I.tuple h
 obtain⟨its',r',⟨o',e',_,n',d'⟩,_⟩:=I.tuple h'
 rw[e]at e';cases e'
 rw[d]at d'
 injection d' with d1 _
 have:its=its':=by simpa using congrArg Array.toList d1
 subst this
 exact r.inj r'
end
noncomputable abbrev Cx.wish (X:Cx)(E:Value->Shared->Prop):Cx:={ X with xe:=E }
noncomputable abbrev Cx.nox (X:Cx):Cx:=X.wish λ_ _=>False
theorem Cx.Ok.wish {X:Cx}(ok:X.Ok)(E:Value->Shared->Prop):(X.wish E).Ok :=
 ⟨ok.mod,ok.kind,ok.glob,ok.blt,ok.above,ok.inj,ok.has,ok.cab,ok.hd,ok.frames,ok.stk,ok.exf,ok.bs,ok.bsz,ok.noex,ok.exfs,ok.funs,ok.frf⟩
theorem Cx.Ok.unwish {X:Cx}{E:Value->Shared->Prop}(ok:(X.wish E).Ok):X.Ok :=
 ⟨ok.mod,ok.kind,ok.glob,ok.blt,ok.above,ok.inj,ok.has,ok.cab,ok.hd,ok.frames,ok.stk,ok.exf,ok.bs,ok.bsz,ok.noex,ok.exfs,ok.funs,ok.frf⟩
section
variable {X:Cx}{pins:List (Addr × Obj)}{σ:St}{H:Hp}{s:Shared}{E:Value->Shared->Prop}
theorem Inv.wish (I:Inv X pins σ H s)(E:Value->Shared->Prop):Inv (X.wish E) pins σ H s:=⟨I.ok.wish E,I.os,I.bare,I.base,I.loc,I.cell,I.free,I.freeC,I.pin,I.hok,I.len⟩
theorem Inv.unwish (I:Inv (X.wish E) pins σ H s):Inv X pins σ H s:=⟨I.ok.unwish,I.os,I.bare,I.base,I.loc,I.cell,I.free,I.freeC,I.pin,I.hok,I.len⟩
theorem SP.unwish {D:zgJ}{f:Flow}{s':Shared}(h:SP (X.wish E) pins D f s'):SP X pins D f s':=by
 cases f with
 | next=>obtain⟨σ',H',I,q⟩:=h;exact⟨σ',H',I.unwish,q⟩
 | brk=>obtain⟨σ',H',I,q⟩:=h;exact⟨σ',H',I.unwish,q⟩
 | cont=>obtain⟨σ',H',I,q⟩:=h;exact⟨σ',H',I.unwish,q⟩
 | ret u=>obtain⟨v,σ',H',I,r,q⟩:=h;exact⟨v,σ',H',I.unwish,r,q⟩
theorem PSs.nox {st:List Stmt}{t:TS}(h:PSs X.nox st t):PSs X st t:=λpins s σ H D I hw =>
 wpAny_mono (h pins s σ H D (I.wish _) hw) (λ_ _ q=>q.unwish) λ_ _ z=>False.elim z
end
section
variable {X:Cx}{st:Stmt}{rest:List Stmt}{t u:TS}{e:Expr}{te:TE}{pos:Pos}
noncomputable def zmf:TS:=λD σ H=>D.nx σ H
noncomputable def tSeq (t u:TS):TS:=λD σ H=>t { D with nx:=u D } σ H
theorem zhP:PSs X [] zmf:=λ_ _ σ H _ I h=>wpAny_execs_nil ⟨σ,H,I,h⟩
theorem zf2 (h1:PS X st t)(h2:PSs X rest u):PSs X (st::rest) (tSeq t u):=by
 intro pins s σ H D I h
 refine wpAny_execs_cons (thn (h1 pins s σ H { D with nx:=u D } I h) λf s1 q=>?_)
 cases f with
 | next =>
  obtain⟨σ',H',I',q⟩:=q
  exact h2 pins s1 σ' H' D I' q
 | ret v=>exact q
 | brk=>exact q
 | cont=>exact q
theorem zi2 (h1:PS X st t):PSs X [st] t:=by
 intro pins s σ H D I h
 refine wpAny_execs_cons (thn (h1 pins s σ H D I h) λf s1 q=>?_)
 cases f with
 | next=>exact wpAny_execs_nil q
 | ret v=>exact q
 | brk=>exact q
 | cont=>exact q
theorem Inv.quiet {pins:List (Addr × Obj)}{σ:St}{H:Hp}{s:Shared}(I:Inv X pins σ H s):interactive X.env=false:=by simp[interactive,I.ok.kind]
noncomputable def zlu (te:TE):TS:=λD σ H=>te σ H λ_ H1=>D.nx σ H1
theorem zeg (he:PE X e te)(hs:swapsWith e none pos.line X.env=pure false:=by rfl):PS X (.Expr e pos) (zlu te):=by
 intro pins s σ H D I h
 exact wpAny_Expr_any (thn (he pins s σ H _ I h) λv s1 ⟨x,H1,I1,r1,q1⟩=>⟨σ,H1,I1,q1⟩) I.quiet hs
noncomputable def tRet (te:TE):TS:=λD σ H=>te σ H D.rt
theorem zjT (he:PE X e te):PS X (.Return (some e) pos) (tRet te):=by
 intro pins s σ H D I h
 exact wpAny_Return_some (thn (he pins s σ H _ I h) λv s1 ⟨x,H1,I1,r1,q1⟩=>⟨x,σ,H1,I1,r1,q1⟩)
noncomputable def tIfS (c:TT)(t u:TS):TS:=λD σ H=>c σ H λb H1=>if b=true then t D σ H1 else u D σ H1
theorem zl7 {c:Expr}{a b:List Stmt}{tc:TT}(hc:PT X c tc)(ha:PSs X a t)(hb:PSs X b u):PS X (.If c a b pos) (tIfS tc t u):=by
 intro pins s σ H D I h
 refine wpAny_If (thn (hc pins s σ H _ I h) λd s1 hh9=>?_)
 obtain⟨H1,I1,q1⟩:=hh9
 cases d with
 | true=>exact ha pins s1 σ H1 D I1 q1
 | false=>exact hb pins s1 σ H1 D I1 q1
noncomputable def zkK:TS:=λ_ _ _=>False
theorem zgM:PS X st zkK:=λ_ _ _ _ _ _ h=>h.elim
end
noncomputable abbrev TG:=V->St->Hp->(St->Hp->Prop)->Prop
noncomputable abbrev TGs:=List V->St->Hp->(St->Hp->Prop)->Prop
noncomputable def PG (X:Cx)(target:Expr)(t:TG):Prop :=
 ∀ (pins:List (Addr × Obj)) (s:Shared) (σ:St) (H:Hp) (v:V) (u:Value) (Q:St->Hp->Prop),Inv X pins σ H s->yF v u->t v σ H Q ->
  wpAny (model X.prog X.w) X.A (assign target X.env u) (λ_ s'=>∃ σ' H',Inv X pins σ' H' s'/\Q σ' H') X.xe s
noncomputable def PGs (X:Cx)(ts:List Expr)(t:TGs):Prop :=
 ∀ (pins:List (Addr × Obj)) (s:Shared) (σ:St) (H:Hp) (vs:List V) (us:List Value) (Q:St->Hp->Prop),Inv X pins σ H s->yf vs us->t vs σ H Q ->
  wpAny (model X.prog X.w) X.A (assignInOrder ((assignEach ts X.env).map (·.2)) us) (λ_ s'=>∃ σ' H',Inv X pins σ' H' s'/\Q σ' H') X.xe s
noncomputable abbrev zlM:=V->V->V->Hp->(Hp->Prop)->Prop
noncomputable def PSet (X:Cx)(t:zlM):Prop :=
 ∀ (pins:List (Addr × Obj)) (s:Shared) (σ:St) (H:Hp) (o i v:V) (ov iv u:Value) (Q:Hp->Prop),Inv X pins σ H s->yF o ov->yF i iv->yF v u->t o i v H Q ->
  wpAny (model X.prog X.w) X.A (setItem ov iv u) (λ_ s'=>∃ H',Inv X pins σ H' s'/\Q H') X.xe s
section
variable {X:Cx}{pos:Pos}
noncomputable def YR (i:Nat):TG:=λv σ H Q=>Q (σ.set i (some v)) H
theorem zr {i:Nat}{x:Str}(hN:X.N.Nodup)(hi:X.N[i]?=some x)(hx:Loc X.env.scope x)(hf:X.fn x=true\/X.env.scope.names.lookup x=some .local:=by first | exact .inl rfl | exact .inr rfl | assumption):PG X (.Name x pos) (YR i):=by
 intro pins s σ H v u Q I r h
 exact wpAny_assign_Name (zbB I hN hi hx r (λs' I'=>⟨_,H,I',h⟩) hf)
noncomputable def zlc:TGs:=λvs σ H Q=>vs=[]/\Q σ H
noncomputable def zay (t:TG)(u:TGs):TGs:=λvs σ H Q=>∃ v r,vs=v::r/\t v σ H fun σ' H'=>u r σ' H' Q
theorem Vi:PGs X [] zlc:=by
 intro pins s σ H vs us Q I r h
 obtain⟨e,h⟩:=h
 subst e
 cases r
 exact assignInOrder_nil ⟨σ,H,I,h⟩
theorem ve {e:Expr}{es:List Expr}{t:TG}{u:TGs}(h1:PG X e t)(h2:PGs X es u)
 (hs:(assignEach (e::es) X.env).map (·.2)=assign e X.env::(assignEach es X.env).map (·.2):=by rfl):PGs X (e::es) (zay t u):=by
 intro pins s σ H vs us Q I r h
 obtain⟨v,vr,e1,h⟩:=h
 subst e1
 cases r with
 | cons r rr =>
  rw[hs]
  refine assignInOrder_cons (thn (h1 pins s σ H _ _ _ I r h) λ_ s1 hh9=>?_)
  obtain⟨σ1,H1,I1,q1⟩:=hh9
  exact h2 pins s1 σ1 H1 _ _ Q I1 rr q1
noncomputable def zll (K:PySem.W.Frag)(n:Nat)(t:TGs):TG:=λv σ H Q=>∃ a xs,v=.ref a/\SqT K H a xs/\xs.length=n/\t xs σ H Q
theorem zbo {es:List Expr}{k:Nat}{t:TGs}{n:Nat}(hc:X.calm=true)(h:PGs X es t)
 (hn:(assignEach es X.env).length=n:=by rfl) (hst:(assignEach es X.env).findIdx? (·.1)=none:=by rfl):PG X (.Tuple es k pos) (zll X.K n t):=by
 intro pins s σ H v u Q I r hw
 obtain⟨a,xs,e1,hq,hl,hw⟩:=hw
 subst e1
 cases r
 obtain⟨its,rv,ht,hz⟩:=I.tuple hq
 refine assign_Tuple_tuple (I.ok.hd hc) ht (by simp[hn,<- hl,rv.length]) hst λh' hx=>?_
 have I1:Inv X pins σ H { s with heap:=h' }:=I.kept (t':=s.toks) λb o e=>hx b o (Nat.ne_of_lt (Heap.lt_size e)) e
 exact h pins _ σ H xs _ Q I1 (by simpa using rv) hw
noncomputable def gSub (to ti:TE)(t:zlM):TG:=λv σ H Q=>to σ H λo H1=>ti σ H1 λi H2=>t o i v H2 λH3=>Q σ H3
theorem zkE {o i:Expr}{to ti:TE}{t:zlM}(ho:PE X o to)(hi:PE X i ti)(hs:PSet X t)
 (ha:∀ v,assign (.Subscript o i pos) X.env v=(do
  let ov<-holding [v] (eval o X.env)
  let iv<-holding [v,ov] (eval i X.env)
  standAt pos
  holding [v,ov,iv] (setItem ov iv v)
  release [v,ov,iv] []):=by intro _;rfl):PG X (.Subscript o i pos) (gSub to ti t):=by
 intro pins s σ H v u Q I r h
 rw[ha]
 refine wpAny_bind (wpAny_holding (thn (ho pins s σ H _ I h) λov s1 hh9=>?_))
 obtain⟨x,H1,I1,r1,q1⟩:=hh9
 refine wpAny_bind (wpAny_holding (thn (hi pins s1 σ H1 _ I1 q1) λiv s2 hh9=>?_))
 obtain⟨y,H2,I2,r2,q2⟩:=hh9
 refine wpAny_bind (wpAny_standAt (wpAny_bind (wpAny_holding (thn (hs pins s2 σ H2 x y v ov iv u _ I2 r1 r2 r q2) λ_ s3 hh9=>?_))))
 obtain⟨H3,I3,q3⟩:=hh9
 exact wpAny_release ⟨σ,H3,I3,q3⟩
noncomputable def zln (te:TE)(g:TG):TS:=λD σ H=>te σ H λx H1=>g x σ H1 D.nx
theorem zjG {tg e:Expr}{te:TE}{g:TG}(he:PE X e te)(hg:PG X tg g)(hs:swapsWithSole [tg] e pos.line X.env=pure false:=by rfl)(hw:swappedStores [tg] e X.env=pure none:=by rfl)
 (h1:(assignEach [tg] X.env).map (·.2)=[assign tg X.env]:=by rfl):PS X (.Assign [tg] e pos) (zln te g):=by
 intro pins s σ H D I h
 refine wpAny_Assign_stores (thn (he pins s σ H _ I h) λv s1 hh9=>?_) hs hw
 obtain⟨x,H1,I1,r1,q1⟩:=hh9
 rw[h1]
 exact thn (hg pins s1 σ H1 x v _ I1 r1 q1) λ_ s2 q=>q
theorem Wi {i:Nat}{x:Str}{e:Expr}{te:TE}{pos':Pos}(hN:X.N.Nodup)(hi:X.N[i]?=some x)(hx:Loc X.env.scope x)(he:PE X e te)(hs:swapsWith e (some (.Name x pos')) pos.line X.env=pure false:=by rfl)(hf:X.fn x=true\/X.env.scope.names.lookup x=some .local:=by first | exact .inl rfl | exact .inr rfl | assumption) :
 PS X (.Assign [.Name x pos'] e pos) (zln te (YR i)):=by
 intro pins s σ H D I h
 refine wpAny_Assign_Name (thn (he pins s σ H _ I h) λv s1 hh9=>?_) hs
 obtain⟨y,H1,I1,r1,q1⟩:=hh9
 exact zbB I1 hN hi hx r1 (λs2 I2=>⟨_,H1,I2,q1⟩) hf
noncomputable def zjx (c:TT)(tb:TS):TS:=λD σ H=>∃ W:Nat->St->Hp->Prop,(∃ m,W m σ H)/\∀ m σ H,W m σ H ->
 c σ H λb H1=>if b=true then ∃ N:St->Hp->Prop,(∀ σ' H',N σ' H'->∃ m',m' < m/\W m' σ' H')/\tb { D with nx:=N,ct:=N,bk:=D.nx } σ H1 else D.nx σ H1
theorem zf7 {c:Expr}{body:List Stmt}{tc:TT}{tb:TS}(hp:PassesOwn (model X.prog X.w) X.A X.env X.xe)(hc:PT X c tc)(hb:PSs X body tb):PS X (.While c body [] pos) (zjx tc tb):=by
 intro pins s σ H D I h
 obtain⟨W,⟨m0,w0⟩,turn⟩:=h
 refine wpAny_While (codeAny_whileLoop (λn s'=>∃ σ' H',Inv X pins σ' H' s'/\W n σ' H') ?_ m0 ⟨σ,H,I,w0⟩)
 rintro n s1 ⟨σ1,H1,I1,w1⟩
 refine wpAny_passesOwn hp (thn (hc pins s1 σ1 H1 _ I1 (turn n σ1 H1 w1)) λb s2 hh9=>?_)
 obtain⟨H2,I2,q2⟩:=hh9
 cases b with
 | true =>
  obtain⟨N,hN,q2⟩:=q2
  rw[if_pos rfl]
  refine wpAny_passesOwn hp (thn (hb pins s2 σ1 H2 _ I2 q2) λf s3 q3=>?_)
  cases f with
  | next =>
   obtain⟨σ3,H3,I3,n3⟩:=q3
   obtain⟨m',hm,w3⟩:=hN σ3 H3 n3
   exact⟨m',hm,σ3,H3,I3,w3⟩
  | cont =>
   obtain⟨σ3,H3,I3,n3⟩:=q3
   obtain⟨m',hm,w3⟩:=hN σ3 H3 n3
   exact⟨m',hm,σ3,H3,I3,w3⟩
  | brk=>exact q3
  | ret v=>exact q3
 | false =>
  rw[if_neg Bool.false_ne_true]
  exact wpAny_execs_nil ⟨σ1,H2,I2,q2⟩
end
structure It where
 go:Nat->Hp->Prop
 yld:Nat->Hp->V->Hp->Prop
 stop:Nat->Hp->Prop
noncomputable def zci (X:Cx)(pins:List (Addr × Obj))(H:Hp)(b:Addr):Prop :=
 H b=none/\b≠X.env.locals/\b∉X.fs/\(b∈X.ex\/X.s₀.heap.objs.size<=b)/\(∀ x c,X.env.cells.lookup x=some c->c≠b)/\∀ p∈X.pn++pins,p.1≠b
theorem Inv.fpOk {X:Cx}{pins:List (Addr × Obj)}{σ:St}{H H':Hp}{s:Shared}{b:Addr}(I:Inv X pins σ H s)(hb:s.heap.objs.size<=b)(hn:H' b=none):zci X pins H' b:=by
 refine⟨hn,Nat.ne_of_gt (Nat.lt_of_lt_of_le I.lt hb),I.nofs hb,.inr (Nat.le_trans I.sz hb),λx c e z=>?_,λp hp z=>?_⟩
 .obtain⟨v,q⟩:=I.cell x c e
  exact absurd (Nat.lt_of_lt_of_le q.lt (by rw[z];exact hb)) (Nat.lt_irrefl _)
 .exact absurd (Nat.lt_of_lt_of_le (Heap.lt_size (I.pin p hp).1) (by rw[z];exact hb)) (Nat.lt_irrefl _)
set_option genInjectivity false in
set_option genSizeOf false in
set_option genCtorIdx false in
structure ziv (P:Program) (w:World) (K:PySem.W.Frag) (tg:Expr) (J:It) (fp:List Addr) (it:Addr) (tn:Nat->Heap->Prop):Prop where
 mem:it∈fp
 obj:∀ i h,tn i h->∀ b∈fp,∃ o,h.get? b=some o/\∀ v,o.data≠.cell v
 keep:∀ i h h',tn i h->(∀ b∈fp,∀ o,h.get? b=some o->h'.get? b=some o)->tn i h'
 item:∀ (X:Cx),X.prog=P->X.w=w->X.K=K->X.calm=true->∀ (i:Nat) (pins:List (Addr × Obj)) (s:Shared) (σ:St) (H:Hp) (E:Value->Shared->Prop),Inv X pins σ H s->(∀ b∈fp,zci X pins H b)->tn i s.heap->J.go i H ->
  wpAny (model P w) X.A (pyNext (.ref it)) (λr s1=>∃ u,r=some u /\
   wpAny (model P w) X.A (letOwnedTupleGo tg (.ref it) u) (λ_ s2=>∃ x H',Inv X pins σ H' s2/\yF x u/\J.yld i H x H'/\tn (i+1) s2.heap/\∀ b∈fp,H' b=none) E s1) E s
 done:∀ (X:Cx),X.prog=P->X.w=w->X.K=K->X.calm=true->∀ (i:Nat) (pins:List (Addr × Obj)) (s:Shared) (σ:St) (H:Hp) (E:Value->Shared->Prop),Inv X pins σ H s->(∀ b∈fp,zci X pins H b)->tn i s.heap->J.stop i H ->
  wpAny (model P w) X.A (pyNext (.ref it)) (λr s1=>r=none/\Inv X pins σ H s1) E s
 self:∀ (A:Around) (i:Nat) (s:Shared) (Q:Value->Shared->Prop) (E:Value->Shared->Prop),tn i s.heap->Q (.ref it) s->wpAny (model P w) A (pyIter (.ref it)) Q E s
noncomputable abbrev TI:=St->Hp->(It->Hp->Prop)->Prop
noncomputable def PIE (X:Cx)(pins:List (Addr × Obj))(σ:St)(tg:Expr)(R:It->Hp->Prop)(itv:Value)(s2:Shared):Prop :=
 ∃ (it:Addr) (fp:List Addr) (tn:Nat->Heap->Prop) (J:It) (H':Hp),itv=.ref it/\Inv X pins σ H' s2/\ziv X.prog X.w X.K tg J fp it tn/\tn 0 s2.heap/\(∀ b∈fp,zci X pins H' b)/\R J H'
noncomputable def PI (X:Cx)(tg iter:Expr)(wi:TI):Prop :=
 ∀ (pins:List (Addr × Obj)) (s:Shared) (σ:St) (H:Hp) (R:It->Hp->Prop),Inv X pins σ H s->wi σ H R ->
  wpAny (model X.prog X.w) X.A (eval iter X.env) (λv s1=>wpAny (model X.prog X.w) X.A (pyIter v) (PIE X pins σ tg R) X.xe s1) X.xe s
theorem zh6 {M:Model}{A:Around}{E:Value→Shared→Prop}{s:Shared}{tg:Expr}{it:Addr}{u:Value}{o:Obj}{n:String}{vs:Array Value}{Q:Unit→Shared→Prop}(ho:s.heap.get? it=some o)(hc:o.cls=.type n)(hd:o.data=.fields vs)
    (hn:["enumerate","zip","dict_itemiterator","dict_reverseitemiterator","odict_iterator","itertools.zip_longest","itertools.pairwise"].contains n=false) (hQ:Q () s):wpAny M A (letOwnedTupleGo tg (.ref it) u) Q E s:=by
  unfold letOwnedTupleGo
  cases tg <;> first
    | exact wpAny_pure hQ
    | (cases u <;> first
        | exact wpAny_pure hQ
        | (refine wpAny_bind (wpAny_load ho ?_)
           rw [hc,hd]
           show wpAny M A (if (["enumerate","zip","dict_itemiterator","dict_reverseitemiterator","odict_iterator","itertools.zip_longest","itertools.pairwise"].contains n&&vs[0]? == some (rawInt _))=true then _ else _) Q E s
           rw [if_neg (by intro h;rw [hn,Bool.false_and] at h;cases h)]
           exact wpAny_pure hQ))
noncomputable def Itl (K:PySem.W.Frag)(a:Addr):It :=
 ⟨λi H=>∃ xs x,SqL K H a xs/\xs[i]?=some x,λi H x H'=>H'=H/\∀ xs,SqL K H a xs->xs[i]?=some x,λi H=>∃ xs,SqL K H a xs/\xs.length<=i⟩
noncomputable def Itt (K:PySem.W.Frag)(a:Addr):It :=
 ⟨λi H=>∃ xs x,SqT K H a xs/\xs[i]?=some x,λi H x H'=>H'=H/\∀ xs,SqT K H a xs->xs[i]?=some x,λi H=>∃ xs,SqT K H a xs/\xs.length<=i⟩
noncomputable def Itr (lo:Int)(n:Nat):It:=⟨λi _=>i < n,λi H x H'=>H'=H/\x=.int (lo+i),λi _=>n<=i⟩
theorem zdx {P:Program}{w:World}{K:PySem.W.Frag}{tg:Expr}(a it:Addr):ziv P w K tg (Itl K a) [it] it (λi h=>h.IsListIter it a i) where
 mem:=by simp
 obj:=λi h st b hb=>by
  have e:b=it:=by simpa using hb
  subst e
  obtain⟨o,e,c,d⟩:=st
  exact⟨o,e,λv z=>by rw[d]at z;cases z⟩
 keep:=λi h h' st k=>st.at λo e=>k it (by simp) o e
 item:=by
  intro X hP hw hK hc i pins s σ H E I hf st hg
  subst hP hw hK
  obtain⟨xs,x,hq,hx⟩:=hg
  obtain⟨its,rv,p,hz⟩:=I.list hq
  obtain⟨u,hu,ru⟩:=rv.get hx
  obtain⟨f0,f1,f2,f3,f4,f5⟩:=hf it (by simp)
  refine wpAny_pyNext_list_item st p.isList (x:=u) (by simpa using hu) λh' st' sb=>?_
  have I1:Inv X pins σ H { s with heap:=h' }:=I.turned (t':=s.toks) (λb o hb e=>(sb.2 b hb).trans e) f0 f1 f3 f4 f5
  obtain⟨o,e,c,d⟩:=id st'
  exact⟨u,rfl,zh6 (s:={ s with heap:=h' }) e c d (by decide) ⟨x,H,I1,ru,⟨rfl,λys hy=>by rw[I.list_inj hy hq];exact hx⟩,st',λb hb=>(hf b hb).1⟩⟩
 done:=by
  intro X hP hw hK hc i pins s σ H E I hf st hg
  subst hP hw hK
  obtain⟨xs,hq,hx⟩:=hg
  obtain⟨its,rv,p,hz⟩:=I.list hq
  obtain⟨f0,f1,f2,f3,f4,f5⟩:=hf it (by simp)
  have hl:=rv.length
  exact wpAny_pyNext_list_end (I.ok.hd hc) st p.isList (by simp;omega) λh' eb=>⟨rfl,I.turned (t':=s.toks) (λb o hb e=>eb b o hb e) f0 f1 f3 f4 f5⟩
 self:=λ_ _ _ _ _ st h=>wpAny_pyIter_listiter st h
theorem zcW {P:Program}{w:World}{K:PySem.W.Frag}{tg:Expr}(a it:Addr):ziv P w K tg (Itt K a) [it] it (λi h=>h.IsTupleIter it a i) where
 mem:=by simp
 obj:=λi h st b hb=>by
  have e:b=it:=by simpa using hb
  subst e
  obtain⟨o,e,c,d⟩:=st
  exact⟨o,e,λv z=>by rw[d]at z;cases z⟩
 keep:=λi h h' st k=>st.at λo e=>k it (by simp) o e
 item:=by
  intro X hP hw hK hc i pins s σ H E I hf st hg
  subst hP hw hK
  obtain⟨xs,x,hq,hx⟩:=hg
  obtain⟨its,rv,p,hz⟩:=I.tuple hq
  obtain⟨u,hu,ru⟩:=rv.get hx
  obtain⟨f0,f1,f2,f3,f4,f5⟩:=hf it (by simp)
  refine wpAny_pyNext_tuple_item st (show s.heap.IsTuple a its.toArray from p) (x:=u) (by simpa using hu) λh' st' sb=>?_
  have I1:Inv X pins σ H { s with heap:=h' }:=I.turned (t':=s.toks) (λb o hb e=>(sb.2 b hb).trans e) f0 f1 f3 f4 f5
  obtain⟨o,e,c,d⟩:=id st'
  exact⟨u,rfl,zh6 (s:={ s with heap:=h' }) e c d (by decide) ⟨x,H,I1,ru,⟨rfl,λys hy=>by rw[I.tuple_inj hy hq];exact hx⟩,st',λb hb=>(hf b hb).1⟩⟩
 done:=by
  intro X hP hw hK hc i pins s σ H E I hf st hg
  subst hP hw hK
  obtain⟨xs,hq,hx⟩:=hg
  obtain⟨its,rv,p,hz⟩:=I.tuple hq
  obtain⟨f0,f1,f2,f3,f4,f5⟩:=hf it (by simp)
  have hl:=rv.length
  exact wpAny_pyNext_tuple_end (I.ok.hd hc) st (show s.heap.IsTuple a its.toArray from p) (by simp;omega) λh' eb=>⟨rfl,I.turned (t':=s.toks) (λb o hb e=>eb b o hb e) f0 f1 f3 f4 f5⟩
 self:=λ_ _ _ _ _ st h=>wpAny_pyIter_tupleiter st h
theorem zcU {P:Program}{w:World}{K:PySem.W.Frag}{tg:Expr}(it:Addr)(lo:Int)(n:Nat):ziv P w K tg (Itr lo n) [it] it (λi h=>IsRangeIter h it (lo+(i:Nat)*1) ((n:Int) - (i:Nat)) 1) where
 mem:=by simp
 obj:=λi h st b hb=>by
  have e:b=it:=by simpa using hb
  subst e
  exact⟨_,st,λv z=>by
   have z':Data.fields _=Data.cell v:=z
   cases z'⟩
 keep:=λi h h' st k=>k it (by simp) _ st
 item:=by
  intro X hP hw hK hc i pins s σ H E I hf st hg
  subst hP hw hK
  obtain⟨f0,f1,f2,f3,f4,f5⟩:=hf it (by simp)
  have W:=Walks.range (prog:=X.prog) (w:=X.w) (I.ok.hd hc) it lo 1 n
  refine W.item i s _ _ hg st λv h' tk hv st' kk=>?_
  obtain⟨t,rfl⟩:=hv
  have I1:Inv X pins σ H { s with heap:=h',toks:=tk }:=I.turned (λb o hb e=>kk b o (by simpa using hb) e) f0 f1 f3 f4 f5
  refine⟨_,rfl,zh6 (s:={ s with heap:=h',toks:=tk }) (n:="range_iterator") st' rfl rfl (by decide) ⟨.int (lo+i),H,I1,⟨t,?_⟩,⟨rfl,rfl⟩,st',λb hb=>(hf b hb).1⟩⟩
  rw[Int.mul_one]
 done:=by
  intro X hP hw hK hc i pins s σ H E I hf st hg
  subst hP hw hK
  obtain⟨f0,f1,f2,f3,f4,f5⟩:=hf it (by simp)
  exact wpAny_pyNext_range_end (I.ok.hd hc) st (by have:n<=i:=hg;omega) λh' eb=>⟨rfl,I.turned (t':=s.toks) (λb o hb e=>eb b o hb e) f0 f1 f3 f4 f5⟩
 self:=λ_ _ _ _ _ st h=>wpAny_pyIter_rangeiter st h
section
variable {X:Cx}{tg:Expr}
theorem zbX {pins:List (Addr × Obj)}{σ:St}{H:Hp}{s:Shared}{R:It->Hp->Prop}{E:Value->Shared->Prop}{lo hi:Int}{t u v:Tok}{tk:Nat}(I:Inv X pins σ H s)(h1:-(2 ^ 62)<=lo)(h2:lo < 2 ^ 62)(h3:-(2 ^ 62)<=hi)(h4:hi < 2 ^ 62)
 (q:R (Itr lo (hi - lo).toNat) H):wpAny (model X.prog X.w) X.A (pyIter (.ref s.heap.objs.size)) (PIE X pins σ tg R) E { s with heap:=s.heap.push { cls:=.type "range",data:=.fields #[.int lo t,.int hi u,.int 1 v] },toks:=tk }:=by
 refine wpAny_pyIter_range (IsRange.new ..) (small_one h1 h2 h3 h4) ?_
 have I1:Inv X pins σ H { s with heap:=s.heap.push { cls:=.type "range",data:=.fields #[.int lo t,.int hi u,.int 1 v] },toks:=tk }:=I.kept λb o e=>Heap.get?_push_of_some _ e
 refine⟨(s.heap.push { cls:=.type "range",data:=.fields #[.int lo t,.int hi u,.int 1 v] }).objs.size,[(s.heap.push { cls:=.type "range",data:=.fields #[.int lo t,.int hi u,.int 1 v] }).objs.size],_,_,H,rfl,
  I1.kept (t':=tk) λb o e=>Heap.get?_push_of_some _ e,zcU _ lo (hi - lo).toNat,?_,λb hb=>?_,q⟩
 .have e1:lo+((0:Nat):Int)*1=lo:=by simp
  have e2:(((hi - lo).toNat:Nat):Int) - ((0:Nat):Int)=Builtin.Range.rangeSize lo hi 1:=by rw[rangeSize_one];split <;> omega
  show IsRangeIter _ _ (lo+((0:Nat):Int)*1) ((((hi - lo).toNat:Nat):Int) - ((0:Nat):Int)) 1
  rw[e1,e2]
  exact Heap.get?_push_size _ rfl
 .have e:b=(s.heap.push { cls:=.type "range",data:=.fields #[.int lo t,.int hi u,.int 1 v] }).objs.size:=by simpa using hb
  subst e
  exact I1.fpOk (Nat.le_refl _) (I1.hok.fresh (Nat.le_refl _))
noncomputable def zlG (ta:TA):TI:=fun σ H R=>ta σ H λvs H1=>∃ j:Int,vs=[.int j]/\-(2 ^ 62)<=j/\j < 2 ^ 62/\R (Itr 0 j.toNat) H1
noncomputable def zlW (ta:TA):TI:=fun σ H R=>ta σ H λvs H1=>∃ i j:Int,vs=[.int i,.int j]/\(-(2 ^ 62)<=i/\i < 2 ^ 62/\-(2 ^ 62)<=j/\j < 2 ^ 62)/\R (Itr i (j - i).toNat) H1
theorem zeY {a:Expr} {ta:TA} {p pos:Pos} (hg:Gl X "range") (hm:X.mg "range"=none) (ha:PA X [a] ta) (hs:starEach [a] X.env=[(false,eval a X.env)]:=by rfl):PI X tg (.Call (.Name "range" p) [a] [] pos) (zlG ta):=by
 intro pins s σ H R I h
 refine Call_ (XM I hg hm boot_range (PyProof.Rows.callWith_type1 (thn (ha pos pins s σ H _ I h) λus s1 hh9=>?_) hs rfl))
 obtain⟨vs,H1,I1,r1,q1⟩:=hh9
 obtain⟨j,e,q1,q2,q⟩:=q1
 subst e
 cases r1 with
 | cons r rr =>
  cases rr
  obtain⟨t,rfl⟩:=r
  exact call_range_1 (zbX I1 (by omega) (by omega) q1 q2 (by simpa using q))
theorem zdk {a b:Expr} {ta:TA} {p pos:Pos} (hg:Gl X "range") (hm:X.mg "range"=none) (ha:PA X [a,b] ta) (hs:starEach [a,b] X.env=[(false,eval a X.env),(false,eval b X.env)]:=by rfl) (hs2:starEach [b] X.env=[(false,eval b X.env)]:=by rfl) :
 PI X tg (.Call (.Name "range" p) [a,b] [] pos) (zlW ta):=by
 intro pins s σ H R I h
 refine Call_ (XM I hg hm boot_range (PyProof.Rows.callWith_type1 (thn (ha pos pins s σ H _ I h) λus s1 hh9=>?_) (by rw[hs,hs2]) (by rw[hs2];rfl)))
 obtain⟨vs,H1,I1,r1,q1⟩:=hh9
 obtain⟨i,j,e,⟨q1,q2,q3,q4⟩,q⟩:=q1
 subst e
 cases r1 with
 | cons r rr =>
  cases rr with
  | cons r' rr =>
   cases rr
   obtain⟨t,rfl⟩:=r
   obtain⟨t',rfl⟩:=r'
   exact call_range_2 (zbX I1 q1 q2 q3 q4 q)
noncomputable def tFor (wi:TI)(g:TG)(tb:TS):TS:=λD σ H=>wi σ H λJ H1=>∃ W:Nat->Nat->St->Hp->Prop,(∃ m,W 0 m σ H1)/\∀ i m σ H,W i m σ H ->
 (J.stop i H/\D.nx σ H)\/(J.go i H/\∃ N:St->Hp->Prop,(∀ σ' H',N σ' H'->∃ m',m' < m/\W (i+1) m' σ' H')/\∀ x H',J.yld i H x H'->g x σ H' fun σ2 H2=>tb { D with nx:=N,ct:=N,bk:=D.nx } σ2 H2)
noncomputable def Wm (fp:List Addr)(h:Heap):List (Addr × Obj):=fp.filterMap λb=>(h.get? b).map λo=>(b,o)
theorem wF {fp:List Addr}{h:Heap}{b:Addr}{o:Obj}(hb:b∈fp)(e:h.get? b=some o):(b,o)∈Wm fp h:=List.mem_filterMap.mpr ⟨b,hb,by rw[e];rfl⟩
theorem zd0 {fp:List Addr}{h:Heap}{p:Addr × Obj}(hp:p∈Wm fp h):p.1∈fp/\h.get? p.1=some p.2:=by
 obtain⟨b,hb,e⟩:=List.mem_filterMap.mp hp
 cases q:h.get? b with
 | none=>rw[q]at e;cases e
 | some o =>
  rw[q]at e
  have e':(b,o)=p:=Option.some.inj e
  subst e'
  exact⟨hb,q⟩
theorem Inv.pinned {pins:List (Addr × Obj)}{σ:St}{H:Hp}{s:Shared}{fp:List Addr}(I:Inv X pins σ H s)(hf:∀ b∈fp,zci X pins H b)(ho:∀ b∈fp,∃ o,s.heap.get? b=some o/\∀ v,o.data≠.cell v):Inv X (pins++Wm fp s.heap) σ H s :=
 I.pins_of λp hp=>(List.mem_append.mp hp).elim (λz=>I.pin p (List.mem_append_right _ z)) λz=>by
  obtain⟨hb,e⟩:=zd0 z
  obtain⟨f0,f1,f2,_⟩:=hf p.1 hb
  obtain⟨o,e',d⟩:=ho p.1 hb
  rw[e]at e';cases e'
  exact⟨e,f0,f1,f2,d⟩
theorem Inv.unpinned {pins pl:List (Addr × Obj)}{σ:St}{H:Hp}{s:Shared}(I:Inv X (pins++pl) σ H s):Inv X pins σ H s:=I.pins_of λp hp=>I.pin p (List.mem_append_right _ (List.mem_append_left _ hp))
theorem zdH {iter:Expr}{body:List Stmt}{wi:TI}{g:TG}{tb:TS}{pos:Pos}(hp:PassesOwn (model X.prog X.w) X.A X.env X.xe)(hc:X.calm=true)(hi:PI X tg iter wi)(hg:PG X tg g)(hb:PSs X body tb)
 (hs:∀ x,foldedSetIterable iter X.env x=pure x:=by intro _;rfl):PS X (.For tg iter body [] pos) (tFor wi g tb):=by
 intro pins s σ H D I h
 refine wpAny_For (thn (hi pins s σ H _ I h) λv s1 h1=>thn h1 λitv s2 h2=>?_) hs
 obtain⟨it,fp,tn,J,H2,e,I2,T,st2,f2,W,⟨m0,w0⟩,turn⟩:=h2
 subst e
 -- what stays true of the iterator's objects through the loop
 have stat:∀ {H':Hp},(∀ b∈fp,H' b=none)->∀ b∈fp,zci X pins H' b:=λhn b hb=>⟨hn b hb,(f2 b hb).2⟩
 refine codeAny_forLoop_any (λn s'=>∃ i σ' H',Inv X pins σ' H' s'/\tn i s'.heap/\(∀ b∈fp,H' b=none)/\W i n σ' H') ?_ m0 ⟨0,σ,H2,I2,st2,λb hb=>(f2 b hb).1,w0⟩
 rintro n s3 ⟨i,σ3,H3,I3,st3,fr3,w3⟩
 rcases turn i n σ3 H3 w3 with ⟨stop,qn⟩ | ⟨go,N,hN,step⟩
 .refine wpAny_passesOwn hp (thn (T.done X rfl rfl rfl hc i pins s3 σ3 H3 X.xe I3 (stat fr3) st3 stop) λr s4 hh9=>?_)
  obtain⟨hr,I4⟩:=hh9
  subst hr
  exact wpAny_execs_nil ⟨σ3,H3,I4,qn⟩
 .refine wpAny_passesOwn hp (thn (T.item X rfl rfl rfl hc i pins s3 σ3 H3 X.xe I3 (stat fr3) st3 go) λr s4 hh9=>?_)
  obtain⟨u,hr,h4⟩:=hh9
  subst hr
  refine wpAny_passesOwn hp (thn h4 λ_ s5 hh9=>?_)
  obtain⟨x,H5,I5,r5,y5,st5,fr5⟩:=hh9
  have I5':=I5.pinned (stat fr5) (T.obj _ _ st5)
  refine wpAny_passesOwn hp (thn (hg _ s5 σ3 H5 x u _ I5' r5 (step x H5 y5)) λ_ s6 hh9=>?_)
  obtain⟨σ6,H6,I6,q6⟩:=hh9
  refine wpAny_passesOwn hp (thn (hb _ s6 σ6 H6 _ I6 q6) λf s7 q7=>?_)
  have again:∀ {σ7:St} {H7:Hp},Inv X (pins++Wm fp s5.heap) σ7 H7 s7->N σ7 H7->∃ m,m < n/\∃ i σ' H',Inv X pins σ' H' s7/\tn i s7.heap/\(∀ b∈fp,H' b=none)/\W i m σ' H':=λ{σ7 H7} I7 n7=>by
   obtain⟨m',hm,w7⟩:=hN σ7 H7 n7
   refine⟨m',hm,i+1,σ7,H7,I7.unpinned,T.keep _ _ _ st5 λb hb o e=>(I7.pin (b,o) (List.mem_append_right _ (List.mem_append_right _ (wF hb e)))).1,λb hb=>?_,w7⟩
   obtain⟨o,e,d⟩:=T.obj _ _ st5 b hb
   exact(I7.pin (b,o) (List.mem_append_right _ (List.mem_append_right _ (wF hb e)))).2.1
  cases f with
  | next=>obtain⟨σ7,H7,I7,n7⟩:=q7;exact again I7 n7
  | cont=>obtain⟨σ7,H7,I7,n7⟩:=q7;exact again I7 n7
  | brk=>obtain⟨σ7,H7,I7,q7⟩:=q7;exact⟨σ7,H7,I7.unpinned,q7⟩
  | ret v=>obtain⟨x7,σ7,H7,I7,r7,q7⟩:=q7;exact⟨x7,σ7,H7,I7.unpinned,r7,q7⟩
end
noncomputable abbrev R2:=V->V->Hp->VK->Prop
noncomputable def OpR (X:Cx)(f:Value->Value->Sem Value)(r:R2):Prop :=
 ∀ (pins:List (Addr × Obj)) (s:Shared) (σ:St) (H:Hp) (x y:V) (v u:Value) (Q:VK),Inv X pins σ H s->yF x v->yF y u->r x y H Q ->
  wpAny (model X.prog X.w) X.A (f v u) (EP X pins σ Q) X.xe s
noncomputable def vL (X:Cx)(f:Value)(r:List V->Hp->VK->Prop):Prop :=
 ∀ (pins:List (Addr × Obj)) (s:Shared) (σ:St) (H:Hp) (xs:List V) (us:List Value) (Q:VK),Inv X pins σ H s->yf xs us->r xs H Q ->
  wpAny (model X.prog X.w) X.A (call f us) (EP X pins σ Q) X.xe s
noncomputable def tOp (r:R2)(ta tb:TE):TE:=fun σ H Q=>ta σ H λx H1=>tb σ H1 λy H2=>r x y H2 Q
noncomputable def rI (C:Int->Int->Prop)(g:Int->Int->V):R2:=λx y H Q=>∃ i j,x=.int i/\y=.int j/\C i j/\Q (g i j) H
noncomputable def rI0 (g:Int->Int->V):R2:=λx y H Q=>∃ i j,x=.int i/\y=.int j/\Q (g i j) H
section
variable {X:Cx}{a b c:Expr}{ta tb tc:TE}{pos:Pos}
theorem zmb (ha:PE X a ta)(hb:PE X b tb){pins:List (Addr × Obj)}{s:Shared}{σ:St}{H:Hp}{R:V->V->Hp->Prop}(I:Inv X pins σ H s)
 (h:ta σ H λx H1=>tb σ H1 λy H2=>R x y H2) {Q:Value->Shared->Prop} {f:Value->Value->Sem Value}
 (hf:∀ v u s2 x y H2,Inv X pins σ H2 s2->yF x v->yF y u->R x y H2->wpAny (model X.prog X.w) X.A (f v u) Q X.xe s2) :
 wpAny (model X.prog X.w) X.A (eval a X.env) (λv s₁=>wpAny (model X.prog X.w) X.A (eval b X.env) (λu s₂=>wpAny (model X.prog X.w) X.A (f v u) Q X.xe s₂) X.xe s₁) X.xe s:=by
 refine thn (ha pins s σ H _ I h) λv s1 hh9=>?_
 obtain⟨x,H1,I1,r1,q1⟩:=hh9
 refine thn (hb pins s1 σ H1 _ I1 q1) λu s2 hh9=>?_
 obtain⟨y,H2,I2,r2,q2⟩:=hh9
 exact hf v u s2 x y H2 I2 r1 r2 q2
theorem zkU {op:Operator}{r:R2}(ho:OpR X (binaryOp op) r)(ha:PE X a ta)(hb:PE X b tb):PE X (.BinOp a op b pos) (tOp r ta tb):=by
 intro pins s σ H Q I h
 exact wpAny_BinOp (zmb ha hb I h λv u s2 x y H2 I2 rx ry q=>ho pins s2 σ H2 x y v u Q I2 rx ry q)
theorem opI {f:Value->Value->Sem Value}{C:Int->Int->Prop}{g:Int->Int->Int}
 (rule:∀ (i j:Int) (t u:Tok) (s:Shared) (Q:Value->Shared->Prop) (E:Value->Shared->Prop),C i j->Q (.int (g i j) s.toks) { s with toks:=s.toks+1 }->wpAny (model X.prog X.w) X.A (f (.int i t) (.int j u)) Q E s) :
 OpR X f (rI C λi j=>.int (g i j)):=by
 intro pins s σ H x y v u Q I rx ry h
 obtain⟨i,j,rfl,rfl,hc,q⟩:=h
 obtain⟨t,rfl⟩:=rx
 obtain⟨t',rfl⟩:=ry
 exact rule i j t t' s _ _ hc ⟨.int (g i j),H,I.tok _,⟨_,rfl⟩,q⟩
theorem opI0 {f:Value->Value->Sem Value}{g:Int->Int->Int}
 (rule:∀ (i j:Int) (t u:Tok) (s:Shared) (Q:Value->Shared->Prop) (E:Value->Shared->Prop),Q (.int (g i j) s.toks) { s with toks:=s.toks+1 }->wpAny (model X.prog X.w) X.A (f (.int i t) (.int j u)) Q E s) :
 OpR X f (rI0 λi j=>.int (g i j)):=by
 intro pins s σ H x y v u Q I rx ry h
 obtain⟨i,j,rfl,rfl,q⟩:=h
 obtain⟨t,rfl⟩:=rx
 obtain⟨t',rfl⟩:=ry
 exact rule i j t t' s _ _ ⟨.int (g i j),H,I.tok _,⟨_,rfl⟩,q⟩
theorem zlQ {f:Value->Value->Sem Value}{g:Int->Int->Bool}
 (rule:∀ (i j:Int) (t u:Tok) (s:Shared) (Q:Value->Shared->Prop) (E:Value->Shared->Prop),Q (.bool (g i j)) s->wpAny (model X.prog X.w) X.A (f (.int i t) (.int j u)) Q E s) :
 OpR X f (rI0 λi j=>.bl (g i j)):=by
 intro pins s σ H x y v u Q I rx ry h
 obtain⟨i,j,rfl,rfl,q⟩:=h
 obtain⟨t,rfl⟩:=rx
 obtain⟨t',rfl⟩:=ry
 exact rule i j t t' s _ _ ⟨.bl (g i j),H,I,rfl,q⟩
noncomputable def CPow (i j:Int):Prop:=0<=j/\j<=1000000/\i.natAbs < 2 ^ 64
noncomputable def zlI (i j:Int):Prop:=(-(2 ^ 64) < i/\i < 2 ^ 64)\/(-(2 ^ 64) < j/\j < 2 ^ 64)
theorem zlI.ok {i j:Int}(h:zlI i j):IntMulOk i j:=by
 rcases h with ⟨h1,h2⟩ | ⟨h1,h2⟩
 .exact .of_left (intBits_le_64 h1 h2)
 .exact .of_right (intBits_le_64 h1 h2)
theorem zcJ (k:Nat):(0:Int)<=2 ^ k:=by
 rw[two_pow_cast]
 exact Int.natCast_nonneg _
theorem zjC:OpR X (binaryOp .Add) (rI0 λi j=>.int (i+j)):=opI0 λ_ _ _ _ _ _ _ q=>add_int q
theorem zkM:OpR X (binaryOp .Sub) (rI0 λi j=>.int (i - j)):=opI0 λ_ _ _ _ _ _ _ q=>sub_int q
theorem zkl:OpR X (binaryOp .Mult) (rI zlI λi j=>.int (i*j)):=opI λ_ _ _ _ _ _ _ hc q=>mul_int q hc.ok
theorem zkA:OpR X (binaryOp .Mod) (rI (λ_ j=>0 < j) λi j=>.int (i % j)):=opI λi j _ _ _ _ _ hc q=>by
 have h1:(0:Int) < j:=hc
 exact mod_int' (by omega) (by rw[Int.fmod_eq_emod_of_nonneg i (by omega)];exact q)
theorem zkm:OpR X (binaryOp .LShift) (rI CPow λi j=>.int (i*2 ^ j.toNat)):=opI λ_ _ _ _ _ _ _ hc q=>lshift_int_small hc.1 hc.2.1 hc.2.2 q
theorem zjv:OpR X (binaryOp .RShift) (rI (λ_ j=>0<=j) λi j=>.int (i / 2 ^ j.toNat)):=opI λi j _ _ _ _ _ hc q =>
 rshift_int hc (by rw[Int.fdiv_eq_ediv_of_nonneg i (zcJ _)];exact q)
end
noncomputable def scal:V->V->Bool
 | .non,.non=>true | .non,.int _=>true | .int _,.non=>true | .non,.bl _=>true | .bl _,.non=>true | .non,.str _=>true | .str _,.non=>true
 | .int _,.int _=>true | .bl _,.bl _=>true | .str _,.str _=>true | .byt _,.byt _=>true
 | .int _,.str _=>true | .str _,.int _=>true | .bl _,.str _=>true | .str _,.bl _=>true
 | _,_=>false
noncomputable def rEq:R2:=λx y H Q=>scal x y=true/\Q (.bl (decide (x=y))) H
noncomputable def rNe:R2:=λx y H Q=>scal x y=true/\Q (.bl (!decide (x=y))) H
theorem zeM {i j:Int}:decide (V.int i=V.int j)=(i == j):=by
 rw[Bool.eq_iff_iff]
 simp
theorem zhs {i j:Bool}:decide (V.bl i=V.bl j)=(i == j):=by
 rw[Bool.eq_iff_iff]
 simp
theorem ze5 {i j:Str}:decide (V.str i=V.str j)=(i == j):=by
 rw[Bool.eq_iff_iff]
 simp
theorem zeI {i j:Array UInt8}:decide (V.byt i=V.byt j)=(i.toList == j.toList):=by
 rw[Bool.eq_iff_iff]
 cases i
 cases j
 simp
section
variable {X:Cx}{a b c:Expr}{ta tb tc:TE}{pos:Pos}
theorem zM {pins:List (Addr × Obj)}{σ:St}{H:Hp}{s:Shared}{Q:VK}{k k':Bool}(I:Inv X pins σ H s)(q:Q (.bl k) H)(e:k=k'):EP X pins σ Q (.bool k') s:=by
 subst e
 exact⟨.bl k,H,I,rfl,q⟩
theorem zlR:OpR X (compareOp .Eq) rEq:=by
 intro pins s σ H x y v u Q I rx ry h
 obtain⟨hs,q⟩:=h
 cases x with
 | non =>
  cases rx
  cases y with
  | non=>cases ry;exact PySem.EqNone.eq_none_none (zM I q (by simp))
  | bl j=>cases ry;exact PySem.EqNone.eq_none_bool (zM I q (by simp))
  | int j=>obtain⟨t',rfl⟩:=ry;exact PySem.EqNone.eq_none_int (zM I q (by simp))
  | str j=>obtain⟨t',rfl⟩:=ry;exact PySem.EqNone.eq_none_str (zM I q (by simp))
  | _=>exact absurd (show false=true from hs) Bool.false_ne_true
 | bl i =>
  cases rx
  cases y with
  | non=>cases ry;exact PySem.EqNone.eq_bool_none (zM I q (by simp))
  | bl j=>cases ry;exact eq_bool (zM I q zhs)
  | str j=>obtain⟨t',rfl⟩:=ry;exact PySem.EqMixed.eq_bool_str (zM I q (by simp))
  | _=>exact absurd (show false=true from hs) Bool.false_ne_true
 | int i =>
  obtain⟨t,rfl⟩:=rx
  cases y with
  | non=>cases ry;exact PySem.EqNone.eq_int_none (zM I q (by simp))
  | int j=>obtain⟨t',rfl⟩:=ry;exact eq_int (zM I q zeM)
  | str j=>obtain⟨t',rfl⟩:=ry;exact PySem.EqMixed.eq_int_str (zM I q (by simp))
  | _=>exact absurd (show false=true from hs) Bool.false_ne_true
 | str i =>
  obtain⟨t,rfl⟩:=rx
  cases y with
  | non=>cases ry;exact PySem.EqNone.eq_str_none (zM I q (by simp))
  | bl j=>cases ry;exact PySem.EqMixed.eq_str_bool (zM I q (by simp))
  | int j=>obtain⟨t',rfl⟩:=ry;exact PySem.EqMixed.eq_str_int (zM I q (by simp))
  | str j=>obtain⟨t',rfl⟩:=ry;exact eq_str (zM I q ze5)
  | _=>exact absurd (show false=true from hs) Bool.false_ne_true
 | byt i =>
  obtain⟨t,rfl⟩:=rx
  cases y with
  | byt j=>obtain⟨t',rfl⟩:=ry;exact PySem.W.eq_bytes (zM I q zeI)
  | _=>exact absurd (show false=true from hs) Bool.false_ne_true
 | _=>cases y <;> exact absurd (show false=true from hs) Bool.false_ne_true
theorem zaW:OpR X (compareOp .NotEq) rNe:=by
 intro pins s σ H x y v u Q I rx ry h
 obtain⟨hs,q⟩:=h
 cases x with
 | non =>
  cases rx
  cases y with
  | non=>cases ry;exact PySem.EqNone.ne_none_none (zM I q (by simp))
  | bl j=>cases ry;exact PySem.EqNone.ne_none_bool (zM I q (by simp))
  | int j=>obtain⟨t',rfl⟩:=ry;exact PySem.EqNone.ne_none_int (zM I q (by simp))
  | str j=>obtain⟨t',rfl⟩:=ry;exact PySem.EqNone.ne_none_str (zM I q (by simp))
  | _=>exact absurd (show false=true from hs) Bool.false_ne_true
 | bl i =>
  cases rx
  cases y with
  | non=>cases ry;exact PySem.EqNone.ne_bool_none (zM I q (by simp))
  | bl j=>cases ry;exact ne_bool (zM I q (congrArg not zhs))
  | str j=>obtain⟨t',rfl⟩:=ry;exact PySem.EqMixed.ne_bool_str (zM I q (by simp))
  | _=>exact absurd (show false=true from hs) Bool.false_ne_true
 | int i =>
  obtain⟨t,rfl⟩:=rx
  cases y with
  | non=>cases ry;exact PySem.EqNone.ne_int_none (zM I q (by simp))
  | int j=>obtain⟨t',rfl⟩:=ry;exact ne_int (zM I q (congrArg not zeM))
  | str j=>obtain⟨t',rfl⟩:=ry;exact PySem.EqMixed.ne_int_str (zM I q (by simp))
  | _=>exact absurd (show false=true from hs) Bool.false_ne_true
 | str i =>
  obtain⟨t,rfl⟩:=rx
  cases y with
  | non=>cases ry;exact PySem.EqNone.ne_str_none (zM I q (by simp))
  | bl j=>cases ry;exact PySem.EqMixed.ne_str_bool (zM I q (by simp))
  | int j=>obtain⟨t',rfl⟩:=ry;exact PySem.EqMixed.ne_str_int (zM I q (by simp))
  | str j=>obtain⟨t',rfl⟩:=ry;exact ne_str (zM I q (congrArg not ze5))
  | _=>exact absurd (show false=true from hs) Bool.false_ne_true
 | byt i =>
  obtain⟨t,rfl⟩:=rx
  cases y with
  | byt j=>obtain⟨t',rfl⟩:=ry;exact PySem.W.ne_bytes (zM I q (congrArg not zeI))
  | _=>exact absurd (show false=true from hs) Bool.false_ne_true
 | _=>cases y <;> exact absurd (show false=true from hs) Bool.false_ne_true
theorem zbf:OpR X (compareOp .Lt) (rI0 λi j=>.bl (decide (i < j))):=zlQ λ_ _ _ _ _ _ _ q=>lt_int q
theorem zeR:OpR X (compareOp .LtE) (rI0 λi j=>.bl (decide (i<=j))):=zlQ λ_ _ _ _ _ _ _ q=>le_int q
theorem zel:OpR X (compareOp .Gt) (rI0 λi j=>.bl (decide (j < i))):=zlQ λ_ _ _ _ _ _ _ q=>gt_int q
theorem zkq:OpR X (compareOp .Is) (λx y H Q=>y=.non/\Q (.bl (decide (x=.non))) H):=by
 intro pins s σ H x y v u Q I rx ry h
 obtain⟨rfl,q⟩:=h
 cases ry
 refine is_none_gen (zM I q ?_)
 cases x <;> first
  | (cases rx;rfl)
  | (obtain⟨t,rfl⟩:=rx;rfl)
theorem zjc:OpR X (compareOp .IsNot) (λx y H Q=>y=.non/\Q (.bl (!decide (x=.non))) H):=by
 intro pins s σ H x y v u Q I rx ry h
 obtain⟨rfl,q⟩:=h
 cases ry
 refine isnot_none_gen (zM I q ?_)
 cases x <;> first
  | (cases rx;rfl)
  | (obtain⟨t,rfl⟩:=rx;rfl)
theorem OpR.or {f:Value->Value->Sem Value}{r r':R2}(h:OpR X f r)(h':OpR X f r'):OpR X f (λx y H Q=>r x y H Q\/r' x y H Q):=by
 intro pins s σ H x y v u Q I rx ry q
 rcases q with q | q
 .exact h pins s σ H x y v u Q I rx ry q
 .exact h' pins s σ H x y v u Q I rx ry q
theorem zE (b:Expr){op:CmpOp}(h:op≠.In:=by decide)(h2:op≠.NotIn:=by decide):behindInMarks op b=false:=by
 have e1:(op == CmpOp.In)=false:=by cases op <;> first | rfl | exact absurd rfl h
 have e2:(op == CmpOp.NotIn)=false:=by cases op <;> first | rfl | exact absurd rfl h2
 cases b <;> simp[behindInMarks,e1,e2]
theorem zhO {op:CmpOp}{r:R2}(ho:OpR X (compareOp op) r)(ha:PE X a ta)(hb:PE X b tb)(hm:behindInMarks op b=false):PE X (.Compare a [op] [b] pos) (tOp r ta tb):=by
 intro pins s σ H Q I h
 exact wpAny_Compare1 (zmb ha hb I h λv u s2 x y H2 I2 rx ry q=>ho pins s2 σ H2 x y v u Q I2 rx ry q) hm
noncomputable def zkR (t:TE):TT:=fun σ H Q=>t σ H λx H'=>∃ k,x=.bl k/\Q k H'
theorem ziE {op:CmpOp}{r:R2}(ho:OpR X (compareOp op) r)(ha:PE X a ta)(hb:PE X b tb)(hm:behindInMarks op b=false):PT X (.Compare a [op] [b] pos) (zkR (tOp r ta tb)):=by
 intro pins s σ H Q I h
 refine wpAny_isTrue_Compare1 (thn (ha pins s σ H _ I h) λv s1 ⟨x,H1,I1,r1,q1⟩=>thn (hb pins s1 σ H1 _ I1 q1) λu s2 ⟨y,H2,I2,r2,q2⟩ =>
  thn (ho pins s2 σ H2 x y v u _ I2 r1 r2 q2) λc s3 ⟨z,H3,I3,r3,k,e,q3⟩=>?_) hm
 subst e
 cases r3
 exact wpAny_truthy_bool ⟨H3,I3,q3⟩
noncomputable def zfd (r r':R2)(ta tb tc:TE):TE:=fun σ H Q=>ta σ H λx H1=>tb σ H1 λy H2=>r x y H2 λz H3=>∃ k,z=.bl k /\
 (if k=true then tc σ H3 λw' H4=>r' y w' H4 Q else Q (.bl false) H3)
theorem zfG {op op':CmpOp}{r r':R2}(ho:OpR X (compareOp op) r)(ho':OpR X (compareOp op') r')(ha:PE X a ta)(hb:PE X b tb)(hc:PE X c tc)
 (hm:lastMarks [op,op'] [b,c]=false:=by with_unfolding_all rfl):PE X (.Compare a [op,op'] [b,c] pos) (zfd r r' ta tb tc):=by
 intro pins s σ H Q I h
 refine Compare_chain (thn (ha pins s σ H _ I h) λv s1 ⟨x,H1,I1,r1,q1⟩=>chain_link (thn (hb pins s1 σ H1 _ I1 q1) λu s2 ⟨y,H2,I2,r2,q2⟩ =>
  thn (ho pins s2 σ H2 x y v u _ I2 r1 r2 q2) λd s3 ⟨z,H3,I3,r3,k,e,q3⟩=>?_)) hm
 subst e
 cases r3
 refine wpAny_truthy_bool ?_
 cases k with
 | false=>exact ite_ff ⟨.bl false,H3,I3,rfl,q3⟩
 | true=>exact ite_tt (chain_last (thn (hc pins s3 σ H3 _ I3 q3) λw' s4 ⟨z',H4,I4,r4,q4⟩=>ho' pins s4 σ H4 y z' u w' Q I4 r2 r4 q4))
theorem zam:(sizeLine:Nat) < 2 ^ 63:=by rw[sizeLine_eq];decide
theorem zcO:OpR X (binaryOp .Add) (λx y H Q=>∃ i j,x=.str i/\y=.str j/\i.length+j.length<=sizeLine/\Q (.str (i++j)) H):=by
 intro pins s σ H x y v u Q I rx ry h
 obtain⟨i,j,rfl,rfl,hz,q⟩:=h
 obtain⟨t,rfl⟩:=rx
 obtain⟨t',rfl⟩:=ry
 exact add_str (λt' tk=>⟨.str (i++j),H,I.tok _,⟨_,rfl⟩,q⟩) hz
theorem XW {x:V}{us:List Value}(r:yf [x] us):∃ u,us=[u]/\yF x u:=by
 cases r with
 | cons r1 r2=>cases r2;exact⟨_,rfl,r1⟩
theorem zcP {x y:V}{us:List Value}(r:yf [x,y] us):∃ u w',us=[u,w']/\yF x u/\yF y w':=by
 cases r with
 | cons r1 r2 =>
  cases r2 with
  | cons r3 r4=>cases r4;exact⟨_,_,rfl,r1,r3⟩
theorem zeu (hc:X.calm=true):vL X (.builtin "max") (λxs H Q=>∃ i j,xs=[.int i,.int j]/\Q (.int (if j > i then j else i)) H):=by
 intro pins s σ H xs us Q I r h
 obtain⟨i,j,rfl,q⟩:=h
 obtain⟨u,w',rfl,⟨t,rfl⟩,⟨t',rfl⟩⟩:=zcP r
 refine max_two_ints (I.ok.hd hc) λh' tk k=>⟨_,H,I.kept k,?_,q⟩
 by_cases hj:j > i
 .rw[if_pos hj,if_pos hj];exact⟨_,rfl⟩
 .rw[if_neg hj,if_neg hj];exact⟨_,rfl⟩
theorem zd7 (hc:X.calm=true):vL X (.builtin "min") (λxs H Q=>∃ i j,xs=[.int i,.int j]/\Q (.int (if j < i then j else i)) H):=by
 intro pins s σ H xs us Q I r h
 obtain⟨i,j,rfl,q⟩:=h
 obtain⟨u,w',rfl,⟨t,rfl⟩,⟨t',rfl⟩⟩:=zcP r
 refine min_two_ints (I.ok.hd hc) λh' tk k=>⟨_,H,I.kept k,?_,q⟩
 by_cases hj:j < i
 .rw[if_pos hj,if_pos hj];exact⟨_,rfl⟩
 .rw[if_neg hj,if_neg hj];exact⟨_,rfl⟩
end
set_option genInjectivity false in
set_option genSizeOf false in
set_option genCtorIdx false in
structure zlJ (h:Heap) (x dx C:Addr) (mA:Str->Option Value):Prop where
 obj:h.get? x=some (PySem.W.instObj C dx)
 ns:h.Ns1 dx mA
 ne:dx≠x
theorem zfj {h:Heap}{dx:Addr}{mA:Str->Option Value}(n:h.Ns1 dx mA):∃ od,h.get? dx=some od/\∀ name,PySem.W.lookIn name od=some (mA name):=by
 obtain⟨o,es,ep,ho,hd,hk,_,hm⟩:=n
 refine⟨o,ho,λname=>?_⟩
 have e:=hm name
 unfold nsFind findBy at e
 rw[<-Array.find?_toList]at e
 unfold PySem.W.lookIn
 rw[hd]
 dsimp only
 split
 .rename_i y q
  rw[q]at e
  exact congrArg some e
 .rename_i q
  rw[q]at e
  have a:es.toList.any (·.refKey)=false:=by
   rw[List.any_eq_false]
   intro y hy
   obtain⟨z,t,hkey⟩:=hk y (Array.mem_toList_iff.mp hy)
   simp[DictEntry.refKey,hkey]
  have a':¬ es.toList.any (·.refKey)=true:=by rw[a];exact Bool.false_ne_true
  rw[if_neg a']
  exact congrArg some e
theorem zlJ.look {h:Heap}{x dx C:Addr}{mA:Str->Option Value}(I:zlJ h x dx C mA):∃ od,PySem.W.InstAt h x (PySem.W.instObj C dx) C (some od)/\∀ name,PySem.W.lookIn name od=some (mA name) :=
 let ⟨od,ho,hl⟩:=zfj I.ns
 ⟨od,⟨I.obj,rfl,rfl,ho⟩,hl⟩
theorem zeH.some_of {v:V}{o:Option Value}(r:zeH (some v) o):∃ u,o=some u/\yF v u:=by
 cases o with
 | none=>exact(show False from r).elim
 | some u=>exact⟨u,rfl,r⟩
section
variable {P:Program}{w:World}{H H':Hp}{h h':Heap}{a C dx:Addr}{fs fs':List (Str × V)}
theorem zjb (hok:HOk P w H h)(e:H a=some (.ins C dx fs)):∃ mA,zlJ h a dx C mA/\(∀ f,zeH (fs.lookup f) (mA f))/\PySem.Within mA (fs.map (·.1))/\fs.length<=1000/\H dx=some (.own a):=by
 obtain⟨d,z,ne,ob,mA,n,r,q⟩:=(show yt P w H h a (.ins C dx fs)from hok a _ e)
 exact⟨mA,⟨ob,n,ne⟩,r,q,z,d⟩
end
set_option genInjectivity false in
set_option genSizeOf false in
set_option genCtorIdx false in
structure Cls (K:PySem.W.Frag) (C:Addr):Prop where
 pg:PySem.W.plainGet K C Str.empty=true
 hd:PySem.W.hasDictIn K C=true
 po:PySem.W.plainOver K C=true
 sa:PySem.W.findIn K (.ref C) "__setattr__"=some (some (.builtin "object.__setattr__"))
theorem Cls.get {K:PySem.W.Frag}{C:Addr}(c:Cls K C)(f:Str):PySem.W.plainGet K C f=true:=c.pg
section
variable {X:Cx}{pins:List (Addr × Obj)}{σ:St}{H:Hp}{s:Shared}{A:Around}{E:Value->Shared->Prop}{Q:Value->Shared->Prop}{c:Value}{b:Bool}
inductive zbV (K:PySem.W.Frag) (H:Hp):V->Value->Prop where
 | non:zbV K H .non (.type "NoneType")
 | bl (x:Bool):zbV K H (.bl x) (.type "bool")
 | int (i:Int):zbV K H (.int i) (.type "int")
 | str (x:Str):zbV K H (.str x) (.type "str")
 | flt (x:UInt64):zbV K H (.flt x) (.type "float")
 | lst {a:Addr} {xs:List V} (e:H a=some (.lst xs)):zbV K H (.ref a) (.type "list")
 | frz {a:Addr} {o:Obj} {xs:List V} (e:H a=some (.frz o (.lst xs))):zbV K H (.ref a) (.type "list")
 | tup {a:Addr} {xs:List V} (e:H a=some (.tup xs)):zbV K H (.ref a) (.type "tuple")
 | dK {a:Addr} {kvs:List (Key × V)} (e:H a=some (.dK kvs)):zbV K H (.ref a) (.type "dict")
 | dT {a:Addr} {kvs:List (List Key × V)} (e:H a=some (.dT kvs)):zbV K H (.ref a) (.type "dict")
 | ins {a C dx:Addr} {fs:List (Str × V)} (e:H a=some (.ins C dx fs)) (cl:Cls K C) (ha:PySem.W.findIn K (.ref C) "__class__"=some (some (.builtin "object.__class__")))
  (hn:PySem.W.specialIn K (.builtin "object.__class__") "__get__"=some (some (.builtin "getset_descriptor.__get__"))) (htk:PySem.W.takesIn K (.builtin "object.__class__")=some true)
  (hm:PySem.W.mroIn K C (.type "object")=some true):zbV K H (.ref a) (.ref C)
theorem zd4 {x:V}{u t:Value}(I:Inv X pins σ H s)(rx:yF x u)(ty:zbV X.K H x t)(e:PySem.W.kitOne X.K t c=some b)(h:∀ tk,Q (.bool b) { s with toks:=tk }) :
 wpAny (model X.prog X.w) A (call (.builtin "isinstance") [u,c]) Q E s:=by
 cases ty with
 | non=>cases (show u=Value.none from rx);exact PySem.W.kia_one PySem.W.kitx_none I.kIn True.intro e (λz=>nomatch z) h
 | bl y=>cases (show u=Value.bool y from rx);exact PySem.W.kia_one PySem.W.kitx_bool I.kIn True.intro e (λz=>nomatch z) h
 | int i=>obtain⟨t,q⟩:=(show ∃ t,u=Value.int i t from rx);cases q;exact PySem.W.kia_one PySem.W.kitx_int I.kIn True.intro e (λz=>nomatch z) h
 | str y=>obtain⟨t,q⟩:=(show ∃ t,u=Value.str y t from rx);cases q;exact PySem.W.kia_one PySem.W.kitx_str I.kIn True.intro e (λz=>nomatch z) h
 | flt y=>obtain⟨t,q⟩:=(show ∃ t,u=Value.float y t from rx);cases q;exact PySem.W.kia_one PySem.W.kitx_float I.kIn True.intro e (λz=>nomatch z) h
 | @lst a xs ea =>
  cases (show u=Value.ref a from rx)
  obtain⟨_,_,n,_,h1⟩:=(show yt X.prog X.w H s.heap a (.lst xs)from I.hok a _ ea)
  exact PySem.W.kia_one PySem.W.kitx_list I.kIn ⟨_,h1,rfl⟩ e (λz=>nomatch z) h
 | @frz a ob xs ea =>
  cases (show u=Value.ref a from rx)
  obtain⟨_,_,_,n,_,h1⟩:=(show yt X.prog X.w H s.heap a (.frz ob (.lst xs))from I.hok a _ ea)
  exact PySem.W.kia_one PySem.W.kitx_list I.kIn ⟨_,h1,rfl⟩ e (λz=>nomatch z) h
 | @tup a xs ea =>
  cases (show u=Value.ref a from rx)
  obtain⟨_,_,_,p⟩:=(show yt X.prog X.w H s.heap a (.tup xs)from I.hok a _ ea)
  obtain⟨o,h1,h2,_⟩:=p
  exact PySem.W.kia_one PySem.W.kitx_tuple I.kIn ⟨o,h1,h2⟩ e (λz=>nomatch z) h
 | @dK a kvs ea =>
  cases (show u=Value.ref a from rx)
  obtain⟨_,_,vs,_,p⟩:=(show yt X.prog X.w H s.heap a (.dK kvs)from I.hok a _ ea)
  obtain⟨o,es,ep,h1,h2,_⟩:=p
  exact PySem.W.kia_one PySem.W.kitx_dict I.kIn ⟨o,h1,h2.1⟩ e (λz=>nomatch z) h
 | @dT a kvs ea =>
  cases (show u=Value.ref a from rx)
  obtain⟨_,_,xs,_,o,es,ep,h1,h2,_⟩:=(show yt X.prog X.w H s.heap a (.dT kvs)from I.hok a _ ea)
  exact PySem.W.kia_one PySem.W.kitx_dict I.kIn ⟨o,h1,h2.1⟩ e (λz=>nomatch z) h
 | @ins a C dx fs ea cl ha hn htk hm =>
  cases (show u=Value.ref a from rx)
  obtain⟨mA,O,_⟩:=zjb I.hok ea
  obtain⟨od,J,_⟩:=O.look
  exact PySem.W.kia_one (PySem.W.kitx_own (cl.get _) cl.hd ha hn htk hm) I.kIn J e (λz=>nomatch z) h
end
set_option genInjectivity false in
set_option genSizeOf false in
set_option genCtorIdx false in
structure YA (k:Nat) (A:Around):Prop where
 hd:A.handled=none
 dp:A.depth+3*k+5 < recursionLimit
 un:A.units+16*k+200 < cLine
theorem YA.mono {j k:Nat}{A:Around}(r:YA k A)(h:j<=k):YA j A:=⟨r.hd,by have:=r.dp;omega,by have:=r.un;omega⟩
theorem YA.deeper {k:Nat}{A:Around}(r:YA (k+1) A)(env:Env):YA k (A.deeper env) :=
 ⟨r.hd,by have:=r.dp;show A.depth+1+3*k+5 < _;omega,by have:=r.un;show A.units+3+16*k+200 < _;omega⟩
theorem YA.depth {k:Nat}{A:Around}(r:YA k A):A.depth < recursionLimit:=by have:=r.dp;omega
theorem YA.units {k:Nat}{A:Around}(r:YA k A):A.units+64 < cLine:=by have:=r.un;omega
theorem YA.units0 {k:Nat}{A:Around}(r:YA k A):A.units < cLine:=by have:=r.un;omega
noncomputable def tNil:TA:=λ_ H Q=>Q [] H
noncomputable def zl2 (ta:TE)(tr:TA):TA:=fun σ H Q=>ta σ H λx H1=>tr σ H1 λxs H2=>Q (x::xs) H2
section
variable {X:Cx}{e:Expr}{es:List Expr}{te:TE}{t:TA}{pos:Pos}
theorem zeZ:PA X [] tNil:=λ_ _ _ _ H Q I h=>Calls.spliced_nil ⟨[],H,I,.nil,h⟩
theorem W8 (ha:PE X e te)(hr:PA X es t)(hs:starEach (e::es) X.env=(false,eval e X.env)::starEach es X.env:=by rfl):PA X (e::es) (zl2 te t):=by
 intro pos pins s σ H Q I h
 rw[hs]
 show wpAny _ _ (spliced ((false,eval e X.env)::backTo pos (starEach es X.env))) _ _ s
 refine Calls.spliced_cons (thn (ha pins s σ H _ I h) λu s1 hh9=>?_)
 obtain⟨x,H1,I1,r1,q1⟩:=hh9
 exact thn (hr pos pins s1 σ H1 _ I1 q1) λus s2 ⟨xs,H2,I2,r2,q2⟩=>⟨x::xs,H2,I2,.cons r1 r2,q2⟩
noncomputable def tTup (t:TA):TE:=fun σ H Q=>t σ H λxs H1=>xs.length<=sizeLine/\∀ p,H1 p=none->Q (.ref p) (upd H1 p (.tup xs))
noncomputable def tLst (t:TA):TE:=fun σ H Q=>t σ H λxs H1=>xs.length<=sizeLine/\∀ p,H1 p=none->Q (.ref p) (upd H1 p (.lst xs))
theorem zkn {x1}(h:PA X es t):PE X (.Tuple es x1 pos) (tTup t):=by
 intro pins s σ H Q I hq
 refine wpAny_Tuple_spliced (thn (h pos pins s σ H _ I hq) λus s1 ⟨xs,H1,I1,r,z,q⟩=>⟨by rw[<-r.length];exact z,?_⟩)
 have hf:H1 s1.heap.objs.size=none:=I1.hok.fresh (Nat.le_refl _)
 refine⟨.ref s1.heap.objs.size,upd H1 s1.heap.objs.size (.tup xs),I1.laid (t':=s1.toks) (λb u e=>Heap.get?_push_of_some _ e) (Nat.le_refl _) ?_,rfl,q _ hf⟩
 exact⟨z,us,r,⟨_,Heap.get?_push_size _ rfl,rfl,_,rfl⟩⟩
theorem zky (h:PA X es t):PE X (.List es pos) (tLst t):=by
 intro pins s σ H Q I hq
 refine wpAny_List_spliced (thn (h pos pins s σ H _ I hq) λus s1 ⟨xs,H1,I1,r,z,q⟩=>⟨by rw[<-r.length];exact z,?_⟩)
 have hf:H1 s1.heap.objs.size=none:=I1.hok.fresh (Nat.le_refl _)
 refine⟨.ref s1.heap.objs.size,upd H1 s1.heap.objs.size (.lst xs),I1.laid (t':=s1.toks) (λb u e=>Heap.get?_push_of_some _ e) (Nat.le_refl _) ?_,rfl,q _ hf⟩
 exact⟨z,us,0,r,Heap.get?_push_size _ rfl⟩
end
noncomputable abbrev Sp:=List V->Hp->VK->XK->Prop
noncomputable abbrev CXT:=List Env->Hp->Shared->XK->Value->Shared->Prop
structure zk9 (P:Program) (w:World) (K:PySem.W.Frag) (mg:Str->Option Value) (base:Heap) (A:Around) (outer:List Env) (s:Shared) (H:Hp):Prop where
 frames:A.frames=some outer
 mod:Mod K mg base
 bs:∀ b o,base.get? b=some o->s.heap.get? b=some o/\H b=none
 bsz:base.objs.size<=s.heap.objs.size
 funs:s.heap.FunFrames base outer
 frf:∀ b∈frs outer,H b=none
 hok:HOk P w H s.heap
 bare:AllBare s.gens
noncomputable def CE (outer:List Env)(P:Program)(w:World)(H:Hp)(s:Shared)(Q:VK)(u:Value)(s':Shared):Prop :=
 ∃ v H',s'.os=s.os/\AllBare s'.gens/\Un (frs outer) [] H H' s.heap s'.heap/\HOk P w H' s'.heap/\yF v u/\Q v H'
noncomputable def CR (CX:CXT)(outer:List Env)(P:Program)(w:World)(H:Hp)(s:Shared)(Q:VK)(E:XK)(r:Result)(s':Shared):Prop :=
 match r with
 | .ok (.ret u)=>CE outer P w H s Q u s'
 | .ok _=>False
 | .error e=>CX outer H s E e s'
set_option genInjectivity false in
set_option genSizeOf false in
set_option genCtorIdx false in
structure xR (P:Program) (w:World) (K:PySem.W.Frag) (mg:Str->Option Value) (base:Heap) (CX:CXT) (k:Nat) (f:Addr) (fd:FuncData) (ps:List Str) (sp:Sp):Prop where
 len:∀ vs H Q E,sp vs H Q E->vs.length=ps.length
 run:∀ (A:Around) (outer:List Env) (s:Shared) (H:Hp) (args:Args) (us:List Value) (vs:List V) (Q:VK) (E:XK),YA k A->zk9 P w K mg base A outer s H->BindsTo s fd args (ps.zip us)->yf vs us->sp vs H Q E ->
  codeAny (model P w) A (.call (.ref f) args) (CR CX outer P w H s Q E) s
theorem xR.mono {P:Program}{w:World}{K:PySem.W.Frag}{mg:Str->Option Value}{base:Heap}{CX:CXT}{j k:Nat}{f:Addr}{fd:FuncData}{ps:List Str}{sp:Sp}(F:xR P w K mg base CX j f fd ps sp)(h:j<=k) :
 xR P w K mg base CX k f fd ps sp:=⟨F.len,λA outer s H args us vs Q E hr=>F.run A outer s H args us vs Q E (hr.mono h)⟩
theorem xR.imp {P:Program}{w:World}{K:PySem.W.Frag}{mg:Str->Option Value}{base:Heap}{CX:CXT}{k:Nat}{f:Addr}{fd:FuncData}{ps:List Str}{sp sp':Sp}(F:xR P w K mg base CX k f fd ps sp)
 (h:∀ vs H Q E,sp' vs H Q E->sp vs H Q E):xR P w K mg base CX k f fd ps sp' :=
 ⟨λvs H Q E q=>F.len vs H Q E (h _ _ _ _ q),λA outer s H args us vs Q E hr he hb hv hs=>F.run A outer s H args us vs Q E hr he hb hv (h _ _ _ _ hs)⟩
section
variable {X:Cx}{pins:List (Addr × Obj)}{σ:St}{H:Hp}{s s':Shared}
theorem Inv.env0 (I:Inv X pins σ H s):zk9 X.prog X.w X.K X.mg X.base X.A X.stack s H :=
 ⟨I.ok.frames,I.ok.mod,I.bs,Nat.le_trans I.ok.bsz I.sz,I.stack,I.stkFree,I.hok,I.bare⟩
theorem Inv.after {Q:VK}{u:Value}(I:Inv X pins σ H s)(h:CE X.stack X.prog X.w H s Q u s'):EP X pins σ Q u s':=by
 obtain⟨v,H',os,bare,un,hok,r,q⟩:=h
 obtain⟨hh,g,d,t,os'⟩:=s'
 obtain rfl:os'=s.os:=os
 exact⟨v,H',I.call (h':=hh) (g':=g) (d':=d) (t':=t) (ch:=[]) un hok bare (λb z=>absurd z (by simp)),r,q⟩
end
noncomputable def zlw (sp:Sp)(dvs:List V)(E:XK)(t:TA):TE:=fun σ H Q=>t σ H λvs H1=>sp (vs++dvs) H1 Q E
noncomputable def zau (K:PySem.W.Frag)(fd:FuncData)(ps:List Str)(ds:List Value):Prop :=
 ∀ (s:Shared) (us:List Value),K.In s.heap->(us++ds).length=ps.length->BindsTo s fd ⟨us,[]⟩ (ps.zip (us++ds))
theorem zau.all {K:PySem.W.Frag}{fd:FuncData}{ps:List Str}(h:∀ us:List Value,us.length=ps.length->bindArgs fd ⟨us,[]⟩=pure (ps.zip us)):zau K fd ps []:=λs us _ hl=>by
 rw[List.append_nil]at hl ⊢
 exact .of_eq (h us hl)
noncomputable def zet (CX:CXT)(X:Cx)(E:XK):Prop:=∀ (pins:List (Addr × Obj)) (σ:St) (H:Hp) (s:Shared) (e:Value) (s':Shared),Inv X pins σ H s->CX X.stack H s E e s'->X.xe e s'
section
variable {X:Cx}{CX:CXT}{k:Nat}{f C:Addr}{fd:FuncData}{ps:List Str}{sp:Sp}{dvs:List V}{ds:List Value}{E:XK}{x m:Str}{p pos apos:Pos}{e o:Expr}{es:List Expr}{ta:TE}{t:TA}
theorem zkG {pins:List (Addr × Obj)}{σ:St}{H:Hp}{s:Shared}{Q:VK}{us:List Value}{vs:List V}(F:xR X.prog X.w X.K X.mg X.base CX k f fd ps sp)(hr:YA k X.A)(hb:zau X.K fd ps ds)(hd:yf dvs ds)(hx:zet CX X E)
 (I:Inv X pins σ H s) (r:yf vs us) (h:sp (vs++dvs) H Q E):wpAny (model X.prog X.w) X.A (call (.ref f) us) (EP X pins σ Q) X.xe s:=by
 have r2:yf (vs++dvs) (us++ds):=r.append hd
 have hl:(us++ds).length=ps.length:=by rw[<-r2.length];exact F.len _ _ _ _ h
 refine wpAny_call (codeAny_mono (F.run X.A X.stack s H ⟨us,[]⟩ (us++ds) (vs++dvs) Q E hr I.env0 (hb s us I.kIn hl) r2 h) λr s' hq=>?_)
 cases r with
 | error e=>exact hx pins σ H s e s' I hq
 | ok fl =>
  cases fl with
  | ret u=>exact I.after hq
  | next=>exact False.elim hq
  | brk=>exact False.elim hq
  | cont=>exact False.elim hq
theorem zig (F:xR X.prog X.w X.K X.mg X.base CX k f fd ps sp)(hr:YA k X.A)(hg:Gl X x)(hm:X.mg x=some (.ref f))(hk:PySem.W.keepIn X.K (.ref f)=true)(hb:zau X.K fd ps ds)(hd:yf dvs ds)(hx:zet CX X E)
 (ha:PA X (e::es) t) (hdb:(x == ("__debug__":Str))=false:=by decide) (he:starEach (e::es) X.env=(false,eval e X.env)::starEach es X.env:=by rfl) (hpl:(backTo pos (starEach es X.env)).any (·.1)=false:=by rfl) :
 PE X (.Call (.Name x p) (e::es) [] pos) (zlw sp dvs E t):=by
 intro pins s σ H Q I h
 refine wpAny_Call_Name_kw (zfg I hg hm ?_ hdb)
 refine PySem.W.callWith_K (h₀:=X.base) I.ok.mod.kin hk (thn (ha pos pins s σ H _ I h) λus s1 ⟨vs,H1,I1,r,q⟩=>⟨I1.kIn,?_⟩) he hpl
 exact zkG F hr hb hd hx I1 r q
end
structure zA (N P:List Str) (sc:Scope):Prop where
 kind:sc.kind=.function
 co:sc.isCoroutine=false
 gen:sc.isGenerator=false
 nd:N.Nodup
 pre:N.take P.length=P
 par:∀ x∈P,sc.names.lookup x=some .local\/sc.names.lookup x=some .cell
 nofree:∀ y∈sc.names,y.2≠.free
theorem Vx {kindOf:Str->Option NameKind}{x:Str}:∀ {binds:List (Str × Value)} {m:Str->Option Value},(∀ v,(x,v)∉binds)->bindL kindOf binds m x=m x
 | [],_,_=>rfl
 | (n,v)::r,m,h=>by
  unfold bindL
  rw[Vx λw hw=>h w (List.mem_cons_of_mem _ hw)]
  split
  .have:x≠n:=by rintro rfl;exact h v List.mem_cons_self
   simp[this]
  .rfl
theorem Vv {kindOf:Str->Option NameKind}{x:Str}:∀ {binds:List (Str × Value)} {m:Str->Option Value},(∀ v,(x,v)∉binds)->bindC kindOf binds m x=m x
 | [],_,_=>rfl
 | (n,v)::r,m,h=>by
  unfold bindC
  rw[Vv λw hw=>h w (List.mem_cons_of_mem _ hw)]
  split
  .rfl
  .have:x≠n:=by rintro rfl;exact h v List.mem_cons_self
   simp[this]
theorem V3 {kindOf:Str->Option NameKind}{x:Str}{v:Value}:∀ {P:List Str} {vs:List Value} {i:Nat} {m:Str->Option Value},P.Nodup->P[i]?=some x->vs[i]?=some v->kindOf x=some .local ->
 bindL kindOf (P.zip vs) m x=some v
 | [],_,_,_,_,h,_,_=>by simp at h
 | _::_,[],_,_,_,_,h,_=>by simp at h
 | p::P,w::vs,0,m,nd,h1,h2,hk=>by
  simp at h1 h2;subst h1;subst h2
  show bindL kindOf ((p,w)::P.zip vs) m p=_
  unfold bindL
  rw[Vx λv hv=>(List.nodup_cons.mp nd).1 (List.of_mem_zip hv).1,if_pos hk]
  simp
 | p::P,w::vs,i+1,m,nd,h1,h2,hk=>by
  show bindL kindOf ((p,w)::P.zip vs) m x=_
  unfold bindL
  exact V3 (i:=i) (List.nodup_cons.mp nd).2 (by simpa using h1) (by simpa using h2) hk
theorem zak {kindOf:Str->Option NameKind}{x:Str}{v:Value}:∀ {P:List Str} {vs:List Value} {i:Nat} {m:Str->Option Value},P.Nodup->P[i]?=some x->vs[i]?=some v->kindOf x≠some .local ->
 bindC kindOf (P.zip vs) m x=some v
 | [],_,_,_,_,h,_,_=>by simp at h
 | _::_,[],_,_,_,_,h,_=>by simp at h
 | p::P,w::vs,0,m,nd,h1,h2,hk=>by
  simp at h1 h2;subst h1;subst h2
  show bindC kindOf ((p,w)::P.zip vs) m p=_
  unfold bindC
  rw[Vv λv hv=>(List.nodup_cons.mp nd).1 (List.of_mem_zip hv).1,if_neg hk]
  simp
 | p::P,w::vs,i+1,m,nd,h1,h2,hk=>by
  show bindC kindOf ((p,w)::P.zip vs) m x=_
  unfold bindC
  exact zak (i:=i) (List.nodup_cons.mp nd).2 (by simpa using h1) (by simpa using h2) hk
noncomputable def start (N:List Str)(vs:List V):St:=vs.map some++List.replicate (N.length - vs.length) none
noncomputable def zh4 (CX:CXT)(P:Program)(w:World)(K:PySem.W.Frag)(mg:Str->Option Value)(base:Heap)(N:List Str)(qual:Str)(scope:Scope)(f:Addr)(cd:Value)(A:Around)(outer:List Env)(s:Shared)(H:Hp)(E:XK):Cx where
 prog:=P
 w:=w
 K:=K
 mg:=mg
 base:=base
 A:=A.deeper (envOfC qual scope s.heap.objs.size f cd)
 N:=N
 s₀:=s
 H₀:=H
 env:=envOfC qual scope s.heap.objs.size f cd
 outer:=outer
 stack:=envOfC qual scope s.heap.objs.size f cd::outer
 ex:=[]
 calm:=true
 fn:=λ_=>true
 pn:=[]
 xe:=λe s'=>wpAny (model P w) (A.deeper (envOfC qual scope s.heap.objs.size f cd)) (leaving (envOfC qual scope s.heap.objs.size f cd) e) (λ_ s''=>CX outer H s E e s'') (λe' s''=>CX outer H s E e' s'') s'
theorem zce {sc:Scope}{n:Nat}{x:Str}(h:sc.names.lookup x=some .cell):∃ c,(cellsFrom n sc.names []).lookup x=some c:=by
 have q:=PySem.W.cellsFrom_some sc.names n [] (.inl h)
 exact Option.isSome_iff_exists.mp q
theorem zed {CX:CXT}{P:Program}{w:World}{K:PySem.W.Frag}{mg:Str->Option Value}{base:Heap}{N ps:List Str}{qual:Str}{scope:Scope}{f:Addr}{cd:Value}{A:Around}{outer:List Env}{s s1:Shared}{H:Hp}{E:XK}{us:List Value}{vs:List V}
 (S:zA N ps scope) (hd:A.handled=none) (e0:zk9 P w K mg base A outer s H) (hl:vs.length=ps.length) (r:yf vs us)
 (x:InCallC s s.heap.objs.size (bindL (envOfC qual scope s.heap.objs.size f cd).kindOf (ps.zip us) λ_=>none) (cellsFrom (s.heap.objs.size+1) scope.names []) (bindC (envOfC qual scope s.heap.objs.size f cd).kindOf (ps.zip us) λ_=>none) s1) :
 Inv (zh4 CX P w K mg base N qual scope f cd A outer s H E) [] (start N vs) H s1:=by
 have hpl:ps.length<=N.length:=by have:=congrArg List.length S.pre;rw[List.length_take]at this;omega
 obtain⟨h1,tk,rfl,hk⟩:=x.done
 have noA:∀ b:Addr,b∉(zh4 CX P w K mg base N qual scope f cd A outer s H E).ex:=λb z=>absurd (show b∈([]:List Addr)from z) (by simp)
 refine⟨⟨e0.mod,S.kind,rfl,rfl,Nat.le_refl _,λy z c h1 h2=>?_,λy hy=>?_,λy c _ h=>?_,λ_=>hd,Around.frames_deeper e0.frames,.inr ⟨rfl,rfl⟩,λb z=>absurd z (noA b),e0.bs,e0.bsz,λb _ _=>noA b,λb z=>absurd z (noA b),e0.funs,e0.frf⟩,
  rfl,e0.bare,Un.kept hk,⟨_,x.toInCall.ns,λi y v h1 h2 h3=>?_⟩,λy c h=>⟨_,x.cell y c h⟩,e0.hok.fresh (Nat.le_refl _),λy c h=>?_,λp hp=>absurd (show p∈([]:List (Addr × Obj))from hp) (by simp),e0.hok.kept hk,?_⟩
 .exact name_of_addr x.apart (PySem.mem_of_lookup h1) (PySem.mem_of_lookup h2)
 .have hy:scope.names.lookup y=some .cell\/scope.names.lookup y=some .free:=hy
  rcases hy with hy | hy
  .exact zce hy
  .exact absurd rfl (S.nofree _ (PySem.mem_of_lookup hy))
 .exact Nat.le_of_lt (x.above y c (PySem.mem_of_lookup h))
 .have hi:i < vs.length:=by
   unfold start at h2
   by_cases hi:i < vs.length
   .exact hi
   .rw[List.getElem?_append_right (by simpa using hi)]at h2
    rw[List.getElem?_replicate]at h2
    split at h2 <;> cases h2
  have ha:vs[i]?=some v:=by
   unfold start at h2
   rw[List.getElem?_append_left (by simpa using hi),List.getElem?_map]at h2
   cases e:vs[i]? with
   | none=>rw[e]at h2;cases h2
   | some a=>rw[e]at h2;cases h2;rfl
  obtain⟨u,hu,rv⟩:=r.get ha
  have hp:ps[i]?=some y:=by
   rw[<-S.pre,List.getElem?_take_of_lt (by omega)];exact h1
  have ndP:ps.Nodup:=by rw[<-S.pre];exact S.nd.sublist (List.take_sublist _ _)
  refine⟨u,rv,?_⟩
  rcases S.par y (List.mem_of_getElem? hp)with k | k
  .exact .inl ⟨k,V3 ndP hp hu k⟩
  .obtain⟨c,e⟩:=zce (n:=s.heap.objs.size+1) k
   refine .inr ⟨.inl k,c,e,?_⟩
   have q:=x.cell y c e
   rw[zak ndP hp hu (by show scope.names.lookup y≠_;rw[k];decide)]at q
   exact q
 .exact e0.hok.fresh (Nat.le_of_lt (x.above y c (PySem.mem_of_lookup h)))
 .unfold start
  show _=N.length
  rw[List.length_append,List.length_map,List.length_replicate]
  omega
theorem zlY {CX:CXT}{P:Program}{w:World}{K:PySem.W.Frag}{mg:Str->Option Value}{base:Heap}{k:Nat}{f:Addr}{name qual:Str}{params:Arguments}{body:List Stmt}{scope:Scope}{dV kV doc pm cdv ct oc:Value}{an od:Option Addr}
 {osl:Array (Option Value)} {N ps:List Str} {sp:Sp} (lk:K.lookup f=some ⟨oc,od,.func (PySem.W.fnOf name qual params body scope dV kV doc pm an cdv ct),osl⟩) (hcd:PySem.W.codeIn K cdv qual=true) (S:zA N ps scope)
 (len:∀ vs H Q E,sp vs H Q E->vs.length=ps.length)
 (hbody:∀ (A:Around) (outer:List Env) (s:Shared) (H:Hp) (vs:List V) (Q:VK) (E:XK),YA k (A.deeper (envOfC qual scope s.heap.objs.size f cdv))->sp vs H Q E ->
  ∃ t,PSs (zh4 CX P w K mg base N qual scope f cdv A outer s H E) body t/\t { nx:=λ_ H'=>Q .non H',rt:=Q } (start N vs) H) :
 xR P w K mg base CX (k+1) f (PySem.W.fnOf name qual params body scope dV kV doc pm an cdv ct) ps sp:=by
 refine⟨len,λA outer s H args us vs Q E hr e0 hb r hsp=>?_⟩
 have hl:=len _ _ _ _ hsp
 have KX:K.In s.heap:=e0.mod.kin.keeps λb o e=>(e0.bs b o e).1
 have lim:s.heap.NoLimit:=e0.mod.nolimit.keeps λb o e=>(e0.bs b o e).1
 have hkind:∀ y∈ps.zip us,scope.names.lookup y.1=some .local\/(scope.names.lookup y.1=some .cell/\((cellsFrom (s.heap.objs.size+1) scope.names []).lookup y.1).isSome=true):=λ⟨n,v⟩ hy=>by
  rcases S.par n (List.of_mem_zip hy).1 with q | q
  .exact .inl q
  .exact .inr ⟨q,PySem.W.cellsFrom_some _ _ _ (.inl q)⟩
 refine codeAny_call_function hr.depth (KX _ _ lk) rfl S.co S.gen rfl (PySem.W.codeRec_of KX hcd) (hb _ _ _ _ ?_)
 refine wpAny_newFunctionEnv_cells S.kind hkind λenv he s1 x=>?_
 subst he
 refine⟨lim.keeps x.toInCall.keep,codeAny_func ?_⟩
 obtain⟨t,ht,hq⟩:=hbody A outer s H vs Q E (hr.deeper _) hsp
 have I:Inv (zh4 CX P w K mg base N qual scope f cdv A outer s H E) [] (start N vs) H s1:=zed S hr.hd e0 hl r x
 refine wpAny_mono (ht [] s1 (start N vs) H _ I hq) (λfl s' hs=>?_) λe s' hs=>hs
 have fin:∀ {σ':St} {H':Hp} {v:V} {u:Value},Inv (zh4 CX P w K mg base N qual scope f cdv A outer s H E) [] σ' H' s'->yF v u->Q v H'->CE outer P w H s Q u s' :=
  λ{σ' H' v u} J rv q=>⟨v,H',J.os,J.bare,J.base,J.hok,rv,q⟩
 cases fl with
 | ret u =>
  obtain⟨v,σ',H',J,rv,q⟩:=hs
  exact fin J rv q
 | next =>
  obtain⟨σ',H',J,q⟩:=hs
  exact fin (v:=V.non) (u:=Value.none) J rfl q
 | brk =>
  obtain⟨_,_,_,q⟩:=hs
  exact False.elim q
 | cont =>
  obtain⟨_,_,_,q⟩:=hs
  exact False.elim q
section
variable {X:Cx}{x:Str}{p pos:Pos}{e:Expr}{es:List Expr}{t:TA}{id T:String}{r:List V->Hp->VK->Prop}
noncomputable def tCB (r:List V->Hp->VK->Prop)(t:TA):TE:=fun σ H Q=>t σ H λvs H1=>r vs H1 Q
theorem ZP (hc:vL X (.builtin id) r) (hg:Gl X x) (hm:X.mg x=none) (hv:bootBuiltins x=some (.builtin id)) (ha:PA X (e::es) t) (hn:x≠"__name__":=by decide) (hdb:(x == ("__debug__":Str))=false:=by decide)
 (he:starEach (e::es) X.env=(false,eval e X.env)::starEach es X.env:=by rfl) (hpl:(backTo pos (starEach es X.env)).any (·.1)=false:=by rfl):PE X (.Call (.Name x p) (e::es) [] pos) (tCB r t):=by
 intro pins s σ H Q I h
 refine wpAny_Call_Name_kw (XM I hg hm hv ?_ hn hdb)
 exact PyProof.Rows.callWith_builtin1 (thn (ha pos pins s σ H _ I h) λus s1 ⟨vs,H1,I1,r1,q1⟩=>hc pins s1 σ H1 vs us Q I1 r1 q1) he hpl
theorem VO (hc:vL X (.type T) r) (hg:Gl X x) (hm:X.mg x=none) (hv:bootBuiltins x=some (.type T)) (ha:PA X (e::es) t) (hn:x≠"__name__":=by decide) (hdb:(x == ("__debug__":Str))=false:=by decide)
 (he:starEach (e::es) X.env=(false,eval e X.env)::starEach es X.env:=by rfl) (hpl:(backTo pos (starEach es X.env)).any (·.1)=false:=by rfl):PE X (.Call (.Name x p) (e::es) [] pos) (tCB r t):=by
 intro pins s σ H Q I h
 refine wpAny_Call_Name_kw (XM I hg hm hv ?_ hn hdb)
 exact PyProof.Rows.callWith_type1 (thn (ha pos pins s σ H _ I h) λus s1 ⟨vs,H1,I1,r1,q1⟩=>hc pins s1 σ H1 vs us Q I1 r1 q1) he hpl
end
end L2
namespace HT
open PySem PyProof.Rows
noncomputable def lexLt:List Int->List Int->Bool
 | [],[]=>false
 | [],_::_=>true
 | _::_,[]=>false
 | x::xs,y::ys=>if x=y then lexLt xs ys else decide (x < y)
theorem lexLt_cons (x y:Int)(xs ys:List Int):lexLt (x::xs) (y::ys)=if x=y then lexLt xs ys else decide (x < y):=rfl
theorem zgX (A:Around)(s:Shared)(a:Int)(t:Tok)(c:Int)(u:Tok):∃ e,SeqAt.EqAt A s (.int a t) (.int c u) e/\(e=true↔a=c) :=
 ⟨(a == c),SeqAt.EqAt.int_int a t c u,by simp⟩
section
variable {prog:Program}{w:World}{A:Around}{E:Value->Shared->Prop}{s:Shared}
theorem cat_tup {t b:Addr}{vs ws:List Value}{Q:Value->Shared->Prop}(ht:IsTup s.heap t vs.toArray)(hb:IsTup s.heap b ws.toArray)(hv:vs≠[])
 (h1:ws=[]->Q (.ref t) s) (h2:ws≠[]->Q (.ref s.heap.objs.size) { s with heap:=s.heap.push { cls:=.type "tuple",data:=.seq (vs++ws).toArray } })
 (hsz:vs.length+ws.length<=sizeLine):wpAny (model prog w) A (binaryOp .Add (.ref t) (.ref b)) Q E s:=by
 obtain⟨⟨cls,dd,data,sl⟩,ho,hc,n,hd⟩:=id ht
 obtain⟨⟨cls2,dd2,data2,sl2⟩,ho2,hc2,n2,hd2⟩:=id hb
 simp only at hc hd hc2 hd2
 subst hc hd hc2 hd2
 have e:vs.toArray++ws.toArray=(vs++ws).toArray:=by simp
 by_cases hw:ws=[]
 .exact concat_meets ⟨_,ho,rfl⟩ ⟨_,ho2,rfl⟩ noFill_tuple_add seq_tuple_add PySem.F.slot_tuple_add PySem.F.entry_tuple_add (PySem.F.args_tuple_add_2 _ _)
   (tuple_addW1 t b vs.toArray ws.toArray n n2 dd dd2 sl sl2 (by simpa using hv) (by simp[hw])) ⟨ho,ho2,h1 hw⟩
 .refine concat_meets ⟨_,ho,rfl⟩ ⟨_,ho2,rfl⟩ noFill_tuple_add seq_tuple_add PySem.F.slot_tuple_add PySem.F.entry_tuple_add (PySem.F.args_tuple_add_2 _ _)
   (tuple_addW2 t b vs.toArray ws.toArray n n2 dd dd2 sl sl2 (by simpa using hv) (by simpa using hw) (by rw[List.size_toArray,List.size_toArray];exact hsz)) ⟨ho,ho2,?_⟩
  rw[e]
  exact h2 hw
noncomputable def sIx (n d:Nat):Option Int->Nat
 | none=>d
 | some v=>if v < 0 then (v+(n:Int)).toNat else min v.toNat n
theorem zjF (n d:Nat)(hd:d<=n)(o:Option Int):sIx n d o<=n:=by
 cases o with
 | none=>exact hd
 | some v =>
  show(if v < 0 then (v+(n:Int)).toNat else min v.toNat n)<=n
  by_cases hv:v < 0
  .rw[if_pos hv];omega
  .rw[if_neg hv];exact Nat.min_le_right _ _
theorem zdn (v:Int)(n d:Nat):(if v < 0 then max (v+(n:Int)) 0 else min v (n:Int))=((sIx n d (some v):Nat):Int):=by
 show(if v < 0 then max (v+(n:Int)) 0 else min v (n:Int))=(((if v < 0 then (v+(n:Int)).toNat else min v.toNat n):Nat):Int)
 by_cases hv:v < 0
 .simp only[if_pos hv];omega
 .simp only[if_neg hv];omega
theorem zcn (lo hi:Option Int)(n:Nat):Builtin.Slice.sliceAdjust lo hi 1 (n:Int)=(((sIx n 0 lo:Nat):Int),((sIx n n hi:Nat):Int)):=by
 have h1:¬ ((1:Int) < 0):=by omega
 unfold Builtin.Slice.sliceAdjust
 simp only[h1,if_false]
 refine Prod.ext ?_ ?_
 .cases lo with
  | none=>rfl
  | some v=>exact zdn v n 0
 .cases hi with
  | none=>rfl
  | some v=>exact zdn v n n
theorem zcG (i j:Nat):Builtin.Slice.slicePlaces (i:Int) (j:Int) 1=j - i:=by
 unfold Builtin.Slice.slicePlaces
 have h1:(1:Int) > 0:=by omega
 simp only[h1,if_true,Int.ediv_one]
 split <;> omega
theorem Wr {v:Value}{o:Option Int}{Q:Option Int->Shared->Prop}(p:IsPart v o)(h:Q o s):wpAny (model prog w) A (Builtin.Slice.slicePartIndex v) Q E s:=by
 cases p with
 | none=>exact slicePart_none h
 | int i t=>exact slicePart_int h
theorem vv {sl:Addr}{vl vu:Value}{lo hi:Option Int}{n:Nat}{Q:Int × Int × Nat->Shared->Prop}(hs:s.heap.IsSliceOf sl vl vu .none)(pl:IsPart vl lo)(pu:IsPart vu hi)
 (h:Q (((sIx n 0 lo:Nat):Int),1,sIx n n hi - sIx n 0 lo) s):wpAny (model prog w) A (Builtin.Slice.sliceApplied (.ref sl) (pure (n:Int))) Q E s:=by
 obtain⟨os,hos,hcs,hds⟩:=id hs
 unfold Builtin.Slice.sliceApplied Builtin.Slice.sliceFields
 refine wpAny_bind (wpAny_bind (wpAny_field hos hds (x:=vl) rfl (wpAny_bind (wpAny_field hos hds (x:=vu) rfl (wpAny_bind (wpAny_field hos hds (x:=.none) rfl (wpAny_pure ?_)))))))
 refine wpAny_bind (slicePart_none ?_)
 show wpAny _ _ (if ((1:Int) == 0)=true then _ else _) _ _ s
 rw[if_neg (by decide)]
 refine wpAny_bind (Wr pl (wpAny_bind (Wr pu (wpAny_bind (wpAny_pure ?_)))))
 show wpAny _ _ (match Builtin.Slice.sliceAdjust lo hi 1 (n:Int)with | (lo,hi)=>pure (lo,(1:Int),Builtin.Slice.slicePlaces lo hi 1)) _ _ s
 rw[zcn lo hi n]
 show wpAny _ _ (pure (((sIx n 0 lo:Nat):Int),(1:Int),Builtin.Slice.slicePlaces ((sIx n 0 lo:Nat):Int) ((sIx n n hi:Nat):Int) 1)) _ _ s
 rw[zcG]
 exact wpAny_pure h
theorem zf0 (xs:Array Value)(i k:Nat):((List.range k).filterMap λ(m:Nat)=>xs[((i:Int)+(m:Int)*1).toNat]?).toArray=((xs.toList.drop i).take k).toArray:=by
 have e:(λ(m:Nat)=>xs[((i:Int)+(m:Int)*1).toNat]?)=λm=>xs[i+m]?:=by
  funext m
  have:((i:Int)+(m:Int)*1).toNat=i+m:=by omega
  rw[this]
 rw[e]
 have:=pick_run xs i k
 rw[List.filterMap_map]at this
 have e2:((λx=>xs[x]?) ∘ λx=>i+x)=λm=>xs[i+m]?:=rfl
 rw[e2]at this
 rw[this]
theorem getItem_tuple_cut {t sl:Addr}{items:Array Value}{vl vu:Value}{lo hi:Option Int}{Q:Value->Shared->Prop}(ht:IsTup s.heap t items)(hs:s.heap.IsSliceOf sl vl vu .none)(pl:IsPart vl lo)(pu:IsPart vu hi)
 (hw:¬ (sIx items.size 0 lo=0/\sIx items.size items.size hi=items.size))
 (h:Q (.ref s.heap.objs.size) { s with heap:=s.heap.push { cls:=.type "tuple",data:=.seq ((items.toList.drop (sIx items.size 0 lo)).take (sIx items.size items.size hi - sIx items.size 0 lo)).toArray } })
 (hsz:items.size<=sizeLine):wpAny (model prog w) A (getItem (.ref t) (.ref sl)) Q E s:=by
 have htake:sizeOk (.seq ((items.toList.drop (sIx items.size 0 lo)).take (sIx items.size items.size hi - sIx items.size 0 lo)).toArray):=by
  show((items.toList.drop (sIx items.size 0 lo)).take (sIx items.size items.size hi - sIx items.size 0 lo)).toArray.size<=sizeLine
  rw[List.size_toArray,List.length_take,List.length_drop,Array.length_toList]
  omega
 have hj:sIx items.size items.size hi<=items.size:=zjF _ _ (Nat.le_refl _) hi
 obtain⟨os,hos,hcs,hds⟩:=id hs
 have hTs:s.TypeIs (.ref sl) "slice":=⟨os,hos,hcs⟩
 unfold getItem
 try with_reducible refine wpAny_holding ?_
 first | refine wpAny_bind (wpAny_pure ?_) | skip
 refine wpAny_bind (wpAny_sequenceKey ht.typeIs (by decide) ?_)
 refine wpAny_bind (wpAny_callSpecial?_slot (name:=Str.ofString "__getitem__") ht.typeIs PyProof.Rows.slot_tuple_getitem
  (wpAny_call_entry PyProof.Rows.slot_tuple_getitem ht.typeIs entry_tuple_getitem ?_ (args_tuple_getitem _ _)))
 show wpAny _ _ (Builtin.Tuple.tupleItemsOf (.ref t)>>=_) _ _ s
 refine wpAny_bind (tupleItemsOf_ ht ?_)
 refine wpAny_bind (wpAny_typeOf hTs ?_)
 rw[if_pos (by decide)]
 refine wpAny_bind (vv hs pl pu ?_)
 have hno:¬ ((((sIx items.size 0 lo:Nat):Int) == 0&&(1:Int) == 1&&(sIx items.size items.size hi - sIx items.size 0 lo) == items.size)=true):=by
  intro q
  rw[Bool.and_eq_true,Bool.and_eq_true]at q
  have q1:((sIx items.size 0 lo:Nat):Int)=0:=eq_of_beq q.1.1
  have q2:sIx items.size items.size hi - sIx items.size 0 lo=items.size:=eq_of_beq q.2
  exact hw ⟨by omega,by omega⟩
 show wpAny _ _ (if (((sIx items.size 0 lo:Nat):Int) == 0&&(1:Int) == 1&&(sIx items.size items.size hi - sIx items.size 0 lo) == items.size)=true then _ else _) _ _ s
 rw[if_neg hno,zf0]
 first
  | exact wpAny_bind (m:=Builtin.Tuple.tupleExact _) (wpAny_newObj_type (wpAny_pure ⟨_,rfl,wpAny_pure h⟩) htake)
  | exact wpAny_bind (m:=Builtin.Tuple.tupleExact _) (wpAny_newObj_type (wpAny_bind (wpAny_pure (wpAny_pure ⟨_,rfl,wpAny_pure h⟩))) htake)
  | exact wpAny_bind (wpAny_bind (m:=Builtin.Tuple.tupleExact _) (wpAny_newObj_type (wpAny_pure (wpAny_pure ⟨_,rfl,wpAny_pure h⟩)) htake))
  | exact wpAny_bind (wpAny_bind (m:=Builtin.Tuple.tupleExact _) (wpAny_newObj_type (wpAny_pure ⟨_,rfl,wpAny_pure h⟩) htake))
end
end HT
namespace L2
open PySem PySem.Spec PyProof.Rows
noncomputable abbrev TO:=St->Hp->(Option Int->Hp->Prop)->Prop
noncomputable def PO (X:Cx)(e:Option Expr)(t:TO):Prop :=
 ∀ (pins:List (Addr × Obj)) (s:Shared) (σ:St) (H:Hp) (Q:Option Int->Hp->Prop),Inv X pins σ H s->t σ H Q ->
  wpAny (model X.prog X.w) X.A (evalPart e X.env) (λu s'=>∃ o H',Inv X pins σ H' s'/\IsPart u o/\Q o H') X.xe s
noncomputable def ziV:TO:=λ_ H Q=>Q none H
noncomputable def zlz (t:TE):TO:=fun σ H Q=>t σ H λx H1=>∃ i,x=.int i/\Q (some i) H1
theorem wH {ns:List Int}:∀ {us:List Value},yf (ns.map V.int) us->IntsAre us ns:=by
 induction ns with
 | nil=>intro us r;rw[List.map_nil]at r;cases r;exact .nil
 | cons n ns ih =>
  intro us r
  rw[List.map_cons]at r
  cases r with
  | cons r1 r2 =>
   obtain⟨t,e⟩:=r1
   subst e
   exact .cons n t (ih r2)
section
variable {X:Cx}{e:Expr}{te:TE}{lo hi:Option Expr}{tl th:TO}{pos p2:Pos}
theorem ziK:PO X none ziV:=by
 intro pins s σ H Q I h
 rw[evalPart_none]
 exact wpAny_pure ⟨none,H,I,.none,h⟩
theorem zhM (h:PE X e te):PO X (some e) (zlz te):=by
 intro pins s σ H Q I hw
 rw[evalPart_some]
 refine thn (h pins s σ H _ I hw) λu s1 hh9=>?_
 obtain⟨x,H1,I1,r1,q1⟩:=hh9
 obtain⟨i,rfl,q⟩:=q1
 obtain⟨t,rfl⟩:=r1
 exact⟨some i,H1,I1,.int i t,q⟩
noncomputable def SlR (X:Cx)(r:V->Option Int->Option Int->Hp->VK->Prop):Prop :=
 ∀ (pins:List (Addr × Obj)) (s:Shared) (σ:St) (H:Hp) (x:V) (v vl vu:Value) (lo hi:Option Int) (sl:Addr) (Q:VK),Inv X pins σ H s->yF x v->s.heap.IsSliceOf sl vl vu .none->IsPart vl lo->IsPart vu hi->r x lo hi H Q ->
  ∃ T id,typeLookup (.type T) "__getitem__"=pure (some (.builtin id))/\s.TypeIs v T/\wpAny (model X.prog X.w) X.A (getItem v (.ref sl)) (EP X pins σ Q) X.xe s
theorem SlR.or {r r':V->Option Int->Option Int->Hp->VK->Prop}(h:SlR X r)(h':SlR X r'):SlR X (λx lo hi H Q=>r x lo hi H Q\/r' x lo hi H Q):=by
 intro pins s σ H x v vl vu lo hi sl Q I rx hs pl pu q
 rcases q with q | q
 .exact h pins s σ H x v vl vu lo hi sl Q I rx hs pl pu q
 .exact h' pins s σ H x v vl vu lo hi sl Q I rx hs pl pu q
noncomputable def tSl (r:V->Option Int->Option Int->Hp->VK->Prop)(te:TE)(tl th:TO):TE:=fun σ H Q=>te σ H λx H1=>tl σ H1 λl H2=>th σ H2 λu H3=>r x l u H3 Q
theorem zgy {r:V->Option Int->Option Int->Hp->VK->Prop}(hr:SlR X r)(he:PE X e te)(hl:PO X lo tl)(hu:PO X hi th):PE X (.Subscript e (.Slice lo hi none p2) pos) (tSl r te tl th):=by
 intro pins s σ H Q I h
 refine Subscript_ (thn (he pins s σ H _ I h) λv s1 hh9=>?_)
 obtain⟨x,H1,I1,r1,q1⟩:=hh9
 refine wpAny_Slice (thn (hl pins s1 σ H1 _ I1 q1) λvl s2 ⟨l,H2,I2,pl,q2⟩=>thn (hu pins s2 σ H2 _ I2 q2) λvu s3 hh9=>?_)
 obtain⟨u,H3,I3,pu,q3⟩:=hh9
 rw[evalPart_none]
 refine wpAny_pure ?_
 have I4:Inv X pins σ H3 { s3 with heap:=s3.heap.push { cls:=.type "slice",data:=.fields #[vl,vu,.none] } }:=I3.kept (t':=s3.toks) λb ob q=>Heap.get?_push_of_some _ q
 obtain⟨T,id,hT,ht,hg⟩:=hr pins { s3 with heap:=s3.heap.push { cls:=.type "slice",data:=.fields #[vl,vu,.none] } } σ H3 x v vl vu l u s3.heap.objs.size Q I4 r1 (Heap.IsSliceOf.new ..) pl pu q3
 show wpAny (model X.prog X.w) X.A (subscriptTail e (.Slice lo hi none p2) v (.ref s3.heap.objs.size)) (EP X pins σ Q) X.xe { s3 with heap:=s3.heap.push { cls:=.type "slice",data:=.fields #[vl,vu,.none] } }
 exact tail_any (ops:=[.ref s3.heap.objs.size,v]) ht hT hg (by with_unfolding_all rfl)
noncomputable def za6 (xs:List V)(lo hi:Option Int):List V:=(xs.drop (HT.sIx xs.length 0 lo)).take (HT.sIx xs.length xs.length hi - HT.sIx xs.length 0 lo)
theorem XD (xs:List V)(lo hi:Option Int):(za6 xs lo hi).length<=xs.length:=by
 unfold za6
 rw[List.length_take,List.length_drop]
 omega
noncomputable def rSlT (K:PySem.W.Frag):V->Option Int->Option Int->Hp->VK->Prop:=λx lo hi H Q=>∃ a xs,x=.ref a/\SqT K H a xs /\
 ¬ (HT.sIx xs.length 0 lo=0/\HT.sIx xs.length xs.length hi=xs.length)/\∀ p,H p=none->Q (.ref p) (upd H p (.tup (za6 xs lo hi)))
theorem zkT:SlR X (rSlT X.K):=by
 intro pins s σ H x v vl vu lo hi sl Q I rx hs pl pu h
 obtain⟨a,xs,rfl,hx,hw,q⟩:=h
 cases rx
 obtain⟨its,r,ht,hz⟩:=I.tuple hx
 have hlen:its.toArray.size=xs.length:=by rw[List.size_toArray];exact r.length.symm
 refine⟨"tuple",_,PyProof.Rows.slot_tuple_getitem.lookup,ht.typeIs,?_⟩
 refine HT.getItem_tuple_cut ht hs pl pu (by rw[hlen];exact hw) ?_ (by rw[hlen];exact hz)
 rw[hlen]
 refine⟨.ref s.heap.objs.size,_,I.laid (t':=s.toks) (o:=.tup (za6 xs lo hi)) (λb ob q=>Heap.get?_push_of_some _ q) (Nat.le_refl _) ?_,rfl,q _ (I.hok.fresh (Nat.le_refl _))⟩
 exact⟨Nat.le_trans (XD xs lo hi) hz,_,(r.drop (HT.sIx xs.length 0 lo)).take (HT.sIx xs.length xs.length hi - HT.sIx xs.length 0 lo),IsTup.new _ _⟩
noncomputable def zl4 (K:PySem.W.Frag):R2:=λx y H Q=>∃ a b xs ys,x=.ref a/\y=.ref b/\SqT K H a xs/\SqT K H b ys/\xs≠[]/\xs.length+ys.length<=sizeLine /\
 (ys=[]->Q (.ref a) H)/\(ys≠[]->∀ p,H p=none->Q (.ref p) (upd H p (.tup (xs++ys))))
theorem yf.nil_iff {xs:List V}{us:List Value}(r:yf xs us):us=[]↔xs=[]:=by
 cases r with
 | nil=>simp
 | cons _ _=>simp
theorem ziw:OpR X (binaryOp .Add) (zl4 X.K):=by
 intro pins s σ H x y v u Q I rx ry h
 obtain⟨a,b,xs,ys,rfl,rfl,ha,hb,hx,hz,q1,q2⟩:=h
 cases rx
 cases ry
 obtain⟨its,r1,p1,_⟩:=I.tuple ha
 obtain⟨its2,r2,p2,_⟩:=I.tuple hb
 refine HT.cat_tup p1 p2 (λz=>hx (r1.nil_iff.mp z)) (λz=>⟨.ref a,H,I,rfl,q1 (r2.nil_iff.mp z)⟩) (λz=>?_) (by rw[<-r1.length,<- r2.length];exact hz)
 refine⟨.ref s.heap.objs.size,_,I.laid (t':=s.toks) (o:=.tup (xs++ys)) (λb ob q=>Heap.get?_push_of_some _ q) (Nat.le_refl _) ?_,rfl,q2 (λw=>z (r2.nil_iff.mpr w)) _ (I.hok.fresh (Nat.le_refl _))⟩
 exact⟨by rw[List.length_append];exact hz,_,r1.append r2,IsTup.new _ _⟩
end
noncomputable def ixN (n:Nat)(i:Int):Option Nat:=if 0<=i then (if i < n then some i.toNat else none)else if -(n:Int)<=i then some (i+n).toNat else none
noncomputable def atI {α:Type}(xs:List α)(i:Int):Option α:=(ixN xs.length i).bind λj=>xs[j]?
theorem zey {n:Nat}{i:Int}{j:Nat}(h:ixN n i=some j):seqIndex? i n=some j/\j < n/\-(n:Int)<=i/\i < n:=by
 unfold ixN at h
 by_cases h0:0<=i
 .rw[if_pos h0]at h
  by_cases h1:i < n
  .rw[if_pos h1]at h
   have e:i.toNat=j:=Option.some.inj h
   exact⟨by rw[seqIndex_of h0 h1,e],by omega,by omega,h1⟩
  .rw[if_neg h1]at h;cases h
 .rw[if_neg h0]at h
  by_cases h1:-(n:Int)<=i
  .rw[if_pos h1]at h
   have e:(i+n).toNat=j:=Option.some.inj h
   exact⟨by rw[seqIndex_neg (by omega) h1,e],by omega,h1,by omega⟩
  .rw[if_neg h1]at h;cases h
theorem zaE {α:Type}{xs:List α}{i:Int}{v:α}(h:atI xs i=some v):∃ j,seqIndex? i xs.length=some j/\xs[j]?=some v/\j < xs.length/\-(xs.length:Int)<=i/\i < xs.length:=by
 unfold atI at h
 cases e:ixN xs.length i with
 | none=>rw[e]at h;cases h
 | some j =>
  rw[e]at h
  obtain⟨h1,h2,h3,h4⟩:=zey e
  exact⟨j,h1,h,h2,h3,h4⟩
theorem zeG {α:Type}{xs:List α}{j:Nat}{v:α}(h:xs[j]?=some v):atI xs (j:Int)=some v:=by
 have hj:j < xs.length:=(List.getElem?_eq_some_iff.mp h).1
 have e:ixN xs.length (j:Int)=some j:=by
  unfold ixN
  rw[if_pos (by omega),if_pos (by omega)];simp
 unfold atI;rw[e];exact h
noncomputable def zdM (b:Expr):Prop:=∀ o i,subscripted b false o i=operate [o,i] (getItem o i)
noncomputable def IxR (X:Cx)(r:R2):Prop :=
 ∀ (value slice:Expr) (pins:List (Addr × Obj)) (s:Shared) (σ:St) (H:Hp) (x y:V) (v u:Value) (Q:VK),Inv X pins σ H s->yF x v->yF y u->r x y H Q ->
  subscripted slice false v u=operate [v,u] (getItem v u)->wpAny (model X.prog X.w) X.A (subscriptTail value slice v u) (EP X pins σ Q) X.xe s
noncomputable def MtR (X:Cx)(id:String)(r:V->List V->Hp->VK->Prop):Prop :=
 ∀ (pins:List (Addr × Obj)) (s:Shared) (σ:St) (H:Hp) (x:V) (xs:List V) (v:Value) (us:List Value) (Q:VK),Inv X pins σ H s->yF x v->yf xs us->r x xs H Q ->
  wpAny (model X.prog X.w) X.A (call (.builtin id) (v::us)) (EP X pins σ Q) X.xe s
section
variable {X:Cx}{a b:Expr}{ta tb:TE}{pos:Pos}
theorem IxR.or {r r':R2}(h:IxR X r)(h':IxR X r'):IxR X (λx y H Q=>r x y H Q\/r' x y H Q):=by
 intro value slice pins s σ H x y v u Q I rx ry q hs
 rcases q with q | q
 .exact h value slice pins s σ H x y v u Q I rx ry q hs
 .exact h' value slice pins s σ H x y v u Q I rx ry q hs
theorem zmd {r:R2}(hr:IxR X r)(ha:PE X a ta)(hb:PE X b tb)(hs:zdM b):PE X (.Subscript a b pos) (tOp r ta tb):=by
 intro pins s σ H Q I h
 exact Subscript_ (zmb ha hb I h λv u s2 x y H2 I2 rx ry q=>hr a b pins s2 σ H2 x y v u Q I2 rx ry q (hs _ _))
noncomputable def rIxL (K:PySem.W.Frag):R2:=λx y H Q=>∃ p xs i v,x=.ref p/\y=.int i/\SqL K H p xs/\atI xs i=some v/\Q v H
noncomputable def rIxT (K:PySem.W.Frag):R2:=λx y H Q=>∃ p xs i v,x=.ref p/\y=.int i/\SqT K H p xs/\atI xs i=some v/\Q v H
noncomputable def rIxS:R2:=λx y H Q=>∃ z i c,x=.str z/\y=.int i/\z.length<=sizeLine/\atI z.cps.toList i=some c/\Q (.str ⟨#[c]⟩) H
theorem ziM:IxR X (rIxL X.K):=by
 intro value slice pins s σ H x y v u Q I rx ry h hs
 obtain⟨p,xs,i,z,rfl,rfl,hq,he,q⟩:=h
 cases rx
 obtain⟨t,rfl⟩:=ry
 obtain⟨its,r,pl,hz⟩:=I.list hq
 obtain⟨j,h1,h2,h3,h4,h5⟩:=zaE he
 obtain⟨w,ew,rw'⟩:=r.get h2
 have hl:=r.length
 have hn:=zam
 have fin:EP X pins σ Q w s:=⟨z,H,I,rw',q⟩
 by_cases h0:0<=i
 .have hj:i.toNat=j:=by
   rw[seqIndex_of h0 h5]at h1
   exact Option.some.inj h1
  exact item_listR pl.isList h0 (by omega) (by rw[hj];simpa using ew) fin hs
 .have hj:(i+(its.toArray.size:Int)).toNat=j:=by
   rw[seqIndex_neg (by omega) h4]at h1
   rw[List.size_toArray,<- hl]
   exact Option.some.inj h1
  exact subscriptTail_builtinR (x:=w) pl.isList.typeIs slot_list_getitem.lookup
   (wpAny_getItem_list_neg (Q:=λr s'=>r=w/\EP X pins σ Q r s') pl.isList (by omega) (by rw[List.size_toArray] <;> omega) (by omega) (by rw[hj];simpa using ew) ⟨rfl,fin⟩) hs
theorem zjU:IxR X (rIxT X.K):=by
 intro value slice pins s σ H x y v u Q I rx ry h hs
 obtain⟨p,xs,i,z,rfl,rfl,hq,he,q⟩:=h
 cases rx
 obtain⟨t,rfl⟩:=ry
 obtain⟨its,r,pl,hz⟩:=I.tuple hq
 obtain⟨j,h1,h2,h3,h4,h5⟩:=zaE he
 obtain⟨w,ew,rw'⟩:=r.get h2
 have hl:=r.length
 have hn:=zam
 have fin:EP X pins σ Q w s:=⟨z,H,I,rw',q⟩
 exact subscriptTail_builtinR (x:=w) pl.typeIs slot_tuple_getitem.lookup
  (getItem_tuple (j:=j) (Q:=λr s'=>r=w/\EP X pins σ Q r s') pl (by omega) (by omega) (by rw[List.size_toArray,<- hl];exact h1) (by simpa using ew) ⟨rfl,fin⟩) hs
theorem zks:IxR X rIxS:=by
 intro value slice pins s σ H x y v u Q I rx ry h hs
 obtain⟨z,i,c,rfl,rfl,hz,he,q⟩:=h
 obtain⟨t,rfl⟩:=rx
 obtain⟨t',rfl⟩:=ry
 obtain⟨j,h1,h2,h3,h4,h5⟩:=zaE he
 have hl:z.cps.toList.length=z.length:=by simp[Str.length]
 rw[hl]at h1 h4 h5
 have hn:=zam
 exact tail_any (typeIs_str s z t) slot_str_getitem.lookup (getItem_str (c:=c) (by
  have e1:decide (i < -(2 ^ 63:Int))=false:=decide_eq_false (by omega)
  have e2:decide (i >= 2 ^ 63)=false:=decide_eq_false (by omega)
  rw[e1,e2,Bool.or_false]) (by rw[h1];simpa using h2) ⟨.str ⟨#[c]⟩,H,I.tok _,⟨_,rfl⟩,q⟩) hs
noncomputable def rIx (K:PySem.W.Frag):R2:=λx y H Q=>rIxL K x y H Q\/rIxT K x y H Q\/rIxS x y H Q
theorem zjD:IxR X (rIx X.K):=ziM.or (zjU.or zks)
theorem zcs (its:List Value) (n j:Nat) (u:Value):Obj.mapSeq (·.setIfInBounds j u) { cls:=.type "list",data:=.seq its.toArray n }={ cls:=.type "list",data:=.seq (its.set j u).toArray n }:=by
 simp[Obj.mapSeq]
theorem Inv.lst {pins:List (Addr × Obj)}{σ:St}{H:Hp}{s:Shared}{p:Addr}{xs:List V}(I:Inv X pins σ H s)(h:H p=some (.lst xs)) :
 ∃ (its:List Value) (n:Nat),yf xs its/\s.heap.get? p=some { cls:=.type "list",data:=.seq its.toArray n }/\xs.length<=sizeLine:=by
 obtain⟨z,its,n,r,e⟩:=I.hok p _ h
 exact⟨its,n,r,e,z⟩
theorem Inv.lstUpd {pins:List (Addr × Obj)}{σ:St}{H:Hp}{s:Shared}{p:Addr}{xs ys:List V}{its its':List Value}{n n':Nat}{f:Obj->Obj}(I:Inv X pins σ H s)(h:H p=some (.lst xs))
 (ho:s.heap.get? p=some { cls:=.type "list",data:=.seq its.toArray n }) (hf:f { cls:=.type "list",data:=.seq its.toArray n }={ cls:=.type "list",data:=.seq its'.toArray n' }) (r:yf ys its') (hz:ys.length<=sizeLine) (t:Nat) :
 Inv X pins σ (upd H p (.lst ys)) { s with heap:=s.heap.update p f,toks:=t }:=by
 have e:(s.heap.update p f).get? p=some { cls:=.type "list",data:=.seq its'.toArray n' }:=by
  rw[Heap.get?_update_self f ho (by rw[hf] <;> rfl),hf]
 refine I.write (x:=p) (e:=p) (by rw[h];trivial) (.inl rfl) (λb u hb q=>(Heap.get?_update_other _ _ (Ne.symm hb)).trans q) ⟨_,e⟩ ?_
 exact⟨hz,its',n',r,e⟩
noncomputable def zlT:V->V->V->Hp->(Hp->Prop)->Prop:=λo i v H Q=>∃ p xs k j,o=.ref p/\i=.int k/\H p=some (.lst xs)/\ixN xs.length k=some j/\Q (upd H p (.lst (xs.set j v)))
theorem zfM:PSet X zlT:=by
 intro pins s σ H o i v ov iv u Q I ro ri rv h
 obtain⟨p,xs,k,j,rfl,rfl,hp,hj,q⟩:=h
 cases ro
 obtain⟨t,rfl⟩:=ri
 obtain⟨its,n,r,ho,hz⟩:=I.lst hp
 obtain⟨h1,h2,h3,h4⟩:=zey hj
 have hl:=r.length
 have hn:=zam
 have I':Inv X pins σ (upd H p (.lst (xs.set j v))) { s with heap:=s.heap.update p (Obj.mapSeq (·.setIfInBounds j u)) } :=
  I.lstUpd hp ho (zcs its n j u) (r.set rv j) (by rw[List.length_set];exact hz) s.toks
 by_cases h0:0<=k
 .have hk:k.toNat=j:=by
   rw[seqIndex_of h0 h4]at h1
   exact Option.some.inj h1
  exact PySem.W.ki_setAt ho h0 (by omega) (by rw[List.size_toArray,<- hl];exact h4) (by rw[hk];exact⟨_,I',q⟩)
 .have hk:(k+(its.toArray.size:Int)).toNat=j:=by
   rw[seqIndex_neg (by omega) h3]at h1
   rw[List.size_toArray,<- hl]
   exact Option.some.inj h1
  exact PySem.W.ki_setBack ho (by omega) (by rw[List.size_toArray,<- hl];exact h3) (by omega) (by rw[hk];exact⟨_,I',q⟩)
theorem V9 (lo hi:Option Int)(n:Nat):(sliceBounds lo hi none n).1=((HT.sIx n 0 lo:Nat):Int)/\(sliceBounds lo hi none n).2.1=((HT.sIx n n hi:Nat):Int)/\(sliceBounds lo hi none n).2.2=1:=by
 refine⟨?_,?_,rfl⟩
 .cases lo with
  | none=>simp[sliceBounds,HT.sIx]
  | some i =>
   simp only[sliceBounds,HT.sIx,Option.getD_none,show(1:Int) > 0 by decide,if_true]
   by_cases h:i < 0
   .simp only[h,if_true] <;> omega
   .simp only[h,if_false] <;> omega
 .cases hi with
  | none=>simp[sliceBounds,HT.sIx]
  | some i =>
   simp only[sliceBounds,HT.sIx,Option.getD_none,show(1:Int) > 0 by decide,if_true]
   by_cases h:i < 0
   .simp only[h,if_true] <;> omega
   .simp only[h,if_false] <;> omega
theorem Wu (its:List Value)(lo hi:Option Int):slicePick its.toArray lo hi none=((its.drop (HT.sIx its.length 0 lo)).take (HT.sIx its.length its.length hi - HT.sIx its.length 0 lo)).toArray:=by
 obtain⟨h1,h2,h3⟩:=V9 lo hi its.toArray.size
 unfold slicePick
 rw[h1,h2,h3]
 simp only[sliceRange_one,pick_run,List.size_toArray] <;> rfl
noncomputable def rSlL (K:PySem.W.Frag):V->Option Int->Option Int->Hp->VK->Prop:=λx lo hi H Q=>∃ a xs,x=.ref a/\SqL K H a xs/\∀ p,H p=none->Q (.ref p) (upd H p (.lst (za6 xs lo hi)))
theorem zij:SlR X (rSlL X.K):=by
 intro pins s σ H x v vl vu lo hi sl Q I rx hs pl pu h
 obtain⟨a,xs,rfl,hx,q⟩:=h
 cases rx
 obtain⟨its,r,ht,hz⟩:=I.list hx
 have hlen:=r.length
 refine⟨"list",_,slot_list_getitem.lookup,ht.isList.typeIs,?_⟩
 refine wpAny_getItem_list_slice ht.isList hs pl pu .none (by simp) ?_ (by rw[List.size_toArray] <;> omega)
 rw[Wu,<- hlen]
 refine⟨.ref s.heap.objs.size,_,I.laid (t':=s.toks) (o:=.lst (za6 xs lo hi)) (λb ob q=>Heap.get?_push_of_some _ q) (Nat.le_refl _) ?_,rfl,q _ (I.hok.fresh (Nat.le_refl _))⟩
 exact⟨Nat.le_trans (XD xs lo hi) hz,_,0,(r.drop (HT.sIx xs.length 0 lo)).take (HT.sIx xs.length xs.length hi - HT.sIx xs.length 0 lo),Heap.get?_push_size _ rfl⟩
noncomputable def zjf:V->Bool
 | .non=>true
 | .bl _=>true
 | .int _=>true
 | .str _=>true
 | _=>false
noncomputable def eqV:V->V->Bool
 | .non,.non=>true
 | .bl a,.bl b=>a == b
 | .bl a,.int b=>(if a then 1 else 0) == b
 | .int a,.bl b=>a == (if b then 1 else 0)
 | .int a,.int b=>a == b
 | .str a,.str b=>a == b
 | _,_=>false
theorem zhn {A:Around}{s:Shared}{y x:V}{u v:Value}(ry:yF y u)(rx:yF x v)(fy:zjf y=true)(fx:zjf x=true):SeqAt.EqAt A s u v (eqV y x):=by
 cases y with
 | non =>
  cases ry
  cases x with
  | non=>cases rx;exact SeqAt.EqAt.same _
  | bl b=>cases rx;exact SeqAt.EqAt.none_bool b
  | int b=>obtain⟨t,rfl⟩:=rx;exact SeqAt.EqAt.none_int b t
  | str b=>obtain⟨t,rfl⟩:=rx;exact SeqAt.EqAt.none_str b t
  | _=>exact absurd (show false=true from fx) Bool.false_ne_true
 | bl a =>
  cases ry
  cases x with
  | non=>cases rx;exact SeqAt.EqAt.bool_none a
  | bl b=>cases rx;exact SeqAt.EqAt.bool_bool a b
  | int b=>obtain⟨t,rfl⟩:=rx;exact SeqAt.EqAt.bool_int a b t
  | str b=>obtain⟨t,rfl⟩:=rx;exact SeqAt.EqAt.bool_str a b t
  | _=>exact absurd (show false=true from fx) Bool.false_ne_true
 | int a =>
  obtain⟨t',rfl⟩:=ry
  cases x with
  | non=>cases rx;exact SeqAt.EqAt.int_none a t'
  | bl b=>cases rx;exact SeqAt.EqAt.int_bool a t' b
  | int b=>obtain⟨t,rfl⟩:=rx;exact SeqAt.EqAt.int_int a t' b t
  | str b=>obtain⟨t,rfl⟩:=rx;exact SeqAt.EqAt.int_str a t' b t
  | _=>exact absurd (show false=true from fx) Bool.false_ne_true
 | str a =>
  obtain⟨t',rfl⟩:=ry
  cases x with
  | non=>cases rx;exact SeqAt.EqAt.str_none a t'
  | bl b=>cases rx;exact SeqAt.EqAt.str_bool a t' b
  | int b=>obtain⟨t,rfl⟩:=rx;exact SeqAt.EqAt.str_int a t' b t
  | str b=>obtain⟨t,rfl⟩:=rx;exact SeqAt.EqAt.str_str a t' b t
  | _=>exact absurd (show false=true from fx) Bool.false_ne_true
 | _=>exact absurd (show false=true from fy) Bool.false_ne_true
theorem yo:vL X (.builtin "len") (λxs H Q=>∃ p ys,xs=[.ref p]/\(SqL X.K H p ys\/SqT X.K H p ys)/\Q (.int ys.length) H):=by
 intro pins s σ H xs us Q I r h
 obtain⟨p,ys,rfl,hq,q⟩:=h
 obtain⟨u,rfl,rx⟩:=XW r
 cases rx
 have hn:=zam
 rcases hq with hq | hq
 .obtain⟨its,r',pl,hz⟩:=I.list hq
  have hlen:=r'.length
  exact Calls.call_len_list pl.isList (by simp only[List.size_toArray] <;> omega) ⟨.int ys.length,H,I.tok _,⟨s.toks+1,by rw[List.size_toArray,hlen]⟩,q⟩
 .obtain⟨its,r',pl,hz⟩:=I.tuple hq
  have hlen:=r'.length
  exact len_tuple pl (by simp only[List.size_toArray] <;> omega) ⟨.int ys.length,H,I.tok _,⟨s.toks+1,by rw[List.size_toArray,hlen]⟩,q⟩
theorem zae:vL X (.type "list") (λxs H Q=>∃ p ys,xs=[.ref p]/\(SqL X.K H p ys\/SqT X.K H p ys)/\∀ l,H l=none->Q (.ref l) (upd H l (.lst ys))):=by
 intro pins s σ H xs us Q I r h
 obtain⟨p,ys,rfl,hq,q⟩:=h
 obtain⟨u,rfl,rx⟩:=XW r
 cases rx
 have fin:∀ (its:List Value),yf ys its->ys.length<=sizeLine->∀ (h':Heap) (c':Nat),(∀ b o',s.heap.get? b=some o'->h'.get? b=some o') ->
  h'.get? s.heap.objs.size=some { cls:=.type "list",dict:=none,data:=.seq its.toArray c',slots:=#[] }->EP X pins σ Q (.ref s.heap.objs.size) { s with heap:=h' }:=λits r' hz h' c' kp e =>
  ⟨.ref s.heap.objs.size,_,I.laid (t':=s.toks) kp (Nat.le_refl _) (show yt X.prog X.w _ h' _ (.lst ys) from⟨hz,its,c',r',e⟩),rfl,q _ (I.hok.fresh (Nat.le_refl _))⟩
 rcases hq with hq | hq
 .obtain⟨its,r',pl,hz⟩:=I.list hq
  have hlen:=r'.length
  obtain⟨o,ho,hc,n,hd⟩:=pl.isList
  exact call_list_seq p (.inl rfl) ho hc hd (λh' c' kp e=>fin its r' hz h' c' kp e) (by simp only[List.size_toArray] <;> omega)
 .obtain⟨its,r',pl,hz⟩:=I.tuple hq
  have hlen:=r'.length
  obtain⟨o,ho,hc,n,hd⟩:=pl
  exact call_list_seq p (.inr rfl) ho hc hd (λh' c' kp e=>fin its r' hz h' c' kp e) (by simp only[List.size_toArray] <;> omega)
theorem zZ:vL X (.type "tuple") (λxs H Q=>∃ p ys,xs=[.ref p]/\((SqL X.K H p ys/\∀ l,H l=none->Q (.ref l) (upd H l (.tup ys)))\/(SqT X.K H p ys/\Q (.ref p) H))):=by
 intro pins s σ H xs us Q I r h
 obtain⟨p,ys,rfl,h⟩:=h
 obtain⟨u,rfl,rx⟩:=XW r
 cases rx
 rcases h with ⟨hq,q⟩ | ⟨hq,q⟩
 .obtain⟨its,r',pl,hz⟩:=I.list hq
  have hlen:=r'.length
  refine call_tuple_list pl.isList (λh' kp=>?_) (by simp only[List.size_toArray] <;> omega)
  have I1:Inv X pins σ H { s with heap:=h' }:=I.kept (t':=s.toks) kp
  have I2:Inv X pins σ (upd H h'.objs.size (.tup ys)) { s with heap:=h'.push { cls:=.type "tuple",data:=.seq its.toArray } } :=
   I1.laid (t':=s.toks) (λb o e=>Heap.get?_push_of_some _ e) (Nat.le_refl _) (show yt X.prog X.w _ _ _ (.tup ys) from⟨hz,its,r',IsTup.new _ _⟩)
  exact⟨.ref h'.objs.size,_,I2,rfl,q _ (I1.hok.fresh (Nat.le_refl _))⟩
 .obtain⟨its,r',pl,hz⟩:=I.tuple hq
  exact call_tuple_same pl ⟨.ref p,H,I,rfl,q⟩
noncomputable def tyV (K:PySem.W.Frag)(T:String)(x:V)(H:Hp):Prop:=match x with
 | .str _=>T="str"
 | .int _=>T="int"
 | .ref p=>(T="list"/\∃ xs,SqL K H p xs)\/(T="tuple"/\∃ o,K.lookup p=some o/\o.cls=.type "tuple"/\o.dict=none) \/
  (T="dict"/\((∃ kvs,H p=some (.dK kvs))\/∃ kvs,H p=some (.dT kvs)))\/(T="set"/\∃ S n,H p=some (.set S n))
 | _=>False
theorem zhD {pins:List (Addr × Obj)}{σ:St}{H:Hp}{s:Shared}{T:String}{x:V}{v:Value}(I:Inv X pins σ H s)(r:yF x v)(ty:tyV X.K T x H) :
 s.TypeIs v T/\∀ a,v=.ref a->∃ ob,s.heap.get? a=some ob/\ob.dict=none:=by
 cases x with
 | str z =>
  obtain⟨t,rfl⟩:=r
  cases (show T="str" from ty)
  exact⟨typeIs_str s z t,λ_ e=>nomatch e⟩
 | int i =>
  obtain⟨t,rfl⟩:=r
  cases (show T="int" from ty)
  exact⟨typeIs_int s i t,λ_ e=>nomatch e⟩
 | ref p =>
  cases r
  rcases ty with ⟨rfl,xs,hq⟩ | ⟨rfl,o,hk,hc,hd⟩ | ⟨rfl,hk⟩ | ⟨rfl,S,n,hk⟩
  .obtain⟨its,_,pl,_⟩:=I.list hq
   refine⟨pl.isList.typeIs,λa e=>?_⟩
   cases e
   obtain⟨o,n,e,c,hd,_⟩:=pl
   exact⟨o,e,hd⟩
  .refine⟨⟨o,I.kIn p o hk,hc⟩,λa e=>?_⟩
   cases e
   exact⟨o,I.kIn _ o hk,hd⟩
  .have z:∃ o,s.heap.get? p=some o/\o.ExactDict:=by
    rcases hk with ⟨kvs,hk⟩ | ⟨kvs,hk⟩
    .obtain⟨_,_,_,_,o,_,_,e,ex,_⟩:=I.hok p _ hk
     exact⟨o,e,ex⟩
    .obtain⟨_,_,_,_,o,_,_,e,ex,_⟩:=I.hok p _ hk
     exact⟨o,e,ex⟩
   obtain⟨o,e,ex⟩:=z
   refine⟨⟨o,e,ex.1⟩,λa e2=>?_⟩
   cases e2
   exact⟨o,e,ex.2.1⟩
  .obtain⟨o,_,_,_,e,ex,_⟩:=I.hok p _ hk
   refine⟨⟨o,e,ex.1⟩,λa e2=>?_⟩
   cases e2
   exact⟨o,e,ex.2.1⟩
 | _=>exact False.elim ty
noncomputable def tBM0 (K:PySem.W.Frag)(T:String)(r:V->List V->Hp->VK->Prop)(to:TE):TE:=fun σ H Q=>to σ H λx H1=>tyV K T x H1/\r x [] H1 Q
noncomputable def tBM (K:PySem.W.Frag)(T:String)(r:V->List V->Hp->VK->Prop)(to:TE)(t:TA):TE:=fun σ H Q=>to σ H λx H1=>tyV K T x H1/\t σ H1 λxs H2=>r x xs H2 Q
variable {o e:Expr}{es:List Expr}{to:TE}{t:TA}{name:Str}{apos cpos:Pos}{T id:String}{r:V->List V->Hp->VK->Prop}
theorem zjY (pa:PlainAttrs T) (slot:Slot T name id) (hty:typeOf (.builtin id)=pure (.type "method_descriptor")) (hm:MtR X id r) (ho:PE X o to)
 (hbase:attributeBase o name X.env (eval o X.env)=eval o X.env:=by rfl) (hline:(apos.endLine == cpos.line)=true:=by rfl):PE X (.Call (.Attribute o name apos) [] [] cpos) (tBM0 X.K T r to):=by
 intro pins s σ H Q I h
 refine wpAny_Call_method0_late hbase hline (thn (ho pins s σ H _ I h) λv s1 hh9=>?_)
 obtain⟨x,H1,I1,r1,ty,q1⟩:=hh9
 obtain⟨h1,h2⟩:=zhD I1 r1 ty
 exact⟨T,id,pa,slot,hty,h1,h2,Calls.callWith_builtin rfl (PySem.evalArgs_none (hm pins s1 σ H1 x [] v [] Q I1 r1 .nil q1))⟩
theorem zh7 (pa:PlainAttrs T) (slot:Slot T name id) (hty:typeOf (.builtin id)=pure (.type "method_descriptor")) (hm:MtR X id r) (ho:PE X o to) (ha:PA X (e::es) t)
 (hbase:attributeBase o name X.env (eval o X.env)=eval o X.env:=by rfl)
 (hfew:((backTo cpos (starEach (e::es) X.env)).all (λx=>!x.1)&&(backToKw cpos (keywordEach [] X.env)).all (λx=>x.1.isSome)
  && decide ((e::es).length+([]:List Keyword).length+(if ([]:List Keyword).isEmpty then 0 else 1) < 30))=true:=by rfl)
 (hline:(apos.endLine == cpos.line)=true:=by rfl) (hs:starEach (e::es) X.env=(false,eval e X.env)::starEach es X.env:=by rfl) (hplain:(backTo cpos (starEach es X.env)).any (·.1)=false:=by rfl) :
 PE X (.Call (.Attribute o name apos) (e::es) [] cpos) (tBM X.K T r to t):=by
 intro pins s σ H Q I h
 refine wpAny_Call_method_late hbase hfew hline rfl (thn (ho pins s σ H _ I h) λv s1 hh9=>?_)
 obtain⟨x,H1,I1,r1,ty,q1⟩:=hh9
 obtain⟨h1,h2⟩:=zhD I1 r1 ty
 refine⟨T,id,pa,slot,hty,h1,h2,?_⟩
 have hA:=ha cpos pins s1 σ H1 _ I1 q1
 rw[hs]at hA ⊢
 refine Calls.callWith_builtin (by show(false||(backTo cpos (starEach es X.env)).any (·.1))=false;rw[hplain] <;> rfl) (Calls.evalArgs_plain ?_)
 exact thn hA λus s2 ⟨vs,H2,I2,r2,q2⟩=>hm pins s2 σ H2 x vs v us Q I2 r1 r2 q2
/- xs.append(e),list.index on a module's tuple .. are MtR facts of 06m -/
end
noncomputable def MtM (X:Cx)(id:String)(r:V->List V->Hp->VK->Prop):Prop :=
 ∀ (pins:List (Addr × Obj)) (s:Shared) (σ:St) (H:Hp) (x:V) (xs:List V) (v:Value) (us:List Value) (Q:VK),Inv X pins σ H s->yF x v->yf xs us->r x xs H Q ->
  wpAny (model X.prog X.w) X.A (call (.builtin id) (v::us)) (EP X pins σ Q) X.xe s
theorem yf.one:∀ {x:V} {us:List Value},yf [x] us->∃ u,us=[u]/\yF x u:=by
 intro x us h
 cases h with | cons r t=>cases t;exact⟨_,rfl,r⟩
theorem yf.rep {xs:List V}{us:List Value}(h:yf xs us):∀ k:Nat,yf (List.replicate k xs).flatten (List.replicate k us).flatten
 | 0=>.nil
 | k+1=>by
  rw[List.replicate_succ,List.replicate_succ,List.flatten_cons,List.flatten_cons]
  exact yf.append h (yf.rep h k)
theorem V8 (its:List Value):∀ (k:Nat) (acc:List Value),
 List.foldl (λx1 x2=>x1++x2) acc.toArray (List.replicate k its.toArray)=(acc++(List.replicate k its).flatten).toArray
 | 0,acc=>by simp
 | k+1,acc=>by
  have e:acc.toArray++its.toArray=(acc++its).toArray:=by simp
  have e2:(acc++its)++(List.replicate k its).flatten=acc++(List.replicate (k+1) its).flatten:=by
   rw[List.replicate_succ,List.flatten_cons,List.append_assoc]
  rw[<-e2,<- V8 its k (acc++its),<- e,List.replicate_succ,List.foldl_cons]
section
variable {X:Cx}{pins:List (Addr × Obj)}{σ:St}{H:Hp}{s:Shared}{l b:Addr}{xs ys zs:List V}
theorem Inv.lset {its its':List Value}{n:Nat}{f:Array Value->Array Value}{t':Nat}(I:Inv X pins σ H s)(hH:H l=some (.lst xs))
 (e:s.heap.get? l=some { cls:=.type "list",data:=.seq its.toArray n }) (hf:f its.toArray=its'.toArray) (hv:yf ys its') (hz:ys.length<=sizeLine) :
 Inv X pins σ (upd H l (.lst ys)) { s with heap:=s.heap.update l (Obj.mapSeq f),toks:=t' }:=by
 have q:=PySem.IsL.update e f
 rw[hf]at q
 refine I.write (x:=l) (e:=l) (by rw[hH];exact trivial) (.inl rfl) (λb' u hb hu=>(Heap.get?_update_other s.heap (Obj.mapSeq f) (Ne.symm hb)).trans hu) ⟨_,q⟩ ?_
 exact⟨hz,its',_,hv,q⟩
theorem Inv.lnew {its:List Value}{t':Nat}(I:Inv X pins σ H s)(hv:yf ys its)(hz:ys.length<=sizeLine) :
 Inv X pins σ (upd H s.heap.objs.size (.lst ys)) { s with heap:=s.heap.push { cls:=.type "list",data:=.seq its.toArray },toks:=t' } :=
 I.laid (λ_ _ q=>Heap.get?_push_of_some _ q) (Nat.le_refl _) ⟨hz,its,0,hv,Heap.get?_push_size _ rfl⟩
theorem Inv.fresh (I:Inv X pins σ H s):H s.heap.objs.size=none:=I.hok.fresh (Nat.le_refl _)
theorem Inv.lstM (I:Inv X pins σ H s) (hH:H l=some (.lst xs)):xs.length<=sizeLine/\∃ (its:List Value) (n:Nat),yf xs its/\xs.length=its.length/\s.heap.get? l=some { cls:=.type "list",data:=.seq its.toArray n }:=by
 obtain⟨z,its,n,r,e⟩:=I.hok l _ hH
 exact⟨z,its,n,r,r.length,e⟩
theorem zbw {n:Nat}(h:n<=sizeLine):Builtin.List.listTooLong n=false:=by
 unfold Builtin.List.listTooLong
 exact decide_eq_false (by omega)
end
section
variable {X:Cx}
noncomputable def zdf:V->List V->Hp->VK->Prop:=λx vs H Q=>∃ l xs y,x=.ref l/\vs=[y]/\H l=some (.lst xs)/\xs.length < sizeLine/\Q .non (upd H l (.lst (xs++[y])))
theorem XN:MtM X "list.append" zdf:=by
 intro pins s σ H x vs v us Q I rx rv h
 obtain⟨l,xs,y,rfl,rfl,hH,hz,q⟩:=h
 cases rx
 obtain⟨u,rfl,ru⟩:=rv.one
 obtain⟨z,its,n,r,hl,e⟩:=I.lstM hH
 refine call_meets F.slot_list_append ⟨_,e,rfl⟩ F.entry_list_append (F.args_list_append_2 _ _) (PySem.list_append l its.toArray n u (by rw[List.size_toArray];omega)) ⟨e,?_⟩
 refine⟨.non,_,I.lset (its':=its++[u]) hH e (by simp) (r.append (.cons ru .nil)) ?_,rfl,q⟩
 rw[List.length_append,List.length_singleton]
 omega
noncomputable def zin:V->List V->Hp->VK->Prop:=λx vs H Q=>∃ l b xs zs,x=.ref l/\vs=[.ref b]/\H l=some (.lst xs)/\H b=some (.lst zs)/\xs.length+zs.length<=sizeLine/\Q .non (upd H l (.lst (xs++zs)))
theorem zj8:MtM X "list.extend" zin:=by
 intro pins s σ H x vs v us Q I rx rv h
 obtain⟨l,b,xs,zs,rfl,rfl,hH,hB,hz,q⟩:=h
 cases rx
 obtain⟨u,rfl,ru⟩:=rv.one
 cases ru
 obtain⟨z,its,n,r,hl,e⟩:=I.lstM hH
 obtain⟨z2,its2,n2,r2,hl2,e2⟩:=I.lstM hB
 have hsz:its.toArray.size+its2.toArray.size<=sizeLine:=by rw[List.size_toArray,List.size_toArray];omega
 have hlong:¬ (!its.toArray.isEmpty&&Builtin.List.listTooLong (its.toArray.size+its2.toArray.size))=true:=by
  rw[zbw hsz,Bool.and_false]
  exact Bool.false_ne_true
 refine call_meets F.slot_list_extend ⟨_,e,rfl⟩ F.entry_list_extend (F.args_list_extend_2 _ _)
  (AutoSeq1.list_extend_list_list_0 l its.toArray n b its2.toArray n2 hlong (by rw[List.size_toArray];omega) (by omega)) ⟨e,e2,?_⟩
 refine⟨.non,_,I.lset (its':=its++its2) hH e (by simp) (r.append r2) ?_,rfl,q⟩
 rw[List.length_append]
 omega
noncomputable def rCat:R2:=λx y H Q=>∃ l b xs zs,x=.ref l/\y=.ref b/\H l=some (.lst xs)/\H b=some (.lst zs)/\xs.length+zs.length<=sizeLine/\∀ p,H p=none->Q (.ref p) (upd H p (.lst (xs++zs)))
theorem zj9:OpR X (binaryOp .Add) rCat:=by
 intro pins s σ H x y v u Q I rx ry h
 obtain⟨l,b,xs,zs,rfl,rfl,hH,hB,hz,q⟩:=h
 cases rx
 cases ry
 obtain⟨z,its,n,r,hl,e⟩:=I.lstM hH
 obtain⟨z2,its2,n2,r2,hl2,e2⟩:=I.lstM hB
 refine PySem.P.add_list e e2 ?_ (by rw[List.size_toArray,List.size_toArray];omega)
 have ea:its.toArray++its2.toArray=(its++its2).toArray:=by simp
 rw[ea]
 exact⟨.ref _,_,I.lnew (t':=s.toks) (r.append r2) (by rw[List.length_append];omega),rfl,q _ I.fresh⟩
noncomputable def rRep:R2:=λx y H Q=>∃ l k xs,x=.ref l/\y=.int k/\H l=some (.lst xs)/\-(2 ^ 63)<=k/\k < 2 ^ 63/\xs.length*k.toNat<=sizeLine /\
 ∀ p,H p=none->Q (.ref p) (upd H p (.lst (List.replicate k.toNat xs).flatten))
theorem zhS {α:Type}(xs:List α)(k:Nat):(List.replicate k xs).flatten.length=k*xs.length:=by
 induction k with
 | zero=>simp
 | succ k ih=>rw[List.replicate_succ,List.flatten_cons,List.length_append,ih,Nat.succ_mul,Nat.add_comm]
theorem zg7:OpR X (binaryOp .Mult) rRep:=by
 intro pins s σ H x y v u Q I rx ry h
 obtain⟨l,k,xs,rfl,rfl,hH,h1,h2,hz,q⟩:=h
 cases rx
 obtain⟨t,rfl⟩:=ry
 obtain⟨z,its,n,r,hl,e⟩:=I.lstM hH
 have hlen:its.toArray.size*k.toNat<=sizeLine:=by rw[List.size_toArray,<- hl];exact hz
 have hcap:¬ its.toArray.size*k.toNat > (2 ^ 63 - 1) / 8:=by
  have:(sizeLine:Nat)<=(2 ^ 63 - 1) / 8:=by decide
  omega
 have hfit:¬ (!Builtin.List.listFitsIndex k)=true:=by
  rw[fitsIndex_both h1 h2]
  exact Bool.false_ne_true
 have hlong:¬ Builtin.List.listTooLong (its.toArray.size*k.toNat)=true:=by
  rw[zbw hlen]
  exact Bool.false_ne_true
 have hnew:List.foldl (λx1 x2=>x1++x2) #[] (List.replicate (if its.toArray.isEmpty=true then 0 else k.toNat) its.toArray)=(List.replicate k.toNat its).flatten.toArray:=by
  have f0:∀ m:Nat,List.foldl (λx1 x2=>x1++x2) #[] (List.replicate m its.toArray)=(List.replicate m its).flatten.toArray:=λm=>by
   have:=V8 its m []
   rw[List.nil_append]at this
   exact this
  rw[f0]
  cases its with
  | nil=>simp
  | cons a r'=>rw[if_neg (by simp)]
 refine wpAny_binaryOp_repeat_ref (T:="list") (U:="int") (by decide) ⟨_,e,rfl⟩ (λs'=>typeIs_int s' k t) noFill_list_mul F.fills_int_mul F.slot_int_rmul repeat_list F.slot_int_index.lookup
  (call_meets F.slot_int_rmul (typeIs_int s k t) F.entry_int_rmul (F.args_int_rmul_2 _ _) (int___rmul___int_list k t l its.toArray n)
   ⟨e,rfl,⟨_,e,rfl⟩,call_meets F.slot_list_mul ⟨_,e,rfl⟩ F.entry_list_mul (F.args_list_mul_2 _ _) (AutoListH.list___mul___list_int_3 l its.toArray n k t hfit hcap hlong) ⟨e,?_⟩⟩)
 rw[hnew]
 exact⟨.ref _,_,I.lnew (t':=s.toks) (r.rep k.toNat) (by rw[zhS,Nat.mul_comm];exact hz),rfl,q _ I.fresh⟩
end
end L2
namespace Att
open PySem PySem.W PySem.Calls PyProof.Rows
theorem XJ {P:Params}{h:Heap}:∀ (ns:List Int) (vs:List Value),WellAll P h vs (ns.map WData.int)->IntsAre vs ns:=by
 intro ns
 induction ns with
 | nil =>
  intro vs w
  rw[List.map_nil]at w
  cases w
  exact .nil
 | cons n ns ih =>
  intro vs w
  rw[List.map_cons]at w
  cases w with
  | cons a b =>
   cases a
   exact .cons _ _ (ih _ b)
theorem zfq {l:OpenLaw}{n:Nat}(hn:l.most=some n){P:Params}{h:Heap}{args:List WData}{vals:List Value}
 (hpre:l.row.toRowW.claim.pre args=true) (hwl:WellAll P h vals args) :
 ∃ a vs ns,vals=[Value.ref a]/\args=[WData.list (ns.map WData.int)]/\h.get? a=some { cls:=.type "list",data:=.seq vs.toArray }/\IntsAre vs ns/\ns.length<=n:=by
 have hsh:WShape.hasAll [] args [.list .int]=true:=(pre_splitW hpre).1
 have hc:l.pre.holds [] { args:=args }=true:=(pre_splitW hpre).2
 obtain⟨d,r,rfl,h1,h2⟩:=hasAllW_cons hsh
 obtain rfl:=hasAllW_nil h2
 obtain⟨xs,rfl,h3⟩:=hasW_list h1
 obtain⟨ns,rfl⟩:=items_int h3
 have hlen:ns.length<=n:=by
  unfold OpenLaw.pre at hc
  have h4:(WTm.not (.lt (.lit (.int (n:Int))) (.len (.arg 0)))).holds [] { args:=[.list (ns.map .int)] }=true:=by
   have h4:=(holds_andW hc).1
   rw[hn]at h4
   exact h4
  have h5:=condW_of h4 (w_not (w_lt w_lit (w_len_list (w_arg rfl))))
  rw[List.length_map]at h5
  refine Nat.le_of_not_lt λq=>?_
  have q':(n:Int) < ((ns.length:Nat):Int):=by omega
  first
   | (rw[decide_eq_true q']at h5;exact absurd h5 (by decide))
   | (simp at h5;omega)
 cases hwl with
 | cons w1 w2 =>
  cases w2
  cases w1 with
  | list ho hall=>exact⟨_,_,ns,rfl,rfl,ho,XJ ns _ hall,hlen⟩
theorem zdp (l:OpenLaw)(args:List WData):l.row.toRowW.claim.post args (.bool true) args=true :=
 postW_of (r:=l.row.toRowW) (X:=(true == true))
  (show WShape.has [] (.bool true) .bool=true by first | rfl | decide | simp[WShape.has,WShape.arms,WShape.armsAll])
  (show(WTm.eq .res (.lit (.bool true))).value [] { args:=args,res:=some (.bool true),after:=args }=some (.bool (true == true))from w_eq_bool (w_res rfl) w_lit) rfl
theorem attach_call {l:OpenLaw}{n:Nat}{q:Program}{loose:List Str}{XP:(Str->Option Value)->Heap->Prop}{YP:World->Heap->Prop}{d:DefRec}
 (hn:l.most=some n) (hdf:d.params.defaults=[])
 (call:∀ (w:World) (s₀ s₁:Shared) (mg mb:Str->Option Value) (fa:Addr) (o:Obj) (pm cd doc:Value) (a:Addr) (vs:List Value) (ns:List Int),
  Ground q loose [] XP w s₀ mg mb s₁.heap->YP w s₁.heap ->
  s₁.heap.get? fa=some o->o.data=.func (docDef d.name d.params d.body d.scope pm cd doc)->s₁.heap.CodeRec cd d.name->mg d.name=some (.ref fa) ->
  s₁.heap.get? a=some { cls:=.type "list",data:=.seq vs.toArray }->IntsAre vs ns->ns.length<=n->s₁.gens=#[] ->
  codeAny (model l.prog w) callerA (.call (.ref fa) ⟨[.ref a],[]⟩) (λr s'=>r=.ok (.ret (.bool true))/\OldK s₁.heap s'.heap/\s'.os=s₁.os/\AllBare s'.gens) s₁) :
 WalkO q loose XP YP l.row.toRowW d [] (λf vs=>PySem.call f vs):=by
 intro w s₀ s₁ mg mb G Y fa o pm cd doc dV kV ho hd hcd hD hmg hg args vals as hpre hlay hrd hwl hlo
 obtain rfl:dV=.none:=Dflts.none hD hdf
 obtain rfl:kV=.none:=Dflts.noKw hD
 obtain⟨a,vs,ns,rfl,rfl,hobj,hints,hlen⟩:=zfq hn hpre hwl
 refine enter_call (codeAny_mono (call w s₀ s₁ mg mb fa o pm cd doc a vs ns G Y ho (fd_plain hd) hcd hmg hobj hints hlen hg) λr s' hq=>?_)
 obtain⟨rfl,h2,h3,h4⟩:=hq
 exact⟨.inl ⟨.bool true,.bool true,[],rfl,λ_=>rfl,.bool true,zdp l _,λ_=>⟨List.Pairwise.nil,λ_ hm=>(nomatch hm)⟩⟩,h2,h3,h4⟩
section
variable {prog:Program}{w:World}{A:Around}{E:Value->Shared->Prop}{s:Shared}{K:Frag}
noncomputable def ledger (h:Heap)(L d:Addr):List (Addr × Obj):=(List.range h.objs.size).filterMap λa=>if a=L\/a=d then none else (h.get? a).map λo=>(a,o)
end
end Att
namespace L2
open PySem PySem.Spec PyProof.Rows
theorem VF:∀ {vs:List Value} {ns:List Int},IntsAre vs ns->yf (ns.map V.int) vs:=by
 intro vs ns h
 induction h with
 | nil=>exact .nil
 | cons n t h ih=>exact .cons ⟨t,rfl⟩ ih
noncomputable def zlv (H:Hp):Prop:=∀ b,H b=none\/∃ o xs,H b=some (.frz o (.lst xs))
theorem zgK {P:Program}{w:World}{K:PySem.W.Frag}{mg mb:Str->Option Value}{CX:CXT}{k:Nat}{fa a:Addr}{fd:FuncData}{x:Str}{sp:Sp}{s₁:Shared}{vs:List Value}{ns:List Int}
 (KX:K.In s₁.heap) (hns:s₁.heap.Ns mainGlobals mg) (hb:s₁.heap.Ns builtinsNs mb) (hbb:∀ x:Str,x≠"__name__"->mb x=bootBuiltins x) (hlim:s₁.heap.NoLimit) (hg:s₁.gens=#[])
 (ha:s₁.heap.get? a=some { cls:=.type "list",data:=.seq vs.toArray }) (hi:IntsAre vs ns) (hl:ns.length<=sizeLine) (hr:YA k callerA)
 (F:∀ base:Heap,K.In base->base.Ns mainGlobals mg->xR P w K mg base CX k fa fd [x] sp) (hbind:∀ (s:Shared) (u:Value),BindsTo s fd ⟨[u],[]⟩ [(x,u)])
 (hsp:∀ H:Hp,zlv H->SqL K H a (ns.map V.int)->sp [.ref a] H (λv _=>v=.bl true) λ_ _ _=>False)
 (hCX:∀ H e s',CX [] H s₁ (λ_ _ _=>False) e s'->False) :
 codeAny (model P w) callerA (.call (.ref fa) ⟨[.ref a],[]⟩) (λr s'=>r=.ok (.ret (.bool true))/\OldK s₁.heap s'.heap/\s'.os=s₁.os/\AllBare s'.gens) s₁:=by
 have rv:=VF hi
 have lenV:=hi.length
 -- from an abstract heap in which nothing but the script may be tracked
 have core:∀ H:Hp,zlv H->SqL K H a (ns.map V.int)->HOk P w H s₁.heap->(∀ b,H b≠none->b=a)->(H a≠none->K.lookup a=none) ->
  codeAny (model P w) callerA (.call (.ref fa) ⟨[.ref a],[]⟩) (λr s'=>r=.ok (.ret (.bool true))/\OldK s₁.heap s'.heap/\s'.os=s₁.os/\AllBare s'.gens) s₁:=by
  intro H hO hS hok hA hK
  have base_of:∀ {b:Addr} {o:Obj},s₁.heap.get? b=some o->H b=none->(zfY s₁.heap H).get? b=some o:=λe n=>zfw e n
  have noA:∀ {b:Addr} {o:Obj} {es:Array DictEntry} {ep:Nat},s₁.heap.get? b=some o->o.data=.dict es ep->H b=none:=λ{b o es ep} e d=>by
   cases q:H b with
   | none=>rfl
   | some u =>
    have e':b=a:=hA b (by rw[q];simp)
    subst e'
    rw[ha]at e;cases e
    have d':Data.seq vs.toArray _=Data.dict es ep:=d
    cases d'
  have nsK:∀ {b:Addr} {m:Str->Option Value},s₁.heap.Ns b m->(zfY s₁.heap H).Ns b m:=λ{b m} ⟨o,es,ep,e,d,r⟩=>⟨o,es,ep,base_of e (noA e d),d,r⟩
  have hKb:K.In (zfY s₁.heap H):=λb o e=>base_of (KX b o e) (by
   cases q:H b with
   | none=>rfl
   | some u =>
    have e':b=a:=hA b (by rw[q];simp)
    subst e'
    rw[hK (by rw[q];simp)]at e;cases e)
  have hM:Mod K mg (zfY s₁.heap H):=⟨hKb,nsK hns,⟨mb,nsK hb,hbb⟩,let ⟨mc,h1,h2⟩:=hlim;⟨mc,nsK h1,h2⟩⟩
  have e0:zk9 P w K mg (zfY s₁.heap H) callerA [] s₁ H:=⟨rfl,hM,λb o e=>zhV e,Nat.le_of_eq (zdy _ _),trivial,λb hb=>absurd (show b∈([]:List Addr)from hb) (by simp),hok,.of_eq hg⟩
  refine codeAny_mono ((F _ hKb (nsK hns)).run callerA [] s₁ H ⟨[.ref a],[]⟩ [.ref a] [.ref a] _ _ hr e0 (hbind s₁ (.ref a)) (.cons rfl .nil) (hsp H hO hS)) λr s' h=>?_
  cases r with
  | error e=>exact(hCX H e s' h).elim
  | ok fl =>
   cases fl with
   | next=>exact False.elim h
   | brk=>exact False.elim h
   | cont=>exact False.elim h
   | ret u =>
    obtain⟨v,H',os,bare,un,hok',r',q⟩:=h
    have q':v=.bl true:=q
    subst q'
    obtain rfl:u=Value.bool true:=r'
    refine⟨rfl,OldK.of_keep λb o e=>?_,os,bare⟩
    cases q:H b with
    | none=>exact un.keep b o e q (by intro z;exact absurd (show b∈([]:List Addr)from z) (by simp)) (by simp)
    | some u =>
     rcases hO b with z | ⟨ob,xs,z⟩
     .rw[q]at z;cases z
     .have z2:=un.frzs b ob _ z
      obtain⟨e1,_⟩:=hok b _ z
      obtain⟨e2,_⟩:=hok' b _ z2
      rw[e]at e1;cases e1
      exact e2
 cases hk:K.lookup a with
 | some o =>
  -- the script is one of the module's own objects
  have e:=KX a o hk
  rw[ha]at e
  cases e
  refine core (λ_=>none) (λ_=>.inl rfl) (.inr ⟨_,vs.toArray,_,hk,rfl,rfl,rfl,by rw[List.size_toArray,lenV];exact hl,by simpa using rv⟩) (λb u z=>by have z':(none:Option HO)=some u:=z;cases z') (λb z=>absurd rfl z) λz=>absurd rfl z
 | none =>
  refine core (λb=>if b=a then some (.frz { cls:=.type "list",data:=.seq vs.toArray } (.lst (ns.map V.int)))else none) (λb=>?_) (.inl (.inr ⟨{ cls:=.type "list",data:=.seq vs.toArray },if_pos rfl⟩)) (λb u z=>?_) (λb z=>?_) λ_=>hk
  .by_cases hb:b=a
   .exact .inr ⟨_,_,if_pos hb⟩
   .exact .inl (if_neg hb)
  .by_cases hb:b=a
   .have z':=(if_pos hb).symm.trans z
    cases z'
    subst hb
    exact⟨ha,by rw[List.length_map];exact hl,vs,_,rv,ha⟩
   .have z':=(if_neg hb).symm.trans z
    cases z'
  .by_cases hb:b=a
   .exact hb
   .exact absurd (if_neg hb) z
theorem walk_of {l:PySem.W.OpenLaw}{n k:Nat}{q:Program}{loose:List Str}{XP:(Str->Option Value)->Heap->Prop}{YP:World->Heap->Prop}{d:DefRec}{K:Params->PySem.W.Frag}{CX:World->CXT}{sp:World->Sp}{x:Str}
 (hn:l.most=some n) (hn2:n<=sizeLine) (hdf:d.params.defaults=[]) (hr:YA k callerA)
 (hY:∀ (w:World) (h:Heap),YP w h->(K w.params).In h)
 (F:∀ (w:World) (mg:Str->Option Value) (fa:Addr) (h:Heap),(K w.params).In h->h.Ns mainGlobals mg->mg d.name=some (.ref fa) ->
  ∃ fd:FuncData,(∀ (s:Shared) (u:Value),BindsTo s fd ⟨[u],[]⟩ [(x,u)]) /\
   ∀ base:Heap,(K w.params).In base->base.Ns mainGlobals mg->xR l.prog w (K w.params) mg base (CX w) k fa fd [x] (sp w))
 (hsp:∀ (w:World) (H:Hp) (a:Addr) (ns:List Int),ns.length<=n->zlv H->SqL (K w.params) H a (ns.map V.int)->sp w [.ref a] H (λv _=>v=.bl true) λ_ _ _=>False)
 (hCX:∀ (w:World) (H:Hp) (s:Shared) (e:Value) (s':Shared),CX w [] H s (λ_ _ _=>False) e s'->False) :
 PySem.W.WalkO q loose XP YP l.row.toRowW d [] (λf vs=>PySem.call f vs):=by
 refine Att.attach_call hn hdf λw s₀ s₁ mg mb fa o pm cd doc a vs ns G Y ho hd hcd hmg hobj hints hlen hg=>?_
 have KX:=hY w _ Y
 obtain⟨fd,hb,hF⟩:=F w mg fa _ KX G.T.g hmg
 exact zgK KX G.T.g G.T.b G.T.builtins G.T.nolimit hg hobj hints (Nat.le_trans hlen hn2) hr hF hb (λH hO hS=>hsp w H a ns hlen hO hS) λH e s'=>hCX w H s₁ e s'
noncomputable def Yq (s:Stmt):Arguments:=match s with
 | .FunctionDef _ a _ _ _ _ _ _ _ _=>a
 | _=>{ posonlyargs:=[],args:=[],vararg:=none,kwonlyargs:=[],kw_defaults:=[],kwarg:=none,defaults:=[] }
noncomputable def wX (s:Stmt):List Stmt:=match s with
 | .FunctionDef _ _ b _ _ _ _ _ _ _=>b
 | _=>[]
noncomputable def zn (s:Stmt):Scope:=match s with
 | .FunctionDef _ _ _ _ _ _ sc _ _ _=>sc
 | _=>{ kind:=.function,names:=[],isGenerator:=false,isCoroutine:=false }
noncomputable abbrev CX0:CXT:=λ_ _ _ _ _ _=>False
noncomputable abbrev E0:XK:=λ_ _ _=>False
theorem zly {X:Cx}:zet CX0 X E0:=λ_ _ _ _ _ _ _ h=>h.elim
set_option genInjectivity false in
set_option genSizeOf false in
set_option genCtorIdx false in
structure Fun (K:PySem.W.Frag) (x qual:Str) (st:Stmt) (f:Addr) (fd:FuncData):Prop where
 ex:∃ (oc:Value) (od:Option Addr) (kV doc pm:Value) (an:Option Addr) (cdv ct:Value) (osl:Array (Option Value)),
  fd=PySem.W.fnOf x qual (Yq st) (wX st) (zn st) .none kV doc pm an cdv ct/\K.lookup f=some ⟨oc,od,.func fd,osl⟩/\PySem.W.codeIn K cdv qual=true
 kp:PySem.W.keepIn K (.ref f)=true
section
variable {P:Program}{w:World}{K:PySem.W.Frag}{mg:Str->Option Value}{base:Heap}
theorem Fun.ok {x qual:Str}{st:Stmt}{f:Addr}{fd:FuncData}{N ps:List Str}{k:Nat}{sp:Sp}(F:Fun K x qual st f fd)(S:zA N ps (zn st))(len:∀ vs H Q E,sp vs H Q E->vs.length=ps.length)
 (hbody:∀ (cdv:Value) (A:Around) (outer:List Env) (s:Shared) (H:Hp) (vs:List V) (Q:VK) (E:XK),YA k (A.deeper (envOfC qual (zn st) s.heap.objs.size f cdv))->sp vs H Q E ->
  ∃ t,PSs (zh4 CX0 P w K mg base N qual (zn st) f cdv A outer s H E).nox (wX st) t/\t { nx:=λ_ H'=>Q .non H',rt:=Q } (start N vs) H):xR P w K mg base CX0 (k+1) f fd ps sp:=by
 obtain⟨oc,od,kV,doc,pm,an,cdv,ct,osl,rfl,lk,hcd⟩:=F.ex
 refine zlY lk hcd S len λA outer s H vs Q E hr hsp=>?_
 obtain⟨t,h,q⟩:=hbody cdv A outer s H vs Q E hr hsp
 exact⟨t,h.nox,q⟩
theorem Fun.binds {x qual:Str}{st:Stmt}{f:Addr}{fd:FuncData}{ps:List Str}(F:Fun K x qual st f fd)
 (h:∀ (kV doc pm:Value) (an:Option Addr) (cdv ct:Value) (us:List Value),us.length=ps.length->bindArgs (PySem.W.fnOf x qual (Yq st) (wX st) (zn st) .none kV doc pm an cdv ct) ⟨us,[]⟩=pure (ps.zip us)):zau K fd ps []:=by
 obtain⟨oc,od,kV,doc,pm,an,cdv,ct,osl,rfl,lk,hcd⟩:=F.ex
 exact .all (h kV doc pm an cdv ct)
theorem zhl {x qual:Str}{st:Stmt}{f:Addr}{oc:Value}{od an:Option Addr}{osl:Array (Option Value)}{kV doc pm cdv ct:Value}(l:K.lookup f=some ⟨oc,od,.func (PySem.W.fnOf x qual (Yq st) (wX st) (zn st) .none kV doc pm an cdv ct),osl⟩)
 (c:PySem.W.codeIn K cdv qual=true) (k:PySem.W.keepIn K (.ref f)=true):Fun K x qual st f (PySem.W.fnOf x qual (Yq st) (wX st) (zn st) .none kV doc pm an cdv ct):=⟨⟨oc,od,kV,doc,pm,an,cdv,ct,osl,rfl,l,c⟩,k⟩
end
theorem zee {A:Around}{k:Nat}(hr:YA k A):A.units+1 < cLine:=Nat.lt_of_le_of_lt (Nat.add_le_add_left (by decide:1<=64) _) hr.units
theorem YV {n:Nat}(h:n<=1000):n < sizeLine:=Nat.lt_of_le_of_lt h (by decide)
section
variable {X:Cx}
theorem pv (i:Nat) {x:Str} {pos:Pos} (hN:X.N[i]?=some x:=by rfl) (hv:Vis X.env.scope x:=by first | exact Or.inl rfl | exact Or.inr (Or.inl rfl) | exact Or.inr (Or.inr rfl)) (hd:(x == ("__debug__":Str))=false:=by decide)
 (hcd:(x == ("__classdict__":Str))=false:=by decide):PE X (.Name x pos) (zir i):=zkr hN hv hd hcd
end
noncomputable def yq (H H':Hp):Prop:=∀ b o,H b=some o->H' b=some o
theorem yq.refl (H:Hp):yq H H:=λ_ _ h=>h
theorem yq.trans {H H1 H2:Hp}(a:yq H H1)(b:yq H1 H2):yq H H2:=λc o h=>b c o (a c o h)
theorem yq.free {H H':Hp}(e:yq H H'){l:Addr}(h:H' l=Option.none):H l=Option.none:=by
 cases q:H l with
 | none=>rfl
 | some o =>
  rw[e l o q]at h
  cases h
theorem yq.seq {K:PySem.W.Frag}{H H':Hp}{a:Addr}{xs:List V}(e:yq H H')(h:SqL K H a xs):SqL K H' a xs:=by
 rcases h with (h | ⟨o,h⟩) | h
 .exact .inl (.inl (e _ _ h))
 .exact .inl (.inr ⟨o,e _ _ h⟩)
 .exact .inr h
section
variable {κ:Type}[DecidableEq κ]
noncomputable def zcb (kvs:List (κ × V))(k:κ):Option V:=(kvs.find? λkv=>decide (kv.1=k)).map (·.2)
noncomputable def zaY (kvs:List (κ × V))(k:κ)(v:V):List (κ × V) :=
 if (kvs.any λkv=>decide (kv.1=k))=true then kvs.map (λkv=>if kv.1=k then (kv.1,v)else kv)else kvs++[(k,v)]
theorem ZX {p:κ × V}{r:List (κ × V)}{k:κ}(e:p.1=k):zcb (p::r) k=some p.2:=by simp[zcb,List.find?_cons,e]
theorem ZO {p:κ × V}{r:List (κ × V)}{k:κ}(e:¬ p.1=k):zcb (p::r) k=zcb r k:=by simp[zcb,List.find?_cons,e]
theorem W4 (k:κ):∀ kvs:List (κ × V),(kvs.any λkv=>decide (kv.1=k))=(zcb kvs k).isSome
 | []=>rfl
 | p::r=>by
  rw[List.any_cons]
  by_cases e:p.1=k
  .simp only[ZX e,decide_eq_true e,Bool.true_or,Option.isSome_some]
  .rw[ZO e,decide_eq_false e,Bool.false_or];exact W4 k r
theorem Xe (kvs:List (κ × V))(k:κ)(v:V):(zaY kvs k v).length<=kvs.length+1:=by
 unfold zaY
 split
 .rw[List.length_map];omega
 .rw[List.length_append,List.length_cons,List.length_nil];omega
theorem zeH.isSome_eq {o:Option V}{u:Option Value}(r:zeH o u):o.isSome=u.isSome:=by
 cases o with
 | none=>cases u with
  | none=>rfl
  | some _=>exact(show False from r).elim
 | some _=>cases u with
  | none=>exact(show False from r).elim
  | some _=>rfl
theorem KV.val {kvs:List (κ × V)}{vs:List (κ × Value)}(r:KV kvs vs)(k:κ):zeH (zcb kvs k) (valueAt vs k):=by
 unfold KV at r
 induction r with
 | nil=>exact True.intro
 | @cons p q ps qs h t ih =>
  obtain⟨h1,h2⟩:=h
  by_cases e:p.1=k
  .have e':q.1=k:=h1.symm.trans e
   have b:valueAt (q::qs) k=some q.2:=by simp[valueAt,List.find?_cons,e']
   rw[ZX e,b];exact h2
  .have e':¬ q.1=k:=λz=>e (h1.trans z)
   have b:valueAt (q::qs) k=valueAt qs k:=by simp[valueAt,List.find?_cons,e']
   rw[ZO e,b];exact ih
theorem KV.any {kvs:List (κ × V)}{vs:List (κ × Value)}(r:KV kvs vs)(k:κ):(kvs.any λkv=>decide (kv.1=k))=vs.any λkv=>decide (kv.1=k):=by
 unfold KV at r
 induction r with
 | nil=>rfl
 | cons h t ih=>rw[List.any_cons,List.any_cons,ih,h.1]
theorem KV.repl {kvs:List (κ × V)}{vs:List (κ × Value)}(r:KV kvs vs)(k:κ){y:V}{u:Value}(ry:yF y u) :
 KV (kvs.map λkv=>if kv.1=k then (kv.1,y)else kv) (vs.map λkv=>if kv.1=k then (kv.1,u)else kv):=by
 unfold KV at r ⊢
 induction r with
 | nil=>exact .nil
 | @cons p q ps qs h t ih =>
  rw[List.map_cons,List.map_cons]
  refine .cons ?_ ih
  obtain⟨h1,h2⟩:=h
  by_cases e:p.1=k
  .rw[if_pos e,if_pos (h1.symm.trans e)];exact⟨h1,ry⟩
  .rw[if_neg e,if_neg (λz=>e (h1.trans z))];exact⟨h1,h2⟩
theorem KV.put {kvs:List (κ × V)}{vs:List (κ × Value)}(r:KV kvs vs)(k:κ){y:V}{u:Value}(ry:yF y u):KV (zaY kvs k y) (stored vs k u):=by
 unfold zaY stored
 rw[r.any k]
 by_cases e:(vs.any λkv=>decide (kv.1=k))=true
 .rw[if_pos e,if_pos e];exact r.repl k ry
 .rw[if_neg e,if_neg e];exact Paired.snoc r ⟨rfl,ry⟩
theorem KV.length {kvs:List (κ × V)}{vs:List (κ × Value)}(r:KV kvs vs):kvs.length=vs.length:=Paired.length r
end
theorem zdU {P:Program}{w:World}{k:Key}{u:Value}(r:yF (kV k) u):(yO P w).is k u=true:=by
 cases k with
 | inl i=>obtain⟨t,e⟩:=(show ∃ t,u=Value.int i t from r);subst e;exact zaN P w i t
 | inr x=>obtain⟨t,e⟩:=(show ∃ t,u=Value.str x t from r);subst e;exact zbl P w x t
theorem V0 {P:Program}{w:World}:∀ {ks:List Key} {us:List Value},yf (ks.map kV) us->ItemsAre (yO P w) ks us
 | [],_,r=>by rw[List.map_nil]at r;cases r;exact .nil
 | k::ks,_,r=>by
  rw[List.map_cons]at r
  cases r with
  | cons h t=>exact .cons (zdU h) (V0 t)
noncomputable abbrev KT (H:Hp):List (List Key × V)->List (List Key × Addr × Value)->Prop:=Paired λp q=>p.1=q.1/\H q.2.1=some (.tup (p.1.map kV))/\yF p.2 q.2.2
theorem KT.val {H:Hp}{kvs:List (List Key × V)}{xs:List (List Key × Addr × Value)}(r:KT H kvs xs)(k:List Key):zeH (zcb kvs k) ((atKey xs k).map (·.2)):=by
 induction r with
 | nil=>exact True.intro
 | @cons p q ps qs h t ih =>
  obtain⟨h1,_,h2⟩:=h
  by_cases e:p.1=k
  .have e':q.1=k:=h1.symm.trans e
   have b:atKey (q::qs) k=some q.2:=by simp[atKey,List.find?_cons,e']
   rw[ZX e,b];exact h2
  .have e':¬ q.1=k:=λz=>e (h1.trans z)
   have b:atKey (q::qs) k=atKey qs k:=by simp[atKey,List.find?_cons,e']
   rw[ZO e,b];exact ih
theorem KT.repl {H:Hp}{kvs:List (List Key × V)}{xs:List (List Key × Addr × Value)}(r:KT H kvs xs)(k:List Key){y:V}{u:Value}(ry:yF y u) :
 KT H (kvs.map λkv=>if kv.1=k then (kv.1,y)else kv) (xs.map (putAt k u)):=by
 induction r with
 | nil=>exact .nil
 | @cons p q ps qs h t ih =>
  rw[List.map_cons,List.map_cons]
  refine .cons ?_ ih
  obtain⟨h1,h2,h3⟩:=h
  unfold putAt
  by_cases e:p.1=k
  .rw[if_pos e,if_pos (h1.symm.trans e)];exact⟨h1,h2,ry⟩
  .rw[if_neg e,if_neg (λz=>e (h1.trans z))];exact⟨h1,h2,h3⟩
theorem KT.put {H:Hp}{kvs:List (List Key × V)}{xs:List (List Key × Addr × Value)}(r:KT H kvs xs)(k:List Key){b:Addr}{y:V}{u:Value}(hb:H b=some (.tup (k.map kV)))(ry:yF y u) :
 KT H (zaY kvs k y) (storedH xs k b u):=by
 have e:(kvs.any λkv=>decide (kv.1=k))=(atKey xs k).isSome:=by
  rw[W4,(r.val k).isSome_eq,Option.isSome_map]
 unfold zaY storedH
 rw[e]
 by_cases q:(atKey xs k).isSome=true
 .rw[if_pos q,if_pos q];exact r.repl k ry
 .rw[if_neg q,if_neg q];exact Paired.snoc r ⟨rfl,hb,ry⟩
theorem KT.keeps {H H':Hp}{kvs:List (List Key × V)}{xs:List (List Key × Addr × Value)}(r:KT H kvs xs)(ht:∀ b ys,H b=some (.tup ys)->H' b=some (.tup ys)):KT H' kvs xs :=
 Paired.mapP r λ_ _ z=>⟨z.1,ht _ _ z.2.1,z.2.2⟩
section
variable {P:Program}{w:World}{H:Hp}{h:Heap}{a:Addr}
theorem zk1 {u:HO}(ok:HOk P w H h)(e:Rd H a u):yt P w H h a u:=e.ok ok
theorem zeb {kvs:List (Key × V)}(ok:HOk P w H h)(e:Rd H a (.dK kvs)):kvs.length<=sizeLine/\(a == sysModules)=false/\∃ vs,KV kvs vs/\h.DictOf (yO P w) a vs :=
 show yt P w H h a (.dK kvs)from zk1 ok e
theorem zlZ {kvs:List (Key × V)}(ok:HOk P w H h)(e:H a=some (.dK kvs)):kvs.length<=sizeLine/\(a == sysModules)=false/\∃ vs,KV kvs vs/\h.DictOf (yO P w) a vs:=zeb ok (.inl e)
theorem Wj {ks:List Key}(ok:HOk P w H h)(e:H a=some (.tup (ks.map kV))):(tupleKind (yO P w)).is h ks a:=by
 obtain⟨_,its,r,o,h1,h2,n,h3⟩:=(show yt P w H h a (.tup (ks.map kV))from ok a _ e)
 exact⟨o,its.toArray,n,h1,h2,h3,by simpa using V0 r⟩
theorem zfe {kvs:List (List Key × V)}(ok:HOk P w H h)(e:Rd H a (.dT kvs)):kvs.length<=sizeLine/\(a == sysModules)=false /\
 ∃ xs,KT H kvs xs/\h.DictOfH (tupleKind (yO P w)) a xs:=by
 obtain⟨z,y,xs,r,o,es,ep,h1,h2,h3,h4,h5⟩:=(show yt P w H h a (.dT kvs)from zk1 ok e)
 refine⟨z,y,xs,r,o,es,ep,h1,h2,h3,h4,λx hx=>?_,h5⟩
 have all:∀ {l:List (List Key × V)} {m:List (List Key × Addr × Value)},KT H l m->∀ x∈m,(tupleKind (yO P w)).is h x.1 x.2.1:=by
  intro l m q
  induction q with
  | nil=>intro x hx;exact nomatch hx
  | @cons p q ps qs hq t ih =>
   intro x hx
   rcases List.mem_cons.mp hx with e | hx
   .subst e
    exact Wj ok (by rw[<-hq.1];exact hq.2.1)
   .exact ih x hx
 exact all r x hx
theorem zjP {kvs:List (List Key × V)}(ok:HOk P w H h)(e:H a=some (.dT kvs)):kvs.length<=sizeLine/\(a == sysModules)=false /\
 ∃ xs,KT H kvs xs/\h.DictOfH (tupleKind (yO P w)) a xs:=zfe ok (.inl e)
end
noncomputable def ziS (H:Hp)(a:Addr)(y:V)(r:Option V):Prop :=
 (∃ kvs k,Rd H a (.dK kvs)/\y=kV k/\r=zcb kvs k)\/∃ kvs k b,Rd H a (.dT kvs)/\y=.ref b/\H b=some (.tup (k.map kV))/\r=zcb kvs k
noncomputable def zgp (H:Hp)(a:Addr)(y v:V)(H':Hp):Prop :=
 (∃ kvs k,H a=some (.dK kvs)/\y=kV k/\kvs.length < sizeLine/\H'=upd H a (.dK (zaY kvs k v))) \/
 ∃ kvs k b,H a=some (.dT kvs)/\y=.ref b/\H b=some (.tup (k.map kV))/\kvs.length < sizeLine/\H'=upd H a (.dT (zaY kvs k v))
theorem zgp.k {H:Hp}{a:Addr}{kvs:List (Key × V)}{k:Key}{v:V}(e:H a=some (.dK kvs))(hl:kvs.length < sizeLine):zgp H a (kV k) v (upd H a (.dK (zaY kvs k v))):=.inl ⟨kvs,k,e,rfl,hl,rfl⟩
theorem zgp.t {H:Hp}{a b:Addr}{kvs:List (List Key × V)}{k:List Key}{v:V}(e:H a=some (.dT kvs))(eb:H b=some (.tup (k.map kV)))(hl:kvs.length < sizeLine) :
 zgp H a (.ref b) v (upd H a (.dT (zaY kvs k v))):=.inr ⟨kvs,k,b,e,rfl,eb,hl,rfl⟩
section
variable {X:Cx}{pins:List (Addr × Obj)}{σ:St}{H:Hp}{s:Shared}{a:Addr}{y v:V}{u r:Value}{o:Option V}{A:Around}{E:Value->Shared->Prop}
theorem Inv.big (I:Inv X pins σ H s):sysModules < s.heap.objs.size:=by
 have h:mainGlobals < s.heap.objs.size:=(I.mod.glob.keeps I.bk).lt
 exact Nat.lt_trans (by decide) h
theorem zej {Q:Value->Shared->Prop}(hu:A.units+1 < cLine)(I:Inv X pins σ H s)(g:ziS H a y (some v))(ry:yF y u)(h:∀ w' s',Inv X pins σ H s'->yF v w'->Q w' s') :
 wpAny (model X.prog X.w) A (getItem (.ref a) u) Q E s:=by
 rcases g with ⟨kvs,k,e,ey,l⟩ | ⟨kvs,k,b,e,ey,eb,l⟩
 .subst ey
  obtain⟨z,hd,vs,rel,dd⟩:=zeb I.hok e
  obtain⟨w',hw,rw'⟩:=zeH.some_of (v:=v) (o:=valueAt vs k) (by rw[l];exact rel.val k)
  exact wpAny_getItem_of (zdU ry) dd.mapOf hw (h w' _ (I.tok _) rw')
 .subst ey
  cases (show u=Value.ref b from ry)
  obtain⟨z,hd,xs,rel,dd⟩:=zfe I.hok e
  obtain⟨w',hw,rw'⟩:=zeH.some_of (v:=v) (o:=(atKey xs k).map (·.2)) (by rw[l];exact rel.val k)
  obtain⟨p,hp,hp2⟩:=Option.map_eq_some_iff.mp hw
  refine wpAny_getItem_heap (tupleKind_room_in1 hu) (Wj I.hok eb) dd hp ?_
  rw[hp2]
  exact h w' _ (I.tok _) rw'
theorem d_in {Q:Value->Shared->Prop}(hu:A.units+1 < cLine)(I:Inv X pins σ H s)(g:ziS H a y o)(ry:yF y u)(h:∀ s',Inv X pins σ H s'->Q (.bool o.isSome) s') :
 wpAny (model X.prog X.w) A (compareOp .In u (.ref a)) Q E s:=by
 rcases g with ⟨kvs,k,e,ey,l⟩ | ⟨kvs,k,b,e,ey,eb,l⟩
 .subst ey
  obtain⟨z,hd,vs,rel,dd⟩:=zeb I.hok e
  refine wpAny_in_of (zdU ry) hd dd.mapOf ?_
  rw[<-(rel.val k).isSome_eq,<- l]
  exact h _ (I.tok _)
 .subst ey
  cases (show u=Value.ref b from ry)
  obtain⟨z,hd,xs,rel,dd⟩:=zfe I.hok e
  refine wpAny_in_heap (tupleKind_room_in1 hu) (Wj I.hok eb) hd dd ?_
  have q:=(rel.val k).isSome_eq
  rw[Option.isSome_map]at q
  rw[<-q,<- l]
  exact h _ (I.tok _)
theorem zh0 {Q:Value->Shared->Prop}(hu:A.units+1 < cLine)(I:Inv X pins σ H s)(g:ziS H a y o)(ry:yF y u)(h:∀ s',Inv X pins σ H s'->Q (.bool (!o.isSome)) s') :
 wpAny (model X.prog X.w) A (compareOp .NotIn u (.ref a)) Q E s:=by
 rcases g with ⟨kvs,k,e,ey,l⟩ | ⟨kvs,k,b,e,ey,eb,l⟩
 .subst ey
  obtain⟨z,hd,vs,rel,dd⟩:=zeb I.hok e
  refine wpAny_notIn_of (zdU ry) hd dd.mapOf ?_
  rw[<-(rel.val k).isSome_eq,<- l]
  exact h _ (I.tok _)
 .subst ey
  cases (show u=Value.ref b from ry)
  obtain⟨z,hd,xs,rel,dd⟩:=zfe I.hok e
  refine wpAny_notIn_heap (tupleKind_room_in1 hu) (Wj I.hok eb) hd dd ?_
  have q:=(rel.val k).isSome_eq
  rw[Option.isSome_map]at q
  rw[<-q,<- l]
  exact h _ (I.tok _)
theorem zbk {h':Heap}{t':Nat}{ob:HO}(I:Inv X pins σ H s)(mu:Mut (H a))(hs:Heap.SameBut a s.heap h')(he:∃ q,h'.get? a=some q)(new:yt X.prog X.w (upd H a ob) h' a ob) :
 Inv X pins σ (upd H a ob) { s with heap:=h',toks:=t' } :=
 I.write (x:=a) (e:=a) mu (.inl rfl) (λb q hb z=>(hs.2 b hb).trans z) he new
theorem zjJ {P:Program}{w:World}{H':Hp}{h':Heap}{kvs:List (Key × V)}{vs:List (Key × Value)}(z:kvs.length<=sizeLine)(hd:(a == sysModules)=false)(rel:KV kvs vs)(dd:h'.DictOf (yO P w) a vs) :
 yt P w H' h' a (.dK kvs):=⟨z,hd,vs,rel,dd⟩
theorem zdL {H':Hp}{Q:Unit->Shared->Prop}(hu:A.units+1 < cLine)(I:Inv X pins σ H s)(g:zgp H a y v H')(ry:yF y u)(rv:yF v r)(h:∀ s',Inv X pins σ H' s'->Q () s') :
 wpAny (model X.prog X.w) A (setItem (.ref a) u r) Q E s:=by
 rcases g with ⟨kvs,k,e,ey,l,eH⟩ | ⟨kvs,k,b,e,ey,eb,l,eH⟩
 .subst ey eH
  obtain⟨z,hd,vs,rel,dd⟩:=zlZ I.hok e
  have hz:vs.length<=sizeLine:=by rw[<-rel.length];exact z
  have hl:(zaY kvs k v).length<=sizeLine:=by have:=Xe kvs k v;omega
  refine wpAny_setItem_pairs (hsz:=hz) (zdU ry) dd λh' dd' hs=>h _ ?_
  have he:∃ q,h'.get? a=some q:=let ⟨q,_,_,hq,_⟩:=dd';⟨q,hq⟩
  exact zbk I (by rw[e];exact True.intro) hs he (zjJ hl hd (rel.put k rv) dd')
 .subst ey eH
  cases (show u=Value.ref b from ry)
  obtain⟨z,hd,xs,rel,dd⟩:=zjP I.hok e
  have hz:xs.length<=sizeLine:=by rw[<-Paired.length rel];exact z
  have hl:(zaY kvs k v).length<=sizeLine:=by have:=Xe kvs k v;omega
  refine wpAny_setItem_heap (hsz:=hz) (tupleKind_room_in1 hu) (Wj I.hok eb) dd λh' dd' hs=>h _ ?_
  obtain⟨q,es,ep,hq,h2,h3,h4,_,h5⟩:=dd'
  refine zbk I (by rw[e];exact True.intro) hs ⟨q,hq⟩ ⟨hl,hd,_,(rel.put k eb rv).keeps λc ys ec=>?_,q,es,ep,hq,h2,h3,h4,h5⟩
  rw[zp (ziZ ec e (λz=>nomatch z))]
  exact ec
end
noncomputable def zmc (i:Expr):Prop:=∀ ov iv,subscripted i false ov iv=operate [ov,iv] (getItem ov iv)
theorem zia {prog:Program}{w:World}{A:Around}{E:Value->Shared->Prop}{s:Shared}{env:Env}{value slice:Expr}{pos:Pos}{T id:String}{Q:Value->Shared->Prop}
 (hl:typeLookup (.type T) "__getitem__"=pure (some (.builtin id))) (hs:zmc slice)
 (h:wpAny (model prog w) A (eval value env) (λo s₁=>wpAny (model prog w) A (eval slice env) (λi s₂=>s₂.TypeIs o T/\wpAny (model prog w) A (getItem o i) Q E s₂) E s₁) E s) :
 wpAny (model prog w) A (eval (.Subscript value slice pos) env) Q E s:=by
 refine Subscript_ (wpAny_mono h (λo s₁ h₁=>wpAny_mono h₁ (λi s₂ h₂=>?_) λ_ _ x=>x) λ_ _ x=>x)
 obtain⟨hT,h₂⟩:=h₂
 unfold subscriptTail
 refine wpAny_bind ?_
 rw[getitemInPython_of_ne hT.not_modules]
 refine wpAny_bind (wpAny_specialOf hT hl ?_)
 have fin:wpAny (model prog w) A (subscripted slice false o i) (λr s₃=>wpAny (model prog w) A (letTemporaryGo value o r>>=λ_=>pure r) Q E s₃) E s₂:=by
  rw[hs o i]
  exact wpAny_operating (wpAny_mono h₂ (λr s₃ h₃=>wpAny_bind (wpAny_letTemporaryGo (wpAny_pure h₃))) λ_ _ x=>x)
 first
  | exact wpAny_pure (wpAny_bind fin)
  | exact wpAny_bind (wpAny_pure (wpAny_bind fin))
  | exact wpAny_bind fin
theorem za7 {X:Cx} {pins:List (Addr × Obj)} {σ:St} {H:Hp} {s:Shared} {a:Addr} {y:V} {o:Option V} (I:Inv X pins σ H s) (g:ziS H a y o):s.TypeIs (.ref a) "dict":=by
 rcases g with ⟨kvs,k,e,_,_⟩ | ⟨kvs,k,b,e,_,_,_⟩
 .obtain⟨_,_,vs,_,dd⟩:=zeb I.hok e
  exact dd.typeIs
 .obtain⟨_,_,xs,_,dd⟩:=zfe I.hok e
  exact dd.typeIs
noncomputable def zlV (td ty:TE):TE:=fun σ H Q=>td σ H λx H1=>ty σ H1 λy H2=>∃ a v,x=.ref a/\ziS H2 a y (some v)/\Q v H2
noncomputable def zlx (td ty tv:TE):TS:=λD σ H=>tv σ H λv H1=>td σ H1 λx H2=>ty σ H2 λy H3=>∃ a H4,x=.ref a/\zgp H3 a y v H4/\D.nx σ H4
section
variable {X:Cx}{o i e value:Expr}{pos pos' tpos:Pos}{td ty tv:TE}
theorem zhT (hu:X.A.units+1 < cLine)(ho:PE X o td)(hi:PE X i ty)(hs:zmc i):PE X (.Subscript o i pos) (zlV td ty):=by
 intro pins s σ H Q I h
 refine zia PySem.F.slot_dict_getitem.lookup hs (thn (ho pins s σ H _ I h) λu s1 ⟨x,H1,I1,rx,q1⟩=>thn (hi pins s1 σ H1 _ I1 q1) λiv s2 hh9=>?_)
 obtain⟨y,H2,I2,ry,a,v,ex,g,q2⟩:=hh9
 subst ex
 obtain rfl:u=Value.ref a:=rx
 exact⟨za7 I2 g,zej hu I2 g ry λw' s3 I3 rw'=>⟨v,H2,I3,rw',q2⟩⟩
theorem ziQ (hu:X.A.units+1 < cLine)(ho:PE X o td)(hi:PE X i ty)(hv:PE X value tv)(hs:swapsWith value (some (.Subscript o i pos')) pos.line X.env=pure false) :
 PS X (.Assign [.Subscript o i pos'] value pos) (zlx td ty tv):=by
 intro pins s σ H D I h
 refine wpAny_Assign_Subscript (thn (hv pins s σ H _ I h) λr s1 ⟨v,H1,I1,rv,q1⟩=>thn (ho pins s1 σ H1 _ I1 q1) λu s2 ⟨x,H2,I2,rx,q2⟩=>thn (hi pins s2 σ H2 _ I2 q2) λiv s3 hh9=>?_) hs
 obtain⟨y,H3,I3,ry,a,H4,ex,g,q3⟩:=hh9
 subst ex
 obtain rfl:u=Value.ref a:=rx
 exact zdL hu I3 g ry rv λs4 I4=>⟨σ,H4,I4,q3⟩
end
theorem zgh {P:Program} {w:World} {H:Hp} (h:Heap) (hb:sysModules < h.objs.size):yt P w H (h.push { cls:=.type "dict",data:=.dict #[] }) h.objs.size (.dK []) :=
 ⟨Nat.zero_le _,beq_eq_false_iff_ne.mpr (Ne.symm (Nat.ne_of_lt hb)),[],.nil,Heap.DictOf.new h⟩
theorem zb1 {P:Program} {w:World} {H:Hp} (h:Heap) (hb:sysModules < h.objs.size):yt P w H (h.push { cls:=.type "dict",data:=.dict #[] }) h.objs.size (.dT []) :=
 ⟨Nat.zero_le _,beq_eq_false_iff_ne.mpr (Ne.symm (Nat.ne_of_lt hb)),[],.nil,_,#[],0,Heap.get?_push_size _ rfl,⟨rfl,rfl,rfl⟩,rfl,rfl,List.nodup_nil⟩
noncomputable def zjH:TE:=λ_ H Q=>∀ p,H p=none->Q (.ref p) (upd H p (.dK []))
noncomputable def zkC:TE:=λ_ H Q=>∀ p,H p=none->Q (.ref p) (upd H p (.dT []))
section
variable {X:Cx}{pos:Pos}
theorem zgk:PE X (.Dict [] [] pos) zjH:=λpins s σ H Q I h =>
 wpAny_Dict_empty ⟨.ref s.heap.objs.size,_,I.laid (a:=s.heap.objs.size) (o:=.dK []) (t':=s.toks) (λ_ _ q=>Heap.get?_push_of_some _ q) (Nat.le_refl _) (zgh s.heap I.big),rfl,h _ (I.hok.fresh (Nat.le_refl _))⟩
theorem zgs:PE X (.Dict [] [] pos) zkC:=λpins s σ H Q I h =>
 wpAny_Dict_empty ⟨.ref s.heap.objs.size,_,I.laid (a:=s.heap.objs.size) (o:=.dT []) (t':=s.toks) (λ_ _ q=>Heap.get?_push_of_some _ q) (Nat.le_refl _) (zb1 s.heap I.big),rfl,h _ (I.hok.fresh (Nat.le_refl _))⟩
end
theorem zaZ {X:Cx}:vL X (.builtin "isinstance") (λxs H Q=>∃ x n t b,xs=[x,.ty n]/\zbV X.K H x t/\PySem.W.kitOne X.K t (.type n)=some b/\Q (.bl b) H):=by
 intro pins s σ H xs us Q I r h
 obtain⟨x,n,t,b,rfl,ty,e,q⟩:=h
 obtain⟨u,w',rfl,rx,rt⟩:=zcP r
 cases (show w'=Value.type n from rt)
 exact zd4 I rx ty e λtk=>⟨.bl b,H,I.tok _,rfl,q⟩
theorem zfZ {X:Cx}:OpR X (compareOp .Is) (λx y H Q=>∃ i j,x=.bl i/\y=.bl j/\Q (.bl (i == j)) H):=by
 intro pins s σ H x y v u Q I rx ry h
 obtain⟨i,j,rfl,rfl,q⟩:=h
 cases rx
 cases ry
 refine wpAny_is_plain (by rfl) ⟨.bl (i == j),H,I,?_,q⟩
 cases i <;> cases j <;> rfl
theorem zaI {X:Cx}:OpR X (compareOp .IsNot) (λx y H Q=>∃ i j,x=.bl i/\y=.bl j/\Q (.bl (!(i == j))) H):=by
 intro pins s σ H x y v u Q I rx ry h
 obtain⟨i,j,rfl,rfl,q⟩:=h
 cases rx
 cases ry
 refine wpAny_isNot_plain (by rfl) ⟨.bl (!(i == j)),H,I,?_,q⟩
 cases i <;> cases j <;> rfl
noncomputable def zgY (K:PySem.W.Frag):R2:=λx y H Q=>∃ a b xs ys,x=.ref a/\y=.ref b/\SqT K H a xs/\SqT K H b ys/\xs.length+ys.length<=sizeLine /\
 (xs=[]->Q (.ref b) H)/\(xs≠[]->ys=[]->Q (.ref a) H)/\(xs≠[]->ys≠[]->∀ p,H p=none->Q (.ref p) (upd H p (.tup (xs++ys))))
theorem zgT {X:Cx}:OpR X (binaryOp .Add) (zgY X.K):=by
 intro pins s σ H x y v u Q I rx ry h
 obtain⟨a,b,xs,ys,rfl,rfl,ha,hb,hz,q0,q1,q2⟩:=h
 by_cases hx:xs=[]
 .subst hx
  cases rx
  cases ry
  obtain⟨its,r,p,_⟩:=I.tuple ha
  obtain⟨its',r',p',_⟩:=I.tuple hb
  cases r
  obtain⟨⟨cls,dd,data,sl⟩,ho,hc,n,hd⟩:=id p
  obtain⟨⟨cls2,dd2,data2,sl2⟩,ho2,hc2,n2,hd2⟩:=id p'
  simp only at hc hd hc2 hd2
  subst hc hd hc2 hd2
  exact concat_meets ⟨_,ho,rfl⟩ ⟨_,ho2,rfl⟩ noFill_tuple_add seq_tuple_add PySem.F.slot_tuple_add PySem.F.entry_tuple_add (PySem.F.args_tuple_add_2 _ _)
   (tuple_addW0 a b #[] its'.toArray n n2 dd dd2 sl sl2 rfl) ⟨ho,ho2,⟨.ref b,H,I,rfl,q0 rfl⟩⟩
 .refine ziw pins s σ H (.ref a) (.ref b) v u Q I rx ry ⟨a,b,xs,ys,rfl,rfl,ha,hb,hx,hz,?_⟩
  exact⟨λe=>q1 hx e,λe=>q2 hx e⟩
inductive Zf:St->St->Prop where
 | nil:Zf [] []
 | non {a:Option V} {s t:St}:Zf s t->Zf (none::s) (a::t)
 | same {a:Option V} {s t:St}:Zf s t->Zf (a::s) (a::t)
theorem Zf.refl:∀ s:St,Zf s s
 | []=>.nil
 | _::r=>.same (Zf.refl r)
theorem Zf.length {s t:St}(h:Zf s t):s.length=t.length:=by
 induction h with
 | nil=>rfl
 | non _ ih=>simp[ih]
 | same _ ih=>simp[ih]
theorem Zf.get {s t:St}(h:Zf s t):∀ (i:Nat) (v:V),s[i]?=some (some v)->t[i]?=some (some v):=by
 induction h with
 | nil=>intro i v e;exact e
 | non _ ih =>
  intro i v e
  cases i with
  | zero=>simp at e
  | succ i=>simpa using ih i v (by simpa using e)
 | same _ ih =>
  intro i v e
  cases i with
  | zero=>simpa using e
  | succ i=>simpa using ih i v (by simpa using e)
theorem Zf.set {n:Nat}{v:V}:∀ {s t:St},Zf s t->s[n]?=some none->Zf s (t.set n (some v))
 | _,_,.nil,_=>.nil
 | _,_,.non (a:=a) h,e=>by
  cases n with
  | zero=>exact .non h
  | succ n=>exact .non (Zf.set h (by simpa using e))
 | _,_,.same (a:=a) h,e=>by
  cases n with
  | zero =>
   have e':a=none:=by simpa using e
   subst e'
   exact .non h
  | succ n=>exact .same (Zf.set h (by simpa using e))
theorem Inv.sub {X:Cx}{pins:List (Addr × Obj)}{σ σ':St}{H:Hp}{s:Shared}(I:Inv X pins σ H s)(h:Zf σ' σ):Inv X pins σ' H s:=I.weak h.length h.get
noncomputable def PIf (X:Cx)(ifs:List Expr)(t:TT):Prop :=
 ∀ (pins:List (Addr × Obj)) (s:Shared) (σ:St) (H:Hp) (Q:Bool->Hp->Prop),Inv X pins σ H s->t σ H Q ->
  wpAny (model X.prog X.w) X.A (forIn ifs true λc r=>if r=true then do let ok<-isTrue c X.env (eval c X.env);pure (ForInStep.yield ok)else pure (ForInStep.yield r)) (TP X pins σ Q) X.xe s
noncomputable def tYes:TT:=λ_ H Q=>Q true H
theorem zeA {X:Cx}:PIf X [] tYes:=by
 intro pins s σ H Q I h
 rw[List.forIn_nil]
 exact wpAny_pure ⟨H,I,h⟩
theorem zdi {X:Cx}{c:Expr}{t:TT}(hc:PT X c t):PIf X [c] t:=by
 intro pins s σ H Q I h
 rw[List.forIn_cons]
 refine wpAny_bind ?_
 rw[if_pos rfl]
 refine wpAny_bind (thn (hc pins s σ H Q I h) λb s1 q=>wpAny_pure ?_)
 show wpAny _ _ (forIn [] b _) _ _ _
 rw[List.forIn_nil]
 exact wpAny_pure q
section
variable {prog:Program}{w:World}{A:Around}{R:Result->Shared->Prop}{s:Shared}
theorem Ye {elt target iter:Expr}{ifs:List Expr}{scope:Scope}{pos:Pos}{it acc:Value}{env:Env}(I:Nat->Shared->Prop)
 (turn:∀ n s,I n s->wpAny (model prog w) A (pyNext it) (λr s₁=>match r with
  | none=>R (.ok .next) s₁
  | some v=>wpAny (model prog w) A (letOwnedTupleGo target it v) (λ_ s₁'=>wpAny (model prog w) A (assign target env v) (λ_ s₂ =>
   wpAny (model prog w) A (forIn ifs true λc r=>if r=true then do let ok<-isTrue c env (eval c env);pure (ForInStep.yield ok)else pure (ForInStep.yield r)) (λok s₃ =>
    if ok=true then wpAny (model prog w) A (eval elt env) (λx s₄ =>
     wpAny (model prog w) A (call (.builtin "list.append") [acc,x]) (λ_ s₅=>∃ m,m < n/\I m s₅) (λ_ _=>False) s₄) (λ_ _=>False) s₃
    else ∃ m,m < n/\I m s₃) (λ_ _=>False) s₂) (λ_ _=>False) s₁') (λ_ _=>False) s₁) (λ_ _=>False) s)
 (n:Nat) (h:I n s) :
 codeAny (model prog w) A (.compLoop (.ListComp elt [⟨target,iter,ifs,0⟩] scope pos) 0 it acc env) R s:=by
 refine codeAny_loop rfl I (λn s hI=>?_) n h
 show wpAny _ A ((compTurn (.ListComp elt [⟨target,iter,ifs,0⟩] scope pos) 0 it acc env).onRaise (λx=>do noteFrame x env;theTreesLotGoes x)) _ _ s
 refine wpAny_noted ?_
 rw[compTurn_list]
 refine wpAny_bind (wpAny_standAt (wpAny_bind (wpAny_mono (turn n s hI) (λr s₁ h₁=>?_) λ_ _ h'=>h'.elim)))
 cases r with
 | none=>exact wpAny_pure h₁
 | some v =>
  refine wpAny_bind (wpAny_mono h₁ (λ_ s₁' h₁'=>?_) λ_ _ h'=>h'.elim)
  refine wpAny_bind (wpAny_mono h₁' (λ_ s₂ h₂=>wpAny_bind (wpAny_mono h₂ (λok s₃ h₃=>?_) λ_ _ h'=>h'.elim)) λ_ _ h'=>h'.elim)
  cases ok with
  | false=>exact wpAny_pure ⟨rfl,h₃⟩
  | true =>
   exact wpAny_bind (wpAny_bind (wpAny_mono h₃ (λx s₄ h₄=>wpAny_bind (wpAny_mono h₄ (λ_ s₅ h₅=>wpAny_pure (wpAny_pure ⟨rfl,h₅⟩)) λ_ _ h'=>h'.elim)) λ_ _ h'=>h'.elim))
end
noncomputable def tLC (wi:TI)(n:Nat)(g:TG)(tt:TT)(te:TE):TE:=fun σ H Q=>wi σ H λJ H1=>∀ D,H1 D=none->∃ W:Nat->Nat->List V->Hp->Prop,(∃ m,W 0 m [] (upd H1 D (.lst []))) /\
 ∀ i m ys H2,W i m ys H2->(J.stop i H2/\Q (.ref D) H2)\/(J.go i H2/\ys.length < sizeLine/\∀ x H3,J.yld i H2 x H3->g x (List.replicate n none++σ) H3 fun σ2 H4=>tt σ2 H4 λb H5 =>
  if b=true then te σ2 H5 λy H6=>H6 D=some (.lst ys)/\∃ m',m' < m/\W (i+1) m' (ys++[y]) (upd H6 D (.lst (ys++[y])))else ∃ m',m' < m/\W (i+1) m' ys H5)
theorem Yj {α:Type}:∀ {l:List (Str × α)} {y:Str},y∈l.map Prod.fst->∃ c,l.lookup y=some c
 | [],_,h=>by simp at h
 | (k,v)::r,y,h=>by
  by_cases e:y=k
  .exact⟨v,by simp[List.lookup,e]⟩
  .obtain⟨c,hc⟩:=Yj (l:=r) (y:=y) (by simpa [e]using h)
   have hb:(y == k)=false:=beq_eq_false_iff_ne.mpr e
   exact⟨c,by simp only[List.lookup,hb];exact hc⟩
theorem xu {α:Type}{P:α->Prop}:∀ p∈([]:List α),P p:=λ_ h=>nomatch h
theorem all_cons {α:Type}{P:α->Prop}{a:α}{l:List α}(h:P a)(t:∀ p∈l,P p):∀ p∈a::l,P p:=λp hp=>by
 rcases List.mem_cons.mp hp with e | hp
 .rw[e];exact h
 .exact t p hp
theorem gs1 (σ:St)(v:V)(H:Hp)(Q:St->Hp->Prop)(h:YR 0 v (List.replicate 1 none++σ) H Q):YR 0 v (List.replicate 1 none++σ) H (fun σ2 H2=>Zf (List.replicate 1 none++σ) σ2/\Q σ2 H2):=⟨.set (.refl _) rfl,h⟩
theorem gs2 {K:PySem.W.Frag}(σ:St)(v:V)(H:Hp)(Q:St->Hp->Prop)(h:zll K 2 (zay (YR 0) (zay (YR 1) zlc)) v (List.replicate 2 none++σ) H Q) :
 zll K 2 (zay (YR 0) (zay (YR 1) zlc)) v (List.replicate 2 none++σ) H (fun σ2 H2=>Zf (List.replicate 2 none++σ) σ2/\Q σ2 H2):=by
 obtain⟨a,xs,e,hq,hl,x,r,e1,y,r2,e2,e3,q⟩:=h
 exact⟨a,xs,e,hq,hl,x,r,e1,y,r2,e2,e3,.set (.set (.refl _) rfl) rfl,q⟩
noncomputable def Wp (X:Cx)(L M:List Str)(scope:Scope)(cl:List (Str × Addr))(s₀:Shared)(H₀:Hp)(ex:List Addr)(pn:List (Addr × Obj)):Cx :=
 { X with N:=L++M,s₀:=s₀,H₀:=H₀,env:=compEnvC scope cl s₀.heap.objs.size X.env,outer:=X.stack,stack:=X.stack,ex:=ex,fn:=λ_=>false,pn:=pn,xe:=λ_ _=>False }
structure yU (X:Cx) (L M:List Str) (scope:Scope) (cl:List (Str × Addr)):Prop where
 clos:closureFor scope X.env=pure cl
 cell:∀ y∈scope.names,y.2≠.cell
 kind:scope.kind=.function
 names:∀ y∈scope.names,y.2=.local->scope.names.lookup y.1=some .local
 sub:∀ y c,cl.lookup y=some c->X.env.cells.lookup y=some c
 has:∀ y,((relabel scope X.env).names.lookup y=some .cell\/(relabel scope X.env).names.lookup y=some .free)->∃ c,cl.lookup y=some c
 mlen:M.length=X.N.length
 msk:∀ (i:Nat) y,M[i]?=some y->Vis (relabel scope X.env) y->X.N[i]?=some y
 vis:∀ (i:Nat) y,M[i]?=some y->Vis (relabel scope X.env) y->((relabel scope X.env).names.lookup y=some .cell\/(relabel scope X.env).names.lookup y=some .free)
 out:∀ (i:Nat) y,M[i]?=some y->Vis (relabel scope X.env) y->Vis X.env.scope y/\X.env.kindOf y≠some .local
theorem Inv.letGo {X:Cx}{pins:List (Addr × Obj)}{σ:St}{H:Hp}{s:Shared}{C:Addr}{h':Heap}(I:Inv X pins σ H s)(f:zci X pins H C)(sb:Heap.SameBut C s.heap h'):Inv X pins σ H { s with heap:=h' }:=by
 obtain⟨f0,f1,f2,f3,f4,f5⟩:=f
 have ne:∀ b,b∉[C]->b≠C:=λb hb z=>hb (by rw[z];exact List.mem_singleton.mpr rfl)
 refine I.call' (s':={ s with heap:=h' }) (ch:=[C]) rfl ⟨λb o e _ _ hx=>(sb.2 b (ne b hx)).trans e,λb o e _ _ hx=>⟨o.slots,(sb.2 b (ne b hx)).trans e⟩,λ_ _ _ n _=>n,λb o e hx=>⟨o,(sb.2 b (ne b hx)).trans e⟩,λ_ _ q=>q,λ_ _ _ q=>q,λ_ ps q=>⟨#[],by rw[q];simp⟩⟩ ?_ I.bare λb hb=>?_
 .intro b ob e
  refine(I.hok b ob e).stay (λc v hc q=>(sb.2 c ?_).trans q) (λ_ q=>q) λ_ _ q=>q
  rintro rfl
  rcases hc with z | z
  .rw[<-z,f0]at e;cases e
  .rw[f0]at z;cases z
 .rw[List.mem_singleton.mp hb]
  exact⟨f3,f1,f4,f5⟩
theorem zdW {use:Option (Value->Sem Unit)}{Qf:Value->Shared->Prop}{X:Cx}{elt tg iter:Expr}{ifs:List Expr}{L M:List Str}{scope:Scope}{cl:List (Str × Addr)}{pos:Pos}{wi:TI}{g:TG}{tt:TT}{te:TE}
 (hc:X.calm=true) (S:yU X L M scope cl) (hi:PI X tg iter wi)
 (hgS:∀ (σ:St) (v:V) (H:Hp) (Q:St->Hp->Prop),g v (List.replicate L.length none++σ) H Q->g v (List.replicate L.length none++σ) H (fun σ2 H2=>Zf (List.replicate L.length none++σ) σ2/\Q σ2 H2))
 (hg:∀ s₀ H₀ ex pn,PG (Wp X L M scope cl s₀ H₀ ex pn) tg g) (ht:∀ s₀ H₀ ex pn,PIf (Wp X L M scope cl s₀ H₀ ex pn) ifs tt) (he:∀ s₀ H₀ ex pn,PE (Wp X L M scope cl s₀ H₀ ex pn) elt te)
 (hs:∀ x,foldedSetIterable iter X.env x=pure x:=by intro _;rfl) :
 ∀ (pos':Pos) (pins:List (Addr × Obj)) (s:Shared) (σ:St) (H:Hp) (Q:VK),Inv X pins σ H s->tLC wi L.length g tt te σ H Q ->
  (∀ (D C:Addr) (H':Hp) (s':Shared),Inv X pins σ H' s'->(∃ m,s'.heap.Ns C m)->zci X pins H' C->Q (.ref D) H'->compPost (model X.prog X.w) X.A X.xe use Qf (.ref D) C (.ok .next) s') ->
  wpAny (model X.prog X.w) X.A (comprehension (.ListComp elt [⟨tg,iter,ifs,0⟩] scope pos) scope X.env pos' (newList []) false (eval iter X.env) use) Qf X.xe s:=by
 intro pos' pins s σ H Q I h fin
 refine wpAny_comprehension_free (use:=use) rfl hs S.clos S.kind S.names (thn (hi pins s σ H _ I h) λv s1 h1=>thn h1 λitv s2 h2=>?_)
 obtain⟨it,fp,tn,J,H2,e,I2,T,st2,f2,q⟩:=h2
 subst e
 have hD:H2 s2.heap.objs.size=none:=I2.hok.fresh (Nat.le_refl _)
 obtain⟨W,⟨m0,w0⟩,turn⟩:=q _ hD
 refine wpAny_newObj_type (wpAny_newFunctionEnv S.cell (by intro y hy;simp at hy) (λh₁ hns₁ hsb₁=>?_) S.kind)
 have I3:Inv X pins σ (upd H2 s2.heap.objs.size (.lst [])) { s2 with heap:=s2.heap.push { cls:=.type "list",data:=.seq ([]:List Value).toArray } }:=by
  refine I2.laid (t':=s2.toks) (λb u e=>Heap.get?_push_of_some _ e) (Nat.le_refl _) ?_
  exact⟨Nat.zero_le _,[],0,.nil,Heap.get?_push_size _ rfl⟩
 generalize hs3:({ s2 with heap:=s2.heap.push { cls:=.type "list",data:=.seq ([]:List Value).toArray } }:Shared)=s3 at I3 hns₁ hsb₁ ⊢
 have hobj:∀ b∈fp,b < s2.heap.objs.size:=λb hb=>by
  obtain⟨o,ho,_⟩:=T.obj _ _ st2 b hb
  exact Heap.lt_size ho
 have hz3:s3.heap.objs.size=s2.heap.objs.size+1:=by rw[<-hs3];exact Heap.size_push ..
 have k23:∀ b o,s2.heap.get? b=some o->s3.heap.get? b=some o:=λb o e=>by rw[<-hs3];exact Heap.get?_push_of_some _ e
 have k34:∀ b o,s3.heap.get? b=some o->h₁.get? b=some o:=λb o e=>(hsb₁.2 b (Nat.ne_of_lt (Heap.lt_size e))).trans (Heap.get?_push_of_some _ e)
 generalize hH3:upd H2 s2.heap.objs.size (.lst [])=H3 at I3 w0
 have hfp3:∀ b∈fp,H3 b=none:=λb hb=>by
  rw[<-hH3,zp (Nat.ne_of_lt (hobj b hb))]
  exact(f2 b hb).1
 have nfs:∀ b∈fp,b∉frs X.stack:=λb hb z=>by
  obtain⟨_,n1,n2,_⟩:=f2 b hb
  rcases List.mem_cons.mp (I3.stkSub b z)with e | e
  .exact n1 e
  .exact n2 e
 let Y:Cx:=Wp X L M scope cl s3 H3 fp (X.pn++pins)
 have OkY:Y.Ok:=by
  refine⟨I.ok.mod,S.kind,I.ok.glob,I.ok.blt,Nat.le_refl _,λx y c h1 h2=>I.ok.inj x y c (S.sub x c h1) (S.sub y c h2),λx hx=>S.has x hx,(λx c h _=>absurd h Bool.false_ne_true),I.ok.hd,I.ok.frames,.inl rfl,λb hb=>⟨?_,λx c e z=>?_⟩,
   λb o e=>I3.bs b o e,Nat.le_trans I.ok.bsz I3.sz,λb o e hb=>?_,nfs,I3.stack,I3.stkFree⟩
  .show b≠s3.heap.objs.size
   exact Nat.ne_of_lt (Nat.lt_of_lt_of_le (hobj b hb) (by rw[hz3];exact Nat.le_succ _))
  .exact(f2 b hb).2.2.2.2.1 x c (S.sub x c e) z
  .rcases(f2 b hb).2.2.2.1 with z | z
   .exact I.ok.noex b o e z
   .have h1:=Heap.lt_size e
    have h2:=I.ok.bsz
    exact absurd (Nat.lt_of_lt_of_le h1 (Nat.le_trans h2 z)) (Nat.lt_irrefl _)
 have I4:Inv Y [] (List.replicate L.length none++σ) H3 { s3 with heap:=h₁,toks:=s3.toks+([]:List (Str × Value)).length }:=by
  refine⟨OkY,rfl,I3.bare,Un.kept k34,⟨_,hns₁,λi y v e1 e2 e3=>?_⟩,λx c e=>?_,I3.hok.fresh (Nat.le_refl _),λx c e=>I3.freeC x c (S.sub x c e),λp hp=>?_,I3.hok.kept k34,?_⟩
  .have hi:¬ i < L.length:=λhlt=>by
    rw[List.getElem?_append_left (by simpa using hlt),List.getElem?_replicate]at e2
    split at e2 <;> cases e2
   have e0':M[i - L.length]?=some y:=by
    have e1:(L++M)[i]?=some y:=e1
    rw[List.getElem?_append_right (by omega)]at e1
    exact e1
   have e2':σ[i - L.length]?=some (some v):=by rw[List.getElem?_append_right (by simpa using Nat.le_of_not_lt hi)]at e2;simpa using e2
   have e1':=S.msk _ y e0' e3
   obtain⟨ov,ok⟩:=S.out _ y e0' e3
   obtain⟨m,hn,hl⟩:=I3.loc
   obtain⟨u,ru,lk⟩:=hl _ y v e1' e2' ov
   refine⟨u,ru,?_⟩
   rcases lk with ⟨hk,_⟩ | ⟨_,c,hc',hcell⟩
   .exact absurd hk ok
   .have kn:=S.vis _ y e0' e3
    obtain⟨c',hc2⟩:=S.has y kn
    have:=S.sub y c' hc2
    rw[hc']at this
    cases this
    refine .inr ⟨kn,c,hc2,?_⟩
    obtain⟨o,ho,hd⟩:=hcell
    exact⟨o,k34 _ _ ho,hd⟩
  .obtain⟨v,o,ho,hd⟩:=I3.cell x c (S.sub x c e)
   exact⟨v,o,k34 _ _ ho,hd⟩
  .have hp':p∈X.pn++pins:=List.append_nil (X.pn++pins) ▸ hp
   obtain⟨a1,a2,a3,a4,a5⟩:=I3.pin p hp'
   refine⟨k34 _ _ a1,a2,Nat.ne_of_lt (Heap.lt_size a1),λz=>?_,a5⟩
   rcases List.mem_cons.mp (I3.stkSub p.1 z)with e | e
   .exact a3 e
   .exact a4 e
  .show(List.replicate L.length none++σ).length=(L++M).length
   rw[List.length_append,List.length_append,List.length_replicate,I.len,S.mlen]
 have fpY:∀ {H':Hp},(∀ b∈fp,H' b=none)->∀ b∈fp,zci Y [] H' b:=λ{H'} hn b hb=>by
  refine⟨hn b hb,(OkY.exf b hb).1,nfs b hb,.inl hb,(OkY.exf b hb).2,λp hp=>?_⟩
  have hp':p∈X.pn++pins:=List.append_nil (X.pn++pins) ▸ hp
  exact(f2 b hb).2.2.2.2.2 p hp'
 have st4:tn 0 h₁:=T.keep _ _ _ st2 λb hb o e=>k34 b o (k23 b o e)
 -- behind the loop
 have back:∀ (H':Hp) (s':Shared),Inv Y [] (List.replicate L.length none++σ) H' s'->Q (.ref s2.heap.objs.size) H'->compPost (model X.prog X.w) X.A X.xe use Qf (.ref s2.heap.objs.size) s3.heap.objs.size (.ok .next) s':=λH' s' J' q'=>by
  obtain⟨m,hn,_⟩:=J'.loc
  refine fin _ _ H' s' (I3.call' (ch:=fp) J'.os J'.base J'.hok J'.bare λb hb=>?_) ⟨m,hn⟩ (I3.fpOk (Nat.le_refl _) J'.free) q'
  obtain⟨_,n1,_,n3,n4,n5⟩:=f2 b hb
  exact⟨n3,n1,n4,n5⟩
 have loop:codeAny (model X.prog X.w) X.A (.compLoop (.ListComp elt [⟨tg,iter,ifs,0⟩] scope pos) 0 (.ref it) (.ref s2.heap.objs.size) (compEnvC scope cl s3.heap.objs.size X.env))
  (compPost (model X.prog X.w) X.A X.xe use Qf (.ref s2.heap.objs.size) s3.heap.objs.size) { s3 with heap:=h₁,toks:=s3.toks+([]:List (Str × Value)).length }:=by
  refine Ye (λn s'=>∃ i ys H',Inv Y [] (List.replicate L.length none++σ) H' s'/\tn i s'.heap/\(∀ b∈fp,H' b=none)/\W i n ys H') ?_ m0 ⟨0,[],H3,I4,st4,hfp3,w0⟩
  rintro n s5 ⟨i,ys,H5,I5,st5,fr5,w5⟩
  rcases turn i n ys H5 w5 with ⟨stop,qn⟩ | ⟨go,hlen,step⟩
  .refine thn (T.done Y rfl rfl rfl hc i [] s5 _ H5 _ I5 (fpY fr5) st5 stop) λr s6 hh9=>?_
   obtain⟨hr,I6⟩:=hh9
   subst hr
   exact back H5 s6 I6 qn
  .refine thn (T.item Y rfl rfl rfl hc i [] s5 _ H5 _ I5 (fpY fr5) st5 go) λr s6 hh9=>?_
   obtain⟨u,hr,h6⟩:=hh9
   subst hr
   refine thn h6 λ_ s7 hh9=>?_
   obtain⟨x,H7,I7,r7,y7,st7,fr7⟩:=hh9
   have I7':=I7.pinned (fpY fr7) (T.obj _ _ st7)
   have g7:=hgS σ x H7 _ (step x H7 y7)
   refine thn (hg _ _ _ _ _ s7 _ H7 x u _ I7' r7 g7) λ_ s8 hh9=>?_
   obtain⟨σ8,H8,I8,sub8,q8⟩:=hh9
   have again:∀ {σ9:St} {H9:Hp} {s9:Shared} {zs:List V},Inv Y ([]++Wm fp s7.heap) σ9 H9 s9->Zf (List.replicate L.length none++σ) σ9->(∃ m',m' < n/\W (i+1) m' zs H9) ->
    ∃ m,m < n/\∃ i ys H',Inv Y [] (List.replicate L.length none++σ) H' s9/\tn i s9.heap/\(∀ b∈fp,H' b=none)/\W i m ys H':=λ{σ9 H9 s9 zs} I9 sub9 w9=>by
    obtain⟨m',hm,w9⟩:=w9
    refine⟨m',hm,i+1,zs,H9,(I9.sub sub9).unpinned,T.keep _ _ _ st7 λb hb o e=>(I9.pin (b,o) (List.mem_append_right _ (List.mem_append_right _ (wF hb e)))).1,λb hb=>?_,w9⟩
    obtain⟨o,e,d⟩:=T.obj _ _ st7 b hb
    exact(I9.pin (b,o) (List.mem_append_right _ (List.mem_append_right _ (wF hb e)))).2.1
   refine thn (ht _ _ _ _ _ s8 σ8 H8 _ I8 q8) λb s9 hh9=>?_
   obtain⟨H9,I9,q9⟩:=hh9
   cases b with
   | false =>
    rw[if_neg Bool.false_ne_true]at q9
    rw[if_neg Bool.false_ne_true]
    exact again I9 sub8 q9
   | true =>
    rw[if_pos rfl]at q9
    rw[if_pos rfl]
    refine thn (he _ _ _ _ _ s9 σ8 H9 _ I9 q9) λy s10 hh9=>?_
    obtain⟨yv,H10,I10,r10,hD10,w10⟩:=hh9
    obtain⟨z10,its,k,rv,e10⟩:ys.length<=sizeLine/\∃ (its:List Value) (n:Nat),yf ys its/\s10.heap.get? s2.heap.objs.size=some { cls:=.type "list",data:=.seq its.toArray n }:=I10.hok _ _ hD10
    have hl10:s10.heap.PlainList s2.heap.objs.size its.toArray:=⟨k,e10⟩
    refine wpAny_list_append_plain (hsz:=by rw[List.size_toArray,<- rv.length];exact z10) hl10 λh11 hl11 sb11=>?_
    obtain⟨k',e11⟩:=hl11
    have I11:Inv Y ([]++Wm fp s7.heap) σ8 (upd H10 s2.heap.objs.size (.lst (ys++[yv]))) { s10 with heap:=h11 }:=by
     refine I10.write (x:=s2.heap.objs.size) (e:=s2.heap.objs.size) (t':=s10.toks) (by rw[hD10];exact True.intro) (.inl rfl) (λb u hb e=>(sb11.2 b hb).trans e) ⟨_,e11⟩ ?_
     refine⟨by rw[List.length_append];show ys.length+1<=sizeLine;exact hlen,its++[y],k',rv.append (.cons r10 .nil),?_⟩
     rw[e11]
     simp
    exact again I11 sub8 w10
 exact codeAny_compStart_list loop (T.self _ 0 _ _ _ st4 loop)
theorem zhm {X:Cx}{elt tg iter:Expr}{ifs:List Expr}{L M:List Str}{scope:Scope}{cl:List (Str × Addr)}{pos:Pos}{wi:TI}{g:TG}{tt:TT}{te:TE}
 (hc:X.calm=true) (S:yU X L M scope cl) (hi:PI X tg iter wi)
 (hgS:∀ (σ:St) (v:V) (H:Hp) (Q:St->Hp->Prop),g v (List.replicate L.length none++σ) H Q->g v (List.replicate L.length none++σ) H (fun σ2 H2=>Zf (List.replicate L.length none++σ) σ2/\Q σ2 H2))
 (hg:∀ s₀ H₀ ex pn,PG (Wp X L M scope cl s₀ H₀ ex pn) tg g) (ht:∀ s₀ H₀ ex pn,PIf (Wp X L M scope cl s₀ H₀ ex pn) ifs tt) (he:∀ s₀ H₀ ex pn,PE (Wp X L M scope cl s₀ H₀ ex pn) elt te)
 (hs:∀ x,foldedSetIterable iter X.env x=pure x:=by intro _;rfl) :
 PE X (.ListComp elt [⟨tg,iter,ifs,0⟩] scope pos) (tLC wi L.length g tt te):=by
 intro pins s σ H Q I h
 rw[eval_ListComp]
 refine zdW hc S hi hgS hg ht he hs _ pins s σ H Q I h λD C H' s' I' ⟨m,hn⟩ f q=>⟨m,hn,λh' sb=>⟨.ref D,_,I'.letGo f sb,rfl,q⟩⟩
theorem zhg {i:Nat}{x:Str}{px spos:Pos}{X:Cx}{elt tg iter:Expr}{ifs:List Expr}{L M:List Str}{scope:Scope}{cl:List (Str × Addr)}{pos:Pos}{wi:TI}{g:TG}{tt:TT}{te:TE}
 (hN:X.N.Nodup) (hi':X.N[i]?=some x) (hx:Loc X.env.scope x) (hc:X.calm=true) (S:yU X L M scope cl) (hi:PI X tg iter wi)
 (hgS:∀ (σ:St) (v:V) (H:Hp) (Q:St->Hp->Prop),g v (List.replicate L.length none++σ) H Q->g v (List.replicate L.length none++σ) H (fun σ2 H2=>Zf (List.replicate L.length none++σ) σ2/\Q σ2 H2))
 (hg:∀ s₀ H₀ ex pn,PG (Wp X L M scope cl s₀ H₀ ex pn) tg g) (ht:∀ s₀ H₀ ex pn,PIf (Wp X L M scope cl s₀ H₀ ex pn) ifs tt) (he:∀ s₀ H₀ ex pn,PE (Wp X L M scope cl s₀ H₀ ex pn) elt te)
 (hs:∀ x,foldedSetIterable iter X.env x=pure x:=by intro _;rfl)
 (hsw:swapsWith (.ListComp elt [⟨tg,iter,ifs,0⟩] scope pos) (some (.Name x px)) spos.line X.env=pure true:=by rfl)
 (hf:X.fn x=true\/X.env.scope.names.lookup x=some .local:=by first | exact .inl rfl | exact .inr rfl | assumption) :
 PS X (.Assign [.Name x px] (.ListComp elt [⟨tg,iter,ifs,0⟩] scope pos) spos) (zln (tLC wi L.length g tt te) (YR i)):=by
 intro pins s σ H D I h
 rw[exec_Assign_Name_used _ _ _ _ hsw]
 refine wpAny_bind (wpAny_standAt (wpAny_bind ?_))
 show wpAny _ X.A (do let _<-comprehension (.ListComp elt [⟨tg,iter,ifs,0⟩] scope pos) scope X.env _ (newList []) false (eval iter X.env) (some (assign (.Name x px) X.env))) _ _ s
 refine wpAny_bind (thn (zdW (use:=some (assign (.Name x px) X.env)) (Qf:=λ_ s'=>SP X pins D .next s') hc S hi hgS hg ht he hs _ pins s σ H _ I h λD' C H' s' I' ⟨m,hn⟩ f q=>?_) λ_ s' hq=>wpAny_pure (wpAny_pure hq))
 have hob:∀ b∈[C],∃ o,s'.heap.get? b=some o/\∀ v,o.data≠.cell v:=λb hb=>by
  rw[List.mem_singleton.mp hb]
  obtain⟨o,es,ep,e,d,_⟩:=hn
  exact⟨o,e,λv z=>by rw[z]at d;cases d⟩
 have I2:=I'.pinned (fp:=[C]) (λb hb=>by rw[List.mem_singleton.mp hb];exact f) hob
 refine thn (zr (pos:=px) hN hi' hx hf _ s' σ H' (.ref D') (.ref D') _ I2 rfl q) λ_ s2 hh9=>?_
 obtain⟨σ2,H2,I3,q3⟩:=hh9
 obtain⟨o,es,ep,e,d⟩:=hn
 have pn:=I3.pin (C,o) (List.mem_append_right _ (List.mem_append_right _ (wF (List.mem_singleton.mpr rfl) e)))
 exact⟨m,⟨o,es,ep,pn.1,d⟩,λh' sb=>⟨σ2,H2,I3.unpinned.letGo ⟨pn.2.1,f.2⟩ sb,q3⟩⟩
noncomputable def Wb (names rn dn:List (Str × NameKind))(N M cn:List Str):Bool :=
 names.all (λy=>decide (y.2≠.cell))&&names.all (λy=>decide (y.2=.local->names.lookup y.1=some .local)) &&
 rn.all (λy=>decide ((y.2=.cell\/y.2=.free)->y.1∈cn)) &&
 (M.length == N.length)&&(M.zip N).all (λp=>decide ((rn.lookup p.1=some .local\/rn.lookup p.1=some .cell\/rn.lookup p.1=some .free)->p.1=p.2)) &&
 M.all (λy=>decide ((rn.lookup y=some .local\/rn.lookup y=some .cell\/rn.lookup y=some .free) ->
  (rn.lookup y=some .cell\/rn.lookup y=some .free)/\(dn.lookup y=some .local\/dn.lookup y=some .cell\/dn.lookup y=some .free)/\dn.lookup y≠some .local))
theorem wQ {X:Cx}{L N M cn:List Str}{scope:Scope}{cl:List (Str × Addr)}{rn dn:List (Str × NameKind)}(hr:(relabel scope X.env).names=rn)(hd:X.env.scope.names=dn)(hN:X.N=N)
 (clos:closureFor scope X.env=pure cl) (kind:scope.kind=.function) (hc:cl.map Prod.fst=cn) (good:Wb scope.names rn dn N M cn=true) (sub:∀ p∈cl,X.env.cells.lookup p.1=some p.2):yU X L M scope cl:=by
 unfold Wb at good
 simp only[Bool.and_eq_true,List.all_eq_true,decide_eq_true_eq]at good
 obtain⟨⟨⟨⟨⟨g1,g2⟩,g3⟩,g5⟩,g6⟩,g4⟩:=good
 have g5:M.length=N.length:=by simpa using g5
 refine⟨clos,g1,kind,g2,λy c h=>sub (y,c) (PySem.mem_of_lookup h),λy h=>?_,by rw[hN];exact g5,λi y e v=>?_,λi y e v=>?_,λi y e v=>?_⟩
 .rw[hr]at h
  have hy:y∈cn:=by
   rcases h with h | h
   .exact g3 _ (PySem.mem_of_lookup h) (.inl rfl)
   .exact g3 _ (PySem.mem_of_lookup h) (.inr rfl)
  exact Yj (by rw[hc];exact hy)
 .unfold Vis at v
  rw[hr]at v
  have hi:=(List.getElem?_eq_some_iff.mp e).1
  have hj:i < N.length:=by rw[<-g5];exact hi
  have hz:(M.zip N)[i]?=some (y,N[i]):=by
   rw[List.getElem?_zip_eq_some]
   exact⟨e,List.getElem?_eq_getElem hj⟩
  have:=g6 _ (List.mem_of_getElem? hz) v
  rw[hN,List.getElem?_eq_getElem hj]
  exact congrArg some this.symm
 .unfold Vis at v
  rw[hr]at v ⊢
  exact(g4 y (List.mem_of_getElem? e) v).1
 .unfold Vis at v
  rw[hr]at v
  obtain⟨_,k1,k2⟩:=g4 y (List.mem_of_getElem? e) v
  refine⟨?_,?_⟩
  .unfold Vis;rw[hd];exact k1
  .show X.env.scope.names.lookup y≠_;rw[hd];exact k2
end L2
namespace PySem
open Sem (wp)
open AutoSeq1 (wpAny_loadPart')
section
variable {prog:Program}{w:World}{A:Around}{E:Value->Shared->Prop}{s:Shared}
theorem vT {it l:Addr}{i:Nat}{items}{x:Value}{Q:Value->Shared->Prop}(hit:s.heap.IsTupleIter it l i)
 (hl:s.heap.IsTuple l items) (hx:items[i]?=some x)
 (hQ:∀ h',h'.IsTupleIter it l (i+1)->Heap.SameBut it s.heap h'->Q x { s with heap:=h' }) :
 wpAny (model prog w) A (Builtin.SmallTypes.nextOf (.ref it)) Q E s:=by
 obtain⟨o,ho,hc,hd⟩:=id hit
 obtain⟨ol,hol,_,nl,hdl⟩:=hl
 unfold Builtin.SmallTypes.nextOf
 refine wpAny_bind (wpAny_callSpecial?_slot (name:=Str.ofString "__next__") hit.typeIs F.slot_tuple_iterator_next
  (wpAny_call_entry F.slot_tuple_iterator_next hit.typeIs F.entry_tuple_iterator_next ?_ (F.args_tuple_iterator_next_1 _)))
 show wpAny _ _ (field (.ref it) 0>>=_) _ _ s
 refine wpAny_bind (wpAny_field ho hd (x:=.ref l) rfl ?_)
 show wpAny _ _ (if (Value.ref l == Value.none)=true then _ else _) _ _ s
 rw[if_neg (show ¬ ((Value.ref l == Value.none)=true)from Bool.false_ne_true)]
 show wpAny _ _ (field (.ref it) 1>>=_) _ _ s
 refine wpAny_bind (wpAny_field ho hd (x:=.int i 0) rfl ?_)
 show wpAny _ _ (seqItems? (.ref l)>>=_) _ _ s
 refine wpAny_bind (wpAny_seqItems hol hdl ?_)
 simp only[Int.toNat_natCast,hx]
 refine wpAny_bind (wpAny_setField ho hd (by simp) (wpAny_pure ⟨x,rfl,wpAny_pure (hQ _ ?_ (Heap.SameBut.update ..))⟩))
 exact⟨_,Heap.get?_update_self _ ho (Obj.isFreed_of_fields (Obj.data_mapFields hd _)),(Obj.cls_mapFields ..).trans hc,by
  rw[Obj.data_mapFields hd];simp[rawInt]⟩
theorem xN {it l:Addr}{i:Nat}{items}{Q:Value->Shared->Prop}(hh:A.handled=none)
 (hit:s.heap.IsTupleIter it l i) (hl:s.heap.IsTuple l items) (hx:items[i]?=none)
 (hE:∀ h' e,Heap.ExtBut it s.heap h'->(∃ o,h'.get? e=some o/\o.cls=.type "StopIteration")->E (.ref e) { s with heap:=h' }) :
 wpAny (model prog w) A (Builtin.SmallTypes.nextOf (.ref it)) Q E s:=by
 obtain⟨o,ho,hc,hd⟩:=id hit
 obtain⟨ol,hol,_,nl,hdl⟩:=hl
 unfold Builtin.SmallTypes.nextOf
 refine wpAny_bind (wpAny_callSpecial?_slot (name:=Str.ofString "__next__") hit.typeIs F.slot_tuple_iterator_next
  (wpAny_call_entry F.slot_tuple_iterator_next hit.typeIs F.entry_tuple_iterator_next ?_ (F.args_tuple_iterator_next_1 _)))
 show wpAny _ _ (field (.ref it) 0>>=_) _ _ s
 refine wpAny_bind (wpAny_field ho hd (x:=.ref l) rfl ?_)
 show wpAny _ _ (if (Value.ref l == Value.none)=true then _ else _) _ _ s
 rw[if_neg (show ¬ ((Value.ref l == Value.none)=true)from Bool.false_ne_true)]
 show wpAny _ _ (field (.ref it) 1>>=_) _ _ s
 refine wpAny_bind (wpAny_field ho hd (x:=.int i 0) rfl ?_)
 show wpAny _ _ (seqItems? (.ref l)>>=_) _ _ s
 refine wpAny_bind (wpAny_seqItems hol hdl ?_)
 simp only[Int.toNat_natCast,hx]
 refine wpAny_bind (wpAny_rule (wpAny_bind (wpAny_setField ho hd (by simp) ?_)))
 show wpAny _ _ (newExc (.type "StopIteration") []>>=_) _ _ _
 refine wpAny_bind ?_
 simp only[newExc,newTuple]
 refine wpAny_bind (wpAny_newObj_type ?_ (by size_fits))
 refine wpAny_bind (m:=firstArgMember _ _) (wpAny_of_eq (a:=Value.none) (by first | rfl | (simp only[firstArgMember];rfl)) ?_)
 refine wpAny_newObj_type ?_ (by size_fits)
 simp only[raiseNew]
 refine wpAny_bind (wpAny_handled ?_)
 first | rw[show A.in1.handled=none from hh] | rw[hh]
 refine wpAny_bind (wpAny_pure (wpAny_throw ?_))
 exact hE _ _ (((Heap.SameBut.update ..).extBut.push _).push _) ⟨_,Heap.get?_push_size _ rfl,rfl⟩
end
theorem Yg {prog:Program}{w:World}{A:Around}{E:Value->Shared->Prop}{s:Shared}{e it l:Addr}{i:Nat}{items:Array Value}{old:Value}{Q:Option Value->Shared->Prop}(hh:A.handled=none)
 (he:IsEnum s.heap e it i old) (hit:s.heap.IsTupleIter it l i) (hl:s.heap.IsTuple l items) (hx:items[i]?=none)
 (hQ:∀ h',Heap.ExtBut it s.heap h'->Q none { s with heap:=h' }):wpAny (model prog w) A (pyNext (.ref e)) Q E s:=by
 have hT:s.TypeIs (.ref e) "enumerate":=⟨_,he,rfl⟩
 unfold pyNext
 refine wpAny_bind (wpAny_attempt (wpAny_callSpecial?_slot (name:=Str.ofString "__next__") hT F.slot_enumerate_next
  (wpAny_call_entry F.slot_enumerate_next hT F.entry_enumerate_next ?_ (F.args_enumerate_next_1 _))))
 show wpAny _ _ (field (.ref e) 2>>=_) _ _ _
 refine wpAny_bind (wpAny_field he rfl (x:=.ref it) rfl ?_)
 refine wpAny_bind (xN hh hit hl hx λh' x he' hx'=>?_)
 obtain⟨o,ho,hc⟩:=hx'
 refine wpAny_bind (wpAny_isInstance (T:="StopIteration") (b:=true) ⟨o,ho,hc⟩ isSubtype_stop ?_)
 exact wpAny_pure (hQ _ he')
theorem vQ {prog:Program}{w:World}{A:Around}(hh:A.handled=none)(it l:Addr)(hne:l≠it)(items:Array Value) :
 Draws prog w A it [it,l] items.size (λi v=>items[i]?=some v) (λi h=>h.IsTupleIter it l i/\h.IsTuple l items) where
 live:=λ_ _ st=>let ⟨o,ho,_⟩:=st.1;⟨o,ho⟩
 frame:=λ_ _ _ st hk=>by
  obtain⟨⟨o,ho,r⟩,⟨o2,ho2,r2⟩⟩:=st
  exact⟨⟨o,hk it (by simp) o ho,r⟩,⟨o2,hk l (by simp) o2 ho2,r2⟩⟩
 item:=λi s Q E hi st hQ=>by
  refine vT st.1 st.2 (x:=items[i]) (by simp[hi]) λh' hit' hs'=>?_
  exact hQ _ h' s.toks (by simp[hi]) ⟨hit',st.2.extBut hs'.extBut hne⟩ hs'
 done:=λs Q E st hE=>xN hh st.1 st.2 (by simp) hE
theorem Y6 (l:Addr)(items:Array Value)(n:Nat)(dd:Option Addr)(sl:Array (Option Value)) :
 Meets (Builtin.«enumerate.__new__» ⟨[.type "enumerate",.ref l],[]⟩) (λ_ R s=>s.heap.get? l=some { cls:=.type "tuple",dict:=dd,data:=.seq items n,slots:=sl } /\
  R (.ok (.ret (.ref (s.heap.push { cls:=.type "tuple_iterator",data:=.fields #[.ref l,.int 0 0] }).objs.size)))
   { s with heap:=(s.heap.push { cls:=.type "tuple_iterator",data:=.fields #[.ref l,.int 0 0] }).push { cls:=.type "enumerate",data:=.fields #[.none,.bool false,.ref s.heap.objs.size,rawInt 0,.none,.none] } }) :=
 .of_wp λprog w A R s h=>by
  obtain⟨hp,g,d,tk,os⟩:=s;obtain⟨hl,h⟩:=h
  have hsub:=sub_enumerate
  have hL:Heap.IsTuple (Shared.heap ⟨hp,g,d,tk,os⟩) l items:=⟨_,hl,rfl,n,rfl⟩
  wp_walk using wpAny_loadPart' hl
  refine wpAny_stack_any λst=>wpAny_pure ?_
  split
  .rename_i c _ _ _ _ _
   cases (c == Value.type "enumerate")
   .wp_walk using wpAny_loadPart' hl,wpAny_pyIter_tuple hL
    exact⟨_,rfl,h⟩
   .wp_walk using wpAny_loadPart' hl,wpAny_pyIter_tuple hL
    exact⟨_,rfl,h⟩
  .wp_walk using wpAny_loadPart' hl,wpAny_pyIter_tuple hL
   exact⟨_,rfl,h⟩
section
variable {prog:Program}{w:World}{A:Around}{E:Value->Shared->Prop}{s:Shared}
theorem Yf {l:Addr}{items:Array Value}{Q:Value->Shared->Prop}
 (hl:s.heap.IsTuple l items)
 (h:∀ h',IsEnum h' (s.heap.objs.size+1) s.heap.objs.size 0 .none->h'.IsTupleIter s.heap.objs.size l 0->h'.objs.size=s.heap.objs.size+2 ->
  (∀ b o,s.heap.get? b=some o->h'.get? b=some o)->Q (.ref (s.heap.objs.size+1)) { s with heap:=h' }) :
 wpAny (model prog w) A (call (.type "enumerate") [.ref l]) Q E s:=by
 obtain⟨⟨cls,dd,data,sl⟩,ho,hc,n,hd⟩:=hl
 simp only at hc hd
 subst hc hd
 refine callType_new F.called_enumerate (by decide) (F.typeCall_enumerate_1 _) (F.newCall_enumerate_1 _) (λobj=>F.args_object_init_2 obj _) F.entry_enumerate_new
  (Y6 l items n dd sl) ⟨ho,?_⟩
 have hz:(s.heap.push { cls:=.type "tuple_iterator",data:=.fields #[.ref l,.int 0 0] }).objs.size=s.heap.objs.size+1:=Heap.size_push ..
 show _/\_
 rw[hz]
 have he:IsEnum ((s.heap.push { cls:=.type "tuple_iterator",data:=.fields #[.ref l,.int 0 0] }).push
  { cls:=.type "enumerate",data:=.fields #[.none,.bool false,.ref s.heap.objs.size,rawInt 0,.none,.none] }) (s.heap.objs.size+1) s.heap.objs.size 0 .none:=by
  have:=Heap.get?_push_size (s.heap.push { cls:=.type "tuple_iterator",data:=.fields #[.ref l,.int 0 0] })
   (o:={ cls:=.type "enumerate",data:=.fields #[.none,.bool false,.ref s.heap.objs.size,rawInt 0,.none,.none] }) rfl
  rw[hz]at this;exact this
 refine⟨⟨_,he,rfl⟩,h _ he ⟨_,Heap.get?_push_of_some _ (Heap.get?_push_size _ rfl),rfl,rfl⟩ (by rw[Heap.size_push,hz]) λb o x=>Heap.get?_push_of_some _ (Heap.get?_push_of_some _ x)⟩
end
end PySem
namespace L2
open PySem PySem.Spec PyProof.Rows
section
variable {X:Cx}{pins:List (Addr × Obj)}{σ:St}{H:Hp}{s:Shared}{h':Heap}
theorem Inv.grown {ch:List Addr}{T:Addr}{o:HO}{t':Nat}(I:Inv X pins σ H s)(hch:∀ b∈ch,zci X pins H b)(hT:s.heap.objs.size<=T)(k:∀ b u,b∉ch->s.heap.get? b=some u->h'.get? b=some u)
 (new:yt X.prog X.w (upd H T o) h' T o):Inv X pins σ (upd H T o) { s with heap:=h',toks:=t' }:=by
 have hn:H T=none:=I.hok.fresh hT
 have neT:∀ b u,s.heap.get? b=some u->b≠T:=λb u e=>Nat.ne_of_lt (Nat.lt_of_lt_of_le (Heap.lt_size e) hT)
 have nch:∀ b u,H b=some u->b∉ch:=λb u e z=>by rw[(hch b z).1]at e;cases e
 refine I.step (g':=s.gens) (d':=s.drawn) (ch:=ch) (λb hb=>?_) (λb u _ _ hc e _=>k b u hc e) (λb u _ _ hc e _=>⟨u.slots,k b u hc e⟩) (λb u _ e n=>by rw[zp (neT b u e)];exact n)
  (λb u hc e=>⟨u,k b u hc e⟩) (λb xs e=>by rw[zp (zm e hn)];exact e) (λb u xs e=>by rw[zp (zm e hn)];exact e) (λb ps e=>⟨#[],by rw[zp (zm e hn),e];simp⟩) (λm hm=>?_) (λb u e=>?_) I.bare
 .obtain⟨_,n1,_,n3,n4,n5⟩:=hch b hb
  exact⟨n3,n1,n4,n5⟩
 .obtain⟨ob,es,ep,ho,r⟩:=hm
  exact⟨ob,es,ep,k _ ob (λz=>(hch _ z).2.1 rfl) ho,r⟩
 .by_cases hb:b=T
  .subst hb;rw[zo]at e;cases e;exact new
  .rw[zp hb]at e
   refine(I.hok b u e).stay (λc v hc q=>k c v ?_ q) (λc q=>by rw[zp (zm q hn)];exact q) λc xs q=>by rw[zp (zm q hn)];exact q
   rcases hc with z | z
   .rw[z];exact nch b u e
   .exact nch c _ z
theorem Inv.turnedN {ch:List Addr}{t':Nat}(I:Inv X pins σ H s)(hch:∀ b∈ch,zci X pins H b)(k:∀ b u,b∉ch->s.heap.get? b=some u->h'.get? b=some u):Inv X pins σ H { s with heap:=h',toks:=t' }:=by
 have nch:∀ b u,H b=some u->b∉ch:=λb u e z=>by rw[(hch b z).1]at e;cases e
 refine I.step (g':=s.gens) (d':=s.drawn) (ch:=ch) (λb hb=>?_) (λb u _ _ hc e _=>k b u hc e) (λb u _ _ hc e _=>⟨u.slots,k b u hc e⟩) (λb u _ e n=>n)
  (λb u hc e=>⟨u,k b u hc e⟩) (λb xs e=>e) (λb u xs e=>e) (λb ps e=>⟨#[],by rw[e];simp⟩) (λm hm=>?_) (λb u e=>?_) I.bare
 .obtain⟨_,n1,_,n3,n4,n5⟩:=hch b hb
  exact⟨n3,n1,n4,n5⟩
 .obtain⟨ob,es,ep,ho,r⟩:=hm
  exact⟨ob,es,ep,k _ ob (λz=>(hch _ z).2.1 rfl) ho,r⟩
 .refine(I.hok b u e).stay (λc v hc q=>k c v ?_ q) (λc q=>q) λc xs q=>q
  rcases hc with z | z
  .rw[z];exact nch b u e
  .exact nch c _ z
end
noncomputable def Iel (K:PySem.W.Frag)(a:Addr):It :=
 ⟨λi H=>∃ xs x,SqL K H a xs/\xs[i]?=some x,λi H v H'=>∃ T x,v=.ref T/\H T=none/\H'=upd H T (.tup [.int i,x])/\∀ xs,SqL K H a xs->xs[i]?=some x,λi H=>∃ xs,SqL K H a xs/\xs.length<=i⟩
noncomputable def Iet (K:PySem.W.Frag)(a:Addr):It :=
 ⟨λi H=>∃ xs x,SqT K H a xs/\xs[i]?=some x,λi H v H'=>∃ T x,v=.ref T/\H T=none/\H'=upd H T (.tup [.int i,x])/\∀ xs,SqT K H a xs->xs[i]?=some x,λi H=>∃ xs,SqT K H a xs/\xs.length<=i⟩
theorem zcD {P:Program}{w:World}{K:PySem.W.Frag}{es:List Expr}{k:Nat}{tp:Pos}(a e it:Addr)(hne:e≠it) :
 ziv P w K (.Tuple es k tp) (Iel K a) [e,it] e (λi h=>(∃ old,IsEnum h e it i old)/\h.IsListIter it a i) where
 mem:=by simp
 obj:=λi h st b hb=>by
  obtain⟨⟨old,he⟩,o,ho,_,hd⟩:=st
  rcases List.mem_cons.mp hb with rfl | hb
  .exact⟨_,he,λv z=>by cases z⟩
  .rw[List.mem_singleton.mp hb]
   exact⟨o,ho,λv z=>by rw[hd]at z;cases z⟩
 keep:=λi h h' st kk=>by
  obtain⟨⟨old,he⟩,hit⟩:=st
  exact⟨⟨old,kk e (by simp) _ he⟩,hit.at λo q=>kk it (by simp) o q⟩
 item:=by
  intro X hP hw hK hc i pins s σ H E I hf st hg
  subst hP hw hK
  obtain⟨⟨old,he⟩,hit⟩:=st
  obtain⟨xs,x,hq,hx⟩:=hg
  obtain⟨its,rv,p,hz⟩:=I.list hq
  obtain⟨u,hu,ru⟩:=rv.get hx
  refine wpAny_pyNext_enum_item he hit p.isList (x:=u) (by simpa using hu) hne λh1 ho1 hit1 hT1 hz1 hk1=>?_
  refine⟨_,rfl,wpAny_letOwnedTupleGo_enum ho1 λh2 he2 hs2=>?_⟩
  have hfr:H s.heap.objs.size=none:=I.hok.fresh (Nat.le_refl _)
  have neE:s.heap.objs.size≠e:=Nat.ne_of_gt (Heap.lt_size he)
  have hT2:h2.get? s.heap.objs.size=some { cls:=.type "tuple",data:=.seq #[.int i s.toks,u] }:=(hs2.2 _ neE).trans hT1
  refine⟨.ref s.heap.objs.size,upd H s.heap.objs.size (.tup [.int i,x]),?_,rfl,⟨_,x,rfl,hfr,rfl,λys hy=>by rw[I.list_inj hy hq];exact hx⟩,⟨⟨_,by simpa using he2⟩,hit1.at λo q=>(hs2.2 it (Ne.symm hne)).trans q⟩,λb hb=>?_⟩
  .refine I.grown (ch:=[e,it]) hf (Nat.le_refl _) (λb v hb q=>?_) ?_
   .have n1:b≠e:=λz=>hb (by simp[z])
    have n2:b≠it:=λz=>hb (by simp[z])
    exact(hs2.2 b n1).trans (hk1 b v n1 n2 q)
   .exact⟨by show 2<=sizeLine;decide,[.int i s.toks,u],.cons ⟨_,rfl⟩ (.cons ru .nil),⟨_,hT2,rfl,0,rfl⟩⟩
  .obtain⟨o,hb2,_⟩:∃ o,s.heap.get? b=some o/\True:=by
    rcases List.mem_cons.mp hb with rfl | hb
    .exact⟨_,he,trivial⟩
    .rw[List.mem_singleton.mp hb]
     obtain⟨o,ho,_⟩:=hit
     exact⟨o,ho,trivial⟩
   rw[zp (Nat.ne_of_lt (Heap.lt_size hb2))]
   exact(hf b hb).1
 done:=by
  intro X hP hw hK hc i pins s σ H E I hf st hg
  subst hP hw hK
  obtain⟨⟨old,he⟩,hit⟩:=st
  obtain⟨xs,hq,hx⟩:=hg
  obtain⟨its,rv,p,hz⟩:=I.list hq
  have hl:=rv.length
  exact wpAny_pyNext_enum_end (I.ok.hd hc) he hit p.isList (by simp;omega) λh1 hx1=>⟨rfl,I.turnedN (ch:=[e,it]) (t':=s.toks) hf λb v hb q=>hx1 b v (λz=>hb (by simp[z])) q⟩
 self:=λ_ _ _ _ _ st h=>wpAny_pyIter_enum st.1.choose_spec h
theorem zcF {P:Program}{w:World}{K:PySem.W.Frag}{es:List Expr}{k:Nat}{tp:Pos}(a e it:Addr)(hne:e≠it)(hai:a≠it)(hae:a≠e) :
 ziv P w K (.Tuple es k tp) (Iet K a) [e,it] e (λi h=>(∃ old,IsEnum h e it i old)/\h.IsTupleIter it a i) where
 mem:=by simp
 obj:=λi h st b hb=>by
  obtain⟨⟨old,he⟩,o,ho,_,hd⟩:=st
  rcases List.mem_cons.mp hb with rfl | hb
  .exact⟨_,he,λv z=>by cases z⟩
  .rw[List.mem_singleton.mp hb]
   exact⟨o,ho,λv z=>by rw[hd]at z;cases z⟩
 keep:=λi h h' st kk=>by
  obtain⟨⟨old,he⟩,o,ho,r⟩:=st
  exact⟨⟨old,kk e (by simp) _ he⟩,o,kk it (by simp) o ho,r⟩
 item:=by
  intro X hP hw hK hc i pins s σ H E I hf st hg
  subst hP hw hK
  obtain⟨⟨old,he⟩,hit⟩:=st
  obtain⟨xs,x,hq,hx⟩:=hg
  obtain⟨its,rv,p,hz⟩:=I.tuple hq
  obtain⟨u,hu,ru⟩:=rv.get hx
  have p':s.heap.IsTuple a its.toArray:=p
  have D:=vQ (prog:=X.prog) (w:=X.w) (A:=X.A.in1) (I.ok.hd hc) it a hai its.toArray
  have hlt:i < its.toArray.size:=by
   obtain⟨h1,_⟩:=List.getElem?_eq_some_iff.mp hu
   simpa using h1
  refine wpAny_pyNext_enum_itemD D he ⟨hit,p'⟩ hlt hne (by simp[hne,Ne.symm hae]) λu' h1 tk hP1 ho1 hit1 hT1 hz1 hk1=>?_
  have eu:u'=u:=by
   have:its[i]?=some u':=by simpa using hP1
   rw[hu]at this
   exact(Option.some.inj this).symm
  subst eu
  refine⟨_,rfl,wpAny_letOwnedTupleGo_enum ho1 λh2 he2 hs2=>?_⟩
  have hfr:H s.heap.objs.size=none:=I.hok.fresh (Nat.le_refl _)
  have neE:s.heap.objs.size≠e:=Nat.ne_of_gt (Heap.lt_size he)
  have hT2:h2.get? s.heap.objs.size=some { cls:=.type "tuple",data:=.seq #[.int i tk,u'] }:=(hs2.2 _ neE).trans hT1
  refine⟨.ref s.heap.objs.size,upd H s.heap.objs.size (.tup [.int i,x]),?_,rfl,⟨_,x,rfl,hfr,rfl,λys hy=>by rw[I.tuple_inj hy hq];exact hx⟩,⟨⟨_,by simpa using he2⟩,?_⟩,λb hb=>?_⟩
  .refine I.grown (ch:=[e,it]) hf (Nat.le_refl _) (λb v hb q=>?_) ?_
   .have n1:b≠e:=λz=>hb (by simp[z])
    have n2:b≠it:=λz=>hb (by simp[z])
    exact(hs2.2 b n1).trans (hk1 b v n1 n2 q)
   .exact⟨by show 2<=sizeLine;decide,[.int i tk,u'],.cons ⟨_,rfl⟩ (.cons ru .nil),⟨_,hT2,rfl,0,rfl⟩⟩
  .obtain⟨o,ho,r⟩:=hit1.1
   exact⟨o,(hs2.2 it (Ne.symm hne)).trans ho,r⟩
  .obtain⟨o,hb2,_⟩:∃ o,s.heap.get? b=some o/\True:=by
    rcases List.mem_cons.mp hb with rfl | hb
    .exact⟨_,he,trivial⟩
    .rw[List.mem_singleton.mp hb]
     obtain⟨o,ho,_⟩:=hit
     exact⟨o,ho,trivial⟩
   rw[zp (Nat.ne_of_lt (Heap.lt_size hb2))]
   exact(hf b hb).1
 done:=by
  intro X hP hw hK hc i pins s σ H E I hf st hg
  subst hP hw hK
  obtain⟨⟨old,he⟩,hit⟩:=st
  obtain⟨xs,hq,hx⟩:=hg
  obtain⟨its,rv,p,hz⟩:=I.tuple hq
  have hl:=rv.length
  have p':s.heap.IsTuple a its.toArray:=p
  exact Yg (I.ok.hd hc) he hit p' (by simp;omega) λh1 hx1=>⟨rfl,I.turnedN (ch:=[e,it]) (t':=s.toks) hf λb v hb q=>hx1 b v (λz=>hb (by simp[z])) q⟩
 self:=λ_ _ _ _ _ st h=>wpAny_pyIter_enum st.1.choose_spec h
noncomputable def zlH (K:PySem.W.Frag)(ta:TA):TI:=fun σ H R=>ta σ H λvs H1=>∃ a,vs=[.ref a]/\((∃ xs,H1 a=some (.lst xs)/\R (Iel K a) H1)\/(∃ xs,SqT K H1 a xs/\R (Iet K a) H1))
theorem ziF {X:Cx} {es:List Expr} {k:Nat} {tp:Pos} {a:Expr} {ta:TA} {p pos:Pos} (hg:Gl X "enumerate") (hm:X.mg "enumerate"=none) (hb:bootBuiltins "enumerate"=some (.type "enumerate")) (ha:PA X [a] ta)
 (hs:starEach [a] X.env=[(false,eval a X.env)]:=by rfl):PI X (.Tuple es k tp) (.Call (.Name "enumerate" p) [a] [] pos) (zlH X.K ta):=by
 intro pins s σ H R I h
 refine Call_ (XM I hg hm hb (PyProof.Rows.callWith_type1 (thn (ha pos pins s σ H _ I h) λus s1 hh9=>?_) hs rfl))
 obtain⟨vs,H1,I1,r1,q1⟩:=hh9
 obtain⟨l,e,q⟩:=q1
 subst e
 obtain⟨u,rfl,ru⟩:=XW r1
 cases ru
 have hn:∀ b,s1.heap.objs.size<=b->zci X pins H1 b:=λb hb=>I1.fpOk hb (I1.hok.fresh hb)
 have hne:s1.heap.objs.size+1≠s1.heap.objs.size:=by omega
 have hfp:∀ b∈[s1.heap.objs.size+1,s1.heap.objs.size],zci X pins H1 b:=λb hb=>by
  rcases List.mem_cons.mp hb with rfl | hb
  .exact hn _ (Nat.le_succ _)
  .rw[List.mem_singleton.mp hb];exact hn _ (Nat.le_refl _)
 rcases q with ⟨xs,hx,q⟩ | ⟨xs,hx,q⟩
 .obtain⟨_,its,n,_,e⟩:xs.length<=sizeLine/\∃ (its:List Value) (n:Nat),yf xs its/\s1.heap.get? l=some { cls:=.type "list",data:=.seq its.toArray n }:=I1.hok _ _ hx
  refine call_enumerate_1 e λh2 he hit hz hk=>wpAny_pyIter_enum he ?_
  exact⟨_,_,_,_,H1,rfl,I1.kept (t':=s1.toks) hk,zcD l _ _ hne,⟨⟨_,he⟩,hit⟩,hfp,q⟩
 .obtain⟨its,_,p1,_⟩:=I1.tuple hx
  have lt:l < s1.heap.objs.size:=by
   obtain⟨o,ho,_⟩:=p1
   exact Heap.lt_size ho
  refine Yf (show s1.heap.IsTuple l its.toArray from p1) λh2 he hit hz hk=>wpAny_pyIter_enum he ?_
  exact⟨_,_,_,_,H1,rfl,I1.kept (t':=s1.toks) hk,zcF l _ _ hne (Nat.ne_of_lt lt) (Nat.ne_of_lt (Nat.lt_succ_of_lt lt)),⟨⟨_,he⟩,hit⟩,hfp,q⟩
end L2
namespace HT
open PySem PyProof.Rows
noncomputable def lexLe:List Int->List Int->Bool
 | [],_=>true
 | _::_,[]=>false
 | x::xs,y::ys=>if x=y then lexLe xs ys else decide (x<=y)
theorem zcY (x y:Int)(xs ys:List Int):lexLe (x::xs) (y::ys)=if x=y then lexLe xs ys else decide (x<=y):=rfl
theorem zgx (A:Around)(s:Shared)(a:Int)(t:Tok)(c:Int)(u:Tok)(prog:Program)(w:World)(E:Value->Shared->Prop)(Q:Value->Shared->Prop)(h:Q (.bool (decide (a<=c))) s) :
 wpAny (model prog w) A (richCompare .LtE (.int a t) (.int c u)) Q E s :=
 (PyProof.Rows.le_int h:wpAny (model prog w) A (compareOp .LtE (.int a t) (.int c u)) Q E s)
section
open PySem.SeqAt
open PySem.AutoSeq1 (wpAny_loadPart')
open PySem.MeetsSeq PySem.MeetsSeq2 PySem.MeetsSeq3
theorem W5 (l b:Addr)(items items2:Array Value)(n n2:Nat)(dd dd2:Option Addr)(sl sl2:Array (Option Value))(ns ms:List Int)(hi:IntsAre items.toList ns)(hj:IntsAre items2.toList ms) :
 Meets (Builtin.«tuple.__le__» ⟨[.ref l,.ref b],[]⟩)
  (λ_ R s=>s.heap.get? l=some { cls:=.type "tuple",dict:=dd,data:=.seq items n,slots:=sl }/\s.heap.get? b=some { cls:=.type "tuple",dict:=dd2,data:=.seq items2 n2,slots:=sl2 } /\
   R (.ok (.ret (.bool (lexLe ns ms)))) s) :=
 .of_wp λprog w A R s h=>by
  obtain⟨hp,g,d,tk,os⟩:=s;obtain⟨hl,hb,h⟩:=h
  have f2:=AutoSeq1.sub_tuple_tuple
  have z1:items.size=ns.length:=by rw[<-hi.length];simp
  have z2:items2.size=ms.length:=by rw[<-hj.length];simp
  wp_walk using wpAny_loadPart' hl,wpAny_loadPart' hb,wpAny_forIn_list _ (λrest b s'=>b.1=none/\s'=⟨hp,g,d,tk,os⟩/\∃ (vs ws:List Value) (ns' ms':List Int),rest=vs.zip ws /\
   IntsAre vs ns'/\IntsAre ws ms'/\ns'.length+items2.size=ms'.length+items.size/\R (.ok (.ret (.bool (lexLe ns' ms')))) ⟨hp,g,d,tk,os⟩) _
  case turn =>
   rintro⟨y,x⟩ rest b s' ⟨hb',rfl,vs,ws,ns',ms',hz,hvi,hwi,hlen,hR⟩
   cases hvi with
   | nil=>rw[List.zip_nil_left]at hz;cases hz
   | cons a t hvi' =>
    cases hwi with
    | nil=>rw[List.zip_nil_right]at hz;cases hz
    | cons c u hwi' =>
     rw[List.zip_cons_cons]at hz
     injection hz with hyx hrest
     injection hyx with hy hx
     subst hy hx
     rw[zcY]at hR
     simp only[List.length_cons]at hlen
     obtain⟨e,he,hiff⟩:=zgX A.in1 ⟨hp,g,d,tk,os⟩ a t c u
     refine wpAny_bind (he prog w _ _ ?_)
     cases e with
     | true =>
      rw[if_pos (hiff.mp rfl)]at hR
      wp_walk
      exact⟨rfl,rfl,_,_,_,_,hrest,hvi',hwi',by omega,hR⟩
     | false =>
      rw[if_neg (λq=>absurd (hiff.mpr q) Bool.false_ne_true)]at hR
      have hri:=zgx A.in1 ⟨hp,g,d,tk,os⟩ a t c u prog w
      wp_walk using hri
      exact⟨_,rfl,by simpa using hR⟩
  case fin =>
   rintro⟨b1,b2⟩ s' ⟨hb',rfl,vs,ws,ns',ms',hz,hvi,hwi,hlen,hR⟩
   simp only at hb'
   subst hb'
   have hv:lexLe ns' ms'=decide (items.size<=items2.size):=by
    cases hvi with
    | nil =>
     simp only[List.length_nil]at hlen
     show true=_
     exact(decide_eq_true (by omega)).symm
    | cons a t hv =>
     cases hwi with
     | nil =>
      simp only[List.length_nil,List.length_cons]at hlen
      show false=_
      exact(decide_eq_false (by omega)).symm
     | cons c u hw =>
      rw[List.zip_cons_cons]at hz
      cases hz
   rw[hv]at hR
   wp_walk
   exact⟨_,rfl,by simpa [Builtin.Tuple.tupleCompareSizes]using hR⟩
  case h =>
   exact⟨rfl,rfl,items.toList,items2.toList,ns,ms,rfl,hi,hj,by omega,h⟩
end
section
variable {prog:Program}{w:World}{A:Around}{E:Value->Shared->Prop}{s:Shared}
theorem le_tupInts {l b:Addr}{items items2:Array Value}{ns ms:List Int}{Q:Value->Shared->Prop}(hl:IsTup s.heap l items)(hb:IsTup s.heap b items2)(hi:IntsAre items.toList ns)(hj:IntsAre items2.toList ms)
 (hu:A.units < cLine) (h:Q (.bool (lexLe ns ms)) s):wpAny (model prog w) A (compareOp .LtE (.ref l) (.ref b)) Q E s:=by
 obtain⟨⟨cls,dd,data,sl⟩,ho,hc,n,hd⟩:=id hl
 obtain⟨⟨cls2,dd2,data2,sl2⟩,ho2,hc2,n2,hd2⟩:=id hb
 simp only at hc hd hc2 hd2
 subst hc hd hc2 hd2
 exact richCompare_meets_room (op:=.LtE) ⟨_,ho,rfl⟩ ⟨_,ho2,rfl⟩ PySem.F.slot_tuple_le PySem.F.entry_tuple_le (PySem.F.args_tuple_le_2 _ _) (W5 l b items items2 n n2 dd dd2 sl sl2 ns ms hi hj)
  ⟨ho,ho2,show Value.bool (lexLe ns ms)≠Value.notImplemented/\Q (.bool (lexLe ns ms)) s from⟨(λx=>nomatch x),h⟩⟩ hu
end
end HT
namespace L2
open PySem PySem.Spec PyProof.Rows
noncomputable def rLeT (K:PySem.W.Frag):R2:=λx y H Q=>∃ a b ns ms,x=.ref a/\y=.ref b/\SqT K H a (ns.map V.int)/\SqT K H b (ms.map V.int)/\Q (.bl (HT.lexLe ns ms)) H
theorem zj3 {X:Cx}(hu:X.A.units < cLine):OpR X (compareOp .LtE) (rLeT X.K):=by
 intro pins s σ H x y v u Q I rx ry h
 obtain⟨a,b,ns,ms,rfl,rfl,ha,hb,q⟩:=h
 cases rx
 cases ry
 obtain⟨its,r1,p1,_⟩:=I.tuple ha
 obtain⟨its2,r2,p2,_⟩:=I.tuple hb
 have i1:IntsAre its.toArray.toList ns:=wH r1
 have i2:IntsAre its2.toArray.toList ms:=wH r2
 exact HT.le_tupInts p1 p2 i1 i2 hu ⟨.bl (HT.lexLe ns ms),H,I,rfl,q⟩
end L2
namespace HT
open PySem PyProof.Rows
section
variable {prog:Program}{w:World}{A:Around}{E:Value->Shared->Prop}{s:Shared}
theorem own_getItem_whole {t sl:Addr}{items:Array Value}{vl vu:Value}{lo hi:Option Int}{Q:Value->Shared->Prop}(ht:IsTup s.heap t items)(hs:s.heap.IsSliceOf sl vl vu .none)(pl:IsPart vl lo)(pu:IsPart vu hi)
 (hw:sIx items.size 0 lo=0/\sIx items.size items.size hi=items.size) (h:Q (.ref t) s):wpAny (model prog w) A (getItem (.ref t) (.ref sl)) Q E s:=by
 obtain⟨os,hos,hcs,hds⟩:=id hs
 have hTs:s.TypeIs (.ref sl) "slice":=⟨os,hos,hcs⟩
 unfold getItem
 try with_reducible refine wpAny_holding ?_
 first | refine wpAny_bind (wpAny_pure ?_) | skip
 refine wpAny_bind (wpAny_sequenceKey ht.typeIs (by decide) ?_)
 refine wpAny_bind (wpAny_callSpecial?_slot (name:=Str.ofString "__getitem__") ht.typeIs PyProof.Rows.slot_tuple_getitem
  (wpAny_call_entry PyProof.Rows.slot_tuple_getitem ht.typeIs entry_tuple_getitem ?_ (args_tuple_getitem _ _)))
 show wpAny _ _ (Builtin.Tuple.tupleItemsOf (.ref t)>>=_) _ _ s
 refine wpAny_bind (tupleItemsOf_ ht ?_)
 refine wpAny_bind (wpAny_typeOf hTs ?_)
 rw[if_pos (by decide)]
 refine wpAny_bind (vv hs pl pu ?_)
 have hyes:(((sIx items.size 0 lo:Nat):Int) == 0&&(1:Int) == 1&&(sIx items.size items.size hi - sIx items.size 0 lo) == items.size)=true:=by
  rw[hw.1,hw.2]
  simp
 show wpAny _ _ (if (((sIx items.size 0 lo:Nat):Int) == 0&&(1:Int) == 1&&(sIx items.size items.size hi - sIx items.size 0 lo) == items.size)=true then _ else _) _ _ s
 rw[if_pos hyes]
 refine wpAny_bind (m:=Builtin.Tuple.tupleIsExact (.ref t)) ?_
 unfold Builtin.Tuple.tupleIsExact
 refine wpAny_bind (wpAny_typeOf ht.typeIs (wpAny_pure ?_))
 rw[if_pos (by decide)]
 refine wpAny_bind (wpAny_rule ?_)
 first
  | exact wpAny_pure ⟨_,rfl,wpAny_pure h⟩
  | exact wpAny_bind (wpAny_pure (wpAny_pure ⟨_,rfl,wpAny_pure h⟩))
end
end HT
namespace PySem
open Sem (wp)
theorem xh {prog:Program}{w:World}{A:Around}{it a:Addr}{fp:List Addr}{n k:Nat}{P:Nat->Value->Prop}{St:Nat->Heap->Prop}(D:Draws prog w A it fp n P St){h h':Heap}(st:St k h)(sb:Heap.SameBut a h h')(na:a∉fp):St k h' :=
 D.frame _ _ _ st λb hb o e=>(sb.2 b λz=>na (z ▸ hb)).trans e
set_option genInjectivity false in
set_option genSizeOf false in
set_option genCtorIdx false in
structure zf9 (z TI TO i1 i2:Addr) (fp1 fp2:List Addr):Prop where
 nd:[z,TI,TO,i1,i2].Nodup
 z1:z∉fp1
 z2:z∉fp2
 o1:TO∉fp1
 o2:TO∉fp2
 i12:i1∉fp2
 i21:i2∉fp1
section
variable {prog:Program}{w:World}{A:Around}{E:Value->Shared->Prop}{s:Shared}{z TI TO i1 i2:Addr}{fp1 fp2:List Addr}{n1 n2 k1 k2:Nat}{P1 P2:Nat->Value->Prop}{St1 St2:Nat->Heap->Prop}{a b:Value}
theorem VX {Q:Value->Shared->Prop}(D1:Draws prog w A i1 fp1 n1 P1 St1)(D2:Draws prog w A i2 fp2 n2 P2 St2)(ap:zf9 z TI TO i1 i2 fp1 fp2)
 (hz:IsZip s.heap z TI TO .none) (hTI:IsPair s.heap TI (.ref i1) (.ref i2)) (hTO:IsPair s.heap TO a b) (h1:St1 k1 s.heap) (h2:St2 k2 s.heap) (l1:k1 < n1) (l2:k2 < n2)
 (hQ:∀ x y h' tk,P1 k1 x->P2 k2 y->IsZip h' z TI TO (rawInt s.heap.objs.size)->IsPair h' TO x y->St1 (k1+1) h'->St2 (k2+1) h'->IsPair h' s.heap.objs.size x y ->
  (∀ c o,c∉[z,TO,i1,i2]->s.heap.get? c=some o->h'.get? c=some o)->Q (.ref s.heap.objs.size) { s with heap:=h',toks:=tk }) :
 wpAny (model prog w) A (Builtin.«zip.__next__» ⟨[.ref z],[]⟩) (λfin s'=>∃ v,fin=.done (.ret v)/\Q v s') E s:=by
 obtain⟨nd,az1,az2,ao1,ao2,a12,a21⟩:=ap
 simp only[List.nodup_cons,List.mem_cons,List.not_mem_nil,or_false,not_or,not_false_eq_true,List.nodup_nil,and_true]at nd
 obtain⟨⟨n1',n2',n3',n4'⟩,⟨n5,n6,n7⟩,⟨n8,n9⟩,n10⟩:=nd
 show wpAny _ _ (field (.ref z) 2>>=_) _ _ _
 refine wpAny_bind (wpAny_field hz rfl (x:=.bool false) rfl ?_)
 show wpAny _ _ (field (.ref z) 3>>=_) _ _ _
 refine wpAny_bind (wpAny_field hz rfl (x:=.ref TI) rfl (wpAny_bind (wpAny_seqItems hTI rfl ?_)))
 show wpAny _ _ (Builtin.SmallTypes.ownedTupleIsFree (.ref z)>>=_) _ _ _
 refine wpAny_bind ?_
 unfold Builtin.SmallTypes.ownedTupleIsFree
 refine wpAny_bind (wpAny_field hz rfl (x:=.none) rfl (wpAny_pure ?_))
 simp only[if_true]
 refine wpAny_bind (wpAny_rule (wpAny_bind (wpAny_field hz rfl (x:=.ref TO) rfl (wpAny_bind (wpAny_setField_rec hz (by simp) λg1 z1 b1=>?_)))))
 refine wpAny_bind ?_
 simp only[List.zipIdx_cons,List.zipIdx_nil,List.forIn_cons,List.forIn_nil]
 refine wpAny_bind (wpAny_bind (wpAny_onRaise ?_))
 show wpAny _ _ (Builtin.SmallTypes.nextOf (.ref i1)>>=_) _ _ _
 refine wpAny_bind (D1.item k1 _ _ _ l1 (xh D1 h1 b1 az1) λx g2 tk2 px st2 b2=>wpAny_pure ?_)
 have o2:IsPair g2 TO a b:=(b2.2 TO n8).trans ((b1.2 TO (Ne.symm n2')).trans hTO)
 refine wpAny_bind (wpAny_seqItems o2 rfl (wpAny_bind (wpAny_updateSeq_pair o2 λg3 o3 b3=>?_)))
 refine wpAny_bind (wpAny_letGo (wpAny_pure ?_))
 refine wpAny_bind (wpAny_bind (wpAny_onRaise ?_))
 show wpAny _ _ (Builtin.SmallTypes.nextOf (.ref i2)>>=_) _ _ _
 have s23:St2 k2 g3:=xh D2 (xh D2 (xh D2 h2 b1 az2) b2 a12) b3 ao2
 refine wpAny_bind (D2.item k2 _ _ _ l2 s23 λy g4 tk4 py st4 b4=>wpAny_pure ?_)
 have o4:IsPair g4 TO x b:=(b4.2 TO n9).trans o3
 refine wpAny_bind (wpAny_seqItems o4 rfl (wpAny_bind (wpAny_updateSeq_pair o4 λg5 o5 b5=>?_)))
 replace o5:IsPair g5 TO x y:=o5
 refine wpAny_bind (wpAny_letGo (wpAny_pure (wpAny_pure ?_)))
 refine wpAny_bind (wpAny_seqItems o5 rfl ?_)
 show wpAny _ _ (newTuple [x,y]>>=_) _ _ _
 refine wpAny_bind (wpAny_newTuple ?_)
 have hsz:g5.objs.size=s.heap.objs.size:=by rw[b5.1,b4.1,b3.1,b2.1,b1.1]
 have z5:IsZip g5 z TI TO .ellipsis:=(b5.2 z n2').trans ((b4.2 z n4').trans ((b3.2 z n2').trans ((b2.2 z n3').trans z1)))
 have zlt:z < g5.objs.size:=Heap.lt_size z5
 show wpAny _ _ (Builtin.SmallTypes.ownedTupleHandOut (.ref z) (.ref g5.objs.size)>>=_) _ _ _
 refine wpAny_bind ?_
 unfold Builtin.SmallTypes.ownedTupleHandOut
 have z6:IsZip (g5.push { cls:=.type "tuple",data:=.seq #[x,y] }) z TI TO .ellipsis:=Heap.get?_push_of_some _ z5
 refine wpAny_bind (wpAny_setField_rec z6 (by simp) λg7 z7 b7=>?_)
 refine wpAny_setField_rec z7 (by simp) λg8 z8 b8=>?_
 have up:∀ c o,c≠z->g5.get? c=some o->g8.get? c=some o:=λc o n e=>(b8.2 c n).trans ((b7.2 c n).trans (Heap.get?_push_of_some _ e))
 have t8:IsPair g8 g5.objs.size x y:=(b8.2 _ (Nat.ne_of_gt zlt)).trans ((b7.2 _ (Nat.ne_of_gt zlt)).trans (Heap.get?_push_size _ rfl))
 have e8:IsZip g8 z TI TO (rawInt g5.objs.size):=z8
 rw[hsz]at e8 t8
 refine wpAny_pure ⟨_,rfl,?_⟩
 show Q (.ref g5.objs.size) _
 rw[hsz]
 have f1:St1 (k1+1) g5:=xh D1 (xh D1 (xh D1 st2 b3 ao1) b4 a21) b5 ao1
 have f2:St2 (k2+1) g5:=xh D2 st4 b5 ao2
 refine hQ x y g8 _ px py e8 (up _ _ (Ne.symm n2') o5) (D1.frame _ _ _ f1 λc hc o e=>up c o (λq=>az1 (q ▸ hc)) e) (D2.frame _ _ _ f2 λc hc o e=>up c o (λq=>az2 (q ▸ hc)) e) t8 λc o hc e=>?_
 simp only[List.mem_cons,List.not_mem_nil,or_false,not_or]at hc
 obtain⟨c1,c2,c3,c4⟩:=hc
 exact up c o c1 ((b5.2 c c2).trans ((b4.2 c c4).trans ((b3.2 c c2).trans ((b2.2 c c3).trans ((b1.2 c c1).trans e)))))
theorem zaO {Q:Fin->Shared->Prop}(D1:Draws prog w A i1 fp1 n1 P1 St1)(az1:z∉fp1)(nz:i1≠z)
 (hz:IsZip s.heap z TI TO .none) (hTI:IsPair s.heap TI (.ref i1) (.ref i2)) (h1:St1 n1 s.heap)
 (hE:∀ h' e,(∀ c o,c≠z->c≠i1->s.heap.get? c=some o->h'.get? c=some o)->(∃ o,h'.get? e=some o/\o.cls=.type "StopIteration")->E (.ref e) { s with heap:=h' }) :
 wpAny (model prog w) A (Builtin.«zip.__next__» ⟨[.ref z],[]⟩) Q E s:=by
 show wpAny _ _ (field (.ref z) 2>>=_) _ _ _
 refine wpAny_bind (wpAny_field hz rfl (x:=.bool false) rfl ?_)
 show wpAny _ _ (field (.ref z) 3>>=_) _ _ _
 refine wpAny_bind (wpAny_field hz rfl (x:=.ref TI) rfl (wpAny_bind (wpAny_seqItems hTI rfl ?_)))
 show wpAny _ _ (Builtin.SmallTypes.ownedTupleIsFree (.ref z)>>=_) _ _ _
 refine wpAny_bind ?_
 unfold Builtin.SmallTypes.ownedTupleIsFree
 refine wpAny_bind (wpAny_field hz rfl (x:=.none) rfl (wpAny_pure ?_))
 simp only[if_true]
 refine wpAny_bind (wpAny_rule (wpAny_bind (wpAny_field hz rfl (x:=.ref TO) rfl (wpAny_bind (wpAny_setField_rec hz (by simp) λg1 z1 b1=>?_)))))
 refine wpAny_bind ?_
 simp only[List.zipIdx_cons,List.zipIdx_nil,List.forIn_cons,List.forIn_nil]
 refine wpAny_bind (wpAny_bind (wpAny_onRaise ?_))
 show wpAny _ _ (Builtin.SmallTypes.nextOf (.ref i1)>>=_) _ _ _
 refine wpAny_bind (D1.done _ _ _ (xh D1 h1 b1 az1) λg2 e b2 he=>?_)
 obtain⟨oe,hoe,hce⟩:=he
 have z2:IsZip g2 z TI TO .ellipsis:=b2 _ _ (Ne.symm nz) z1
 have nez:e≠z:=λq=>by subst q;rw[z2]at hoe;cases hoe;simp at hce
 exact wpAny_setField_rec z2 (by simp) λg3 _ b3=>hE g3 e (λc o c1 c2 q=>(b3.2 c c1).trans (b2 c o c2 ((b1.2 c c1).trans q))) ⟨oe,(b3.2 e nez).trans hoe,hce⟩
end
noncomputable def W6 (b:Bool)(h:Heap)(it l:Addr)(k:Nat):Prop:=if b=true then h.IsListIter it l k else h.IsTupleIter it l k
noncomputable def zcq (b:Bool)(h:Heap)(l:Addr)(items:Array Value):Prop:=if b=true then h.IsList l items else h.IsTuple l items
theorem Z8 {prog:Program}{w:World}{A:Around}(hh:A.handled=none)(b:Bool)(it l:Addr)(hne:l≠it)(items:Array Value) :
 Draws prog w A it [it,l] items.size (λi v=>items[i]?=some v) (λi h=>W6 b h it l i/\zcq b h l items):=by
 cases b with
 | true=>exact Draws.list hh it l hne items
 | false=>exact vQ hh it l hne items
noncomputable def ze0 (b:Bool) (l:Addr):Obj:={ cls:=.type (if b=true then "list_iterator" else "tuple_iterator"),data:=.fields #[.ref l,.int 0 0] }
noncomputable abbrev zpA (h:Heap)(b1:Bool)(l1:Addr):Heap:=h.push (ze0 b1 l1)
noncomputable abbrev zpB (h:Heap)(b1 b2:Bool)(l1 l2:Addr):Heap:=(zpA h b1 l1).push (ze0 b2 l2)
noncomputable abbrev zpC (h:Heap) (b1 b2:Bool) (l1 l2:Addr):Heap:=(zpB h b1 b2 l1 l2).push (Obj.mk (.type "tuple") none (.seq #[.ref h.objs.size,.ref (zpA h b1 l1).objs.size]) #[])
noncomputable abbrev zpD (h:Heap) (b1 b2:Bool) (l1 l2:Addr):Heap:=(zpC h b1 b2 l1 l2).push (Obj.mk (.type "tuple") none (.seq #[.none,.none]) #[])
noncomputable abbrev zpE (h:Heap) (b1 b2:Bool) (l1 l2:Addr):Heap:=(zpD h b1 b2 l1 l2).push (Obj.mk (.type "zip") none (.fields #[.none,.bool false,.bool false,.ref (zpB h b1 b2 l1 l2).objs.size,.ref (zpC h b1 b2 l1 l2).objs.size]) #[])
theorem zaV (b1 b2:Bool)(l1 l2:Addr)(xs ys:Array Value) :
 Meets (Builtin.«zip.__new__» ⟨[.type "zip",.ref l1,.ref l2],[]⟩) (λ_ R s=>zcq b1 s.heap l1 xs/\zcq b2 s.heap l2 ys /\
  R (.ok (.ret (.ref (zpD s.heap b1 b2 l1 l2).objs.size))) { s with heap:=zpE s.heap b1 b2 l1 l2 }) :=
 .of_wp λprog w A R s h=>by
  obtain⟨hp,g,d,tk,os⟩:=s;obtain⟨hl1,hl2,h⟩:=h
  have hsub:=sub_zip
  cases b1 with
  | true =>
   have hL1:Heap.IsList (Shared.heap ⟨hp,g,d,tk,os⟩) l1 xs:=hl1
   cases b2 with
   | true =>
    have hL2:Heap.IsList (Shared.heap ⟨hp.push { cls:=.type "list_iterator",data:=.fields #[.ref l1,.int 0 0] },g,d,tk,os⟩) l2 ys:=Heap.IsList.push hl2 _
    wp_walk using wpAny_pyIter_list hL1,wpAny_pyIter_list hL2
    exact⟨_,rfl,h⟩
   | false =>
    have hL2:Heap.IsTuple (Shared.heap ⟨hp.push { cls:=.type "list_iterator",data:=.fields #[.ref l1,.int 0 0] },g,d,tk,os⟩) l2 ys:=Heap.IsTuple.push hl2 _
    wp_walk using wpAny_pyIter_list hL1,wpAny_pyIter_tuple hL2
    exact⟨_,rfl,h⟩
  | false =>
   have hL1:Heap.IsTuple (Shared.heap ⟨hp,g,d,tk,os⟩) l1 xs:=hl1
   cases b2 with
   | true =>
    have hL2:Heap.IsList (Shared.heap ⟨hp.push { cls:=.type "tuple_iterator",data:=.fields #[.ref l1,.int 0 0] },g,d,tk,os⟩) l2 ys:=Heap.IsList.push hl2 _
    wp_walk using wpAny_pyIter_tuple hL1,wpAny_pyIter_list hL2
    exact⟨_,rfl,h⟩
   | false =>
    have hL2:Heap.IsTuple (Shared.heap ⟨hp.push { cls:=.type "tuple_iterator",data:=.fields #[.ref l1,.int 0 0] },g,d,tk,os⟩) l2 ys:=Heap.IsTuple.push hl2 _
    wp_walk using wpAny_pyIter_tuple hL1,wpAny_pyIter_tuple hL2
    exact⟨_,rfl,h⟩
end PySem
namespace PySem
section
variable {prog:Program}{w:World}{A:Around}{E:Value->Shared->Prop}{s:Shared}
theorem VP {b1 b2:Bool}{l1 l2:Addr}{xs ys:Array Value}{Q:Value->Shared->Prop}(hl1:zcq b1 s.heap l1 xs)(hl2:zcq b2 s.heap l2 ys)
 (h:∀ h',IsZip h' (s.heap.objs.size+4) (s.heap.objs.size+2) (s.heap.objs.size+3) .none->IsPair h' (s.heap.objs.size+2) (.ref s.heap.objs.size) (.ref (s.heap.objs.size+1)) ->
  IsPair h' (s.heap.objs.size+3) .none .none->W6 b1 h' s.heap.objs.size l1 0->W6 b2 h' (s.heap.objs.size+1) l2 0 ->
  (∀ c o,s.heap.get? c=some o->h'.get? c=some o)->Q (.ref (s.heap.objs.size+4)) { s with heap:=h' }) :
 wpAny (model prog w) A (call (.type "zip") [.ref l1,.ref l2]) Q E s:=by
 refine callType_new F.called_zip (by decide) (F.typeCall_zip_2 _ _) (F.newCall_zip_2 _ _) (λobj=>F.args_object_init_3 obj _ _) F.entry_zip_new
  (zaV b1 b2 l1 l2 xs ys) ⟨hl1,hl2,?_⟩
 have z1:(zpA s.heap b1 l1).objs.size=s.heap.objs.size+1:=Heap.size_push ..
 have z2:(zpB s.heap b1 b2 l1 l2).objs.size=s.heap.objs.size+2:=by rw[Heap.size_push,z1]
 have z3:(zpC s.heap b1 b2 l1 l2).objs.size=s.heap.objs.size+3:=by rw[Heap.size_push,z2]
 have z4:(zpD s.heap b1 b2 l1 l2).objs.size=s.heap.objs.size+4:=by rw[Heap.size_push,z3]
 have g5:(zpE s.heap b1 b2 l1 l2).get? (zpD s.heap b1 b2 l1 l2).objs.size=some _:=Heap.get?_push_size _ rfl
 have g4:(zpE s.heap b1 b2 l1 l2).get? (zpC s.heap b1 b2 l1 l2).objs.size=some _:=Heap.get?_push_of_some _ (Heap.get?_push_size _ rfl)
 have g3:(zpE s.heap b1 b2 l1 l2).get? (zpB s.heap b1 b2 l1 l2).objs.size=some _:=Heap.get?_push_of_some _ (Heap.get?_push_of_some _ (Heap.get?_push_size _ rfl))
 have g2:(zpE s.heap b1 b2 l1 l2).get? (zpA s.heap b1 l1).objs.size=some (ze0 b2 l2):=Heap.get?_push_of_some _ (Heap.get?_push_of_some _ (Heap.get?_push_of_some _ (Heap.get?_push_size _ rfl)))
 have g1:(zpE s.heap b1 b2 l1 l2).get? s.heap.objs.size=some (ze0 b1 l1):=Heap.get?_push_of_some _ (Heap.get?_push_of_some _ (Heap.get?_push_of_some _ (Heap.get?_push_of_some _ (Heap.get?_push_size _ rfl))))
 show _/\_
 rw[z2,z3,z4]at g5
 rw[z1,z2]at g3
 rw[z3]at g4
 rw[z1]at g2
 rw[z4]
 have it0:∀ {b:Bool} {l c:Addr},(zpE s.heap b1 b2 l1 l2).get? c=some (ze0 b l)->W6 b (zpE s.heap b1 b2 l1 l2) c l 0:=λ{b l c} e=>by
  cases b
  .exact⟨_,e,rfl,rfl⟩
  .exact⟨_,e,rfl,rfl⟩
 exact⟨⟨_,g5,rfl⟩,h _ g5 g3 g4 (it0 g1) (it0 g2) λc o x =>
  Heap.get?_push_of_some _ (Heap.get?_push_of_some _ (Heap.get?_push_of_some _ (Heap.get?_push_of_some _ (Heap.get?_push_of_some _ x))))⟩
variable {z TI TO i1 i2:Addr}{fp1 fp2:List Addr}{n1 n2 k1 k2:Nat}{P1 P2:Nat->Value->Prop}{St1 St2:Nat->Heap->Prop}{a b:Value}
theorem Yy {Q:Option Value->Shared->Prop}(D1:Draws prog w A.in1 i1 fp1 n1 P1 St1)(D2:Draws prog w A.in1 i2 fp2 n2 P2 St2)(ap:zf9 z TI TO i1 i2 fp1 fp2)
 (hz:IsZip s.heap z TI TO .none) (hTI:IsPair s.heap TI (.ref i1) (.ref i2)) (hTO:IsPair s.heap TO a b) (h1:St1 k1 s.heap) (h2:St2 k2 s.heap) (l1:k1 < n1) (l2:k2 < n2)
 (hQ:∀ x y h' tk,P1 k1 x->P2 k2 y->IsZip h' z TI TO (rawInt s.heap.objs.size)->IsPair h' TO x y->St1 (k1+1) h'->St2 (k2+1) h'->IsPair h' s.heap.objs.size x y ->
  (∀ c o,c∉[z,TO,i1,i2]->s.heap.get? c=some o->h'.get? c=some o)->Q (some (.ref s.heap.objs.size)) { s with heap:=h',toks:=tk }) :
 wpAny (model prog w) A (pyNext (.ref z)) Q E s:=by
 have hT:s.TypeIs (.ref z) "zip":=⟨_,hz,rfl⟩
 unfold pyNext
 exact wpAny_bind (wpAny_attempt (wpAny_callSpecial?_slot (name:=Str.ofString "__next__") hT F.slot_zip_next
  (wpAny_call_entry F.slot_zip_next hT F.entry_zip_next
   (VX D1 D2 ap hz hTI hTO h1 h2 l1 l2 λx y h' tk a1 a2 a3 a4 a5 a6 a7 a8=>wpAny_pure (hQ x y h' tk a1 a2 a3 a4 a5 a6 a7 a8)) (F.args_zip_next_1 _))))
theorem YT {Q:Option Value->Shared->Prop}(D1:Draws prog w A.in1 i1 fp1 n1 P1 St1)(az1:z∉fp1)(nz:i1≠z)
 (hz:IsZip s.heap z TI TO .none) (hTI:IsPair s.heap TI (.ref i1) (.ref i2)) (h1:St1 n1 s.heap)
 (hQ:∀ h',(∀ c o,c≠z->c≠i1->s.heap.get? c=some o->h'.get? c=some o)->Q none { s with heap:=h' }):wpAny (model prog w) A (pyNext (.ref z)) Q E s:=by
 have hT:s.TypeIs (.ref z) "zip":=⟨_,hz,rfl⟩
 unfold pyNext
 refine wpAny_bind (wpAny_attempt (wpAny_callSpecial?_slot (name:=Str.ofString "__next__") hT F.slot_zip_next
  (wpAny_call_entry F.slot_zip_next hT F.entry_zip_next (zaO D1 az1 nz hz hTI h1 λh' e hk he=>?_) (F.args_zip_next_1 _))))
 obtain⟨o,ho,hc⟩:=he
 refine wpAny_bind (wpAny_isInstance (T:="StopIteration") (b:=true) ⟨o,ho,hc⟩ isSubtype_stop ?_)
 exact wpAny_pure (hQ _ hk)
end
end PySem
namespace L2
open PySem PySem.Spec PyProof.Rows
noncomputable def Sq (b:Bool)(K:PySem.W.Frag)(H:Hp)(a:Addr)(xs:List V):Prop:=if b=true then SqL K H a xs else SqT K H a xs
theorem Inv.sq {X:Cx}{pins:List (Addr × Obj)}{σ:St}{H:Hp}{s:Shared}{a:Addr}{xs:List V}{b:Bool}(I:Inv X pins σ H s)(h:Sq b X.K H a xs):∃ its:List Value,yf xs its/\zcq b s.heap a its.toArray/\a < s.heap.objs.size:=by
 cases b with
 | true =>
  obtain⟨its,r,p,_⟩:=I.list (show SqL X.K H a xs from h)
  exact⟨its,r,p.isList,by obtain⟨o,n,ho,_⟩:=p;exact Heap.lt_size ho⟩
 | false =>
  obtain⟨its,r,p,_⟩:=I.tuple (show SqT X.K H a xs from h)
  exact⟨its,r,p,by obtain⟨o,ho,_⟩:=p;exact Heap.lt_size ho⟩
theorem Inv.sq_inj {X:Cx}{pins:List (Addr × Obj)}{σ:St}{H:Hp}{s:Shared}{a:Addr}{xs ys:List V}{b:Bool}(I:Inv X pins σ H s)(h:Sq b X.K H a xs)(h':Sq b X.K H a ys):xs=ys:=by
 cases b with
 | true=>exact I.list_inj h h'
 | false=>exact I.tuple_inj h h'
noncomputable def Izp (K:PySem.W.Frag)(b1 b2:Bool)(l1 l2:Addr):It :=
 ⟨λi H=>∃ xs ys x y,Sq b1 K H l1 xs/\Sq b2 K H l2 ys/\xs[i]?=some x/\ys[i]?=some y,
  λi H v H'=>∃ T x y,v=.ref T/\H T=none/\H'=upd H T (.tup [x,y])/\(∀ xs,Sq b1 K H l1 xs->xs[i]?=some x)/\(∀ ys,Sq b2 K H l2 ys->ys[i]?=some y),
  λi H=>∃ xs,Sq b1 K H l1 xs/\i=xs.length⟩
theorem Y9 {b:Bool}{h:Heap}{it l:Addr}{k:Nat}(x:W6 b h it l k):∃ o,h.get? it=some o/\∀ v,o.data≠.cell v:=by
 cases b
 .obtain⟨o,ho,_,hd⟩:=x
  exact⟨o,ho,λv z=>by rw[hd]at z;cases z⟩
 .obtain⟨o,ho,_,hd⟩:=x
  exact⟨o,ho,λv z=>by rw[hd]at z;cases z⟩
theorem ZM {b:Bool}{h h':Heap}{it l:Addr}{k:Nat}(x:W6 b h it l k)(e:∀ o,h.get? it=some o->h'.get? it=some o):W6 b h' it l k:=by
 cases b
 .obtain⟨o,ho,r⟩:=x
  exact⟨o,e o ho,r⟩
 .obtain⟨o,ho,r⟩:=x
  exact⟨o,e o ho,r⟩
theorem zgR {P:Program}{w:World}{K:PySem.W.Frag}{es:List Expr}{k:Nat}{tp:Pos}(b1 b2:Bool)(l1 l2 z TI TO i1 i2:Addr)(ap:zf9 z TI TO i1 i2 [i1,l1] [i2,l2])(n1:l1≠i1)(n2:l2≠i2) :
 ziv P w K (.Tuple es k tp) (Izp K b1 b2 l1 l2) [z,TI,TO,i1,i2] z (λi h=>IsZip h z TI TO .none/\IsPair h TI (.ref i1) (.ref i2)/\(∃ a b,IsPair h TO a b)/\W6 b1 h i1 l1 i/\W6 b2 h i2 l2 i) where
 mem:=by simp
 obj:=λi h st b hb=>by
  obtain⟨hz,hTI,⟨a,c,hTO⟩,h1,h2⟩:=st
  simp only[List.mem_cons,List.not_mem_nil,or_false]at hb
  rcases hb with rfl | rfl | rfl | rfl | rfl
  .exact⟨_,hz,λv z=>by cases z⟩
  .exact⟨_,hTI,λv z=>by cases z⟩
  .exact⟨_,hTO,λv z=>by cases z⟩
  .exact Y9 h1
  .exact Y9 h2
 keep:=λi h h' st kk=>by
  obtain⟨hz,hTI,⟨a,c,hTO⟩,h1,h2⟩:=st
  exact⟨kk z (by simp) _ hz,kk TI (by simp) _ hTI,⟨a,c,kk TO (by simp) _ hTO⟩,ZM h1 λo q=>kk i1 (by simp) o q,ZM h2 λo q=>kk i2 (by simp) o q⟩
 item:=by
  intro X hP hw hK hc i pins s σ H E I hf st hg
  subst hP hw hK
  obtain⟨hz,hTI,⟨a,c,hTO⟩,h1,h2⟩:=st
  obtain⟨xs,ys,x,y,hq1,hq2,hx,hy⟩:=hg
  obtain⟨its,rv,p,_⟩:=I.sq hq1
  obtain⟨its2,rv2,p2,_⟩:=I.sq hq2
  obtain⟨u,hu,ru⟩:=rv.get hx
  obtain⟨u2,hu2,ru2⟩:=rv2.get hy
  have hl1:i < its.toArray.size:=by simpa using (List.getElem?_eq_some_iff.mp hu).1
  have hl2:i < its2.toArray.size:=by simpa using (List.getElem?_eq_some_iff.mp hu2).1
  have hh:X.A.in1.handled=none:=I.ok.hd hc
  refine Yy (Z8 hh b1 i1 l1 n1 its.toArray) (Z8 hh b2 i2 l2 n2 its2.toArray) ap hz hTI hTO ⟨h1,p⟩ ⟨h2,p2⟩ hl1 hl2 λv1 v2 h' tk e1 e2 hz' hTO' s1 s2 hT' hk=>?_
  have eu:v1=u:=by
   have:its[i]?=some v1:=by simpa using e1
   rw[hu]at this
   exact(Option.some.inj this).symm
  have eu2:v2=u2:=by
   have:its2[i]?=some v2:=by simpa using e2
   rw[hu2]at this
   exact(Option.some.inj this).symm
  subst eu eu2
  obtain⟨nd,az1,az2,ao1,ao2,a12,a21⟩:=ap
  simp only[List.nodup_cons,List.mem_cons,List.not_mem_nil,or_false,not_or,not_false_eq_true,List.nodup_nil,and_true]at nd
  obtain⟨⟨m1,m2,m3,m4⟩,⟨m5,m6,m7⟩,⟨m8,m9⟩,m10⟩:=nd
  refine⟨_,rfl,wpAny_letOwnedTupleGo_zip hz' λh2' hz2 hs2=>?_⟩
  have hfr:H s.heap.objs.size=none:=I.hok.fresh (Nat.le_refl _)
  have neZ:s.heap.objs.size≠z:=Nat.ne_of_gt (Heap.lt_size hz)
  have hT2:IsPair h2' s.heap.objs.size v1 v2:=(hs2.2 _ neZ).trans hT'
  have hTI':IsPair h' TI (.ref i1) (.ref i2):=hk TI _ (by simp[Ne.symm m1,m5,m6,m7]) hTI
  have lt:∀ b∈[z,TI,TO,i1,i2],b < s.heap.objs.size:=λb hb=>by
   simp only[List.mem_cons,List.not_mem_nil,or_false]at hb
   rcases hb with rfl | rfl | rfl | rfl | rfl
   .exact Heap.lt_size hz
   .exact Heap.lt_size hTI
   .exact Heap.lt_size hTO
   .obtain⟨o,ho,_⟩:=Y9 h1;exact Heap.lt_size ho
   .obtain⟨o,ho,_⟩:=Y9 h2;exact Heap.lt_size ho
  refine⟨.ref s.heap.objs.size,upd H s.heap.objs.size (.tup [x,y]),?_,rfl,⟨_,x,y,rfl,hfr,rfl,λzs hz=>by rw[I.sq_inj hz hq1];exact hx,λzs hz=>by rw[I.sq_inj hz hq2];exact hy⟩,
   ⟨hz2,(hs2.2 TI (Ne.symm m1)).trans hTI',⟨_,_,(hs2.2 TO (Ne.symm m2)).trans hTO'⟩,ZM s1.1 λo q=>(hs2.2 i1 (Ne.symm m3)).trans q,ZM s2.1 λo q=>(hs2.2 i2 (Ne.symm m4)).trans q⟩,λb hb=>?_⟩
  .refine I.grown (ch:=[z,TI,TO,i1,i2]) hf (Nat.le_refl _) (λb v hb q=>?_) ?_
   .have nb:b≠z:=λw=>hb (by simp[w])
    refine(hs2.2 b nb).trans (hk b v (λw=>hb ?_) q)
    simp only[List.mem_cons,List.not_mem_nil,or_false]at w ⊢
    rcases w with w | w | w | w
    .exact .inl w
    .exact .inr (.inr (.inl w))
    .exact .inr (.inr (.inr (.inl w)))
    .exact .inr (.inr (.inr (.inr w)))
   .exact⟨by show 2<=sizeLine;decide,[v1,v2],.cons ru (.cons ru2 .nil),⟨_,hT2,rfl,0,rfl⟩⟩
  .rw[zp (Nat.ne_of_lt (lt b hb))]
   exact(hf b hb).1
 done:=by
  intro X hP hw hK hc i pins s σ H E I hf st hg
  subst hP hw hK
  obtain⟨hz,hTI,⟨a,c,hTO⟩,h1,h2⟩:=st
  obtain⟨xs,hq,rfl⟩:=hg
  obtain⟨its,rv,p,_⟩:=I.sq hq
  have hl:=rv.length
  have hh:X.A.in1.handled=none:=I.ok.hd hc
  have D:=Z8 (prog:=X.prog) (w:=X.w) hh b1 i1 l1 n1 its.toArray
  refine YT D ap.z1 ?_ hz hTI ⟨by rw[List.size_toArray,<- hl];exact h1,p⟩ λh' hk=>⟨rfl,I.turnedN (ch:=[z,TI,TO,i1,i2]) (t':=s.toks) hf λb v hb q=>hk b v (λw=>hb (by simp[w])) (λw=>hb (by simp[w])) q⟩
  have nd:=ap.nd
  simp only[List.nodup_cons,List.mem_cons,List.not_mem_nil,or_false,not_or,not_false_eq_true,List.nodup_nil,and_true]at nd
  exact Ne.symm nd.1.2.2.1
 self:=λ_ _ _ _ _ st h=>wpAny_pyIter_zip st.1 h
noncomputable def iZip (K:PySem.W.Frag)(ta:TA):TI:=fun σ H R=>ta σ H λvs H1=>∃ b1 b2 l1 l2 xs ys,vs=[.ref l1,.ref l2]/\Sq b1 K H1 l1 xs/\Sq b2 K H1 l2 ys/\R (Izp K b1 b2 l1 l2) H1
theorem zj5 {X:Cx} {es:List Expr} {k:Nat} {tp:Pos} {a b:Expr} {ta:TA} {p pos:Pos} (hg:Gl X "zip") (hm:X.mg "zip"=none) (hb:bootBuiltins "zip"=some (.type "zip")) (ha:PA X [a,b] ta)
 (hs:starEach [a,b] X.env=[(false,eval a X.env),(false,eval b X.env)]:=by rfl) (hs2:starEach [b] X.env=[(false,eval b X.env)]:=by rfl):PI X (.Tuple es k tp) (.Call (.Name "zip" p) [a,b] [] pos) (iZip X.K ta):=by
 intro pins s σ H R I h
 refine Call_ (XM I hg hm hb (PyProof.Rows.callWith_type1 (thn (ha pos pins s σ H _ I h) λus s1 hh9=>?_) (by rw[hs,hs2]) (by rw[hs2];rfl)))
 obtain⟨vs,H1,I1,r1,q1⟩:=hh9
 obtain⟨b1,b2,l1,l2,xs,ys,e,hq1,hq2,q⟩:=q1
 subst e
 obtain⟨u,u2,rfl,ru,ru2⟩:=zcP r1
 cases ru
 cases ru2
 obtain⟨its,rv,p1,lt1⟩:=I1.sq hq1
 obtain⟨its2,rv2,p2,lt2⟩:=I1.sq hq2
 refine VP p1 p2 λh2 hz hTI hTO hi1 hi2 hk=>wpAny_pyIter_zip hz ?_
 have hn:∀ b,s1.heap.objs.size<=b->zci X pins H1 b:=λb hb=>I1.fpOk hb (I1.hok.fresh hb)
 have ap:zf9 (s1.heap.objs.size+4) (s1.heap.objs.size+2) (s1.heap.objs.size+3) s1.heap.objs.size (s1.heap.objs.size+1) [s1.heap.objs.size,l1] [s1.heap.objs.size+1,l2]:=by
  have q1:l1≠s1.heap.objs.size:=Nat.ne_of_lt lt1
  have q2:∀ j:Nat,s1.heap.objs.size+j≠l1:=λj e=>Nat.lt_irrefl _ (Nat.lt_of_lt_of_le (by rw[<-e]at lt1;exact lt1) (Nat.le_add_right _ _))
  have q3:∀ j:Nat,s1.heap.objs.size+j≠l2:=λj e=>Nat.lt_irrefl _ (Nat.lt_of_lt_of_le (by rw[<-e]at lt2;exact lt2) (Nat.le_add_right _ _))
  have ne:∀ i j:Nat,i≠j->s1.heap.objs.size+i≠s1.heap.objs.size+j:=λi j h e=>h (Nat.add_left_cancel e)
  have n0:∀ i:Nat,i≠0->s1.heap.objs.size+i≠s1.heap.objs.size:=λi h e=>h (Nat.add_left_cancel (n:=s1.heap.objs.size) (m:=i) (k:=0) e)
  refine⟨?_,?_,?_,?_,?_,?_,?_⟩
  .simp only[List.nodup_cons,List.mem_cons,List.not_mem_nil,or_false,not_or,not_false_eq_true,List.nodup_nil,and_true]
   exact⟨⟨ne 4 2 (by decide),ne 4 3 (by decide),n0 4 (by decide),ne 4 1 (by decide)⟩,⟨ne 2 3 (by decide),n0 2 (by decide),ne 2 1 (by decide)⟩,⟨n0 3 (by decide),ne 3 1 (by decide)⟩,Ne.symm (n0 1 (by decide))⟩
  .simp only[List.mem_cons,List.not_mem_nil,or_false,not_or];exact⟨n0 4 (by decide),q2 4⟩
  .simp only[List.mem_cons,List.not_mem_nil,or_false,not_or];exact⟨ne 4 1 (by decide),q3 4⟩
  .simp only[List.mem_cons,List.not_mem_nil,or_false,not_or];exact⟨n0 3 (by decide),q2 3⟩
  .simp only[List.mem_cons,List.not_mem_nil,or_false,not_or];exact⟨ne 3 1 (by decide),q3 3⟩
  .simp only[List.mem_cons,List.not_mem_nil,or_false,not_or];exact⟨Ne.symm (n0 1 (by decide)),q3 0⟩
  .simp only[List.mem_cons,List.not_mem_nil,or_false,not_or];exact⟨n0 1 (by decide),q2 1⟩
 refine⟨_,_,_,_,H1,rfl,I1.kept (t':=s1.toks) hk,zgR b1 b2 l1 l2 _ _ _ _ _ ap (Nat.ne_of_lt lt1) (Nat.ne_of_lt (Nat.lt_succ_of_lt lt2)),⟨hz,hTI,⟨_,_,hTO⟩,hi1,hi2⟩,λb hb=>?_,q⟩
 simp only[List.mem_cons,List.not_mem_nil,or_false]at hb
 rcases hb with rfl | rfl | rfl | rfl | rfl
 .exact hn _ (Nat.le_add_right _ _)
 .exact hn _ (Nat.le_add_right _ _)
 .exact hn _ (Nat.le_add_right _ _)
 .exact hn _ (Nat.le_refl _)
 .exact hn _ (Nat.le_add_right _ _)
end L2
namespace OwnSort
open PySem PyProof.Rows
section pure
variable {κ:KeyKind}{xs:Array Keyed}
theorem turned {n:Nat}(hn:n<=xs.size)(h:NonIncK κ xs n):SortedToK κ (mirror xs 0 n ((n - 0) / 2)) n:=λi j hij hj=>by
 rw[KK_mirror hn,KK_mirror hn,if_pos ⟨by omega,by omega⟩,if_pos ⟨by omega,by omega⟩]
 exact h _ _ (by omega) (by omega)
end pure
noncomputable abbrev Pr:=Int × Int
noncomputable def bltP (s t:Pr):Bool:=decide (s.1 < t.1\/(s.1=t.1/\s.2 < t.2))
noncomputable def TP (h:Heap) (v:Value) (t:Pr):Prop:=∃ a o n tx ty,v=.ref a/\h.get? a=some o/\o.cls=.type "tuple"/\o.data=.seq #[.int t.1 tx,.int t.2 ty] n
theorem TP.uniq {h:Heap}{v:Value}{s t:Pr}(x:TP h v s)(y:TP h v t):s=t:=by
 obtain⟨a,o,n,tx,ty,rfl,e1,_,d1⟩:=x
 obtain⟨b,o2,n2,ux,uy,e,e2,_,d2⟩:=y
 cases e
 rw[e1]at e2
 cases e2
 rw[d1]at d2
 injection d2 with d2 _
 have:=congrArg Array.toList d2
 simp at this
 exact Prod.ext this.1.1 this.2.1
open Classical in
noncomputable def keyP (h:Heap)(v:Value):Option Pr:=if x:∃ t,TP h v t then some x.choose else none
theorem keyP_of {h:Heap}{v:Value}{t:Pr}(x:TP h v t):keyP h v=some t:=by
 unfold keyP
 have y:∃ t,TP h v t:=⟨t,x⟩
 rw[dif_pos y,y.choose_spec.uniq x]
@[reducible] noncomputable def kindP (h:Heap):KeyKind where
 α:=Pr
 blt:=bltP
 irrefl a:=by unfold bltP;exact decide_eq_false (by omega)
 trans a b c h1 h2:=by unfold bltP at *;rw[decide_eq_true_eq]at *;omega
 negTrans a b c h:=by unfold bltP at *;rw[decide_eq_true_eq]at *;rw[decide_eq_true_eq];omega
 total a b h1 h2:=by
  unfold bltP at *
  rw[decide_eq_false_iff_not]at *
  exact Prod.ext (by omega) (by omega)
 keyOf:=keyP h
 dflt:=(0,0)
theorem zfb (b:Bool)(x y:Value):keyLt' (tuples' b) x y=(do
 let xs<-Builtin.List.listItems x
 let ys<-Builtin.List.listItems y
 for ((p,q),i)in (xs.toList.zip ys.toList).zipIdx do
  if !(<- eqBool p q)then return<-oneLt' (b&&i == 0) p q
 return xs.size < ys.size):=rfl
theorem zeD (v:Value):firstOfTuple' v=(do
 if (<- typeOf v) != .type "tuple" then return none
 return (<- Builtin.List.listItems v)[0]?):=rfl
section
variable {prog:Program}{w:World}{A:Around}{E:Value->Shared->Prop}{s:Shared}
theorem lt0 {a b:Int}{t u:Tok}{Q:Bool->Shared->Prop}(h:Q (decide (a < b)) s):wpAny (model prog w) A (oneLt' false (.int a t) (.int b u)) Q E s:=by
 rw[oneLt'_eq]
 rw[if_neg Bool.false_ne_true]
 exact wpAny_bind (PyProof.Rows.lt_int (wpAny_truthy_bool h))
theorem zbO:∀ {fs:List Value},(∀ f∈fs,∃ i t,f=.int i t)->fs.mapM typeOf=pure (fs.map λ_=>Value.type "int")
 | [],_=>by simp
 | f::fs,h=>by
  obtain⟨i,t,rfl⟩:=h f List.mem_cons_self
  rw[List.mapM_cons,zbO λg hg=>h g (List.mem_cons_of_mem _ hg),show typeOf (.int i t)=pure (.type "int")from rfl]
  simp
end
end OwnSort
namespace OwnTim
open PySem PyProof.Rows
noncomputable abbrev SM:=StateT SortSt Sem
noncomputable def gal:Bool->Keyed->Array Keyed->Nat->Nat->Nat->SM (Option Nat):=sortPriv% PySem.Builtin.gallop
noncomputable def bey (l:Bool)(q:Keyed)(v:Array Keyed)(b i:Nat):SM (Option Bool):=do
 let x<-elem' v (b+i)
 if l then lt' x q else
  return (<- lt' q x).map (!·)
noncomputable def zbQ (l:Bool)(q:Keyed)(v:Array Keyed)(b n x0 y0:Nat):SM (Option Nat):=do
 let mut x:=x0
 let mut y:=y0
 for _ in [0:n] do
  if x >= y then break
  let c:=x+(y - x) / 2
  let some z<-bey l q v b c | return none
  if z then x:=c+1 else y:=c
 return some y
theorem zkV (l:Bool)(q:Keyed)(v:Array Keyed)(b n t:Nat):gal l q v b n t=(do
 let some r<-bey l q v b t | return none
 let mut u:=0
 let mut o:=1
 if r then
  let w:=n - t
  for _ in [0:n] do
   if o >= w then break
   let some z<-bey l q v b (t+o) | return none
   if !z then break
   u:=o
   o:=2*o+1
  zbQ l q v b n (t+u+1) (t+min o w)
 else
  let w:=t+1
  for _ in [0:n] do
   if o >= w then break
   let some z<-bey l q v b (t - o) | return none
   if z then break
   u:=o
   o:=2*o+1
  zbQ l q v b n (t+1 - min o w) (t - u)):=rfl
section
variable {prog:Program}{w:World}{A:Around}{E:Value->Shared->Prop}{s:Shared}{st:SortSt}
theorem zfa {l:Bool}{q:Keyed}{v:Array Keyed}{b n t:Nat}{f:Nat->Bool}{P:Option Nat->SortSt->Prop}(BY:∀ i,i < n->∀ Q:Option Bool->SortSt->Prop,Q (some (f i)) st->wpS (model prog w) A E s (bey l q v b i) Q st)
 (hm:∀ i j,i<=j->j < n->f j=true->f i=true) (ht:t < n) (h:∀ k,k<=n->(∀ i,i < k->f i=true)->(∀ i,k<=i->i < n->f i=false)->P (some k) st):wpS (model prog w) A E s (gal l q v b n t) P st:=by
 have hm':∀ i j,i<=j->j < n->f i=false->f j=false:=λi j hij hj hf=>by
  cases e:f j with
  | false=>rfl
  | true=>rw[hm i j hij hj e]at hf;cases hf
 rw[zkV]
 dsimp only
 have last:∀ x y:Nat,x<=y->y<=n->(∀ i,i < x->f i=true)->(∀ i,y<=i->i < n->f i=false)->wpS (model prog w) A E s (zbQ l q v b n x y) P st:=λx y hxy hy h1 h2=>by
  unfold zbQ
  dsimp only
  refine wpS_bind (wpS_mono (wpS_forRange (I:=λi c t'=>t'=st/\∃ x y,c=(none,x,y)/\x<=y/\y<=n/\y - x<=n - i/\(∀ i,i < x->f i=true)/\∀ i,y<=i->i < n->f i=false) (Q:=λc t'=>t'=st/\∃ y,c=(none,y,y)/\y<=n/\(∀ i,i < y->f i=true)/\∀ i,y<=i->i < n->f i=false)
   (λi c t' _ hi hI=>?_) (λc t' hI=>?_) ⟨rfl,x,y,rfl,hxy,hy,by omega,h1,h2⟩) λc t' hI=>?_)
  .obtain⟨rfl,x,y,rfl,a1,a2,a3,a4,a5⟩:=hI
   dsimp only
   by_cases c1:x >= y
   .rw[if_pos c1]
    obtain rfl:x=y:=by omega
    exact wpS_pure ⟨rfl,x,rfl,a2,a4,a5⟩
   .rw[if_neg c1]
    obtain⟨c,hc⟩:∃ c,x+(y - x) / 2=c:=⟨_,rfl⟩
    rw[hc]
    have c2:x<=c/\c < y:=by omega
    refine wpS_bind (BY c (by omega) _ ?_)
    dsimp only
    cases e:f c with
    | true =>
     rw[if_pos rfl]
     exact wpS_pure ⟨rfl,c+1,y,rfl,by omega,a2,by omega,λj hj=>hm j c (by omega) (by omega) e,a5⟩
    | false =>
     rw[if_neg Bool.false_ne_true]
     exact wpS_pure ⟨rfl,x,c,rfl,by omega,by omega,by omega,a4,λj hj hn=>hm' c j hj hn e⟩
  .obtain⟨rfl,x,y,rfl,a1,a2,a3,a4,a5⟩:=hI
   obtain rfl:x=y:=by omega
   exact⟨rfl,x,rfl,a2,a4,a5⟩
  .obtain⟨rfl,y,rfl,a2,a4,a5⟩:=hI
   exact wpS_pure (h y a2 a4 a5)
 refine wpS_bind (BY t ht _ ?_)
 dsimp only
 cases e:f t with
 | true =>
  rw[if_pos rfl]
  refine wpS_bind (wpS_mono (wpS_forRange (I:=λi c t'=>t'=st/\∃ u o,c=(none,u,o)/\t+u < n/\u+1<=o/\i+1<=o/\f (t+u)=true) (Q:=λc t'=>t'=st/\∃ u o,c=(none,u,o)/\t+u < n/\u+1<=o/\f (t+u)=true/\(n - t<=o\/(t+o < n/\f (t+o)=false)))
   (λi c t' _ hi hI=>?_) (λc t' hI=>?_) ⟨rfl,0,1,rfl,ht,by omega,by omega,e⟩) λc t' hI=>?_)
  .obtain⟨rfl,u,o,rfl,a1,a2,a3,a4⟩:=hI
   dsimp only
   by_cases c1:o >= n - t
   .rw[if_pos c1]
    exact wpS_pure ⟨rfl,u,o,rfl,a1,a2,a4,.inl c1⟩
   .rw[if_neg c1]
    refine wpS_bind (BY (t+o) (by omega) _ ?_)
    dsimp only
    cases e2:f (t+o) with
    | false=>exact wpS_pure ⟨rfl,u,o,rfl,a1,a2,a4,.inr ⟨by omega,e2⟩⟩
    | true=>exact wpS_pure ⟨rfl,o,2*o+1,rfl,by omega,by omega,by omega,e2⟩
  .obtain⟨rfl,u,o,rfl,a1,a2,a3,a4⟩:=hI
   exact⟨rfl,u,o,rfl,a1,a2,a4,.inl (by omega)⟩
  .obtain⟨rfl,u,o,rfl,a1,a2,a4,a5⟩:=hI
   have e3:min o (n - t)<=n - t:=Nat.min_le_right _ _
   have e5:u+1<=min o (n - t):=Nat.le_min.mpr ⟨a2,by omega⟩
   have e6:(min o (n - t)=n - t/\n - t<=o)\/(min o (n - t)=o/\t+o < n/\f (t+o)=false):=by
    rcases a5 with a5 | a5
    .exact .inl ⟨Nat.min_eq_right a5,a5⟩
    .exact .inr ⟨Nat.min_eq_left (by omega),a5⟩
   dsimp only
   refine last (t+u+1) (t+min o (n - t)) (by omega) (by omega) (λi hi=>hm i (t+u) (by omega) a1 a4) λi hi hn=>?_
   rcases e6 with ⟨a5,_⟩ | ⟨a5,a6,a7⟩
   .rw[a5]at hi
    omega
   .rw[a5]at hi
    exact hm' (t+o) i hi hn a7
 | false =>
  rw[if_neg Bool.false_ne_true]
  refine wpS_bind (wpS_mono (wpS_forRange (I:=λi c t'=>t'=st/\∃ u o,c=(none,u,o)/\u<=t/\u+1<=o/\i+1<=o/\f (t - u)=false) (Q:=λc t'=>t'=st/\∃ u o,c=(none,u,o)/\u<=t/\u+1<=o/\f (t - u)=false/\(t+1<=o\/(o<=t/\f (t - o)=true)))
   (λi c t' _ hi hI=>?_) (λc t' hI=>?_) ⟨rfl,0,1,rfl,by omega,by omega,by omega,e⟩) λc t' hI=>?_)
  .obtain⟨rfl,u,o,rfl,a1,a2,a3,a4⟩:=hI
   dsimp only
   by_cases c1:o >= t+1
   .rw[if_pos c1]
    exact wpS_pure ⟨rfl,u,o,rfl,a1,a2,a4,.inl c1⟩
   .rw[if_neg c1]
    refine wpS_bind (BY (t - o) (by omega) _ ?_)
    dsimp only
    cases e2:f (t - o) with
    | true=>exact wpS_pure ⟨rfl,u,o,rfl,a1,a2,a4,.inr ⟨by omega,e2⟩⟩
    | false=>exact wpS_pure ⟨rfl,o,2*o+1,rfl,by omega,by omega,by omega,e2⟩
  .obtain⟨rfl,u,o,rfl,a1,a2,a3,a4⟩:=hI
   exact⟨rfl,u,o,rfl,a1,a2,a4,.inl (by omega)⟩
  .obtain⟨rfl,u,o,rfl,a1,a2,a4,a5⟩:=hI
   have e3:min o (t+1)<=t+1:=Nat.min_le_right _ _
   have e5:u+1<=min o (t+1):=Nat.le_min.mpr ⟨a2,by omega⟩
   have e6:min o (t+1)=t+1\/(min o (t+1)=o/\o<=t/\f (t - o)=true):=by
    rcases a5 with a5 | a5
    .exact .inl (Nat.min_eq_right a5)
    .exact .inr ⟨Nat.min_eq_left (by omega),a5⟩
   dsimp only
   refine last (t+1 - min o (t+1)) (t - u) (by omega) (by omega) (λi hi=>?_) λi hi hn=>hm' (t - u) i hi hn a4
   rcases e6 with a5 | ⟨a5,a6,a7⟩
   .rw[a5]at hi
    omega
   .rw[a5]at hi
    exact hm i (t - o) (by omega) (by omega) a7
end
set_option genInjectivity false in
set_option genSizeOf false in
set_option genCtorIdx false in
structure WI {α:Type} (R:α->α->Prop) (xs ys o:List α) (i j:Nat):Prop where
 pi:i<=xs.length
 pj:j<=ys.length
 pm:o.Perm (xs.take i++ys.take j)
 so:o.Pairwise R
 bx:∀ z∈o,∀ x∈xs.drop i,R z x
 by_:∀ z∈o,∀ y∈ys.drop j,R z y
section
variable {α:Type}{R:α->α->Prop}{xs ys o:List α}{i j k:Nat}
theorem WI.swap (w:WI R xs ys o i j):WI R ys xs o j i:=⟨w.pj,w.pi,w.pm.trans List.perm_append_comm,w.so,w.by_,w.bx⟩
theorem WI.runA (w:WI R xs ys o i j)(sx:xs.Pairwise R)(hk:i+k<=xs.length)(h:∀ x∈(xs.drop i).take k,∀ y∈ys.drop j,R x y):WI R xs ys (o++(xs.drop i).take k) (i+k) j:=by
 have hs:(xs.drop i).Pairwise R:=sx.sublist (List.drop_sublist _ _)
 have hd:xs.drop (i+k)=(xs.drop i).drop k:=by rw[List.drop_drop]
 refine⟨hk,w.pj,?_,?_,λz hz x hx=>?_,λz hz y hy=>?_⟩
 .rw[List.take_add]
  refine(w.pm.append_right _).trans ?_
  rw[List.append_assoc,List.append_assoc]
  exact List.Perm.append_left _ List.perm_append_comm
 .rw[List.pairwise_append]
  exact⟨w.so,hs.sublist (List.take_sublist _ _),λa ha b hb=>w.bx a ha b (List.mem_of_mem_take hb)⟩
 .rw[hd]at hx
  rcases List.mem_append.mp hz with hz | hz
  .exact w.bx z hz x (List.mem_of_mem_drop hx)
  .have e:=List.take_append_drop k (xs.drop i)
   rw[<-e,List.pairwise_append]at hs
   exact hs.2.2 z hz x hx
 .rcases List.mem_append.mp hz with hz | hz
  .exact w.by_ z hz y hy
  .exact h z hz y hy
theorem WI.runB (w:WI R xs ys o i j)(sy:ys.Pairwise R)(hk:j+k<=ys.length)(h:∀ y∈(ys.drop j).take k,∀ x∈xs.drop i,R y x):WI R xs ys (o++(ys.drop j).take k) i (j+k):=(w.swap.runA sy hk h).swap
theorem zjZ {l:List α}{x:α}{i:Nat}(h:l[i]?=some x):(l.drop i).take 1=[x]:=by
 obtain⟨hi,rfl⟩:=List.getElem?_eq_some_iff.mp h
 rw[List.drop_eq_getElem_cons hi]
 rfl
theorem WI.pushA {x:α}(w:WI R xs ys o i j)(sx:xs.Pairwise R)(hx:xs[i]?=some x)(h:∀ y∈ys.drop j,R x y):WI R xs ys (o++[x]) (i+1) j:=by
 have hi:=(List.getElem?_eq_some_iff.mp hx).1
 have:=w.runA (k:=1) sx (by omega) (by rw[zjZ hx];intro z hz y hy;rw[List.mem_singleton.mp hz];exact h y hy)
 rw[zjZ hx]at this
 exact this
theorem WI.pushB {y:α}(w:WI R xs ys o i j)(sy:ys.Pairwise R)(hy:ys[j]?=some y)(h:∀ x∈xs.drop i,R y x):WI R xs ys (o++[y]) i (j+1):=(w.swap.pushA sy hy h).swap
theorem WI.done (w:WI R xs ys o i j)(sx:xs.Pairwise R)(sy:ys.Pairwise R)(h:∀ x∈xs.drop i,∀ y∈ys.drop j,R x y):(o++xs.drop i++ys.drop j).Perm (xs++ys)/\(o++xs.drop i++ys.drop j).Pairwise R:=by
 constructor
 .have e1:=List.take_append_drop i xs
  have e2:=List.take_append_drop j ys
  have p:(o++xs.drop i++ys.drop j).Perm (xs.take i++ys.take j++xs.drop i++ys.drop j):=(w.pm.append_right _).append_right _
  refine p.trans ?_
  have q:(xs.take i++ys.take j++xs.drop i++ys.drop j).Perm (xs.take i++xs.drop i++(ys.take j++ys.drop j)):=by
   rw[List.append_assoc (xs.take i),List.append_assoc (xs.take i),List.append_assoc (xs.take i)]
   refine List.Perm.append_left _ ?_
   rw[<-List.append_assoc]
   exact List.perm_append_comm.append_right _
  rw[e1,e2]at q
  exact q
 .rw[List.pairwise_append,List.pairwise_append]
  refine⟨⟨w.so,sx.sublist (List.drop_sublist _ _),w.bx⟩,sy.sublist (List.drop_sublist _ _),λa ha b hb=>?_⟩
  rcases List.mem_append.mp ha with ha | ha
  .exact w.by_ a ha b hb
  .exact h a ha b hb
theorem XH (hr:∀ a:α,R a a)(sx:xs.Pairwise R){x:α}(hx:xs[i]?=some x):∀ z∈xs.drop i,R x z:=by
 obtain⟨hi,rfl⟩:=List.getElem?_eq_some_iff.mp hx
 intro z hz
 have hs:(xs.drop i).Pairwise R:=sx.sublist (List.drop_sublist _ _)
 rw[List.drop_eq_getElem_cons hi]at hs hz
 rcases List.mem_cons.mp hz with rfl | hz
 .exact hr _
 .exact(List.pairwise_cons.mp hs).1 z hz
end
noncomputable def mlo:Array Keyed->Array Keyed->SM (Array Keyed):=sortPriv% PySem.Builtin.mergeLo
noncomputable def zaq:Nat->SM Unit:=sortPriv% PySem.Builtin.setMinGallop
theorem zgF (g:Nat):zaq g=modify λs=>SortSt.mk' (kindOf s) (arrOf s) (pendingOf s) g (failedOf s):=rfl
noncomputable abbrev KA:=Array Keyed
noncomputable abbrev Z1:=Option KA × KA × Nat × Nat × Nat × Nat
noncomputable abbrev Z2:=Option KA × KA × Nat × Nat × Nat × Nat × Nat
noncomputable abbrev Z3:=Option KA × KA × Nat × Nat × Nat
noncomputable abbrev dn (v u o:KA)(i j:Nat):KA:=o++v.extract i v.size++u.extract j u.size
noncomputable abbrev ls (v u o:KA)(i j:Nat):KA:=o++u.extract j u.size++v.extract i v.size
noncomputable def zlg (v u:KA)(g:Nat)(z:Z1):SM (ForInStep Z1):=do
 let e<-elem' u z.2.2.2.1
 let f<-elem' v z.2.2.1
 let some b<-lt' e f | pure (.done (some (dn v u z.2.1 z.2.2.1 z.2.2.2.1),z.2.1,z.2.2.1,z.2.2.2.1,z.2.2.2.2.1,z.2.2.2.2.2))
 if b=true then do
  let e<-elem' u z.2.2.2.1
  if (z.2.2.2.1+1 == u.size)=true then pure (.done (some (dn v u (z.2.1.push e) z.2.2.1 (z.2.2.2.1+1)),z.2.1.push e,z.2.2.1,z.2.2.2.1+1,0,z.2.2.2.2.2+1))
  else if z.2.2.2.2.2+1 >= g then pure (.done (none,z.2.1.push e,z.2.2.1,z.2.2.2.1+1,0,z.2.2.2.2.2+1))
  else pure (.yield (none,z.2.1.push e,z.2.2.1,z.2.2.2.1+1,0,z.2.2.2.2.2+1))
 else do
  let f<-elem' v z.2.2.1
  if (z.2.2.1+1+1 == v.size)=true then pure (.done (some (ls v u (z.2.1.push f) (z.2.2.1+1) z.2.2.2.1),z.2.1.push f,z.2.2.1+1,z.2.2.2.1,z.2.2.2.2.1+1,0))
  else if z.2.2.2.2.1+1 >= g then pure (.done (none,z.2.1.push f,z.2.2.1+1,z.2.2.2.1,z.2.2.2.2.1+1,0))
  else pure (.yield (none,z.2.1.push f,z.2.2.1+1,z.2.2.2.1,z.2.2.2.2.1+1,0))
noncomputable def loC (v u o:KA)(i j g c d:Nat):SM (ForInStep Z2):=do
 let f<-elem' v i
 if (i+1+1 == v.size)=true then pure (.done (some (ls v u (o.push f) (i+1) j),o.push f,i+1,j,g,c,d))
 else if (decide (c < 7)&&decide (d < 7))=true then pure (.done (none,o.push f,i+1,j,g,c,d))
 else pure (.yield (none,o.push f,i+1,j,g,c,d))
noncomputable def loB (v u o:KA)(i j g c d:Nat):SM (ForInStep Z2):=do
 let e<-elem' u j
 if (j+1 == u.size)=true then pure (.done (some (dn v u (o.push e) i (j+1)),o.push e,i,j+1,g,c,d))
 else do
  let f<-elem' v i
  let some k<-gal true f u (j+1) (u.size - (j+1)) 0 | pure (.done (some (dn v u (o.push e) i (j+1)),o.push e,i,j+1,g,c,d))
  if k > 0 then
   if (j+1+k == u.size)=true then pure (.done (some (dn v u (o.push e++u.extract (j+1) (j+1+k)) i (j+1+k)),o.push e++u.extract (j+1) (j+1+k),i,j+1+k,g,c,k))
   else loC v u (o.push e++u.extract (j+1) (j+1+k)) i (j+1+k) g c k
  else loC v u (o.push e) i (j+1) g c k
noncomputable def loA (v u o:KA)(i j g c d:Nat):SM (ForInStep Z2):=do
 zaq g
 let e<-elem' u j
 let some k<-gal false e v i (v.size - i) 0 | pure (.done (some (dn v u o i j),o,i,j,g,c,d))
 if k > 0 then
  if (i+k+1 == v.size)=true then pure (.done (some (ls v u (o++v.extract i (i+k)) (i+k) j),o++v.extract i (i+k),i+k,j,g,k,d))
  else if (i+k == v.size)=true then pure (.done (some (dn v u (o++v.extract i (i+k)) (i+k) j),o++v.extract i (i+k),i+k,j,g,k,d))
  else loB v u (o++v.extract i (i+k)) (i+k) j g k d
 else loB v u o i j g k d
noncomputable def zlr (v u:KA)(z:Z2):SM (ForInStep Z2) :=
 if z.2.2.2.2.1 > 1 then loA v u z.2.1 z.2.2.1 z.2.2.2.1 (z.2.2.2.2.1 - 1) z.2.2.2.2.2.1 z.2.2.2.2.2.2
 else loA v u z.2.1 z.2.2.1 z.2.2.2.1 z.2.2.2.2.1 z.2.2.2.2.2.1 z.2.2.2.2.2.2
noncomputable def zla (v u:KA)(z:Z3):SM (ForInStep Z3):=do
 let y<-forIn [0:v.size+u.size] ((none,z.2.1,z.2.2.1,z.2.2.2.1,0,0):Z1) λ_ q=>zlg v u z.2.2.2.2 q
 match y.1 with
 | some r=>pure (.done (some r,y.2.1,y.2.2.1,y.2.2.2.1,z.2.2.2.2))
 | none=>do
  rule "list.sort.gallop"
  let x<-forIn [0:v.size+u.size] ((none,y.2.1,y.2.2.1,y.2.2.2.1,z.2.2.2.2+1,y.2.2.2.2.1,y.2.2.2.2.2):Z2) λ_ q=>zlr v u q
  match x.1 with
  | some r=>pure (.done (some r,x.2.1,x.2.2.1,x.2.2.2.1,x.2.2.2.2.1))
  | none=>do
   zaq (x.2.2.2.2.1+1)
   pure (.yield (none,x.2.1,x.2.2.1,x.2.2.2.1,x.2.2.2.2.1+1))
theorem zk4 (v u:KA):mlo v u=(do
 rule "list.sort.merge-lo"
 let e<-elem' u 0
 if (1 == u.size)=true then pure (dn v u #[e] 0 1)
 else if (0+1 == v.size)=true then pure (ls v u #[e] 0 1)
 else do
  let g<-get
  let z<-forIn [0:v.size+u.size] ((none,#[e],0,1,gallopOf g):Z3) λ_ q=>zla v u q
  match z.1 with
  | some r=>pure r
  | none=>(unsupported ("internal:list.sort.merge-bound"))):=by
 show @bind SM _ _ _ _ _=_
 dsimp only[zla,zlr,loA,loB,loC,zlg,elem',lt',gal,zaq,gallopOf]
 congr 1;funext _;congr 1;funext e
 congr 1;congr 1;congr 1;funext g;congr 1
 .congr 1;funext _ z;congr 1
  funext x
  obtain⟨r,x⟩:=x
  cases r with
  | some r=>rfl
  | none =>
   dsimp only
   congr 1;funext _;congr 1
   funext y;obtain⟨r,y⟩:=y;cases r <;> rfl
 .funext y;obtain⟨r,y⟩:=y;cases r <;> rfl
noncomputable def ky (κ:KeyKind)(x:Keyed):κ.α:=(κ.keyOf x.1).getD κ.dflt
noncomputable def LE (κ:KeyKind)(x y:Keyed):Prop:=κ.kle (ky κ x) (ky κ y)
theorem LE.refl {κ:KeyKind}(x:Keyed):LE κ x x:=KeyOrd.kle_refl _
theorem LE.trans {κ:KeyKind}{x y z:Keyed}(h:LE κ x y)(h2:LE κ y z):LE κ x z:=KeyOrd.kle_trans h h2
noncomputable def LtE (prog:Program)(w:World)(A:Around)(E:Value->Shared->Prop)(s:Shared)(κ:KeyKind)(k:SortKind)(D:Keyed->Prop):Prop :=
 ∀ (st:SortSt) (x y:Keyed) (Q:Option Bool->SortSt->Prop),kindOf st=k->D x->D y->Q (some (κ.blt (ky κ x) (ky κ y))) st->wpS (model prog w) A E s (lt' x y) Q st
set_option genInjectivity false in
set_option genSizeOf false in
set_option genCtorIdx false in
structure Sm (st t:SortSt):Prop where
 kd:kindOf t=kindOf st
 ar:arrOf t=arrOf st
 pd:pendingOf t=pendingOf st
 fl:failedOf t=failedOf st
theorem Sm.refl (st:SortSt):Sm st st:=⟨rfl,rfl,rfl,rfl⟩
theorem Sm.trans {a b c:SortSt}(h:Sm a b)(h2:Sm b c):Sm a c:=⟨h2.kd.trans h.kd,h2.ar.trans h.ar,h2.pd.trans h.pd,h2.fl.trans h.fl⟩
section
variable {prog:Program}{w:World}{A:Around}{E:Value->Shared->Prop}{s:Shared}{st:SortSt}{κ:KeyKind}{k:SortKind}{D:Keyed->Prop}
theorem zH {v:KA}{i:Nat}{x:Keyed}{Q:Keyed->SortSt->Prop}(h:v.toList[i]?=some x)(q:Q x st):wpS (model prog w) A E s (elem' v i) Q st:=by
 rw[elem'_eq,show v[i]?=some x by rw[<-h];simp]
 exact wpS_pure q
theorem Zb {g:Nat}{Q:Unit->SortSt->Prop}(h:∀ t,Sm st t->Q () t):wpS (model prog w) A E s (zaq g) Q st:=by
 rw[zgF]
 exact wpS_modify (h _ ⟨rfl,rfl,rfl,rfl⟩)
theorem Zn {xs:List Keyed}{b n i:Nat}(hi:i < n)(hn:b+n<=xs.length):∃ x,xs[b+i]?=some x/\((xs.drop b).take n)[i]?=some x:=by
 have:b+i < xs.length:=by omega
 refine⟨xs[b+i],List.getElem?_eq_getElem this,?_⟩
 rw[List.getElem?_take_of_lt hi,List.getElem?_drop,List.getElem?_eq_getElem this]
theorem wT {α:Type}{l:List α}{k:Nat}{x:α}(h:x∈l.take k):∃ i,i < k/\l[i]?=some x:=by
 obtain⟨i,hi⟩:=List.mem_iff_getElem?.mp h
 by_cases c:i < k
 .exact⟨i,c,by rw[<-hi,List.getElem?_take_of_lt c]⟩
 .rw[List.getElem?_eq_none (by rw[List.length_take];omega)]at hi
  cases hi
theorem Yt {α:Type}{l:List α}{k:Nat}{x:α}(h:x∈l.drop k):∃ i,k<=i/\l[i]?=some x:=by
 obtain⟨i,hi⟩:=List.mem_iff_getElem?.mp h
 rw[List.getElem?_drop]at hi
 exact⟨k+i,by omega,hi⟩
theorem W9 {l:List Keyed}(sx:l.Pairwise (LE κ)){i j:Nat}{x y:Keyed}(hij:i<=j)(hx:l[i]?=some x)(hy:l[j]?=some y):LE κ x y:=by
 by_cases e:i=j
 .subst e
  rw[hx]at hy
  cases hy
  exact LE.refl _
 .obtain⟨h1,rfl⟩:=List.getElem?_eq_some_iff.mp hx
  obtain⟨h2,rfl⟩:=List.getElem?_eq_some_iff.mp hy
  exact List.pairwise_iff_getElem.mp sx i j h1 h2 (by omega)
theorem WJ {q:Keyed}{v:KA}{b n t:Nat}{P:Option Nat->SortSt->Prop}(L:LtE prog w A E s κ k D)(hk:kindOf st=k)(hq:D q)(hd:∀ x∈(v.toList.drop b).take n,D x)(hn:b+n<=v.toList.length)(ht:t < n)(sx:((v.toList.drop b).take n).Pairwise (LE κ))
 (h:∀ m,m<=n->(∀ x∈((v.toList.drop b).take n).take m,LE κ x q)->(∀ x∈((v.toList.drop b).take n).drop m,κ.klt (ky κ q) (ky κ x))->P (some m) st):wpS (model prog w) A E s (gal false q v b n t) P st:=by
 let f:Nat->Bool:=λi=>match ((v.toList.drop b).take n)[i]? with
  | some x=>!(κ.blt (ky κ q) (ky κ x))
  | none=>false
 have fx:∀ {i x},((v.toList.drop b).take n)[i]?=some x->f i=!(κ.blt (ky κ q) (ky κ x)):=λ{i x} e=>by show(match ((v.toList.drop b).take n)[i]? with | some x=>!(κ.blt (ky κ q) (ky κ x)) | none=>false)=_;rw[e]
 refine zfa (f:=f) (λi hi Q hQ=>?_) (λi j hij hj hf=>?_) ht λm hm h1 h2=>h m hm (λx hx=>?_) λx hx=>?_
 .obtain⟨x,e1,e2⟩:=Zn hi hn
  rw[fx e2]at hQ
  unfold bey
  refine wpS_bind (zH e1 ?_)
  rw[if_neg Bool.false_ne_true]
  exact wpS_bind (L _ _ _ _ hk hq (hd x (List.mem_of_getElem? e2)) (wpS_pure hQ))
 .obtain⟨x,_,e1⟩:=Zn (i:=i) (by omega) hn
  obtain⟨y,_,e2⟩:=Zn hj hn
  rw[fx e2,Bool.not_eq_true']at hf
  rw[fx e1,Bool.not_eq_true']
  exact LE.trans (κ:=κ) (y:=y) (W9 sx hij e1 e2) hf
 .obtain⟨i,hi,e⟩:=wT hx
  have:=h1 i hi
  rw[fx e,Bool.not_eq_true']at this
  exact this
 .obtain⟨i,hi,e⟩:=Yt hx
  have hil:i < n:=by
   have:=(List.getElem?_eq_some_iff.mp e).1
   rw[List.length_take]at this
   omega
  have:=h2 i hi hil
  rw[fx e,Bool.not_eq_false']at this
  exact this
theorem WF {q:Keyed}{v:KA}{b n t:Nat}{P:Option Nat->SortSt->Prop}(L:LtE prog w A E s κ k D)(hk:kindOf st=k)(hq:D q)(hd:∀ x∈(v.toList.drop b).take n,D x)(hn:b+n<=v.toList.length)(ht:t < n)(sx:((v.toList.drop b).take n).Pairwise (LE κ))
 (h:∀ m,m<=n->(∀ x∈((v.toList.drop b).take n).take m,κ.klt (ky κ x) (ky κ q))->(∀ x∈((v.toList.drop b).take n).drop m,LE κ q x)->P (some m) st):wpS (model prog w) A E s (gal true q v b n t) P st:=by
 let f:Nat->Bool:=λi=>match ((v.toList.drop b).take n)[i]? with
  | some x=>κ.blt (ky κ x) (ky κ q)
  | none=>false
 have fx:∀ {i x},((v.toList.drop b).take n)[i]?=some x->f i=κ.blt (ky κ x) (ky κ q):=λ{i x} e=>by show(match ((v.toList.drop b).take n)[i]? with | some x=>κ.blt (ky κ x) (ky κ q) | none=>false)=_;rw[e]
 refine zfa (f:=f) (λi hi Q hQ=>?_) (λi j hij hj hf=>?_) ht λm hm h1 h2=>h m hm (λx hx=>?_) λx hx=>?_
 .obtain⟨x,e1,e2⟩:=Zn hi hn
  rw[fx e2]at hQ
  unfold bey
  refine wpS_bind (zH e1 ?_)
  rw[if_pos rfl]
  exact L _ _ _ _ hk (hd x (List.mem_of_getElem? e2)) hq hQ
 .obtain⟨x,_,e1⟩:=Zn (i:=i) (by omega) hn
  obtain⟨y,_,e2⟩:=Zn hj hn
  rw[fx e2]at hf
  rw[fx e1]
  exact KeyOrd.klt_of_kle_of_klt (W9 sx hij e1 e2) hf
 .obtain⟨i,hi,e⟩:=wT hx
  have:=h1 i hi
  rw[fx e]at this
  exact this
 .obtain⟨i,hi,e⟩:=Yt hx
  have hil:i < n:=by
   have:=(List.getElem?_eq_some_iff.mp e).1
   rw[List.length_take]at this
   omega
  have:=h2 i hi hil
  rw[fx e]at this
  exact this
end
structure Two (κ:KeyKind) (D:Keyed->Prop) (v u:KA):Prop where
 dv:∀ x∈v.toList,D x
 du:∀ y∈u.toList,D y
 sv:v.toList.Pairwise (LE κ)
 su:u.toList.Pairwise (LE κ)
noncomputable def Fn (κ:KeyKind)(v u r:KA):Prop:=r.toList.Perm (v.toList++u.toList)/\r.toList.Pairwise (LE κ)
set_option genInjectivity false in
set_option genSizeOf false in
set_option genCtorIdx false in
structure MI (κ:KeyKind) (v u o:KA) (i j:Nat):Prop where
 li:i+1 < v.size
 lj:j < u.size
 wi:WI (LE κ) v.toList u.toList o.toList i j
section
variable {prog:Program}{w:World}{A:Around}{E:Value->Shared->Prop}{s:Shared}{st:SortSt}{κ:KeyKind}{k:SortKind}{D:Keyed->Prop}{v u o:KA}{i j:Nat}
theorem xQ (v:KA)(i j:Nat):(v.extract i j).toList=(v.toList.drop i).take (j - i):=by simp
theorem Wt (v:KA)(i:Nat):(v.extract i v.size).toList=v.toList.drop i:=by
 rw[xQ,List.take_of_length_le (by rw[List.length_drop,Array.length_toList];omega)]
theorem VU (T:Two κ D v u)(w:WI (LE κ) v.toList u.toList o.toList i j)(h:j=u.size\/i=v.size):Fn κ v u (dn v u o i j):=by
 have:=w.done T.sv T.su λx hx y hy=>by
  rcases h with rfl | rfl
  .rw[<-Array.length_toList,List.drop_length]at hy;cases hy
  .rw[<-Array.length_toList,List.drop_length]at hx;cases hx
 unfold Fn dn
 rw[Array.toList_append,Array.toList_append,Wt,Wt]
 exact this
theorem zbT (T:Two κ D v u)(w:WI (LE κ) v.toList u.toList o.toList i j)(hi:i+1=v.size)(top:∀ y∈u.toList,∀ x,v.toList[v.size - 1]?=some x->LE κ y x):Fn κ v u (ls v u o i j):=by
 have:=w.swap.done T.su T.sv λy hy x hx=>by
  refine top y (List.mem_of_mem_drop hy) x ?_
  obtain⟨a,ha,e⟩:=Yt hx
  have hl:=(List.getElem?_eq_some_iff.mp e).1
  rw[Array.length_toList]at hl
  rw[show v.size - 1=a by omega]
  exact e
 unfold Fn ls
 rw[Array.toList_append,Array.toList_append,Wt,Wt]
 exact⟨this.1.trans List.perm_append_comm,this.2⟩
theorem X5 {v:KA}{i:Nat}(h:i < v.size):∃ x,v.toList[i]?=some x:=⟨_,List.getElem?_eq_getElem (by rw[Array.length_toList];exact h)⟩
noncomputable def Ok2 (κ:KeyKind)(v u:KA)(n:Nat)(c:Z2):Prop:=(∃ r,c.1=some r/\Fn κ v u r)\/(c.1=none/\MI κ v u c.2.1 c.2.2.1 c.2.2.2.1/\n<=c.2.2.1+c.2.2.2.1)
noncomputable def Go2 (κ:KeyKind)(v u:KA)(n:Nat):ForInStep Z2->Prop
 | .done c=>Ok2 κ v u n c
 | .yield c=>c.1=none/\MI κ v u c.2.1 c.2.2.1 c.2.2.2.1/\n<=c.2.2.1+c.2.2.2.1
variable {top:∀ y∈u.toList,∀ x,v.toList[v.size - 1]?=some x->LE κ y x}{g c d n:Nat}
theorem zeq (T:Two κ D v u)(top:∀ y∈u.toList,∀ x,v.toList[v.size - 1]?=some x->LE κ y x)(m:MI κ v u o i j){x:Keyed}(hx:v.toList[i]?=some x)(h:∀ y∈u.toList.drop j,LE κ x y)(hn:n<=i+j):wpS (model prog w) A E s (loC v u o i j g c d) (λr t=>t=st/\Go2 κ v u n r) st:=by
 unfold loC
 refine wpS_bind (zH hx ?_)
 have w':=m.wi.pushA T.sv hx h
 rw[<-Array.toList_push]at w'
 have li:=m.li
 by_cases e:i+1+1=v.size
 .rw[if_pos (beq_iff_eq.mpr e)]
  exact wpS_pure ⟨rfl,.inl ⟨_,rfl,zbT T w' e top⟩⟩
 .rw[if_neg (λz=>e (beq_iff_eq.mp z))]
  have m':MI κ v u (o.push x) (i+1) j:=⟨by omega,m.lj,w'⟩
  split
  .exact wpS_pure ⟨rfl,.inr ⟨rfl,m',by show n<=i+1+j;omega⟩⟩
  .exact wpS_pure ⟨rfl,rfl,m',by show n<=i+1+j;omega⟩
theorem ze9 (L:LtE prog w A E s κ k D)(hk:kindOf st=k)(T:Two κ D v u)(top:∀ y∈u.toList,∀ x,v.toList[v.size - 1]?=some x->LE κ y x)(m:MI κ v u o i j){y:Keyed}(hy:u.toList[j]?=some y)(h:∀ x∈v.toList.drop i,LE κ y x)(hn:n<=i+j):wpS (model prog w) A E s (loB v u o i j g c d) (λr t=>t=st/\Go2 κ v u n r) st:=by
 unfold loB
 refine wpS_bind (zH hy ?_)
 have w':=m.wi.pushB T.su hy h
 rw[<-Array.toList_push]at w'
 have li:=m.li
 have lj:=m.lj
 by_cases e:j+1=u.size
 .rw[if_pos (beq_iff_eq.mpr e)]
  exact wpS_pure ⟨rfl,.inl ⟨_,rfl,VU T w' (.inl e)⟩⟩
 .rw[if_neg (λz=>e (beq_iff_eq.mp z))]
  obtain⟨x,hx⟩:=X5 (v:=v) (i:=i) (by omega)
  refine wpS_bind (zH hx ?_)
  have hul:u.toList.length=u.size:=Array.length_toList
  have eseg:(u.toList.drop (j+1)).take (u.size - (j+1))=u.toList.drop (j+1):=List.take_of_length_le (by rw[List.length_drop];omega)
  refine wpS_bind (WF L hk (T.dv x (List.mem_of_getElem? hx)) (λz hz=>T.du z (List.mem_of_mem_drop (List.mem_of_mem_take hz))) (by omega) (by omega) (by rw[eseg];exact T.su.sublist (List.drop_sublist _ _)) λq hq h1 h2=>?_)
  rw[eseg]at h1 h2
  dsimp only
  have hx2:=XH (LE.refl (κ:=κ)) T.sv hx
  have w2:=w'.runB (k:=q) T.su (by omega) λz hz a ha=>LE.trans (KeyOrd.kle_of_klt (h1 z hz)) (hx2 a ha)
  have h3:∀ z∈u.toList.drop (j+1+q),LE κ x z:=λz hz=>h2 z (by rw[List.drop_drop];exact hz)
  by_cases e0:q > 0
  .rw[if_pos e0]
   have ee:(o.push y++u.extract (j+1) (j+1+q)).toList=(o.push y).toList++(u.toList.drop (j+1)).take q:=by rw[Array.toList_append,xQ,Nat.add_sub_cancel_left]
   rw[<-ee]at w2
   by_cases e1:j+1+q=u.size
   .rw[if_pos (beq_iff_eq.mpr e1)]
    exact wpS_pure ⟨rfl,.inl ⟨_,rfl,VU T w2 (.inl e1)⟩⟩
   .rw[if_neg (λz=>e1 (beq_iff_eq.mp z))]
    exact zeq T top ⟨li,by omega,w2⟩ hx h3 (by omega)
  .rw[if_neg e0]
   obtain rfl:q=0:=by omega
   exact zeq T top ⟨li,by omega,w'⟩ hx h3 (by omega)
theorem zdd (L:LtE prog w A E s κ k D)(hk:kindOf st=k)(T:Two κ D v u)(top:∀ y∈u.toList,∀ x,v.toList[v.size - 1]?=some x->LE κ y x)(m:MI κ v u o i j)(hn:n<=i+j):wpS (model prog w) A E s (loA v u o i j g c d) (λr t=>Sm st t/\Go2 κ v u n r) st:=by
 unfold loA
 refine wpS_bind (Zb λt ht=>?_)
 obtain⟨y,hy⟩:=X5 m.lj
 refine wpS_bind (zH hy ?_)
 have li:=m.li
 have lj:=m.lj
 have hvl:v.toList.length=v.size:=Array.length_toList
 have eseg:(v.toList.drop i).take (v.size - i)=v.toList.drop i:=List.take_of_length_le (by rw[List.length_drop];omega)
 refine wpS_bind (WJ L (ht.kd.trans hk) (T.du y (List.mem_of_getElem? hy)) (λz hz=>T.dv z (List.mem_of_mem_drop (List.mem_of_mem_take hz))) (by omega) (by omega) (by rw[eseg];exact T.sv.sublist (List.drop_sublist _ _)) λq hq h1 h2=>?_)
 rw[eseg]at h1 h2
 dsimp only
 have hy2:=XH (LE.refl (κ:=κ)) T.su hy
 have w2:=m.wi.runA (k:=q) T.sv (by omega) λz hz a ha=>LE.trans (h1 z hz) (hy2 a ha)
 have h3:∀ z∈v.toList.drop (i+q),LE κ y z:=λz hz=>KeyOrd.kle_of_klt (h2 z (by rw[List.drop_drop];exact hz))
 by_cases e0:q > 0
 .rw[if_pos e0]
  have ee:(o++v.extract i (i+q)).toList=o.toList++(v.toList.drop i).take q:=by rw[Array.toList_append,xQ,Nat.add_sub_cancel_left]
  rw[<-ee]at w2
  by_cases e1:i+q+1=v.size
  .rw[if_pos (beq_iff_eq.mpr e1)]
   exact wpS_pure ⟨ht,.inl ⟨_,rfl,zbT T w2 e1 top⟩⟩
  .rw[if_neg (λz=>e1 (beq_iff_eq.mp z))]
   by_cases e2:i+q=v.size
   .rw[if_pos (beq_iff_eq.mpr e2)]
    exact wpS_pure ⟨ht,.inl ⟨_,rfl,VU T w2 (.inr e2)⟩⟩
   .rw[if_neg (λz=>e2 (beq_iff_eq.mp z))]
    exact wpS_mono (ze9 L (ht.kd.trans hk) T top ⟨by omega,lj,w2⟩ hy h3 (by omega)) λr t' h=>⟨h.1 ▸ ht,h.2⟩
 .rw[if_neg e0]
  obtain rfl:q=0:=by omega
  exact wpS_mono (ze9 L (ht.kd.trans hk) T top m hy h3 hn) λr t' h=>⟨h.1 ▸ ht,h.2⟩
noncomputable def Ok1 (κ:KeyKind)(v u:KA)(n:Nat)(c:Z1):Prop:=(∃ r,c.1=some r/\Fn κ v u r)\/(c.1=none/\MI κ v u c.2.1 c.2.2.1 c.2.2.2.1/\n<=c.2.2.1+c.2.2.2.1)
noncomputable def Go1 (κ:KeyKind)(v u:KA)(n:Nat):ForInStep Z1->Prop
 | .done c=>Ok1 κ v u n c
 | .yield c=>c.1=none/\MI κ v u c.2.1 c.2.2.1 c.2.2.2.1/\n<=c.2.2.1+c.2.2.2.1
theorem zgn (L:LtE prog w A E s κ k D)(hk:kindOf st=k)(T:Two κ D v u)(top:∀ y∈u.toList,∀ x,v.toList[v.size - 1]?=some x->LE κ y x){z:Z1}(m:MI κ v u z.2.1 z.2.2.1 z.2.2.2.1):wpS (model prog w) A E s (zlg v u g z) (λr t=>t=st/\Go1 κ v u (z.2.2.1+z.2.2.2.1+1) r) st:=by
 obtain⟨r,o,i,j,c,d⟩:=z
 dsimp only at m ⊢
 have li:=m.li
 have lj:=m.lj
 unfold zlg
 obtain⟨y,hy⟩:=X5 lj
 obtain⟨x,hx⟩:=X5 (v:=v) (i:=i) (by omega)
 refine wpS_bind (zH hy (wpS_bind (zH hx (wpS_bind (L _ _ _ _ hk (T.du y (List.mem_of_getElem? hy)) (T.dv x (List.mem_of_getElem? hx)) ?_)))))
 dsimp only
 have hx2:=XH (LE.refl (κ:=κ)) T.sv hx
 have hy2:=XH (LE.refl (κ:=κ)) T.su hy
 cases e:κ.blt (ky κ y) (ky κ x) with
 | true =>
  rw[if_pos rfl]
  refine wpS_bind (zH hy ?_)
  have w':=m.wi.pushB T.su hy λa ha=>LE.trans (KeyOrd.kle_of_klt e) (hx2 a ha)
  rw[<-Array.toList_push]at w'
  by_cases e1:j+1=u.size
  .rw[if_pos (beq_iff_eq.mpr e1)]
   exact wpS_pure ⟨rfl,.inl ⟨_,rfl,VU T w' (.inl e1)⟩⟩
  .rw[if_neg (λz=>e1 (beq_iff_eq.mp z))]
   have m':MI κ v u (o.push y) i (j+1):=⟨li,by omega,w'⟩
   split
   .exact wpS_pure ⟨rfl,.inr ⟨rfl,m',by show i+j+1<=i+(j+1);omega⟩⟩
   .exact wpS_pure ⟨rfl,rfl,m',by show i+j+1<=i+(j+1);omega⟩
 | false =>
  rw[if_neg Bool.false_ne_true]
  refine wpS_bind (zH hx ?_)
  have w':=m.wi.pushA T.sv hx λa ha=>LE.trans (κ:=κ) (y:=y) e (hy2 a ha)
  rw[<-Array.toList_push]at w'
  by_cases e1:i+1+1=v.size
  .rw[if_pos (beq_iff_eq.mpr e1)]
   exact wpS_pure ⟨rfl,.inl ⟨_,rfl,zbT T w' e1 top⟩⟩
  .rw[if_neg (λz=>e1 (beq_iff_eq.mp z))]
   have m':MI κ v u (o.push x) (i+1) j:=⟨by omega,lj,w'⟩
   split
   .exact wpS_pure ⟨rfl,.inr ⟨rfl,m',by show i+j+1<=i+1+j;omega⟩⟩
   .exact wpS_pure ⟨rfl,rfl,m',by show i+j+1<=i+1+j;omega⟩
end
section
variable {prog:Program}{w:World}{A:Around}{E:Value->Shared->Prop}{s:Shared}{st:SortSt}{κ:KeyKind}{k:SortKind}{D:Keyed->Prop}{v u o:KA}{i j:Nat}
noncomputable def Go3 (κ:KeyKind)(v u:KA)(n:Nat):ForInStep Z3->Prop
 | .done c=>∃ r,c.1=some r/\Fn κ v u r
 | .yield c=>c.1=none/\MI κ v u c.2.1 c.2.2.1 c.2.2.2.1/\n<=c.2.2.1+c.2.2.2.1
theorem zfT {z:Z2}{n:Nat}(L:LtE prog w A E s κ k D)(hk:kindOf st=k)(T:Two κ D v u)(top:∀ y∈u.toList,∀ x,v.toList[v.size - 1]?=some x->LE κ y x)(m:MI κ v u z.2.1 z.2.2.1 z.2.2.2.1)(hn:n<=z.2.2.1+z.2.2.2.1):wpS (model prog w) A E s (zlr v u z) (λr t=>Sm st t/\Go2 κ v u n r) st:=by
 unfold zlr
 split
 .exact zdd L hk T top m hn
 .exact zdd L hk T top m hn
theorem zfH {z:Z3}(L:LtE prog w A E s κ k D)(hk:kindOf st=k)(T:Two κ D v u)(top:∀ y∈u.toList,∀ x,v.toList[v.size - 1]?=some x->LE κ y x)(m:MI κ v u z.2.1 z.2.2.1 z.2.2.2.1):wpS (model prog w) A E s (zla v u z) (λr t=>Sm st t/\Go3 κ v u (z.2.2.1+z.2.2.2.1+1) r) st:=by
 unfold zla
 have li:=m.li
 refine wpS_bind (wpS_mono (wpS_forRange (I:=λx c t=>t=st/\c.1=none/\MI κ v u c.2.1 c.2.2.1 c.2.2.2.1/\(x=0\/z.2.2.1+z.2.2.2.1+1<=c.2.2.1+c.2.2.2.1)/\z.2.2.1+z.2.2.2.1<=c.2.2.1+c.2.2.2.1) (Q:=λc t=>t=st/\Ok1 κ v u (z.2.2.1+z.2.2.2.1+1) c)
  (λx c t _ _ hI=>?_) (λc t hI=>?_) ⟨rfl,rfl,m,.inl rfl,Nat.le_refl _⟩) λy t hI=>?_)
 .obtain⟨rfl,h1,h2,h3,h4⟩:=hI
  refine wpS_mono (zgn L hk T top h2) λr t' h=>?_
  obtain⟨rfl,hr⟩:=h
  cases r with
  | done c' =>
   rcases hr with hr | ⟨a1,a2,a3⟩
   .exact⟨rfl,.inl hr⟩
   .exact⟨rfl,.inr ⟨a1,a2,by omega⟩⟩
  | yield c' =>
   obtain⟨a1,a2,a3⟩:=hr
   exact⟨rfl,a1,a2,.inr (by omega),by omega⟩
 .obtain⟨rfl,h1,h2,h3,h4⟩:=hI
  refine⟨rfl,.inr ⟨h1,h2,?_⟩⟩
  rcases h3 with h3 | h3
  .exfalso
   have:max 0 (v.size+u.size)=v.size+u.size:=by omega
   omega
  .exact h3
 .obtain⟨rfl,hy⟩:=hI
  rcases hy with ⟨r,e,hr⟩ | ⟨e,m1,h1⟩
  .rw[e]
   exact wpS_pure ⟨Sm.refl _,r,rfl,hr⟩
  .rw[e]
   dsimp only
   refine wpS_bind (wpS_lift (wpAny_rule ⟨rfl,?_⟩))
   refine wpS_bind (wpS_mono (wpS_forRange (I:=λx c t'=>Sm t t'/\c.1=none/\MI κ v u c.2.1 c.2.2.1 c.2.2.2.1/\z.2.2.1+z.2.2.2.1+1<=c.2.2.1+c.2.2.2.1) (Q:=λc t'=>Sm t t'/\Ok2 κ v u (z.2.2.1+z.2.2.2.1+1) c)
    (λx c t' _ _ hI=>?_) (λc t' hI=>?_) ⟨Sm.refl _,rfl,m1,h1⟩) λx t' hI=>?_)
   .obtain⟨hs,b1,b2,b3⟩:=hI
    refine wpS_mono (zfT L (hs.kd.trans hk) T top b2 b3) λr t2 h=>?_
    obtain⟨hs2,hr⟩:=h
    cases r with
    | done c'=>exact⟨hs.trans hs2,hr⟩
    | yield c'=>exact⟨hs.trans hs2,hr⟩
   .obtain⟨hs,b1,b2,b3⟩:=hI
    exact⟨hs,.inr ⟨b1,b2,b3⟩⟩
   .obtain⟨hs,hx⟩:=hI
    rcases hx with ⟨r,e,hr⟩ | ⟨e,m2,h2⟩
    .rw[e]
     exact wpS_pure ⟨hs,r,rfl,hr⟩
    .rw[e]
     exact wpS_bind (Zb λt2 hs2=>wpS_pure ⟨hs.trans hs2,rfl,m2,h2⟩)
theorem zi4 {P:KA->SortSt->Prop}(L:LtE prog w A E s κ k D)(hk:kindOf st=k)(T:Two κ D v u)(hv:0 < v.size)(hu:0 < u.size)(top:∀ y∈u.toList,∀ x,v.toList[v.size - 1]?=some x->LE κ y x)(bot:∀ x∈v.toList,∀ y,u.toList[0]?=some y->LE κ y x)
 (h:∀ r t,Sm st t->Fn κ v u r->P r t):wpS (model prog w) A E s (mlo v u) P st:=by
 rw[zk4]
 refine wpS_bind (wpS_lift (wpAny_rule ⟨rfl,?_⟩))
 obtain⟨y,hy⟩:=X5 hu
 refine wpS_bind (zH hy ?_)
 have w0:WI (LE κ) v.toList u.toList [] 0 0:=⟨Nat.zero_le _,Nat.zero_le _,List.Perm.refl _,List.Pairwise.nil,(λz hz=>by cases hz),(λz hz=>by cases hz)⟩
 have w1:WI (LE κ) v.toList u.toList (#[y]:KA).toList 0 1:=w0.pushB T.su hy λx hx=>bot x (List.mem_of_mem_drop hx) y hy
 by_cases e1:1=u.size
 .rw[if_pos (beq_iff_eq.mpr e1)]
  exact wpS_pure (h _ _ (Sm.refl _) (VU T w1 (.inl e1)))
 rw[if_neg (λz=>e1 (beq_iff_eq.mp z))]
 by_cases e2:0+1=v.size
 .rw[if_pos (beq_iff_eq.mpr e2)]
  exact wpS_pure (h _ _ (Sm.refl _) (zbT T w1 e2 top))
 rw[if_neg (λz=>e2 (beq_iff_eq.mp z))]
 refine wpS_bind (wpS_get ?_)
 refine wpS_bind (wpS_mono (wpS_forRange (I:=λx c t=>Sm st t/\c.1=none/\MI κ v u c.2.1 c.2.2.1 c.2.2.2.1/\x+1<=c.2.2.1+c.2.2.2.1) (Q:=λc t=>Sm st t/\∃ r,c.1=some r/\Fn κ v u r)
  (λx c t _ _ hI=>?_) (λc t hI=>?_) ⟨Sm.refl _,rfl,⟨by show 0+1 < v.size;omega,by show 1 < u.size;omega,w1⟩,by show 0+1<=0+1;omega⟩) λy t hI=>?_)
 .obtain⟨hs,b1,b2,b3⟩:=hI
  refine wpS_mono (zfH L (hs.kd.trans hk) T top b2) λr t2 h=>?_
  obtain⟨hs2,hr⟩:=h
  cases r with
  | done c'=>exact⟨hs.trans hs2,hr⟩
  | yield c'=>exact⟨hs.trans hs2,hr.1,hr.2.1,by have:=hr.2.2;omega⟩
 .obtain⟨hs,b1,b2,b3⟩:=hI
  exfalso
  have:=b2.li
  have:=b2.lj
  have:max 0 (v.size+u.size)=v.size+u.size:=by omega
  omega
 .obtain⟨hs,r,e,hr⟩:=hI
  rw[e]
  exact wpS_pure (h r t hs hr)
end
noncomputable def mhi:Array Keyed->Array Keyed->SM (Array Keyed):=sortPriv% PySem.Builtin.mergeHi
noncomputable abbrev Y1:=Option KA × Nat × Nat × KA × Nat × Nat
noncomputable abbrev Y2:=Option KA × Nat × Nat × KA × Nat × Nat × Nat
noncomputable abbrev Y3:=Option KA × Nat × Nat × KA × Nat
noncomputable abbrev dh (v u o:KA)(i j:Nat):KA:=v.extract 0 i++u.extract 0 j++o.reverse
noncomputable abbrev fh (v u o:KA)(i j:Nat):KA:=u.extract 0 j++v.extract 0 i++o.reverse
noncomputable def zli (v u:KA)(g:Nat)(z:Y1):SM (ForInStep Y1):=do
 let e<-elem' u (z.2.2.1 - 1)
 let f<-elem' v (z.2.1 - 1)
 let some b<-lt' e f | pure (.done (some (dh v u z.2.2.2.1 z.2.1 z.2.2.1),z.2.1,z.2.2.1,z.2.2.2.1,z.2.2.2.2.1,z.2.2.2.2.2))
 if b=true then do
  let f<-elem' v (z.2.1 - 1)
  if (z.2.1 - 1 == 0)=true then pure (.done (some (dh v u (z.2.2.2.1.push f) (z.2.1 - 1) z.2.2.1),z.2.1 - 1,z.2.2.1,z.2.2.2.1.push f,z.2.2.2.2.1+1,0))
  else if z.2.2.2.2.1+1 >= g then pure (.done (none,z.2.1 - 1,z.2.2.1,z.2.2.2.1.push f,z.2.2.2.2.1+1,0))
  else pure (.yield (none,z.2.1 - 1,z.2.2.1,z.2.2.2.1.push f,z.2.2.2.2.1+1,0))
 else do
  let e<-elem' u (z.2.2.1 - 1)
  if (z.2.2.1 - 1 == 1)=true then pure (.done (some (fh v u (z.2.2.2.1.push e) z.2.1 (z.2.2.1 - 1)),z.2.1,z.2.2.1 - 1,z.2.2.2.1.push e,0,z.2.2.2.2.2+1))
  else if z.2.2.2.2.2+1 >= g then pure (.done (none,z.2.1,z.2.2.1 - 1,z.2.2.2.1.push e,0,z.2.2.2.2.2+1))
  else pure (.yield (none,z.2.1,z.2.2.1 - 1,z.2.2.2.1.push e,0,z.2.2.2.2.2+1))
noncomputable def hiC (v u o:KA)(i j g c d:Nat):SM (ForInStep Y2):=do
 let f<-elem' v (i - 1)
 if (i - 1 == 0)=true then pure (.done (some (dh v u (o.push f) (i - 1) j),i - 1,j,o.push f,g,c,d))
 else if (decide (c < 7)&&decide (d < 7))=true then pure (.done (none,i - 1,j,o.push f,g,c,d))
 else pure (.yield (none,i - 1,j,o.push f,g,c,d))
noncomputable def hiB (v u o:KA)(i j g c d:Nat):SM (ForInStep Y2):=do
 let e<-elem' u (j - 1)
 if (j - 1 == 1)=true then pure (.done (some (fh v u (o.push e) i (j - 1)),i,j - 1,o.push e,g,c,d))
 else do
  let f<-elem' v (i - 1)
  let some p<-gal true f u 0 (j - 1) (j - 1 - 1) | pure (.done (some (dh v u (o.push e) i (j - 1)),i,j - 1,o.push e,g,c,d))
  if j - 1 - p > 0 then
   if (p == 1)=true then pure (.done (some (fh v u (o.push e++(u.extract p (j - 1)).reverse) i p),i,p,o.push e++(u.extract p (j - 1)).reverse,g,c,j - 1 - p))
   else if (p == 0)=true then pure (.done (some (dh v u (o.push e++(u.extract p (j - 1)).reverse) i p),i,p,o.push e++(u.extract p (j - 1)).reverse,g,c,j - 1 - p))
   else hiC v u (o.push e++(u.extract p (j - 1)).reverse) i p g c (j - 1 - p)
  else hiC v u (o.push e) i (j - 1) g c (j - 1 - p)
noncomputable def hiA (v u o:KA)(i j g c d:Nat):SM (ForInStep Y2):=do
 zaq g
 let e<-elem' u (j - 1)
 let some p<-gal false e v 0 i (i - 1) | pure (.done (some (dh v u o i j),i,j,o,g,c,d))
 if i - p > 0 then
  if (p == 0)=true then pure (.done (some (dh v u (o++(v.extract p i).reverse) p j),p,j,o++(v.extract p i).reverse,g,i - p,d))
  else hiB v u (o++(v.extract p i).reverse) p j g (i - p) d
 else hiB v u o i j g (i - p) d
noncomputable def zlb (v u:KA)(z:Y2):SM (ForInStep Y2) :=
 if z.2.2.2.2.1 > 1 then hiA v u z.2.2.2.1 z.2.1 z.2.2.1 (z.2.2.2.2.1 - 1) z.2.2.2.2.2.1 z.2.2.2.2.2.2
 else hiA v u z.2.2.2.1 z.2.1 z.2.2.1 z.2.2.2.2.1 z.2.2.2.2.2.1 z.2.2.2.2.2.2
noncomputable def zlk (v u:KA)(z:Y3):SM (ForInStep Y3):=do
 let y<-forIn [0:v.size+u.size] ((none,z.2.1,z.2.2.1,z.2.2.2.1,0,0):Y1) λ_ q=>zli v u z.2.2.2.2 q
 match y.1 with
 | some r=>pure (.done (some r,y.2.1,y.2.2.1,y.2.2.2.1,z.2.2.2.2))
 | none=>do
  rule "list.sort.gallop"
  let x<-forIn [0:v.size+u.size] ((none,y.2.1,y.2.2.1,y.2.2.2.1,z.2.2.2.2+1,y.2.2.2.2.1,y.2.2.2.2.2):Y2) λ_ q=>zlb v u q
  match x.1 with
  | some r=>pure (.done (some r,x.2.1,x.2.2.1,x.2.2.2.1,x.2.2.2.2.1))
  | none=>do
   zaq (x.2.2.2.2.1+1)
   pure (.yield (none,x.2.1,x.2.2.1,x.2.2.2.1,x.2.2.2.2.1+1))
theorem zjA (v u:KA):mhi v u=(do
 rule "list.sort.merge-hi"
 let e<-elem' v (v.size - 1)
 if (v.size - 1 == 0)=true then pure (dh v u #[e] (v.size - 1) u.size)
 else if (u.size == 1)=true then pure (fh v u #[e] (v.size - 1) u.size)
 else do
  let g<-get
  let z<-forIn [0:v.size+u.size] ((none,v.size - 1,u.size,#[e],gallopOf g):Y3) λ_ q=>zlk v u q
  match z.1 with
  | some r=>pure r
  | none=>(unsupported ("internal:list.sort.merge-bound"))):=by
 show @bind SM _ _ _ _ _=_
 dsimp only[zlk,zlb,hiA,hiB,hiC,zli,elem',lt',gal,zaq,gallopOf]
 congr 1;funext _;congr 1;funext e
 congr 1;congr 1;congr 1;funext g;congr 1
 .congr 1;funext _ z;congr 1
  funext x
  obtain⟨r,x⟩:=x
  cases r with
  | some r=>rfl
  | none =>
   dsimp only
   congr 1;funext _;congr 1
   funext y;obtain⟨r,y⟩:=y;cases r <;> rfl
 .funext y;obtain⟨r,y⟩:=y;cases r <;> rfl
structure MH (κ:KeyKind) (v u o:KA) (i j:Nat):Prop where
 li:i<=v.size
 lj:j<=u.size
 wi:WI (λa b=>LE κ b a) v.toList.reverse u.toList.reverse o.toList (v.size - i) (u.size - j)
section
variable {κ:KeyKind}{D:Keyed->Prop}{v u o:KA}{i j:Nat}
theorem yx {v:KA}{i:Nat}(h:i<=v.size):v.toList.reverse.drop (v.size - i)=(v.toList.take i).reverse:=by
 rw[List.drop_reverse,Array.length_toList,Nat.sub_sub_self h]
theorem yT {l:List Keyed}(h:l.Pairwise (LE κ)):l.reverse.Pairwise λa b=>LE κ b a:=List.pairwise_reverse.mpr h
theorem zdG {v:KA}{i:Nat}(h0:0 < i)(h:i<=v.size):v.toList.reverse[v.size - i]?=v.toList[i - 1]?:=by
 rw[List.getElem?_reverse (by rw[Array.length_toList];omega),Array.length_toList,show v.size - 1 - (v.size - i)=i - 1 by omega]
theorem MH.pushA (T:Two κ D v u)(m:MH κ v u o i j)(h0:0 < i){x:Keyed}(hx:v.toList[i - 1]?=some x)(h:∀ y∈u.toList.take j,LE κ y x):MH κ v u (o.push x) (i - 1) j:=by
 have li:=m.li
 refine⟨by omega,m.lj,?_⟩
 have:=m.wi.pushA (x:=x) (yT T.sv) (by rw[zdG h0 li];exact hx) λy hy=>h y (by rw[yx m.lj]at hy;exact List.mem_reverse.mp hy)
 rw[<-Array.toList_push,show v.size - i+1=v.size - (i - 1) by omega]at this
 exact this
theorem MH.pushB (T:Two κ D v u)(m:MH κ v u o i j)(h0:0 < j){y:Keyed}(hy:u.toList[j - 1]?=some y)(h:∀ x∈v.toList.take i,LE κ x y):MH κ v u (o.push y) i (j - 1):=by
 have lj:=m.lj
 refine⟨m.li,by omega,?_⟩
 have:=m.wi.pushB (y:=y) (yT T.su) (by rw[zdG h0 lj];exact hy) λx hx=>h x (by rw[yx m.li]at hx;exact List.mem_reverse.mp hx)
 rw[<-Array.toList_push,show u.size - j+1=u.size - (j - 1) by omega]at this
 exact this
theorem W0 {v:KA}{p i:Nat}(hp:p<=i)(h:i<=v.size):(v.toList.reverse.drop (v.size - i)).take (i - p)=(v.extract p i).reverse.toList:=by
 rw[yx h,List.take_reverse,Array.toList_reverse,xQ,List.length_take,Array.length_toList,Nat.min_eq_left h,Nat.sub_sub_self hp,List.drop_take]
theorem MH.runA (T:Two κ D v u)(m:MH κ v u o i j){p:Nat}(hp:p<=i)(h:∀ x∈(v.toList.take i).drop p,∀ y∈u.toList.take j,LE κ y x):MH κ v u (o++(v.extract p i).reverse) p j:=by
 have li:=m.li
 refine⟨by omega,m.lj,?_⟩
 have:=m.wi.runA (k:=i - p) (yT T.sv) (by rw[List.length_reverse,Array.length_toList];omega) λx hx y hy=>by
  rw[W0 hp li,Array.toList_reverse,xQ]at hx
  rw[yx m.lj]at hy
  exact h x (by rw[List.drop_take];exact List.mem_reverse.mp hx) y (List.mem_reverse.mp hy)
 rw[W0 hp li,<- Array.toList_append,show v.size - i+(i - p)=v.size - p by omega]at this
 exact this
theorem MH.runB (T:Two κ D v u)(m:MH κ v u o i j){p:Nat}(hp:p<=j)(h:∀ y∈(u.toList.take j).drop p,∀ x∈v.toList.take i,LE κ x y):MH κ v u (o++(u.extract p j).reverse) i p:=by
 have lj:=m.lj
 refine⟨m.li,by omega,?_⟩
 have:=m.wi.runB (k:=j - p) (yT T.su) (by rw[List.length_reverse,Array.length_toList];omega) λx hx y hy=>by
  rw[W0 hp lj,Array.toList_reverse,xQ]at hx
  rw[yx m.li]at hy
  exact h x (by rw[List.drop_take];exact List.mem_reverse.mp hx) y (List.mem_reverse.mp hy)
 rw[W0 hp lj,<- Array.toList_append,show u.size - j+(j - p)=u.size - p by omega]at this
 exact this
theorem ZZ (v:KA)(i:Nat):(v.extract 0 i).toList=v.toList.take i:=by rw[xQ,List.drop_zero,Nat.sub_zero]
theorem zab (T:Two κ D v u)(m:MH κ v u o i j)(h:i=0\/j=0):Fn κ v u (dh v u o i j):=by
 have e:=m.wi.swap.done (yT T.su) (yT T.sv) λy hy x hx=>by
  rw[yx m.lj]at hy
  rw[yx m.li]at hx
  rcases h with rfl | rfl
  .rw[List.take_zero]at hx;cases hx
  .rw[List.take_zero]at hy;cases hy
 rw[yx m.lj,yx m.li]at e
 have er:(dh v u o i j).toList=(o.toList++(u.toList.take j).reverse++(v.toList.take i).reverse).reverse:=by
  unfold dh
  rw[Array.toList_append,Array.toList_append,ZZ,ZZ,Array.toList_reverse,List.reverse_append,List.reverse_append,List.reverse_reverse,List.reverse_reverse,List.append_assoc]
 constructor
 .rw[er]
  refine(List.reverse_perm _).trans (e.1.trans ?_)
  exact(List.perm_append_comm).trans ((List.reverse_perm _).append (List.reverse_perm _))
 .rw[er,List.pairwise_reverse]
  exact e.2
theorem zbu (T:Two κ D v u)(m:MH κ v u o i j)(hj:j=1)(bot:∀ x∈v.toList,∀ y,u.toList[0]?=some y->LE κ y x):Fn κ v u (fh v u o i j):=by
 have e:=m.wi.done (yT T.sv) (yT T.su) λx hx y hy=>by
  rw[yx m.lj]at hy
  rw[yx m.li]at hx
  refine bot x (List.mem_of_mem_take (List.mem_reverse.mp hx)) y ?_
  obtain⟨a,ha,ea⟩:=wT (List.mem_reverse.mp hy)
  obtain rfl:a=0:=by omega
  exact ea
 rw[yx m.lj,yx m.li]at e
 have er:(fh v u o i j).toList=(o.toList++(v.toList.take i).reverse++(u.toList.take j).reverse).reverse:=by
  unfold fh
  rw[Array.toList_append,Array.toList_append,ZZ,ZZ,Array.toList_reverse,List.reverse_append,List.reverse_append,List.reverse_reverse,List.reverse_reverse,List.append_assoc]
 constructor
 .rw[er]
  exact(List.reverse_perm _).trans (e.1.trans ((List.reverse_perm _).append (List.reverse_perm _)))
 .rw[er,List.pairwise_reverse]
  exact e.2
theorem V7 {l:List Keyed}(s:l.Pairwise (LE κ)){i:Nat}{x:Keyed}(h0:0 < i)(hx:l[i - 1]?=some x):∀ z∈l.take i,LE κ z x:=λz hz=>by
 obtain⟨a,ha,e⟩:=wT hz
 exact W9 s (by omega) e hx
noncomputable def Oj2 (κ:KeyKind)(v u:KA)(n:Nat)(c:Y2):Prop:=(∃ r,c.1=some r/\Fn κ v u r)\/(c.1=none/\(0 < c.2.1/\1 < c.2.2.1)/\MH κ v u c.2.2.2.1 c.2.1 c.2.2.1/\c.2.1+c.2.2.1<=n)
noncomputable def Gj2 (κ:KeyKind)(v u:KA)(n:Nat):ForInStep Y2->Prop
 | .done c=>Oj2 κ v u n c
 | .yield c=>c.1=none/\(0 < c.2.1/\1 < c.2.2.1)/\MH κ v u c.2.2.2.1 c.2.1 c.2.2.1/\c.2.1+c.2.2.1<=n
end
section
variable {prog:Program}{w:World}{A:Around}{E:Value->Shared->Prop}{s:Shared}{st:SortSt}{κ:KeyKind}{k:SortKind}{D:Keyed->Prop}{v u o:KA}{i j g c d n:Nat}
theorem ze6 (T:Two κ D v u)(m:MH κ v u o i j)(h0:0 < i)(h1:1 < j){x:Keyed}(hx:v.toList[i - 1]?=some x)(h:∀ y∈u.toList.take j,LE κ y x)(hn:i+j<=n):wpS (model prog w) A E s (hiC v u o i j g c d) (λr t=>t=st/\Gj2 κ v u n r) st:=by
 unfold hiC
 refine wpS_bind (zH hx ?_)
 have m':=m.pushA T h0 hx h
 by_cases e:i - 1=0
 .rw[if_pos (beq_iff_eq.mpr e)]
  exact wpS_pure ⟨rfl,.inl ⟨_,rfl,zab T m' (.inl e)⟩⟩
 .rw[if_neg (λz=>e (beq_iff_eq.mp z))]
  split
  .exact wpS_pure ⟨rfl,.inr ⟨rfl,⟨by show 0 < i - 1;omega,h1⟩,m',by show i - 1+j<=n;omega⟩⟩
  .exact wpS_pure ⟨rfl,rfl,⟨by show 0 < i - 1;omega,h1⟩,m',by show i - 1+j<=n;omega⟩
theorem zd6 (L:LtE prog w A E s κ k D)(hk:kindOf st=k)(T:Two κ D v u)(bot:∀ x∈v.toList,∀ y,u.toList[0]?=some y->LE κ y x)(m:MH κ v u o i j)(h0:0 < i)(h1:1 < j){y:Keyed}(hy:u.toList[j - 1]?=some y)(h:∀ x∈v.toList.take i,LE κ x y)(hn:i+j<=n):wpS (model prog w) A E s (hiB v u o i j g c d) (λr t=>t=st/\Gj2 κ v u n r) st:=by
 unfold hiB
 refine wpS_bind (zH hy ?_)
 have m':=m.pushB T (by omega) hy h
 have li:=m.li
 have lj:=m.lj
 by_cases e:j - 1=1
 .rw[if_pos (beq_iff_eq.mpr e)]
  exact wpS_pure ⟨rfl,.inl ⟨_,rfl,zbu T m' e bot⟩⟩
 .rw[if_neg (λz=>e (beq_iff_eq.mp z))]
  obtain⟨x,hx⟩:=X5 (v:=v) (i:=i - 1) (by omega)
  refine wpS_bind (zH hx ?_)
  have hul:u.toList.length=u.size:=Array.length_toList
  have eseg:(u.toList.drop 0).take (j - 1)=u.toList.take (j - 1):=by rw[List.drop_zero]
  refine wpS_bind (WF L hk (T.dv x (List.mem_of_getElem? hx)) (λz hz=>T.du z (List.mem_of_mem_drop (List.mem_of_mem_take hz))) (by omega) (by omega) (by rw[eseg];exact T.su.sublist (List.take_sublist _ _)) λp hp g1 g2=>?_)
  rw[eseg]at g1 g2
  dsimp only
  have hx2:=V7 T.sv h0 hx
  have m2:=m'.runB T hp λz hz a ha=>LE.trans (hx2 a ha) (g2 z hz)
  have h3:∀ z∈u.toList.take p,LE κ z x:=λz hz=>KeyOrd.kle_of_klt (g1 z (by rw[List.take_take,Nat.min_eq_left hp];exact hz))
  by_cases e0:j - 1 - p > 0
  .rw[if_pos e0]
   by_cases e1:p=1
   .rw[if_pos (beq_iff_eq.mpr e1)]
    exact wpS_pure ⟨rfl,.inl ⟨_,rfl,zbu T m2 e1 bot⟩⟩
   .rw[if_neg (λz=>e1 (beq_iff_eq.mp z))]
    by_cases e2:p=0
    .rw[if_pos (beq_iff_eq.mpr e2)]
     exact wpS_pure ⟨rfl,.inl ⟨_,rfl,zab T m2 (.inr e2)⟩⟩
    .rw[if_neg (λz=>e2 (beq_iff_eq.mp z))]
     exact ze6 T m2 h0 (by omega) hx h3 (by omega)
  .rw[if_neg e0]
   obtain rfl:p=j - 1:=by omega
   exact ze6 T m' h0 (by omega) hx h3 (by omega)
theorem zeV (L:LtE prog w A E s κ k D)(hk:kindOf st=k)(T:Two κ D v u)(bot:∀ x∈v.toList,∀ y,u.toList[0]?=some y->LE κ y x)(m:MH κ v u o i j)(h0:0 < i)(h1:1 < j)(hn:i+j<=n):wpS (model prog w) A E s (hiA v u o i j g c d) (λr t=>Sm st t/\Gj2 κ v u n r) st:=by
 unfold hiA
 refine wpS_bind (Zb λt ht=>?_)
 have li:=m.li
 have lj:=m.lj
 obtain⟨y,hy⟩:=X5 (v:=u) (i:=j - 1) (by omega)
 refine wpS_bind (zH hy ?_)
 have hvl:v.toList.length=v.size:=Array.length_toList
 have eseg:(v.toList.drop 0).take i=v.toList.take i:=by rw[List.drop_zero]
 refine wpS_bind (WJ L (ht.kd.trans hk) (T.du y (List.mem_of_getElem? hy)) (λz hz=>T.dv z (List.mem_of_mem_drop (List.mem_of_mem_take hz))) (by omega) (by omega) (by rw[eseg];exact T.sv.sublist (List.take_sublist _ _)) λp hp g1 g2=>?_)
 rw[eseg]at g1 g2
 dsimp only
 have hy2:=V7 T.su (i:=j) (by omega) hy
 have m2:=m.runA T hp λz hz a ha=>LE.trans (hy2 a ha) (KeyOrd.kle_of_klt (g2 z hz))
 have h3:∀ z∈v.toList.take p,LE κ z y:=λz hz=>g1 z (by rw[List.take_take,Nat.min_eq_left hp];exact hz)
 by_cases e0:i - p > 0
 .rw[if_pos e0]
  by_cases e1:p=0
  .rw[if_pos (beq_iff_eq.mpr e1)]
   exact wpS_pure ⟨ht,.inl ⟨_,rfl,zab T m2 (.inl e1)⟩⟩
  .rw[if_neg (λz=>e1 (beq_iff_eq.mp z))]
   exact wpS_mono (zd6 L (ht.kd.trans hk) T bot m2 (by omega) h1 hy h3 (by omega)) λr t' h=>⟨h.1 ▸ ht,h.2⟩
 .rw[if_neg e0]
  obtain rfl:p=i:=by omega
  exact wpS_mono (zd6 L (ht.kd.trans hk) T bot m h0 h1 hy h3 hn) λr t' h=>⟨h.1 ▸ ht,h.2⟩
noncomputable def Oj1 (κ:KeyKind)(v u:KA)(n:Nat)(c:Y1):Prop:=(∃ r,c.1=some r/\Fn κ v u r)\/(c.1=none/\(0 < c.2.1/\1 < c.2.2.1)/\MH κ v u c.2.2.2.1 c.2.1 c.2.2.1/\c.2.1+c.2.2.1<=n)
noncomputable def Gj1 (κ:KeyKind)(v u:KA)(n:Nat):ForInStep Y1->Prop
 | .done c=>Oj1 κ v u n c
 | .yield c=>c.1=none/\(0 < c.2.1/\1 < c.2.2.1)/\MH κ v u c.2.2.2.1 c.2.1 c.2.2.1/\c.2.1+c.2.2.1<=n
theorem zgf (L:LtE prog w A E s κ k D)(hk:kindOf st=k)(T:Two κ D v u)(bot:∀ x∈v.toList,∀ y,u.toList[0]?=some y->LE κ y x){z:Y1}(m:MH κ v u z.2.2.2.1 z.2.1 z.2.2.1)(h0:0 < z.2.1/\1 < z.2.2.1):wpS (model prog w) A E s (zli v u g z) (λr t=>t=st/\Gj1 κ v u (z.2.1+z.2.2.1 - 1) r) st:=by
 obtain⟨r,i,j,o,c,d⟩:=z
 dsimp only at m h0 ⊢
 obtain⟨h0,h1⟩:=h0
 have li:=m.li
 have lj:=m.lj
 unfold zli
 obtain⟨y,hy⟩:=X5 (v:=u) (i:=j - 1) (by omega)
 obtain⟨x,hx⟩:=X5 (v:=v) (i:=i - 1) (by omega)
 refine wpS_bind (zH hy (wpS_bind (zH hx (wpS_bind (L _ _ _ _ hk (T.du y (List.mem_of_getElem? hy)) (T.dv x (List.mem_of_getElem? hx)) ?_)))))
 dsimp only
 have hx2:=V7 T.sv h0 hx
 have hy2:=V7 T.su (i:=j) (by omega) hy
 cases e:κ.blt (ky κ y) (ky κ x) with
 | true =>
  rw[if_pos rfl]
  refine wpS_bind (zH hx ?_)
  have m':=m.pushA T h0 hx λa ha=>LE.trans (hy2 a ha) (KeyOrd.kle_of_klt e)
  by_cases e1:i - 1=0
  .rw[if_pos (beq_iff_eq.mpr e1)]
   exact wpS_pure ⟨rfl,.inl ⟨_,rfl,zab T m' (.inl e1)⟩⟩
  .rw[if_neg (λz=>e1 (beq_iff_eq.mp z))]
   split
   .exact wpS_pure ⟨rfl,.inr ⟨rfl,⟨by show 0 < i - 1;omega,h1⟩,m',by show i - 1+j<=i+j - 1;omega⟩⟩
   .exact wpS_pure ⟨rfl,rfl,⟨by show 0 < i - 1;omega,h1⟩,m',by show i - 1+j<=i+j - 1;omega⟩
 | false =>
  rw[if_neg Bool.false_ne_true]
  refine wpS_bind (zH hy ?_)
  have m':=m.pushB T (by omega) hy λa ha=>LE.trans (κ:=κ) (y:=x) (hx2 a ha) e
  by_cases e1:j - 1=1
  .rw[if_pos (beq_iff_eq.mpr e1)]
   exact wpS_pure ⟨rfl,.inl ⟨_,rfl,zbu T m' e1 bot⟩⟩
  .rw[if_neg (λz=>e1 (beq_iff_eq.mp z))]
   split
   .exact wpS_pure ⟨rfl,.inr ⟨rfl,⟨h0,by show 1 < j - 1;omega⟩,m',by show i+(j - 1)<=i+j - 1;omega⟩⟩
   .exact wpS_pure ⟨rfl,rfl,⟨h0,by show 1 < j - 1;omega⟩,m',by show i+(j - 1)<=i+j - 1;omega⟩
theorem zf1 {z:Y2}(L:LtE prog w A E s κ k D)(hk:kindOf st=k)(T:Two κ D v u)(bot:∀ x∈v.toList,∀ y,u.toList[0]?=some y->LE κ y x)(m:MH κ v u z.2.2.2.1 z.2.1 z.2.2.1)(h0:0 < z.2.1/\1 < z.2.2.1)(hn:z.2.1+z.2.2.1<=n):wpS (model prog w) A E s (zlb v u z) (λr t=>Sm st t/\Gj2 κ v u n r) st:=by
 unfold zlb
 split
 .exact zeV L hk T bot m h0.1 h0.2 hn
 .exact zeV L hk T bot m h0.1 h0.2 hn
noncomputable def Gj3 (κ:KeyKind)(v u:KA)(n:Nat):ForInStep Y3->Prop
 | .done c=>∃ r,c.1=some r/\Fn κ v u r
 | .yield c=>c.1=none/\(0 < c.2.1/\1 < c.2.2.1)/\MH κ v u c.2.2.2.1 c.2.1 c.2.2.1/\c.2.1+c.2.2.1<=n
theorem zgN {z:Y3}(L:LtE prog w A E s κ k D)(hk:kindOf st=k)(T:Two κ D v u)(bot:∀ x∈v.toList,∀ y,u.toList[0]?=some y->LE κ y x)(m:MH κ v u z.2.2.2.1 z.2.1 z.2.2.1)(h0:0 < z.2.1/\1 < z.2.2.1):wpS (model prog w) A E s (zlk v u z) (λr t=>Sm st t/\Gj3 κ v u (z.2.1+z.2.2.1 - 1) r) st:=by
 unfold zlk
 have li:=m.li
 have lj:=m.lj
 refine wpS_bind (wpS_mono (wpS_forRange (I:=λx c t=>t=st/\c.1=none/\(0 < c.2.1/\1 < c.2.2.1)/\MH κ v u c.2.2.2.1 c.2.1 c.2.2.1/\(x=0\/c.2.1+c.2.2.1<=z.2.1+z.2.2.1 - 1)/\c.2.1+c.2.2.1<=z.2.1+z.2.2.1) (Q:=λc t=>t=st/\Oj1 κ v u (z.2.1+z.2.2.1 - 1) c)
  (λx c t _ _ hI=>?_) (λc t hI=>?_) ⟨rfl,rfl,h0,m,.inl rfl,Nat.le_refl _⟩) λy t hI=>?_)
 .obtain⟨rfl,h1,h2,h3,h4,h5⟩:=hI
  refine wpS_mono (zgf L hk T bot h3 h2) λr t' h=>?_
  obtain⟨rfl,hr⟩:=h
  cases r with
  | done c' =>
   rcases hr with hr | ⟨a1,a2,a3,a4⟩
   .exact⟨rfl,.inl hr⟩
   .exact⟨rfl,.inr ⟨a1,a2,a3,by omega⟩⟩
  | yield c' =>
   obtain⟨a1,a2,a3,a4⟩:=hr
   exact⟨rfl,a1,a2,a3,.inr (by omega),by omega⟩
 .obtain⟨rfl,h1,h2,h3,h4,h5⟩:=hI
  refine⟨rfl,.inr ⟨h1,h2,h3,?_⟩⟩
  rcases h4 with h4 | h4
  .exfalso
   have:max 0 (v.size+u.size)=v.size+u.size:=by omega
   omega
  .exact h4
 .obtain⟨rfl,hy⟩:=hI
  rcases hy with ⟨r,e,hr⟩ | ⟨e,p1,m1,h1⟩
  .rw[e]
   exact wpS_pure ⟨Sm.refl _,r,rfl,hr⟩
  .rw[e]
   dsimp only
   refine wpS_bind (wpS_lift (wpAny_rule ⟨rfl,?_⟩))
   refine wpS_bind (wpS_mono (wpS_forRange (I:=λx c t'=>Sm t t'/\c.1=none/\(0 < c.2.1/\1 < c.2.2.1)/\MH κ v u c.2.2.2.1 c.2.1 c.2.2.1/\c.2.1+c.2.2.1<=z.2.1+z.2.2.1 - 1) (Q:=λc t'=>Sm t t'/\Oj2 κ v u (z.2.1+z.2.2.1 - 1) c)
    (λx c t' _ _ hI=>?_) (λc t' hI=>?_) ⟨Sm.refl _,rfl,p1,m1,h1⟩) λx t' hI=>?_)
   .obtain⟨hs,b1,b2,b3,b4⟩:=hI
    refine wpS_mono (zf1 L (hs.kd.trans hk) T bot b3 b2 b4) λr t2 h=>?_
    obtain⟨hs2,hr⟩:=h
    cases r with
    | done c'=>exact⟨hs.trans hs2,hr⟩
    | yield c'=>exact⟨hs.trans hs2,hr⟩
   .obtain⟨hs,b1,b2,b3,b4⟩:=hI
    exact⟨hs,.inr ⟨b1,b2,b3,b4⟩⟩
   .obtain⟨hs,hx⟩:=hI
    rcases hx with ⟨r,e,hr⟩ | ⟨e,p2,m2,h2⟩
    .rw[e]
     exact wpS_pure ⟨hs,r,rfl,hr⟩
    .rw[e]
     exact wpS_bind (Zb λt2 hs2=>wpS_pure ⟨hs.trans hs2,rfl,p2,m2,h2⟩)
theorem zi1 {P:KA->SortSt->Prop}(L:LtE prog w A E s κ k D)(hk:kindOf st=k)(T:Two κ D v u)(hv:0 < v.size)(hu:0 < u.size)(top:∀ y∈u.toList,∀ x,v.toList[v.size - 1]?=some x->LE κ y x)(bot:∀ x∈v.toList,∀ y,u.toList[0]?=some y->LE κ y x)
 (h:∀ r t,Sm st t->Fn κ v u r->P r t):wpS (model prog w) A E s (mhi v u) P st:=by
 rw[zjA]
 refine wpS_bind (wpS_lift (wpAny_rule ⟨rfl,?_⟩))
 obtain⟨x,hx⟩:=X5 (v:=v) (i:=v.size - 1) (by omega)
 refine wpS_bind (zH hx ?_)
 have m0:MH κ v u #[] v.size u.size:=⟨Nat.le_refl _,Nat.le_refl _,by
  rw[Nat.sub_self,Nat.sub_self]
  exact⟨Nat.zero_le _,Nat.zero_le _,List.Perm.refl _,List.Pairwise.nil,(λz hz=>by cases hz),(λz hz=>by cases hz)⟩⟩
 have m1:MH κ v u #[x] (v.size - 1) u.size:=m0.pushA T hv hx λy hy=>top y (List.mem_of_mem_take hy) x hx
 by_cases e1:v.size - 1=0
 .rw[if_pos (beq_iff_eq.mpr e1)]
  exact wpS_pure (h _ _ (Sm.refl _) (zab T m1 (.inl e1)))
 rw[if_neg (λz=>e1 (beq_iff_eq.mp z))]
 by_cases e2:u.size=1
 .rw[if_pos (beq_iff_eq.mpr e2)]
  exact wpS_pure (h _ _ (Sm.refl _) (zbu T m1 e2 bot))
 rw[if_neg (λz=>e2 (beq_iff_eq.mp z))]
 refine wpS_bind (wpS_get ?_)
 refine wpS_bind (wpS_mono (wpS_forRange (I:=λx c t=>Sm st t/\c.1=none/\(0 < c.2.1/\1 < c.2.2.1)/\MH κ v u c.2.2.2.1 c.2.1 c.2.2.1/\x+(c.2.1+c.2.2.1)<=v.size+u.size) (Q:=λc t=>Sm st t/\∃ r,c.1=some r/\Fn κ v u r)
  (λx c t _ _ hI=>?_) (λc t hI=>?_) ⟨Sm.refl _,rfl,⟨by show 0 < v.size - 1;omega,by show 1 < u.size;omega⟩,m1,by show 0+(v.size - 1+u.size)<=v.size+u.size;omega⟩) λy t hI=>?_)
 .obtain⟨hs,b1,b2,b3,b4⟩:=hI
  refine wpS_mono (zgN L (hs.kd.trans hk) T bot b3 b2) λr t2 h=>?_
  obtain⟨hs2,hr⟩:=h
  cases r with
  | done c'=>exact⟨hs.trans hs2,hr⟩
  | yield c'=>exact⟨hs.trans hs2,hr.1,hr.2.1,hr.2.2.1,by have:=hr.2.2.2;omega⟩
 .obtain⟨hs,b1,b2,b3,b4⟩:=hI
  exfalso
  have:max 0 (v.size+u.size)=v.size+u.size:=by omega
  omega
 .obtain⟨hs,r,e,hr⟩:=hI
  rw[e]
  exact wpS_pure (h r t hs hr)
end
noncomputable abbrev Pd:=Array (Nat × Nat × Nat)
theorem zj0 (i:Nat):mergeAt' i=(do
 let z<-get
 let (some (a,m,p),some (b,n,_)):=((pendingOf z)[i]?,(pendingOf z)[i+1]?) | (unsupported ("internal:list.sort.pending"))
 set (setPending z (((pendingOf z).setIfInBounds i (a,m+n,p)).eraseIdxIfInBounds (i+1)))
 let some k<-gal false (<- elem' (arrOf z) b) (arrOf z) a m 0 | return false
 let (a,m):=(a+k,m - k)
 if m == 0 then return true
 let some n<-gal true (<- elem' (arrOf z) (a+m - 1)) (arrOf z) b n (n - 1) | return false
 if n == 0 then return true
 let x:=(arrOf z).extract a b
 let y:=(arrOf z).extract b (b+n)
 let r<-if m<=n then mlo x y else mhi x y
 modify λs=>setArr s (r.toList.zipIdx.foldl (λx (y,j)=>x.setIfInBounds (a+j) y) (arrOf s))
 return (failedOf (<- get)).isNone):=rfl
theorem zgV:∀ (m:List Keyed) (x:KA) (b n:Nat),b+n+m.length<=x.size->((m.zipIdx n).foldl (λx z=>x.setIfInBounds (b+z.2) z.1) x).toList=x.toList.take (b+n)++m++x.toList.drop (b+n+m.length):=by
 intro m
 induction m with
 | nil=>intro x b n h;simp
 | cons y m ih =>
  intro x b n h
  rw[List.length_cons]at h
  rw[List.zipIdx_cons,List.foldl_cons]
  rw[ih (x.setIfInBounds (b+n) y) b (n+1) (by rw[Array.size_setIfInBounds];omega)]
  rw[Array.toList_setIfInBounds,List.length_cons,show b+(n+1)=b+n+1 by omega,show b+n+1+m.length=b+n+(m.length+1) by omega]
  have hl:b+n < x.toList.length:=by rw[Array.length_toList];omega
  rw[List.drop_set_of_lt (by omega),List.take_set]
  have e1:(x.toList.take (b+n+1)).set (b+n) y=x.toList.take (b+n)++[y]:=by
   rw[List.take_add_one,List.getElem?_eq_getElem hl]
   have:(x.toList.take (b+n)).length=b+n:=by rw[List.length_take];omega
   rw[List.set_append_right _ _ (by omega),this,Nat.sub_self]
   rfl
  rw[e1,List.append_assoc,List.append_assoc,List.append_assoc]
  rfl
theorem YO {l:List Keyed}{a m k:Nat}(h:k<=m):l.take (a+k)=l.take a++((l.drop a).take m).take k:=by
 rw[List.take_add,List.take_take,Nat.min_eq_left h]
theorem zgv {l:List Keyed}{b n q:Nat}(h:q<=n)(hl:b+n<=l.length):l.drop (b+q)=((l.drop b).take n).drop q++l.drop (b+n):=by
 have e:(l.drop b).take n++(l.drop b).drop n=l.drop b:=List.take_append_drop n (l.drop b)
 rw[<-List.drop_drop,<- List.drop_drop]
 have e2:(l.drop b).drop q=((l.drop b).take n++(l.drop b).drop n).drop q:=by rw[e]
 rw[e2,List.drop_append_of_le_length (by rw[List.length_take,List.length_drop];omega)]
theorem zhX {prog:Program}{w:World}{A:Around}{E:Value->Shared->Prop}{s:Shared}{st z:SortSt}{Q:PUnit->SortSt->Prop}(h:Q ⟨⟩ z):wpS (model prog w) A E s (set z:SM PUnit) Q st:=wpS_modify (f:=λ_=>z) h
section
variable {prog:Program}{w:World}{A:Around}{E:Value->Shared->Prop}{s:Shared}{st:SortSt}{κ:KeyKind}{k:SortKind}{D:Keyed->Prop}
theorem zjs {l r:List Keyed}{q:Keyed}(sl:l.Pairwise (LE κ))(sr:r.Pairwise (LE κ))(h1:∀ x∈l,LE κ x q)(h2:∀ y∈r,LE κ q y):(l++r).Pairwise (LE κ):=by
 rw[List.pairwise_append]
 exact⟨sl,sr,λx hx y hy=>LE.trans (h1 x hx) (h2 y hy)⟩
theorem zh2 {P:Bool->SortSt->Prop}{i a m p b n x:Nat}{l S1 S2:List Keyed}(L:LtE prog w A E s κ k D)(hk:kindOf st=k)(hf:failedOf st=none)(h1:(pendingOf st)[i]?=some (a,m,p))(h2:(pendingOf st)[i+1]?=some (b,n,x))
 (el:(arrOf st).toList=l) (hd:∀ x∈l,D x) (hb:a+m=b) (hn:b+n<=l.length) (m0:0 < m) (n0:0 < n) (e1:(l.drop a).take m=S1) (e2:(l.drop b).take n=S2) (s1:S1.Pairwise (LE κ)) (s2:S2.Pairwise (LE κ))
 (h:∀ t M,kindOf t=k->failedOf t=none->pendingOf t=((pendingOf st).setIfInBounds i (a,m+n,p)).eraseIdxIfInBounds (i+1)->(arrOf t).toList=l.take a++M++l.drop (b+n)->M.Perm (S1++S2)->M.Pairwise (LE κ)->P true t):wpS (model prog w) A E s (mergeAt' i) P st:=by
 have hsz:(arrOf st).size=l.length:=by rw[<-el,Array.length_toList]
 have l1:S1.length=m:=by rw[<-e1,List.length_take,List.length_drop];omega
 have l2:S2.length=n:=by rw[<-e2,List.length_take,List.length_drop];omega
 have whole:l=l.take a++(S1++S2)++l.drop (b+n):=by
  have q1:=YO (l:=l) (a:=a) (Nat.le_refl m)
  rw[e1,show S1.take m=S1 from List.take_of_length_le (by omega),hb]at q1
  have q2:=YO (l:=l) (a:=b) (Nat.le_refl n)
  rw[e2,show S2.take n=S2 from List.take_of_length_le (by omega),q1]at q2
  have q3:=List.take_append_drop (b+n) l
  rw[q2]at q3
  rw[<-List.append_assoc]
  exact q3.symm
 have get1:∀ {i x},S1[i]?=some x->l[a+i]?=some x:=λ{i x} e=>by
  have hi:i < m:=by have:=(List.getElem?_eq_some_iff.mp e).1;omega
  rw[<-e1,List.getElem?_take_of_lt hi,List.getElem?_drop]at e
  exact e
 have get2:∀ {i x},S2[i]?=some x->l[b+i]?=some x:=λ{i x} e=>by
  have hi:i < n:=by have:=(List.getElem?_eq_some_iff.mp e).1;omega
  rw[<-e2,List.getElem?_take_of_lt hi,List.getElem?_drop]at e
  exact e
 have d1:∀ x∈S1,D x:=λx hx=>hd x (by rw[<-e1]at hx;exact List.mem_of_mem_drop (List.mem_of_mem_take hx))
 have d2:∀ x∈S2,D x:=λx hx=>hd x (by rw[<-e2]at hx;exact List.mem_of_mem_drop (List.mem_of_mem_take hx))
 rw[zj0]
 refine wpS_bind (wpS_get ?_)
 dsimp only
 rw[h1,h2]
 dsimp only
 refine wpS_bind (zhX ?_)
 obtain⟨y0,hy0⟩:∃ y,S2[0]?=some y:=⟨_,List.getElem?_eq_getElem (by omega)⟩
 refine wpS_bind (zH (by rw[el];exact get2 hy0) ?_)
 have hy2:∀ y∈S2,LE κ y0 y:=λy hy=>XH (LE.refl (κ:=κ)) s2 hy0 y (by rw[List.drop_zero];exact hy)
 have hkz:kindOf (setPending st (((pendingOf st).setIfInBounds i (a,m+n,p)).eraseIdxIfInBounds (i+1)))=k:=hk
 refine wpS_bind (WJ L hkz (d2 y0 (List.mem_of_getElem? hy0)) (λz hz=>d1 z (by rw[el,e1]at hz;exact hz)) (by rw[el];omega) (by omega) (by rw[el,e1];exact s1) λc hc g1 g2=>?_)
 rw[el,e1]at g1 g2
 dsimp only
 by_cases c0:m - c=0
 .rw[if_pos (beq_iff_eq.mpr c0)]
  refine wpS_pure (h _ (S1++S2) hk hf rfl (by show(arrOf st).toList=_;rw[el];exact whole) (List.Perm.refl _) (zjs s1 s2 (λx hx=>g1 x ?_) hy2))
  rw[List.take_of_length_le (by omega)]
  exact hx
 rw[if_neg (λz=>c0 (beq_iff_eq.mp z))]
 obtain⟨x0,hx0⟩:∃ x,S1[m - 1]?=some x:=⟨_,List.getElem?_eq_getElem (by omega)⟩
 refine wpS_bind (zH (x:=x0) (by rw[el,show a+c+(m - c) - 1=a+(m - 1) by omega];exact get1 hx0) ?_)
 have hx2:∀ x∈S1,LE κ x x0:=λx hx=>V7 s1 (i:=m) (by omega) hx0 x (by rw[List.take_of_length_le (by omega)];exact hx)
 refine wpS_bind (WF L hkz (d1 x0 (List.mem_of_getElem? hx0)) (λz hz=>d2 z (by rw[el,e2]at hz;exact hz)) (by rw[el];omega) (by omega) (by rw[el,e2];exact s2) λq hq g3 g4=>?_)
 rw[el,e2]at g3 g4
 dsimp only
 by_cases q0:q=0
 .rw[if_pos (beq_iff_eq.mpr q0)]
  subst q0
  exact wpS_pure (h _ (S1++S2) hk hf rfl (by show(arrOf st).toList=_;rw[el];exact whole) (List.Perm.refl _) (zjs s1 s2 hx2 g4))
 rw[if_neg (λz=>q0 (beq_iff_eq.mp z))]
 have ev:((arrOf st).extract (a+c) b).toList=S1.drop c:=by
  rw[xQ,el,<- e1,List.drop_take,List.drop_drop,show b - (a+c)=m - c by omega]
 have eu:((arrOf st).extract b (b+q)).toList=S2.take q:=by
  rw[xQ,el,<- e2,List.take_take,Nat.add_sub_cancel_left,Nat.min_eq_left hq]
 have T:Two κ D ((arrOf st).extract (a+c) b) ((arrOf st).extract b (b+q)):=by
  refine⟨?_,?_,?_,?_⟩
  .rw[ev];exact λx hx=>d1 x (List.mem_of_mem_drop hx)
  .rw[eu];exact λx hx=>d2 x (List.mem_of_mem_take hx)
  .rw[ev];exact s1.sublist (List.drop_sublist _ _)
  .rw[eu];exact s2.sublist (List.take_sublist _ _)
 have zv:((arrOf st).extract (a+c) b).size=m - c:=by rw[<-Array.length_toList,ev,List.length_drop];omega
 have zu:((arrOf st).extract b (b+q)).size=q:=by rw[<-Array.length_toList,eu,List.length_take];omega
 have top:∀ y∈((arrOf st).extract b (b+q)).toList,∀ x,((arrOf st).extract (a+c) b).toList[((arrOf st).extract (a+c) b).size - 1]?=some x->LE κ y x:=by
  intro y hy x hx
  rw[eu]at hy
  rw[zv,ev,List.getElem?_drop,show c+(m - c - 1)=m - 1 by omega,hx0]at hx
  cases hx
  exact KeyOrd.kle_of_klt (g3 y hy)
 have bot:∀ x∈((arrOf st).extract (a+c) b).toList,∀ y,((arrOf st).extract b (b+q)).toList[0]?=some y->LE κ y x:=by
  intro x hx y hy
  rw[ev]at hx
  rw[eu,List.getElem?_take_of_lt (by omega),hy0]at hy
  cases hy
  exact KeyOrd.kle_of_klt (g2 x hx)
 have fin:∀ r t,Sm (setPending st (((pendingOf st).setIfInBounds i (a,m+n,p)).eraseIdxIfInBounds (i+1))) t->Fn κ ((arrOf st).extract (a+c) b) ((arrOf st).extract b (b+q)) r->wpS (model prog w) A E s (do
  modify λs=>setArr s (r.toList.zipIdx.foldl (λx z=>x.setIfInBounds (a+c+z.2) z.1) (arrOf s))
  let z<-get
  pure (failedOf z).isNone:SM Bool) P t:=λr t hs hr=>by
  refine wpS_bind (wpS_modify (wpS_bind (wpS_get ?_)))
  have hf':failedOf t=none:=hs.fl.trans hf
  show wpS _ _ _ _ (pure (failedOf t).isNone) _ _
  rw[hf']
  have ha:arrOf t=arrOf st:=hs.ar
  obtain⟨rp,rs⟩:=hr
  rw[ev,eu]at rp
  have rl:r.toList.length=m - c+q:=by rw[rp.length_eq,List.length_append,List.length_drop,List.length_take];omega
  refine wpS_pure (h _ (S1.take c++r.toList++S2.drop q) (hs.kd.trans hk) hf' hs.pd ?_ ?_ ?_)
  .show((r.toList.zipIdx.foldl (λx z=>x.setIfInBounds (a+c+z.2) z.1) (arrOf t))).toList=_
   rw[ha,zgV r.toList (arrOf st) (a+c) 0 (by rw[rl,hsz];omega),el,Nat.add_zero,rl,show a+c+(m - c+q)=b+q by omega,YO (l:=l) (a:=a) hc,e1,zgv hq hn,e2]
   simp only[List.append_assoc]
  .refine((rp.append_left (S1.take c)).append_right (S2.drop q)).trans ?_
   rw[<-List.append_assoc,List.take_append_drop,List.append_assoc,List.take_append_drop]
  .rw[List.append_assoc]
   have s3:(r.toList++S2.drop q).Pairwise (LE κ):=by
    rw[List.pairwise_append]
    refine⟨rs,s2.sublist (List.drop_sublist _ _),λx hx y hy=>?_⟩
    rcases List.mem_append.mp (rp.mem_iff.mp hx)with hx | hx
    .exact LE.trans (hx2 x (List.mem_of_mem_drop hx)) (g4 y hy)
    .have:=List.take_append_drop q S2
     rw[<-this,List.pairwise_append]at s2
     exact s2.2.2 x hx y hy
   rw[List.pairwise_append]
   refine⟨s1.sublist (List.take_sublist _ _),s3,λx hx y hy=>?_⟩
   rcases List.mem_append.mp hy with hy | hy
   .rcases List.mem_append.mp (rp.mem_iff.mp hy)with hy | hy
    .have:=List.take_append_drop c S1
     rw[<-this,List.pairwise_append]at s1
     exact s1.2.2 x hx y hy
    .exact LE.trans (g1 x hx) (hy2 y (List.mem_of_mem_take hy))
   .exact LE.trans (g1 x hx) (hy2 y (List.mem_of_mem_drop hy))
 by_cases cc:m - c<=q
 .rw[if_pos cc]
  exact wpS_bind (zi4 L hkz T (by omega) (by omega) top bot fin)
 .rw[if_neg cc]
  exact wpS_bind (zi1 L hkz T (by omega) (by omega) top bot fin)
end
noncomputable def zk3 (lo a n:Nat):SM AscSt :=
 forIn [a:n] ((none,a):AscSt) λ_ c=>do
  let some z<-ltAt' (lo+c.2) (lo+c.2 - 1) | pure (.done (some none,c.2))
  if z=true then pure (.done (none,c.2))else pure (.yield (none,c.2+1))
noncomputable def zfp (lo n m:Nat):SM (Option Nat):=do
 reverseSlice' lo (lo+n)
 let c<-zk3 lo n m
 match c.1 with
 | some r=>pure r
 | none=>pure (some c.2)
noncomputable def zgI (lo n m:Nat):SM DescSt :=
 forIn [n:m] ((none,n,0):DescSt) λ_ c=>do
  let some z<-ltAt' (lo+c.2.1) (lo+c.2.1 - 1) | pure (.done (some none,c.2.1,c.2.2))
  if z=true then
   if c.2.2 > 0 then do
    reverseSlice' (lo+c.2.1 - (c.2.2+1)) (lo+c.2.1)
    pure (.yield (none,c.2.1+1,0))
   else pure (.yield (none,c.2.1+1,0))
  else do
   let some y<-ltAt' (lo+c.2.1 - 1) (lo+c.2.1) | pure (.done (some none,c.2.1,c.2.2))
   if y=true then pure (.done (none,c.2.1,c.2.2))else pure (.yield (none,c.2.1+1,c.2.2+1))
noncomputable def zc3 (lo n m:Nat):SM (Option Nat):=do
 (rule ("list.sort.descending-run"))
 let c<-zgI lo (n+1) m
 match c.1 with
 | some r=>pure r
 | none =>
  if c.2.2 > 0 then do
   reverseSlice' (lo+c.2.1 - (c.2.2+1)) (lo+c.2.1)
   zfp lo c.2.1 m
  else zfp lo c.2.1 m
theorem zeL (lo m:Nat):countRun' lo m=(do
 let c<-zk3 lo 1 m
 match c.1 with
 | some r=>pure r
 | none =>
  if (c.2 == m)=true then pure (some c.2)
  else if c.2 > 1 then do
   let some z<-ltAt' lo (lo+c.2 - 1) | pure none
   if z=true then pure (some c.2)else do
    reverseSlice' lo (lo+c.2)
    zc3 lo c.2 m
  else zc3 lo c.2 m):=by
 rw[countRun'_eq]
 unfold zc3 zfp zgI zk3
 dsimp only
 congr 1
 funext c
 obtain⟨r,n⟩:=c
 cases r with
 | some r=>rfl
 | none =>
  dsimp only
  split
  .rfl
  .split
   .congr 1
    funext x
    cases x with
    | none=>rfl
    | some z =>
     dsimp only
     split
     .rfl
     .congr 1;funext _;congr 1;funext _;congr 1;funext d
      obtain⟨r2,n2,q2⟩:=d
      cases r2 with
      | some r2=>rfl
      | none =>
       dsimp only
       split
       .congr 1;funext _;congr 1;funext _;congr 1;funext e
        obtain⟨r3,n3⟩:=e
        cases r3 <;> rfl
       .congr 1;funext _;congr 1;funext e
        obtain⟨r3,n3⟩:=e
        cases r3 <;> rfl
   .congr 1;funext _;congr 1;funext d
    obtain⟨r2,n2,q2⟩:=d
    cases r2 with
    | some r2=>rfl
    | none =>
     dsimp only
     split
     .congr 1;funext _;congr 1;funext _;congr 1;funext e
      obtain⟨r3,n3⟩:=e
      cases r3 <;> rfl
     .congr 1;funext _;congr 1;funext e
      obtain⟨r3,n3⟩:=e
      cases r3 <;> rfl
set_option genInjectivity false in
set_option genSizeOf false in
set_option genCtorIdx false in
structure SL (k:SortKind) (a₀ X:KA) (lo:Nat) (p:Pd) (st:SortSt):Prop where
 pm:(arrOf st).Perm a₀
 kd:kindOf st=k
 fl:failedOf st=none
 pd:pendingOf st=p
 bl:∀ i,i < lo->(arrOf st)[i]?=X[i]?
noncomputable def SO (κ:KeyKind)(xs:KA)(lo n:Nat):Prop:=∀ i j,i<=j->j < n->κ.kle (KK κ xs (lo+i)) (KK κ xs (lo+j))
noncomputable def NO (κ:KeyKind)(xs:KA)(lo n:Nat):Prop:=∀ i j,i<=j->j < n->κ.kle (KK κ xs (lo+j)) (KK κ xs (lo+i))
section
variable {prog:Program}{w:World}{A:Around}{E:Value->Shared->Prop}{s:Shared}{st:SortSt}{κ:KeyKind}{k:SortKind}{a₀ X:KA}{lo:Nat}{p:Pd}
theorem SL.sz (S:SL k a₀ X lo p st):(arrOf st).size=a₀.size:=S.pm.size_eq
theorem SL.put (S:SL k a₀ X lo p st){ys:KA}(h:ys.Perm (arrOf st))(b:∀ i,i < lo->ys[i]?=(arrOf st)[i]?):SL k a₀ X lo p (setArr st ys):=⟨h.trans S.pm,S.kd,S.fl,S.pd,λi hi=>(b i hi).trans (S.bl i hi)⟩
theorem SL.mirror (S:SL k a₀ X lo p st){i j:Nat}(hi:lo<=i)(hj:j<=a₀.size):SL k a₀ X lo p (setArr st (mirror (arrOf st) i j ((j - i) / 2))) :=
 S.put (mirror_perm _ _ _ _) λq hq=>by rw[getElem?_mirror_all (by rw[S.sz];exact hj),if_neg (by omega)]
theorem zdJ {xs:KA}{i:Nat}{x:Keyed}(h:xs[i]?=some x):KK κ xs i=ky κ x:=by
 unfold KK
 rw[h]
 rfl
theorem YQ {i j:Nat}{Q:Option Bool->SortSt->Prop}(L:LtE prog w A E s κ k (·∈a₀.toList))(S:SL k a₀ X lo p st)(hi:i < a₀.size)(hj:j < a₀.size)(q:Q (some (κ.blt (KK κ (arrOf st) i) (KK κ (arrOf st) j))) st):wpS (model prog w) A E s (ltAt' i j) Q st:=by
 have look:∀ {i},i < a₀.size->∃ x,(arrOf st)[i]?=some x/\x∈a₀.toList:=λ{i} hi=>by
  have hi':i < (arrOf st).size:=by rw[S.sz];exact hi
  exact⟨(arrOf st)[i],getElem?_pos _ i hi',(Array.perm_iff_toList_perm.mp S.pm).mem_iff.mp (by simp)⟩
 obtain⟨x,e1,m1⟩:=look hi
 obtain⟨y,e2,m2⟩:=look hj
 rw[zdJ e1,zdJ e2]at q
 rw[ltAt'_eq]
 refine wpS_bind (wpS_get ?_)
 show wpS _ _ _ _ (elem' (arrOf st) i>>=λx=>elem' (arrOf st) j>>=λy=>lt' x y) Q st
 rw[elem'_eq,elem'_eq,e1,e2]
 exact wpS_bind (wpS_pure (wpS_bind (wpS_pure (L _ _ _ _ S.kd m1 m2 q))))
theorem SO.up {xs:KA}{x:Nat}(h:SO κ xs lo x)(hx:1<=x)(e:κ.kle (KK κ xs (lo+x - 1)) (KK κ xs (lo+x))):SO κ xs lo (x+1):=λi j hij hj=>by
 by_cases c:j < x
 .exact h i j hij c
 .obtain rfl:j=x:=by omega
  by_cases d:i=j
  .rw[d];exact KeyOrd.kle_refl _
  .have:=h i (j - 1) (by omega) (by omega)
   rw[show lo+(j - 1)=lo+j - 1 by omega]at this
   exact KeyOrd.kle_trans this e
theorem NO.down {xs:KA}{x:Nat}(h:NO κ xs lo x)(hx:1<=x)(e:κ.kle (KK κ xs (lo+x)) (KK κ xs (lo+x - 1))):NO κ xs lo (x+1):=λi j hij hj=>by
 by_cases c:j < x
 .exact h i j hij c
 .obtain rfl:j=x:=by omega
  by_cases d:i=j
  .rw[d];exact KeyOrd.kle_refl _
  .have:=h i (j - 1) (by omega) (by omega)
   rw[show lo+(j - 1)=lo+j - 1 by omega]at this
   exact KeyOrd.kle_trans e this
theorem SO.one {xs:KA}:SO κ xs lo 1:=λi j hij hj=>by
 obtain rfl:i=j:=by omega
 exact KeyOrd.kle_refl _
theorem NO.one {xs:KA}:NO κ xs lo 1:=λi j hij hj=>by
 obtain rfl:i=j:=by omega
 exact KeyOrd.kle_refl _
theorem NO.of {xs ys:KA}{n:Nat}(h:NO κ xs lo n)(e:∀ i,KK κ ys i=KK κ xs i):NO κ ys lo n:=λi j hij hj=>by rw[e,e];exact h i j hij hj
theorem NO.turn {xs:KA}{n:Nat}(h:NO κ xs lo n)(hn:lo+n<=xs.size):SO κ (mirror xs lo (lo+n) ((lo+n - lo) / 2)) lo n:=λi j hij hj=>by
 rw[KK_mirror hn,KK_mirror hn,if_pos ⟨by omega,by omega⟩,if_pos ⟨by omega,by omega⟩]
 have:=h (n - 1 - j) (n - 1 - i) (by omega) (by omega)
 rw[show lo+(n - 1 - i)=lo+(lo+n) - 1 - (lo+i) by omega,show lo+(n - 1 - j)=lo+(lo+n) - 1 - (lo+j) by omega]at this
 exact this
theorem zbp {a n:Nat}{Q:AscSt->SortSt->Prop}(L:LtE prog w A E s κ k (·∈a₀.toList))(hn:lo+n<=a₀.size)(ha:1<=a)(han:a<=n)(S:SL k a₀ X lo p st)(hs:SO κ (arrOf st) lo a)
 (h:∀ m,a<=m->m<=n->SO κ (arrOf st) lo m->(m=n\/κ.klt (KK κ (arrOf st) (lo+m)) (KK κ (arrOf st) (lo+m - 1)))->Q (none,m) st):wpS (model prog w) A E s (zk3 lo a n) Q st:=by
 unfold zk3
 refine wpS_forRange (I:=λx c t=>(t=st/\c=(none,x))/\SO κ (arrOf st) lo x) (λx c t h1 h2 hI=>?_) (λc t hI=>?_) ⟨⟨rfl,rfl⟩,hs⟩
 .obtain⟨⟨rfl,rfl⟩,hx⟩:=hI
  refine wpS_bind (YQ L S (by omega) (by omega) ?_)
  dsimp only
  cases c:κ.blt (KK κ (arrOf t) (lo+x)) (KK κ (arrOf t) (lo+x - 1)) with
  | true=>exact wpS_pure (h x h1 (by omega) hx (.inr c))
  | false=>exact wpS_pure ⟨⟨rfl,rfl⟩,hx.up (by omega) c⟩
 .obtain⟨⟨rfl,rfl⟩,hx⟩:=hI
  have e:max a n=n:=by omega
  rw[e]at hx ⊢
  exact h n han (Nat.le_refl _) hx (.inl rfl)
theorem VW {n m:Nat}{Q:Option Nat->SortSt->Prop}(L:LtE prog w A E s κ k (·∈a₀.toList))(hm:lo+m<=a₀.size)(h1:1<=n)(hnm:n<=m)(S:SL k a₀ X lo p st)(hs:NO κ (arrOf st) lo n)
 (h:∀ r t,SL k a₀ X lo p t->1<=r->r<=m->SO κ (arrOf t) lo r->Q (some r) t):wpS (model prog w) A E s (zfp lo n m) Q st:=by
 unfold zfp
 have S':=S.mirror (i:=lo) (j:=lo+n) (Nat.le_refl _) (by omega)
 exact wpS_bind (wpS_reverse (wpS_bind (zbp L hm h1 hnm S' (hs.turn (by rw[S.sz];omega)) λr g1 g2 g3 _=>wpS_pure (h r _ S' (by omega) g2 g3))))
theorem zdN {n m:Nat}{Q:DescSt->SortSt->Prop}(L:LtE prog w A E s κ k (·∈a₀.toList))(hm:lo+m<=a₀.size)(h1:1<=n)(hnm:n<=m)(S:SL k a₀ X lo p st)(hs:NO κ (arrOf st) lo n)
 (h:∀ r q t,SL k a₀ X lo p t->n<=r->r<=m->NO κ (arrOf t) lo r->q+1<=r->(∀ i,lo+r - (q+1)<=i->i < lo+r->KK κ (arrOf t) i=KK κ (arrOf t) (lo+r - 1))->Q (none,r,q) t):wpS (model prog w) A E s (zgI lo n m) Q st:=by
 unfold zgI
 refine wpS_forRange (I:=λx c t=>∃ q,c=(none,x,q)/\SL k a₀ X lo p t/\NO κ (arrOf t) lo x/\q+1<=x/\∀ i,lo+x - (q+1)<=i->i < lo+x->KK κ (arrOf t) i=KK κ (arrOf t) (lo+x - 1))
  (λx c t g1 g2 hI=>?_) (λc t hI=>?_) ⟨0,rfl,S,hs,h1,λi c1 c2=>by rw[show i=lo+n - 1 by omega]⟩
 .obtain⟨q,rfl,S1,ni,hq,he⟩:=hI
  dsimp only
  refine wpS_bind (YQ L S1 (by omega) (by omega) ?_)
  dsimp only
  cases c:κ.blt (KK κ (arrOf t) (lo+x)) (KK κ (arrOf t) (lo+x - 1)) with
  | true =>
   have d:=ni.down (by omega) (KeyOrd.kle_of_klt c)
   rw[if_pos rfl]
   by_cases hq0:q > 0
   .rw[if_pos hq0]
    exact wpS_bind (wpS_reverse (wpS_pure ⟨0,rfl,S1.mirror (by omega) (by omega),d.of (KK_mirror_equal (by rw[S1.sz];omega) he),by omega,λi c1 c2=>by rw[show i=lo+(x+1) - 1 by omega]⟩))
   .rw[if_neg hq0]
    exact wpS_pure ⟨0,rfl,S1,d,by omega,λi c1 c2=>by rw[show i=lo+(x+1) - 1 by omega]⟩
  | false =>
   rw[if_neg Bool.false_ne_true]
   refine wpS_bind (YQ L S1 (by omega) (by omega) ?_)
   dsimp only
   cases c2:κ.blt (KK κ (arrOf t) (lo+x - 1)) (KK κ (arrOf t) (lo+x)) with
   | true=>exact wpS_pure (h x q t S1 g1 (by omega) ni hq he)
   | false =>
    have same:KK κ (arrOf t) (lo+x)=KK κ (arrOf t) (lo+x - 1):=KeyOrd.kle_antisymm c2 c
    refine wpS_pure ⟨q+1,rfl,S1,ni.down (by omega) c2,by omega,λi d1 d2=>?_⟩
    show KK κ (arrOf t) i=KK κ (arrOf t) (lo+x)
    by_cases di:i=lo+x
    .rw[di]
    .rw[same];exact he i (by omega) (by omega)
 .obtain⟨q,rfl,S1,ni,hq,he⟩:=hI
  have e:max n m=m:=by omega
  rw[e]at ni hq he ⊢
  exact h m q t S1 hnm (Nat.le_refl _) ni hq he
theorem zaj {n m:Nat}{Q:Option Nat->SortSt->Prop}(L:LtE prog w A E s κ k (·∈a₀.toList))(hm:lo+m<=a₀.size)(hnm:n+1<=m)(S:SL k a₀ X lo p st)(hs:NO κ (arrOf st) lo (n+1))
 (h:∀ r t,SL k a₀ X lo p t->1<=r->r<=m->SO κ (arrOf t) lo r->Q (some r) t):wpS (model prog w) A E s (zc3 lo n m) Q st:=by
 unfold zc3
 refine wpS_bind (wpS_lift (wpAny_rule ⟨rfl,wpS_bind (zdN L hm (by omega) hnm S hs λr q t S1 r1 r2 ni hq he=>?_)⟩))
 dsimp only
 by_cases hq0:q > 0
 .rw[if_pos hq0]
  exact wpS_bind (wpS_reverse (VW (n:=r) L hm (by omega) r2 (S1.mirror (by omega) (by omega)) (ni.of (KK_mirror_equal (by rw[S1.sz];omega) he)) h))
 .rw[if_neg hq0]
  exact VW (n:=r) L hm (by omega) r2 S1 ni h
theorem zcl {m:Nat}{Q:Option Nat->SortSt->Prop}(L:LtE prog w A E s κ k (·∈a₀.toList))(hm:lo+m<=a₀.size)(h1:1<=m)(S:SL k a₀ X lo p st)
 (h:∀ r t,SL k a₀ X lo p t->1<=r->r<=m->SO κ (arrOf t) lo r->Q (some r) t):wpS (model prog w) A E s (countRun' lo m) Q st:=by
 rw[zeL]
 refine wpS_bind (zbp L hm (Nat.le_refl 1) h1 S SO.one λn n1 n2 sn or=>?_)
 dsimp only
 by_cases e:n=m
 .rw[if_pos (by rw[e];exact beq_self_eq_true m)]
  exact wpS_pure (h n st S n1 n2 sn)
 .rw[if_neg (λz=>e (eq_of_beq z))]
  have lt:=or.resolve_left e
  by_cases g:n > 1
  .rw[if_pos g]
   refine wpS_bind (YQ L S (by omega) (by omega) ?_)
   dsimp only
   cases c:κ.blt (KK κ (arrOf st) lo) (KK κ (arrOf st) (lo+n - 1)) with
   | true=>exact wpS_pure (h n st S n1 n2 sn)
   | false =>
    have eq:∀ i,lo<=i->i < lo+n->KK κ (arrOf st) i=KK κ (arrOf st) (lo+n - 1):=λi hl hi=>by
     have z1:=sn (i - lo) (n - 1) (by omega) (by omega)
     have z2:=sn 0 (i - lo) (by omega) (by omega)
     rw[show lo+(i - lo)=i by omega,show lo+(n - 1)=lo+n - 1 by omega]at z1
     rw[show lo+(i - lo)=i by omega,Nat.add_zero]at z2
     exact KeyOrd.kle_antisymm z1 (KeyOrd.kle_trans c z2)
    have ni:NO κ (arrOf st) lo n:=λi j _ hj=>by rw[eq (lo+i) (by omega) (by omega),eq (lo+j) (by omega) (by omega)];exact KeyOrd.kle_refl _
    rw[if_neg Bool.false_ne_true]
    exact wpS_bind (wpS_reverse (zaj L hm (by omega) (S.mirror (Nat.le_refl _) (by omega)) ((ni.down (by omega) (KeyOrd.kle_of_klt lt)).of (KK_mirror_equal (by rw[S.sz];omega) eq)) h))
  .rw[if_neg g]
   obtain rfl:n=1:=by omega
   exact zaj L hm (by omega) S (NO.one.down (Nat.le_refl 1) (KeyOrd.kle_of_klt lt)) h
theorem SL.bubble (S:SL k a₀ X lo p st){x l:Nat}(hl:l<=x)(hx:lo+x < a₀.size):SL k a₀ X lo p (setArr st (bubble (arrOf st) (lo+x) (lo+x - (lo+l)))) :=
 S.put (bubble_perm _ _ _) λq hq=>by rw[getElem?_bubble (by rw[S.sz];exact hx) _ (by omega),if_neg (by omega),if_neg (by omega)]
theorem ziu {xs:KA}{x l:Nat}(hz:lo+x < xs.size)(hl:l<=x)(sx:SO κ xs lo x)(low:∀ i,i < l->κ.kle (KK κ xs (lo+i)) (KK κ xs (lo+x)))(up:∀ i,l<=i->i < x->κ.klt (KK κ xs (lo+x)) (KK κ xs (lo+i))):SO κ (bubble xs (lo+x) (lo+x - (lo+l))) lo (x+1):=by
 have key:∀ i,i < x+1->KK κ (bubble xs (lo+x) (lo+x - (lo+l))) (lo+i)=if i=l then KK κ xs (lo+x)else if l < i then KK κ xs (lo+(i - 1))else KK κ xs (lo+i):=λi hi=>by
  rw[KK_bubble hz (by omega)]
  by_cases c:i=l
  .rw[if_pos (by omega),if_pos c]
  .rw[if_neg (by omega),if_neg c]
   by_cases c2:l < i
   .rw[if_pos ⟨by omega,by omega⟩,if_pos c2,show lo+i - 1=lo+(i - 1) by omega]
   .rw[if_neg (by omega),if_neg c2]
 intro i j hij hj
 rw[key i (by omega),key j hj]
 by_cases i1:i=l
 .rw[if_pos i1]
  by_cases j1:j=l
  .rw[if_pos j1];exact KeyOrd.kle_refl _
  .rw[if_neg j1,if_pos (by omega)]
   exact KeyOrd.kle_of_klt (up (j - 1) (by omega) (by omega))
 .rw[if_neg i1]
  by_cases i2:l < i
  .rw[if_pos i2,if_neg (by omega),if_pos (by omega)]
   exact sx (i - 1) (j - 1) (by omega) (by omega)
  .rw[if_neg i2]
   by_cases j1:j=l
   .rw[if_pos j1];exact low i (by omega)
   .rw[if_neg j1]
    by_cases j2:l < j
    .rw[if_pos j2];exact sx i (j - 1) (by omega) (by omega)
    .rw[if_neg j2];exact sx i j hij (by omega)
theorem zfE {n r:Nat}{Q:Bool->SortSt->Prop}(L:LtE prog w A E s κ k (·∈a₀.toList))(hn:lo+n<=a₀.size)(hr:r<=n)(h1:1<=r)(S:SL k a₀ X lo p st)(hs:SO κ (arrOf st) lo r)
 (h:∀ t,SL k a₀ X lo p t->SO κ (arrOf t) lo n->Q true t):wpS (model prog w) A E s (binarySort' lo n r) Q st:=by
 rw[binarySort'_eq]
 rw[show max r 1=r by omega]
 refine wpS_bind (wpS_mono (wpS_forRange (I:=λx c t=>c=(none,())/\SL k a₀ X lo p t/\SO κ (arrOf t) lo x) (Q:=λc t=>c=(none,())/\SL k a₀ X lo p t/\SO κ (arrOf t) lo n)
  (λx c t g1 g2 hI=>?_) (λc t hI=>?_) ⟨rfl,S,hs⟩) λc t hI=>?_)
 .obtain⟨rfl,S1,sx⟩:=hI
  refine wpS_bind (wpS_mono (wpS_forRange
   (I:=λy c t'=>t'=t/\∃ l u,c=(none,l,u)/\(l<=u/\u<=x/\u - l<=x - y)/\(∀ i,i < l->κ.kle (KK κ (arrOf t) (lo+i)) (KK κ (arrOf t) (lo+x)))/\∀ i,u<=i->i < x->κ.klt (KK κ (arrOf t) (lo+x)) (KK κ (arrOf t) (lo+i)))
   (Q:=λc t'=>t'=t/\∃ l u,c=(none,l,u)/\l<=x/\(∀ i,i < l->κ.kle (KK κ (arrOf t) (lo+i)) (KK κ (arrOf t) (lo+x)))/\∀ i,l<=i->i < x->κ.klt (KK κ (arrOf t) (lo+x)) (KK κ (arrOf t) (lo+i)))
   (λy c t' y1 y2 hJ=>?_) (λc t' hJ=>?_) ⟨rfl,0,x,rfl,⟨Nat.zero_le _,Nat.le_refl _,Nat.le_refl _⟩,λi hi=>absurd hi (Nat.not_lt_zero _),λi i1 i2=>absurd (Nat.lt_of_le_of_lt i1 i2) (Nat.lt_irrefl _)⟩) λc t' hJ=>?_)
  .obtain⟨rfl,l,u,rfl,⟨e1,e2,e3⟩,low,up⟩:=hJ
   dsimp only
   by_cases c1:l >= u
   .rw[if_pos c1]
    obtain rfl:l=u:=by omega
    exact wpS_pure ⟨rfl,l,l,rfl,e2,low,up⟩
   .rw[if_neg c1]
    obtain⟨md,hmd⟩:∃ md,(l+u) / 2=md:=⟨_,rfl⟩
    rw[hmd]
    have m1:l<=md/\md < u:=by omega
    refine wpS_bind (YQ L S1 (by omega) (by omega) ?_)
    dsimp only
    cases c2:κ.blt (KK κ (arrOf t') (lo+x)) (KK κ (arrOf t') (lo+md)) with
    | true=>exact wpS_pure ⟨rfl,l,md,rfl,⟨m1.1,by omega,by omega⟩,low,λi i1 i2=>KeyOrd.klt_of_klt_of_kle c2 (sx md i i1 i2)⟩
    | false=>exact wpS_pure ⟨rfl,md+1,u,rfl,⟨by omega,e2,by omega⟩,λi i1=>KeyOrd.kle_trans (sx i md (by omega) (by omega)) c2,up⟩
  .obtain⟨rfl,l,u,rfl,⟨e1,e2,e3⟩,low,up⟩:=hJ
   obtain rfl:l=u:=by omega
   exact⟨rfl,l,l,rfl,e2,low,up⟩
  .obtain⟨rfl,l,u,rfl,e2,low,up⟩:=hJ
   dsimp only
   rw[moveDown'_eq]
   exact wpS_bind (wpS_modify (wpS_pure ⟨rfl,S1.bubble e2 (by omega),ziu (by rw[S1.sz];omega) e2 sx low up⟩))
 .obtain⟨e1,S1,sx⟩:=hI
  rw[show max r n=n by omega]at sx
  exact⟨e1,S1,sx⟩
 .obtain⟨rfl,S1,sx⟩:=hI
  exact wpS_pure (h t S1 sx)
end
noncomputable abbrev U1:=Option Unit × Unit
noncomputable abbrev U2:=Option Unit × Nat
noncomputable def zcI (q:Nat)(_:U1):SM (ForInStep U1):=do
 let z<-get
 let some (_,_,o):=(if (pendingOf z).size > 1 then (pendingOf z)[(pendingOf z).size - 2]? else none) | pure (.done (none,()))
 if o<=q then pure (.done (none,()))else do
  let b<-mergeAt' ((pendingOf z).size - 2)
  if (!b)=true then pure (.done (some (),()))else pure (.yield (none,()))
noncomputable def zai (N lo n:Nat):SM (ForInStep U2):=do
 let z<-get
 let some (a,m,_):=(pendingOf z).back? | do
  modify λs=>setPending s ((pendingOf s).push (lo,n,0))
  pure (.yield (none,lo+n))
 let c<-forIn [0:N] ((none,()):U1) λ_ c=>zcI (power' N (2*a+m) (2*a+m+m+n) N) c
 match c.1 with
 | some r=>pure (.done (some r,lo))
 | none=>do
  modify λs=>setPending s ((pendingOf s).modify ((pendingOf s).size - 1) λx=>(x.1,x.2.1,power' N (2*a+m) (2*a+m+m+n) N))
  modify λs=>setPending s ((pendingOf s).push (lo,n,0))
  pure (.yield (none,lo+n))
noncomputable def zle (N M:Nat)(c:U2):SM (ForInStep U2) :=
 if c.2 >= N then pure (.done (none,c.2))else do
  let some f<-countRun' c.2 (N - c.2) | pure (.done (some (),c.2))
  if f < M then do
   (rule ("list.sort.binary-insertion"))
   let b<-binarySort' c.2 (min (N - c.2) M) f
   if (!b)=true then pure (.done (some (),c.2))else zai N c.2 (min (N - c.2) M)
  else zai N c.2 f
noncomputable def zl1 (p:Pd):Nat:=if ((if p.size - 2 > 0 then p[p.size - 2 - 1]?.map (·.2.1)else none).any (· < (p[p.size - 2+1]?.elim 0 (·.2.1))))=true then p.size - 2 - 1 else p.size - 2
noncomputable def zls (_:U1):SM (ForInStep U1):=do
 let z<-get
 if (pendingOf z).size<=1 then pure (.done (none,()))else do
  let b<-mergeAt' (zl1 (pendingOf z))
  if (!b)=true then pure (.done (some (),()))else pure (.yield (none,()))
theorem ziG:sortRuns'=(do
 let z<-get
 let c<-forIn [0:(arrOf z).size] ((none,0):U2) λ_ c=>zle (arrOf z).size (minRun' (arrOf z).size (arrOf z).size 0) c
 match c.1 with
 | some r=>pure r
 | none=>do
  let d<-forIn [0:(arrOf z).size] ((none,()):U1) λ_ d=>zls d
  match d.1 with
  | some r=>pure r
  | none=>pure ()):=by
 rw[sortRuns'_eq]
 dsimp only[zle,zai,zcI,zls,zl1]
 congr 1;funext z;congr 1
 .congr 1;funext _ c
  congr 1;congr 1;funext f
  cases f with
  | none=>rfl
  | some f =>
   dsimp only
   split
   .congr 1;funext _;congr 1;funext b
    congr 1;congr 1;funext y
    cases (pendingOf y).back? with
    | none=>rfl
    | some r =>
     dsimp only
     congr 1;funext d;obtain⟨r,d⟩:=d;cases r <;> rfl
   .congr 1;funext y
    cases (pendingOf y).back? with
    | none=>rfl
    | some r =>
     dsimp only
     congr 1;funext d;obtain⟨r,d⟩:=d;cases r <;> rfl
 .funext c;obtain⟨r,c⟩:=c
  cases r with
  | some r=>rfl
  | none =>
   dsimp only
   congr 1;funext d;obtain⟨r,d⟩:=d;cases r <;> rfl
noncomputable def ZH (κ:KeyKind)(l:List Keyed):Nat->List (Nat × Nat)->Nat->Prop
 | a,[],b=>a=b
 | a,r::p,b=>r.1=a/\0 < r.2/\((l.drop a).take r.2).Pairwise (LE κ)/\ZH κ l (a+r.2) p b
section
variable {κ:KeyKind}{l l':List Keyed}
theorem ZH.le:∀ {p:List (Nat × Nat)} {a b:Nat},ZH κ l a p b->a+p.length<=b
 | [],a,b,h=>by have:a=b:=h;rw[this];exact Nat.le_refl _
 | r::p,a,b,h=>by have:=ZH.le h.2.2.2;have:=h.2.1;rw[List.length_cons];omega
theorem ZH.split:∀ {p q:List (Nat × Nat)} {a b:Nat},ZH κ l a (p++q) b->∃ c,ZH κ l a p c/\ZH κ l c q b
 | [],q,a,b,h=>⟨a,rfl,h⟩
 | r::p,q,a,b,h=>by
  obtain⟨c,h1,h2⟩:=ZH.split (p:=p) h.2.2.2
  exact⟨c,⟨h.1,h.2.1,h.2.2.1,h1⟩,h2⟩
theorem ZH.join:∀ {p q:List (Nat × Nat)} {a b c:Nat},ZH κ l a p c->ZH κ l c q b->ZH κ l a (p++q) b
 | [],q,a,b,c,h,h2=>by have:a=c:=h;rw[this];exact h2
 | r::p,q,a,b,c,h,h2=>⟨h.1,h.2.1,h.2.2.1,ZH.join h.2.2.2 h2⟩
theorem ZH.low:∀ {p:List (Nat × Nat)} {a b:Nat},ZH κ l a p b->l'.take b=l.take b->ZH κ l' a p b
 | [],a,b,h,_=>h
 | r::p,a,b,h,e=>by
  have hl:=h.2.2.2.le
  refine⟨h.1,h.2.1,?_,h.2.2.2.low e⟩
  have key:∀ m:List Keyed,(m.drop a).take r.2=((m.take b).drop a).take r.2:=λm=>by
   rw[List.drop_take,List.take_take,Nat.min_eq_left (by omega)]
  rw[key,e,<- key]
  exact h.2.2.1
theorem ZH.high:∀ {p:List (Nat × Nat)} {a b:Nat},ZH κ l a p b->l'.drop a=l.drop a->ZH κ l' a p b
 | [],a,b,h,_=>h
 | r::p,a,b,h,e=>by
  refine⟨h.1,h.2.1,by rw[e];exact h.2.2.1,h.2.2.2.high ?_⟩
  rw[<-List.drop_drop,e,List.drop_drop]
end
noncomputable abbrev g2 (r:Nat × Nat × Nat):Nat × Nat:=(r.1,r.2.1)
set_option genInjectivity false in
set_option genSizeOf false in
set_option genCtorIdx false in
structure ST (κ:KeyKind) (k:SortKind) (a₀:KA) (hi:Nat) (st:SortSt):Prop where
 pm:(arrOf st).Perm a₀
 kd:kindOf st=k
 fl:failedOf st=none
 sg:ZH κ (arrOf st).toList 0 ((pendingOf st).toList.map g2) hi
section
variable {prog:Program}{w:World}{A:Around}{E:Value->Shared->Prop}{s:Shared}{st:SortSt}{κ:KeyKind}{k:SortKind}{a₀:KA}{hi:Nat}
theorem ST.sz (S:ST κ k a₀ hi st):(arrOf st).size=a₀.size:=S.pm.size_eq
theorem ST.mem (S:ST κ k a₀ hi st):∀ x∈(arrOf st).toList,x∈a₀.toList:=λx hx=>(Array.perm_iff_toList_perm.mp S.pm).mem_iff.mp hx
theorem zeS {α:Type}{l:List α}{i:Nat}(h:i+1 < l.length):∃ P x y Q,l=P++x::y::Q/\P.length=i:=by
 refine⟨l.take i,l[i],l[i+1],l.drop (i+2),?_,by rw[List.length_take];omega⟩
 have e1:l.drop i=l[i]::l[i+1]::l.drop (i+2):=by rw[List.drop_eq_getElem_cons (by omega),List.drop_eq_getElem_cons h]
 rw[<-e1,List.take_append_drop]
theorem VB {i:Nat}{Q:Bool->SortSt->Prop}(L:LtE prog w A E s κ k (·∈a₀.toList))(S:ST κ k a₀ hi st)(hi2:i+1 < (pendingOf st).size)(hle:hi<=a₀.size)
 (h:∀ t,ST κ k a₀ hi t->(pendingOf t).size+1=(pendingOf st).size->(arrOf t).toList.drop hi=(arrOf st).toList.drop hi->Q true t):wpS (model prog w) A E s (mergeAt' i) Q st:=by
 obtain⟨P,⟨a,m,p⟩,⟨b,n,x⟩,R,e,hP⟩:=zeS (l:=(pendingOf st).toList) (i:=i) (by rw[Array.length_toList];exact hi2)
 have sg:=S.sg
 rw[e,List.map_append,List.map_cons,List.map_cons]at sg
 obtain⟨c,s1,sa,m0,so1,sb,n0,so2,s2⟩:=sg.split
 have sa':a=c:=sa
 have sb':b=c+m:=sb
 subst sa' sb'
 dsimp only at m0 n0 so1 so2 s2
 have hl2:=s2.le
 have hz:(arrOf st).toList.length=a₀.size:=by rw[Array.length_toList,S.sz]
 have p1:(pendingOf st)[i]?=some (a,m,p):=by
  rw[<-Array.getElem?_toList,e,List.getElem?_append_right (by omega),hP,Nat.sub_self]
  rfl
 have p2:(pendingOf st)[i+1]?=some (a+m,n,x):=by
  rw[<-Array.getElem?_toList,e,List.getElem?_append_right (by omega),hP,Nat.add_sub_cancel_left]
  rfl
 refine zh2 L S.kd S.fl p1 p2 rfl S.mem rfl (by omega) m0 n0 rfl rfl so1 so2 λt M t1 t2 t3 t4 t5 t6=>?_
 have ep:(pendingOf t).toList=P++(a,m+n,p)::R:=by
  rw[t3,Array.toList_eraseIdxIfInBounds,Array.toList_setIfInBounds,e,List.set_append_right _ _ (by omega),hP,Nat.sub_self,List.eraseIdx_append_of_length_le (by omega),hP,Nat.add_sub_cancel_left]
  rfl
 have lP:((arrOf st).toList.take a).length=a:=by rw[List.length_take];omega
 have lM:M.length=m+n:=by rw[t5.length_eq,List.length_append,List.length_take,List.length_take,List.length_drop,List.length_drop];omega
 have d1:(arrOf t).toList.take a=(arrOf st).toList.take a:=by rw[t4,List.append_assoc,List.take_append_of_le_length (by omega),List.take_of_length_le (by omega)]
 have d2:(arrOf t).toList.drop (a+m+n)=(arrOf st).toList.drop (a+m+n):=by
  rw[t4,List.drop_append_of_le_length (by rw[List.length_append];omega),List.drop_eq_nil_of_le (by rw[List.length_append];omega),List.nil_append]
 have d3:((arrOf t).toList.drop a).take (m+n)=M:=by
  rw[t4,List.append_assoc,List.drop_append_of_le_length (by omega),List.drop_eq_nil_of_le (by omega),List.nil_append,List.take_append_of_le_length (by omega),List.take_of_length_le (by omega)]
 refine h t ⟨?_,t1,t2,?_⟩ ?_ ?_
 .refine Array.perm_iff_toList_perm.mpr (List.Perm.trans ?_ (Array.perm_iff_toList_perm.mp S.pm))
  rw[t4]
  have q1:=YO (l:=(arrOf st).toList) (a:=a) (Nat.le_refl m)
  rw[List.take_take,Nat.min_self]at q1
  have q2:=YO (l:=(arrOf st).toList) (a:=a+m) (Nat.le_refl n)
  rw[List.take_take,Nat.min_self,q1]at q2
  have q3:=List.take_append_drop (a+m+n) (arrOf st).toList
  rw[q2]at q3
  have q4:(arrOf st).toList.Perm (List.take a (arrOf st).toList++(List.take m (List.drop a (arrOf st).toList)++List.take n (List.drop (a+m) (arrOf st).toList))++List.drop (a+m+n) (arrOf st).toList):=by
   rw[<-List.append_assoc,q3]
  exact((t5.append_left _).append_right _).trans q4.symm
 .rw[ep,List.map_append,List.map_cons]
  refine(s1.low d1).join ⟨rfl,by show 0 < m+n;omega,by show(((arrOf t).toList.drop a).take (m+n)).Pairwise _;rw[d3];exact t6,?_⟩
  have:ZH κ (arrOf t).toList (a+m+n) (R.map g2) hi:=s2.high d2
  show ZH κ (arrOf t).toList (a+(m+n)) (R.map g2) hi
  rw[<-Nat.add_assoc]
  exact this
 .rw[<-Array.length_toList,<- Array.length_toList,ep,e]
  simp only[List.length_append,List.length_cons]
  omega
 .rw[show hi=a+m+n+(hi - (a+m+n)) by omega,<- List.drop_drop,d2,List.drop_drop]
theorem ze7 {xs:KA}{lo n:Nat}(h:SO κ xs lo n):((xs.toList.drop lo).take n).Pairwise (LE κ):=by
 rw[List.pairwise_iff_getElem]
 intro i j hi hj hij
 have hj2:j < n:=by rw[List.length_take]at hj;omega
 have z:=h i j (by omega) hj2
 have e:∀ {q} (hq:q < ((xs.toList.drop lo).take n).length),KK κ xs (lo+q)=ky κ ((xs.toList.drop lo).take n)[q]:=λ{q} hq=>by
  refine zdJ ?_
  have hq2:q < n:=by rw[List.length_take]at hq;omega
  rw[<-Array.getElem?_toList,<- List.getElem?_drop,<- List.getElem?_take_of_lt hq2,List.getElem?_eq_getElem hq]
 rw[e hi,e hj]at z
 exact z
theorem ST.push (S:ST κ k a₀ hi st){n:Nat}(hn:0 < n)(h:(((arrOf st).toList.drop hi).take n).Pairwise (LE κ)):ST κ k a₀ (hi+n) (setPending st ((pendingOf st).push (hi,n,0))):=by
 refine⟨S.pm,S.kd,S.fl,?_⟩
 show ZH κ (arrOf st).toList 0 (((pendingOf st).push (hi,n,0)).toList.map g2) (hi+n)
 rw[Array.toList_push,List.map_append]
 exact S.sg.join ⟨rfl,hn,h,rfl⟩
theorem zh3 {f:Nat × Nat × Nat->Nat × Nat × Nat}(hf:∀ r,g2 (f r)=g2 r)(p:Pd)(i:Nat):(p.modify i f).toList.map g2=p.toList.map g2:=by
 refine List.ext_getElem? λj=>?_
 rw[Array.toList_modify,List.getElem?_map,List.getElem?_map,List.getElem?_modify]
 cases p.toList[j]? with
 | none=>rfl
 | some r =>
  show Option.map g2 (some (if i=j then f r else r))=_
  split
  .exact congrArg some (hf r)
  .rfl
theorem ST.mod (S:ST κ k a₀ hi st){f:Nat × Nat × Nat->Nat × Nat × Nat}(hf:∀ r,g2 (f r)=g2 r)(i:Nat):ST κ k a₀ hi (setPending st ((pendingOf st).modify i f)):=by
 refine⟨S.pm,S.kd,S.fl,?_⟩
 show ZH κ (arrOf st).toList 0 (((pendingOf st).modify i f).toList.map g2) hi
 rw[zh3 hf]
 exact S.sg
theorem Wn {N n:Nat}(L:LtE prog w A E s κ k (·∈a₀.toList))(S:ST κ k a₀ hi st)(hn:0 < n)(hle:hi+n<=a₀.size)(so:(((arrOf st).toList.drop hi).take n).Pairwise (LE κ)) :
 wpS (model prog w) A E s (zai N hi n) (λr t=>r=.yield (none,hi+n)/\ST κ k a₀ (hi+n) t) st:=by
 unfold zai
 refine wpS_bind (wpS_get ?_)
 cases e:(pendingOf st).back? with
 | none=>exact wpS_bind (wpS_modify (wpS_pure ⟨rfl,S.push hn so⟩))
 | some r =>
  obtain⟨a,m,q⟩:=r
  dsimp only
  refine wpS_bind (wpS_mono (wpS_forRange (I:=λ_ c t=>c=(none,())/\ST κ k a₀ hi t/\(arrOf t).toList.drop hi=(arrOf st).toList.drop hi) (Q:=λc t=>c=(none,())/\ST κ k a₀ hi t/\(arrOf t).toList.drop hi=(arrOf st).toList.drop hi)
   (λx c t _ _ hI=>?_) (λc t hI=>hI) ⟨rfl,S,rfl⟩) λc t hI=>?_)
  .obtain⟨rfl,S1,d1⟩:=hI
   unfold zcI
   refine wpS_bind (wpS_get ?_)
   by_cases c1:(pendingOf t).size > 1
   .rw[if_pos c1]
    cases e2:(pendingOf t)[(pendingOf t).size - 2]? with
    | none=>exact wpS_pure ⟨rfl,S1,d1⟩
    | some r =>
     obtain⟨r1,r2,o⟩:=r
     dsimp only
     split
     .exact wpS_pure ⟨rfl,S1,d1⟩
     .refine wpS_bind (VB L S1 (by omega) (by omega) λt2 S2 _ d2=>?_)
      exact wpS_pure ⟨rfl,S2,d2.trans d1⟩
   .rw[if_neg c1]
    exact wpS_pure ⟨rfl,S1,d1⟩
  .obtain⟨rfl,S1,d1⟩:=hI
   dsimp only
   refine wpS_bind (wpS_modify (wpS_bind (wpS_modify (wpS_pure ⟨rfl,?_⟩))))
   exact(S1.mod (f:=λx=>(x.1,x.2.1,power' N (2*a+m) (2*a+m+m+n) N)) (λ_=>rfl) ((pendingOf t).size - 1)).push hn (by show(((arrOf t).toList.drop hi).take n).Pairwise (LE κ);rw[d1];exact so)
theorem zgd {xs ys:KA}{lo:Nat}(h:∀ i,i < lo->ys[i]?=xs[i]?):ys.toList.take lo=xs.toList.take lo:=by
 refine List.ext_getElem? λi=>?_
 by_cases c:i < lo
 .rw[List.getElem?_take_of_lt c,List.getElem?_take_of_lt c,Array.getElem?_toList,Array.getElem?_toList]
  exact h i c
 .rw[List.getElem?_eq_none (by rw[List.length_take];omega),List.getElem?_eq_none (by rw[List.length_take];omega)]
theorem ST.sl (S:ST κ k a₀ hi st):SL k a₀ (arrOf st) hi (pendingOf st) st:=⟨S.pm,S.kd,S.fl,rfl,λ_ _=>rfl⟩
theorem ST.from (S:ST κ k a₀ hi st){t:SortSt}(T:SL k a₀ (arrOf st) hi (pendingOf st) t):ST κ k a₀ hi t:=⟨T.pm,T.kd,T.fl,by rw[T.pd];exact S.sg.low (zgd T.bl)⟩
theorem zfK {M:Nat}{c:U2}(L:LtE prog w A E s κ k (·∈a₀.toList))(S:ST κ k a₀ c.2 st)(hc:c.1=none)(hle:c.2<=a₀.size) :
 wpS (model prog w) A E s (zle a₀.size M c) (λr t=>(c.2=a₀.size/\r=.done (none,c.2)/\t=st)\/∃ n,0 < n/\c.2+n<=a₀.size/\r=.yield (none,c.2+n)/\ST κ k a₀ (c.2+n) t) st:=by
 unfold zle
 by_cases c1:c.2 >= a₀.size
 .rw[if_pos c1]
  exact wpS_pure (.inl ⟨by omega,rfl,rfl⟩)
 .rw[if_neg c1]
  refine wpS_bind (zcl (m:=a₀.size - c.2) L (by omega) (by omega) S.sl λf t T f1 f2 so=>?_)
  dsimp only
  have S1:=S.from T
  by_cases c2:f < M
  .rw[if_pos c2]
   refine wpS_bind (wpS_lift (wpAny_rule ⟨rfl,?_⟩))
   have hm:f<=min (a₀.size - c.2) M:=Nat.le_min.mpr ⟨f2,by omega⟩
   have hm2:min (a₀.size - c.2) M<=a₀.size - c.2:=Nat.min_le_left _ _
   refine wpS_bind (zfE (n:=min (a₀.size - c.2) M) L (by omega) hm f1 S1.sl so λt2 T2 so2=>?_)
   exact wpS_mono (Wn L (S1.from T2) (by omega) (by omega) (ze7 so2)) λr t3 h=>.inr ⟨_,by omega,by omega,h.1,h.2⟩
  .rw[if_neg c2]
   exact wpS_mono (Wn L S1 (by omega) (by omega) (ze7 so)) λr t3 h=>.inr ⟨f,by omega,by omega,h.1,h.2⟩
theorem zhU {p:Pd}(h:1 < p.size):zl1 p+1 < p.size:=by
 have key:∀ b:Bool,(if b=true then p.size - 2 - 1 else p.size - 2)+1 < p.size:=λb=>by
  cases b with
  | true=>rw[if_pos rfl];omega
  | false=>rw[if_neg Bool.false_ne_true];omega
 exact key _
theorem own_runsE {Q:Unit->SortSt->Prop}(L:LtE prog w A E s κ k (·∈a₀.toList))(pm:(arrOf st).Perm a₀)(kd:kindOf st=k)(fl:failedOf st=none)(pd:pendingOf st=#[])
 (h:∀ t,(arrOf t).Perm a₀->failedOf t=none->SortedToK κ (arrOf t) a₀.size->Q () t):wpS (model prog w) A E s sortRuns' Q st:=by
 rw[ziG]
 refine wpS_bind (wpS_get ?_)
 have hz:(arrOf st).size=a₀.size:=pm.size_eq
 rw[hz]
 have S0:ST κ k a₀ 0 st:=⟨pm,kd,fl,by rw[pd];exact rfl⟩
 refine wpS_bind (wpS_mono (wpS_forRange (I:=λx c t=>c.1=none/\ST κ k a₀ c.2 t/\c.2<=a₀.size/\(x<=c.2\/c.2=a₀.size)) (Q:=λc t=>c.1=none/\ST κ k a₀ a₀.size t)
  (λx c t _ hx hI=>?_) (λc t hI=>?_) ⟨rfl,S0,Nat.zero_le _,.inl (Nat.le_refl _)⟩) λc t hI=>?_)
 .obtain⟨h1,h2,h3,h4⟩:=hI
  refine wpS_mono (zfK L h2 h1 h3) λr t2 hr=>?_
  rcases hr with ⟨e,rfl,rfl⟩ | ⟨n,n0,n1,rfl,S2⟩
  .exact⟨rfl,by rw[e]at h2;exact h2⟩
  .exact⟨rfl,S2,n1,by rcases h4 with h4 | h4 <;> (show x+1<=c.2+n\/c.2+n=a₀.size;omega)⟩
 .obtain⟨h1,h2,h3,h4⟩:=hI
  refine⟨h1,?_⟩
  have e:c.2=a₀.size:=by
   rcases h4 with h4 | h4
   .have:max 0 a₀.size=a₀.size:=by omega
    omega
   .exact h4
  rw[e]at h2
  exact h2
 .obtain⟨h1,S1⟩:=hI
  rw[h1]
  dsimp only
  have len:=S1.sg.le
  rw[List.length_map,Array.length_toList]at len
  refine wpS_bind (wpS_mono (wpS_forRange (I:=λx d t=>d=(none,())/\ST κ k a₀ a₀.size t/\(pendingOf t).size+x<=a₀.size) (Q:=λd t=>d=(none,())/\ST κ k a₀ a₀.size t/\(pendingOf t).size<=1)
   (λx d t _ hx hI=>?_) (λd t hI=>?_) ⟨rfl,S1,by omega⟩) λd t hI=>?_)
  .obtain⟨rfl,S2,h2⟩:=hI
   unfold zls
   refine wpS_bind (wpS_get ?_)
   by_cases c1:(pendingOf t).size<=1
   .rw[if_pos c1]
    exact wpS_pure ⟨rfl,S2,c1⟩
   .rw[if_neg c1]
    refine wpS_bind (VB L S2 (zhU (by omega)) (Nat.le_refl _) λt2 S3 e3 _=>?_)
    exact wpS_pure ⟨rfl,S3,by omega⟩
  .obtain⟨rfl,S2,h2⟩:=hI
   refine⟨rfl,S2,?_⟩
   have:max 0 a₀.size=a₀.size:=by omega
   omega
  .obtain⟨rfl,S2,h2⟩:=hI
   refine wpS_pure (h t S2.pm S2.fl ?_)
   have sz:(arrOf t).toList.length=a₀.size:=by rw[Array.length_toList,S2.sz]
   have so:(arrOf t).toList.Pairwise (LE κ):=by
    have sg:=S2.sg
    have hl:((pendingOf t).toList.map g2).length<=1:=by rw[List.length_map,Array.length_toList];exact h2
    match e:(pendingOf t).toList.map g2 with
    | [] =>
     rw[e]at sg
     have z:0=a₀.size:=sg
     have:(arrOf t).toList=[]:=List.length_eq_zero_iff.mp (by omega)
     rw[this]
     exact List.Pairwise.nil
    | [r] =>
     rw[e]at sg
     obtain⟨_,_,s3,s4⟩:=sg
     have z:0+r.2=a₀.size:=s4
     rw[List.drop_zero,List.take_of_length_le (by omega)]at s3
     exact s3
    | r::r2::q=>rw[e]at hl;simp at hl
   intro i j hij hj
   obtain⟨y,hy⟩:∃ y,(arrOf t).toList[j]?=some y:=⟨_,List.getElem?_eq_getElem (by omega)⟩
   obtain⟨x,hx⟩:∃ x,(arrOf t).toList[i]?=some x:=⟨_,List.getElem?_eq_getElem (by omega)⟩
   rw[zdJ (by rw[<-Array.getElem?_toList];exact hx),zdJ (by rw[<-Array.getElem?_toList];exact hy)]
   exact W9 so hij hx hy
end
end OwnTim
namespace OwnSortT
open PySem PyProof.Rows OwnSort
theorem lex_irr:∀ a:List Int,HT.lexLt a a=false:=by
 intro a
 induction a with
 | nil=>rfl
 | cons x xs ih=>rw[HT.lexLt_cons,if_pos rfl,ih]
theorem lex_trans:∀ a b c:List Int,HT.lexLt a b=true->HT.lexLt b c=true->HT.lexLt a c=true:=by
 intro a
 induction a with
 | nil =>
  intro b c h1 h2
  cases c with
  | nil=>cases b <;> cases h2
  | cons _ _=>rfl
 | cons x xs ih =>
  intro b c h1 h2
  cases b with
  | nil=>cases h1
  | cons y ys=>cases c with
   | nil=>cases h2
   | cons z zs =>
    rw[HT.lexLt_cons]at h1 h2 ⊢
    by_cases e1:x=y
    .rw[if_pos e1]at h1
     by_cases e2:y=z
     .rw[if_pos e2]at h2;rw[if_pos (e1.trans e2)];exact ih _ _ h1 h2
     .rw[if_neg e2,decide_eq_true_eq]at h2;rw[if_neg (by omega),decide_eq_true_eq];omega
    .rw[if_neg e1,decide_eq_true_eq]at h1
     by_cases e2:y=z
     .rw[if_neg (by omega),decide_eq_true_eq];omega
     .rw[if_neg e2,decide_eq_true_eq]at h2;rw[if_neg (by omega),decide_eq_true_eq];omega
theorem lex_total:∀ a b:List Int,HT.lexLt a b=false->HT.lexLt b a=false->a=b:=by
 intro a
 induction a with
 | nil =>
  intro b h1 h2
  cases b with
  | nil=>rfl
  | cons _ _=>cases h1
 | cons x xs ih =>
  intro b h1 h2
  cases b with
  | nil=>cases h2
  | cons y ys =>
   rw[HT.lexLt_cons]at h1 h2
   by_cases e:x=y
   .rw[if_pos e]at h1;rw[if_pos e.symm]at h2;rw[e,ih _ h1 h2]
   .rw[if_neg e,decide_eq_false_iff_not]at h1;rw[if_neg (Ne.symm e),decide_eq_false_iff_not]at h2;omega
theorem lex_neg (a b c:List Int)(h:HT.lexLt a c=true):HT.lexLt a b=true\/HT.lexLt b c=true:=by
 cases h1:HT.lexLt a b with
 | true=>exact .inl rfl
 | false =>
  refine .inr ?_
  cases h2:HT.lexLt b a with
  | true=>exact lex_trans _ _ _ h2 h
  | false=>rw[<-lex_total _ _ h1 h2];exact h
noncomputable def TT (h:Heap) (v:Value) (t:List Int):Prop:=∃ a o n its,v=.ref a/\h.get? a=some o/\o.cls=.type "tuple"/\o.data=.seq its.toArray n/\IntsAre its t/\t≠[]
theorem ze3:∀ {vs:List Value} {ns ms:List Int},IntsAre vs ns->IntsAre vs ms->ns=ms:=by
 intro vs ns ms h
 induction h generalizing ms with
 | nil=>intro h2;cases h2;rfl
 | cons n t h ih=>intro h2;cases h2 with | cons n' t' h'=>rw[ih h']
theorem TT.uniq {h:Heap}{v:Value}{s t:List Int}(x:TT h v s)(y:TT h v t):s=t:=by
 obtain⟨a,o,n,its,rfl,e1,_,d1,i1,_⟩:=x
 obtain⟨b,p,m,its',e,e2,_,d2,i2,_⟩:=y
 cases e
 rw[e1]at e2
 cases e2
 rw[d1]at d2
 have e3:its.toArray=its'.toArray:=by injection d2
 cases List.toArray_inj e3
 exact ze3 i1 i2
theorem TT.keep {h h':Heap}{v:Value}{t:List Int}(x:TT h v t)(k:∀ b o,h.get? b=some o->h'.get? b=some o):TT h' v t:=by
 obtain⟨a,o,n,its,e,e1,r⟩:=x
 exact⟨a,o,n,its,e,k _ _ e1,r⟩
theorem TT.keepT {h h':Heap} {v:Value} {t:List Int} (x:TT h v t) (k:∀ b o,o.cls=.type "tuple"->h.get? b=some o->h'.get? b=some o):TT h' v t:=by
 obtain⟨a,o,n,its,e,e1,c,r⟩:=x
 exact⟨a,o,n,its,e,k _ _ c e1,c,r⟩
open Classical in
noncomputable def keyTT (h:Heap)(v:Value):Option (List Int):=if x:∃ t,TT h v t then some x.choose else none
theorem keyTT_of {h:Heap}{v:Value}{t:List Int}(x:TT h v t):keyTT h v=some t:=by
 unfold keyTT
 have y:∃ t,TT h v t:=⟨t,x⟩
 rw[dif_pos y,y.choose_spec.uniq x]
@[reducible] noncomputable def zbU (h:Heap):KeyKind where
 α:=List Int
 blt:=HT.lexLt
 irrefl:=lex_irr
 trans:=lex_trans
 negTrans:=lex_neg
 total:=lex_total
 keyOf:=keyTT h
 dflt:=[]
section
variable {prog:Program}{w:World}{A:Around}{E:Value->Shared->Prop}{s:Shared}
noncomputable def zjm (d:Bool):List Int->List Int->Bool
 | x::xs,y::ys=>if x=y then zjm d xs ys else decide (x < y)
 | _,_=>d
theorem zib:∀ a b:List Int,zjm (decide (a.length < b.length)) a b=HT.lexLt a b:=by
 intro a
 induction a with
 | nil=>intro b;cases b with
  | nil=>rfl
  | cons _ _=>rfl
 | cons x xs ih=>intro b;cases b with
  | nil=>rfl
  | cons y ys =>
   rw[HT.lexLt_cons,<- ih ys]
   show(if x=y then zjm (decide (xs.length+1 < ys.length+1)) xs ys else decide (x < y))=_
   rw[show decide (xs.length+1 < ys.length+1)=decide (xs.length < ys.length) by congr 1;apply propext;omega]
noncomputable def zdj (x:(Value × Value) × Nat)(_:Option Bool × Unit):Sem (ForInStep (Option Bool × Unit)):=do
 let b<-eqBool x.1.1 x.1.2
 if (!b)=true then do
  let c<-oneLt' (true&&x.2 == 0) x.1.1 x.1.2
  pure (ForInStep.done (some c,()))
 else pure (ForInStep.yield (none,()))
theorem zgP {d:Bool}:∀ {xs:List Value} {ns:List Int} {ys:List Value} {ms:List Int} {k:Nat} {Q:Option Bool × Unit->Shared->Prop},IntsAre xs ns->IntsAre ys ms->(∀ r:Option Bool × Unit,r.1.getD d=zjm d ns ms->Q r s) ->
 wpAny (model prog w) A (forIn ((xs.zip ys).zipIdx k) ((none,()):Option Bool × Unit) zdj) Q E s:=by
 intro xs ns ys ms k Q h1
 induction h1 generalizing ys ms k with
 | nil=>intro h2 q;exact wpAny_pure (q (none,()) rfl)
 | cons x t h1 ih =>
  intro h2 q
  cases h2 with
  | nil=>exact wpAny_pure (q (none,()) rfl)
  | cons y u h2 =>
   rw[List.zip_cons_cons,List.zipIdx_cons,List.forIn_cons]
   refine wpAny_bind (wpAny_bind (SeqAt.EqAt.int_int x t y u prog w E _ ?_))
   by_cases c:x=y
   .rw[show(x == y)=true by rw[c];exact beq_self_eq_true _]
    refine wpAny_pure (ih h2 λr hr=>q r (hr.trans ?_))
    show _=(if x=y then zjm d _ _ else decide (x < y))
    rw[if_pos c]
   .rw[show(x == y)=false by simpa using c]
    have q0:Q (some (decide (x < y)),()) s:=q _ (by
     show decide (x < y)=(if x=y then zjm d _ _ else decide (x < y))
     rw[if_neg c])
    cases k with
    | zero=>exact wpAny_bind (oneLt_int (wpAny_pure (wpAny_pure q0)))
    | succ k=>exact wpAny_bind (lt0 (wpAny_pure (wpAny_pure q0)))
theorem zix {x y:Value}{a b:List Int}{Q:Bool->Shared->Prop}(hx:TT s.heap x a)(hy:TT s.heap y b)(h:Q (HT.lexLt a b) s):wpAny (model prog w) A (keyLt' (tuples' true) x y) Q E s:=by
 obtain⟨p,o,n,xs,rfl,e1,_,d1,i1,_⟩:=hx
 obtain⟨q,o2,n2,ys,rfl,e2,_,d2,i2,_⟩:=hy
 rw[zfb]
 refine wpAny_bind (listItems_at e1 d1 (wpAny_bind (listItems_at e2 d2 ?_)))
 show wpAny _ _ (forIn ((xs.zip ys).zipIdx 0) ((none,()):Option Bool × Unit) zdj>>=_) _ _ _
 refine wpAny_bind (zgP (d:=decide (xs.length < ys.length)) i1 i2 λr hr=>?_)
 have e:Q (r.1.getD (decide (xs.length < ys.length))) s:=by
  rw[hr,i1.length,i2.length,zib];exact h
 obtain⟨r1,u⟩:=r
 cases r1 with
 | none=>exact wpAny_pure e
 | some v=>exact wpAny_pure e
theorem zfO {vs:List Value}(hT:∀ v∈vs,∃ t,TT s.heap v t):OwnTim.LtE prog w A E s (zbU s.heap) (tuples' true) (·∈(pairsOf vs).toList):=by
 intro st x y Q hk hx hy h
 have look:∀ {x:Keyed},x∈(pairsOf vs).toList->∃ t,TT s.heap x.1 t/\OwnTim.ky (zbU s.heap) x=t:=λ{x} hm=>by
  rw[pairsOf_toList]at hm
  obtain⟨t,ht⟩:=hT _ (mem_zip_self hm).2
  refine⟨t,ht,?_⟩
  unfold OwnTim.ky
  show(keyTT s.heap x.1).getD _=t
  rw[keyTT_of ht]
  rfl
 obtain⟨a,ta,ka⟩:=look hx
 obtain⟨b,tb,kb⟩:=look hy
 rw[ka,kb]at h
 rw[lt'_eq]
 refine wpS_bind (wpS_get ?_)
 rw[hk]
 exact wpS_bind (wpS_lift (wpAny_attempt (zix ta tb ⟨rfl,wpS_pure h⟩)))
theorem Wg:∀ {vs:List Value} {Q:List (Option Value)->Shared->Prop},(∀ v∈vs,∃ t,TT s.heap v t)->(∀ fs:List Value,fs.length=vs.length->(∀ f∈fs,∃ i t,f=.int i t)->Q (fs.map some) s)->wpAny (model prog w) A (vs.mapM firstOfTuple') Q E s
 | [],Q,_,h=>by rw[List.mapM_nil];exact wpAny_pure (h [] rfl (by simp))
 | v::vs,Q,hT,h=>by
  obtain⟨t,a,o,n,its,rfl,e1,c1,d1,hi,hne⟩:=hT v List.mem_cons_self
  obtain⟨z,zs,i0,tk,rfl,rfl⟩:∃ z zs i0 tk,its=z::zs/\z=.int i0 tk:=by
   cases hi with
   | nil=>exact absurd rfl hne
   | cons i0 tk hi=>exact⟨_,_,_,_,rfl,rfl⟩
  rw[List.mapM_cons,zeD]
  refine wpAny_bind (wpAny_bind (wpAny_typeOf (T:="tuple") ⟨o,e1,c1⟩ ?_))
  rw[if_neg (by simp)]
  refine wpAny_bind (listItems_at e1 d1 (wpAny_pure (wpAny_bind (Wg (λu hu=>hT u (List.mem_cons_of_mem _ hu)) λfs hl hf=>wpAny_pure ?_))))
  exact h (.int i0 tk::fs) (by simp[hl]) λf hf'=>by
   rcases List.mem_cons.mp hf' with rfl | hf'
   .exact⟨_,_,rfl⟩
   .exact hf f hf'
theorem zdl {v₁:Value}{vs:List Value}{Q:SortKind->Shared->Prop}(hT:∀ v∈v₁::vs,∃ t,TT s.heap v t)(h:Q (tuples' true) s):wpAny (model prog w) A (keyKind' (v₁::vs).toArray) Q E s:=by
 rw[keyKind'_eq,List.mapM_toArray,<- bind_pure_comp,bind_assoc]
 refine wpAny_bind (Wg hT λfs hl hf=>wpAny_bind (wpAny_pure ?_))
 cases fs with
 | nil=>simp at hl
 | cons f fs =>
  rw[if_pos (by simp)]
  have ef:((f::fs).map some).toArray.filterMap id=(f::fs).toArray:=by simp
  refine wpAny_bind (wpAny_rule ?_)
  rw[ef,oneTypeOnly'_eq,List.mapM_toArray,zbO hf]
  simp only[map_pure,pure_bind]
  rw[show(List.map (λ_=>Value.type "int") (f::fs)).toArray[0]?=some (Value.type "int") by simp]
  have al:((List.map (λ_=>Value.type "int") (f::fs)).toArray.all λx=>x == Value.type "int")=true:=by
   simp only[List.all_toArray,List.all_map,List.all_eq_true]
   intro _ _
   rfl
  simp only[al,if_true,pure_bind,Option.any_some]
  rw[show(Value.type "int" != Value.type "tuple")=true by decide +kernel]
  exact wpAny_pure h
end
noncomputable def Rise (h:Heap)(out:List Value):Prop:=∃ ts:List (List Int),out.length=ts.length/\(∀ (i:Nat) (v:Value) (t:(List Int)),out[i]?=some v->ts[i]?=some t->TT h v t)/\ts.Pairwise λa b=>HT.lexLt b a=false
theorem zdo {h h':Heap}{vs:List Value}{xs:Array Keyed}(hT:∀ v∈vs,∃ t,TT h v t)(hk:∀ v t,TT h v t->TT h' v t)(pm:xs.Perm (pairsOf vs))(hs:SortedToK (zbU h') xs (pairsOf vs).size):(xs.map (·.2)).toList.Perm vs/\Rise h (xs.map (·.2)).toList:=by
 have hl:xs.toList.Perm (vs.zip vs):=by rw[<-pairsOf_toList];exact Array.perm_iff_toList_perm.mp pm
 have hm:∀ p∈xs.toList,p.1=p.2/\p.1∈vs:=λp hp=>mem_zip_self (hl.mem_iff.mp hp)
 have e2:(xs.map (·.2)).toList=xs.toList.map (·.2):=by simp
 rw[e2]
 refine⟨?_,xs.toList.map λp=>(keyTT h' p.1).getD ([]:List Int),by simp,λi v t hv ht=>?_,?_⟩
 .have:=hl.map (·.2)
  rwa[show(vs.zip vs).map (·.2)=vs from List.map_snd_zip (Nat.le_refl _)]at this
 .rw[List.getElem?_map]at hv ht
  cases hx:xs.toList[i]? with
  | none=>rw[hx]at hv;cases hv
  | some p =>
   rw[hx]at hv ht
   cases hv
   cases ht
   obtain⟨q1,q2⟩:=hm p (List.mem_of_getElem? hx)
   obtain⟨t,ht⟩:=hT _ q2
   show TT h p.2 ((keyTT h' p.1).getD ([]:List Int))
   rw[keyTT_of (hk _ _ ht),<- q1]
   exact ht
 .rw[List.pairwise_iff_getElem]
  intro i j hi hj hij
  have hi':i < xs.size:=by simpa using hi
  have hj':j < xs.size:=by simpa using hj
  have:=hs i j (Nat.le_of_lt hij) (by rw[<-pm.size_eq];exact hj')
  unfold KK at this
  rw[getElem?_pos xs i hi',getElem?_pos xs j hj']at this
  have this:HT.lexLt ((keyTT h' xs[j].1).getD ([]:List Int)) ((keyTT h' xs[i].1).getD ([]:List Int))=false:=this
  simpa using this
section
variable {prog:Program}{w:World}{A:Around}{E:Value->Shared->Prop}{s:Shared}
theorem ownT_list_sort {a:Addr} {vs:List Value} {n:Nat} {P:Fin->Shared->Prop} (ho:s.heap.get? a=some (seqObj "list" vs.toArray n)) (hT:∀ v∈vs,∃ t,TT s.heap v t) (h64:vs.length < 10000000)
 (h:∀ out:Array Value,out.toList.Perm vs->Rise s.heap out.toList->P (.done (.ret .none)) { s with heap:=sortedHeap s.heap a vs out }):wpAny (model prog w) A (Builtin.«list.sort» ⟨[.ref a],[]⟩) P E s:=by
 have la:a < s.heap.objs.size:=Heap.lt_size ho
 have zl:vs.toArray.size=vs.length:=List.size_toArray
 obtain⟨e1,o1⟩:∃ e1,(s.heap.update a (Obj.mapSeq λ_=>#[])).get? a=some (seqObj "list" #[] e1):=⟨_,get?_update_seq ho (λ_=>#[])⟩
 have o6:(((s.heap.update a (Obj.mapSeq λ_=>#[])).push (seqObj "tuple" vs.toArray 0)).push (seqObj "list" #[] 0)).get? a=some (seqObj "list" #[] e1):=Heap.get?_push_of_some _ (Heap.get?_push_of_some _ o1)
 have up:∀ b o,o.cls=.type "tuple"->s.heap.get? b=some o->(((s.heap.update a (Obj.mapSeq λ_=>#[])).push (seqObj "tuple" vs.toArray 0)).push (seqObj "list" #[] 0)).get? b=some o:=λb o c e=>by
  refine Heap.get?_push_of_some _ (Heap.get?_push_of_some _ ((Heap.get?_update_other _ _ λz=>?_).trans e))
  subst z
  rw[ho]at e
  cases e
  exact absurd (show Value.type "list"=Value.type "tuple" from c) (by decide +kernel)
 have hT6:∀ v∈vs,∃ t,TT (((s.heap.update a (Obj.mapSeq λ_=>#[])).push (seqObj "tuple" vs.toArray 0)).push (seqObj "list" #[] 0)) v t:=λv hv=>let ⟨t,ht⟩:=hT v hv;⟨t,ht.keepT up⟩
 rw[list_sort_plain]
 refine wpAny_bind (listItems_at ho rfl (wpAny_bind (listUpdate_at ho rfl (wpAny_bind (seqEpoch_at o1 rfl (wpAny_bind (wpAny_newTuple (wpAny_bind (wpAny_newList (wpAny_holding ?_))))))))))
 show wpAny (model prog w) A _ P E { s with heap:=((s.heap.update a (Obj.mapSeq λ_=>#[])).push (seqObj "tuple" vs.toArray 0)).push (seqObj "list" #[] 0) }
 by_cases c2:vs.toArray.size < 2
 .rw[if_pos c2,if_pos c2]
  refine wpAny_bind (wpAny_pure ?_)
  dsimp only
  rw[StateT.run_pure]
  refine wpAny_bind (wpAny_pure ?_)
  obtain⟨r1,r2⟩:=zdo (xs:=pairsOf vs) hT (λv t ht=>ht) (Array.Perm.refl _) (λi j hij hj=>by
   obtain rfl:i=j:=by rw[pairsOf_size]at hj;omega
   exact KeyOrd.kle_refl _)
  refine wpAny_bind (seqEpoch_at o6 rfl (wpAny_bind (listUpdate_at o6 rfl ?_ (hsz2:=by rw[Array.size_map];show(pairsOf vs).size<=_;rw[pairsOf_size,sizeLine_eq];omega))))
  rw[show(e1 != e1)=false by simp]
  exact wpAny_pure (h _ r1 r2)
 .rw[if_neg c2,if_neg c2]
  cases vs with
  | nil=>simp at c2
  | cons v₁ rest =>
   refine wpAny_bind (zdl hT6 ?_)
   refine wpAny_bind (wpAny_mono (OwnTim.own_runsE (st:=SortSt.mk' (tuples' true) ((v₁::rest).toArray.zip (v₁::rest).toArray) #[] 7 none) (Q:=λ_ t=>(arrOf t).Perm (pairsOf (v₁::rest))/\failedOf t=none/\SortedToK (zbU _) (arrOf t) (pairsOf (v₁::rest)).size)
    (zfO hT6) (Array.Perm.refl _) rfl rfl rfl λt p1 p2 p3=>⟨p1,p2,p3⟩) ?_ λ_ _ e=>e)
   rintro⟨⟨⟩,t⟩ s' ⟨rfl,p1,p2,p3⟩
   obtain⟨r1,r2⟩:=zdo hT (λv t ht=>ht.keepT up) p1 p3
   refine wpAny_bind (seqEpoch_at o6 rfl (wpAny_bind (listUpdate_at o6 rfl ?_ (hsz2:=by rw[Array.size_map];show(arrOf t).size<=_;rw[p1.size_eq,pairsOf_size,sizeLine_eq];omega))))
   rw[p2,show(e1 != e1)=false by simp]
   exact wpAny_pure (h _ r1 r2)
theorem ownT_sorted {l:Addr}{vs:List Value}{Q:Value->Shared->Prop}(hl:s.heap.IsList l vs.toArray)(hT:∀ v∈vs,∃ t,TT s.heap v t)(h64:vs.length < 10000000)
 (h:∀ out:Array Value,out.toList.Perm vs->Rise s.heap out.toList->Q (.ref (s.heap.objs.size+1)) { s with heap:=sortedAll s.heap vs out }):wpAny (model prog w) A (call (.builtin "sorted") [.ref l]) Q E s:=by
 have z1:((s.heap.push (seqObj "list" #[] 0)).update s.heap.objs.size (Obj.mapSeq (·++vs.toArray))).objs.size=s.heap.objs.size+1:=(Heap.size_update ..).trans (size_push' _ _)
 have oL:(((s.heap.push (seqObj "list" #[] 0)).update s.heap.objs.size (Obj.mapSeq (·++vs.toArray))).push (seqObj "list" vs.toArray 0)).get? (s.heap.objs.size+1)=some (seqObj "list" vs.toArray 0):=z1 ▸ Heap.get?_push_size _ rfl
 have up:∀ b o,s.heap.get? b=some o->(((s.heap.push (seqObj "list" #[] 0)).update s.heap.objs.size (Obj.mapSeq (·++vs.toArray))).push (seqObj "list" vs.toArray 0)).get? b=some o:=λb o e =>
  Heap.get?_push_of_some _ ((Heap.get?_update_other _ _ λz=>by subst z;exact absurd (Heap.lt_size e) (Nat.lt_irrefl _)).trans (Heap.get?_push_of_some _ e))
 refine Calls.call_function_entry kind_sorted plain_sorted entry_sorted (args_sorted1 _) ?_
 unfold Builtin.«sorted»
 refine wpAny_bind (m:=checkCount "sorted" 1 1 _) (wpAny_pure (wpAny_bind (collect_list hl (wpAny_bind (wpAny_newList ?_)))))
 show wpAny _ _ _ _ _ (Shared.mk (((s.heap.push (seqObj "list" #[] 0)).update s.heap.objs.size (Obj.mapSeq (·++vs.toArray))).push (seqObj "list" vs.toArray 0)) s.gens s.drawn s.toks s.os)
 rw[z1]
 refine wpAny_bind (wpAny_holding (wpAny_call_entry slot_list_sort ⟨_,oL,rfl⟩ entry_list_sort (ownT_list_sort oL (λv hv=>let ⟨t,ht⟩:=hT v hv;⟨t,ht.keep up⟩) h64 λout p1 p2=>⟨_,rfl,wpAny_pure ⟨_,rfl,h out p1 ?_⟩⟩) (args_list_sort _)))
 obtain⟨ts,q1,q2,q3⟩:=p2
 refine⟨ts,q1,λi v t hv ht=>?_,q3⟩
 obtain⟨t0,ht0⟩:=hT v (p1.mem_iff.mp (List.mem_of_getElem? hv))
 rw[(q2 i v t hv ht).uniq (ht0.keep up)]
 exact ht0
end
end OwnSortT
namespace OwnSort
open PySem PyProof.Rows
noncomputable def Rise (h:Heap)(out:List Value):Prop:=∃ ts:List Pr,out.length=ts.length/\(∀ (i:Nat) (v:Value) (t:Pr),out[i]?=some v->ts[i]?=some t->TP h v t)/\ts.Pairwise λa b=>bltP b a=false
theorem TP.tt {h:Heap}{v:Value}{t:Pr}(x:TP h v t):OwnSortT.TT h v [t.1,t.2]:=by
 obtain⟨a,o,n,tx,ty,e1,e2,e3,e4⟩:=x
 exact⟨a,o,n,[.int t.1 tx,.int t.2 ty],e1,e2,e3,e4,.cons _ _ (.cons _ _ .nil),List.cons_ne_nil _ _⟩
theorem zgg (a b:Pr):HT.lexLt [a.1,a.2] [b.1,b.2]=bltP a b:=by
 rw[HT.lexLt_cons,HT.lexLt_cons]
 unfold bltP
 by_cases c:a.1=b.1
 .rw[if_pos c]
  by_cases c2:a.2=b.2
  .rw[if_pos c2,decide_eq_false (by omega)];rfl
  .rw[if_neg c2,decide_eq_decide];omega
 .rw[if_neg c,decide_eq_decide];omega
theorem zc7 {h:Heap}{vs out:List Value}(hT:∀ v∈vs,∃ t,TP h v t)(pm:out.Perm vs)(r:OwnSortT.Rise h out):Rise h out:=by
 obtain⟨ts,l1,l2,l3⟩:=r
 have key:∀ (i:Nat) (v:Value) (t:List Int),out[i]?=some v->ts[i]?=some t->∃ p:Pr,TP h v p/\t=[p.1,p.2]:=λi v t h1 h2=>by
  obtain⟨p,hp⟩:=hT v (pm.mem_iff.mp (List.mem_of_getElem? h1))
  exact⟨p,hp,OwnSortT.TT.uniq (l2 i v t h1 h2) hp.tt⟩
 have ex:∀ t∈ts,∃ p:Pr,t=[p.1,p.2]:=λt ht=>by
  obtain⟨i,hi,rfl⟩:=List.getElem_of_mem ht
  obtain⟨p,_,e⟩:=key i out[i] ts[i] (List.getElem?_eq_getElem (by omega)) (List.getElem?_eq_getElem hi)
  exact⟨p,e⟩
 refine⟨ts.map λt=>(t.getD 0 0,t.getD 1 0),by rw[List.length_map,l1],λi v t h1 h2=>?_,?_⟩
 .rw[List.getElem?_map]at h2
  obtain⟨u,hu,rfl⟩:=Option.map_eq_some_iff.mp h2
  obtain⟨p,hp,rfl⟩:=key i v u h1 hu
  exact hp
 .rw[List.pairwise_map]
  refine l3.imp_of_mem λ{a b} ha hb hab=>?_
  obtain⟨p,rfl⟩:=ex a ha
  obtain⟨q,rfl⟩:=ex b hb
  rw[zgg]at hab
  exact hab
section
variable {prog:Program}{w:World}{A:Around}{E:Value->Shared->Prop}{s:Shared}
theorem own_sorted {l:Addr}{vs:List Value}{Q:Value->Shared->Prop}(hl:s.heap.IsList l vs.toArray)(hT:∀ v∈vs,∃ t,TP s.heap v t)(h64:vs.length < 64)
 (h:∀ out:Array Value,out.toList.Perm vs->Rise s.heap out.toList->Q (.ref (s.heap.objs.size+1)) { s with heap:=sortedAll s.heap vs out }):wpAny (model prog w) A (call (.builtin "sorted") [.ref l]) Q E s :=
 OwnSortT.ownT_sorted hl (λv hv=>(hT v hv).imp' (λt=>[t.1,t.2]) λ_ ht=>ht.tt) (by omega) λout p r=>h out p (zc7 hT p r)
end
end OwnSort
namespace Dl
open PySem L2
class KK where
 K:PySem.W.Frag
inductive D where
 | non | bl (b:Bool) | int (i:Int) | str (x:Str) | tup (ds:List D) | lst (ds:List D) | scr (ns:List Int)
  | dct (z t:Bool) (ks:List (List Key)) (vs:List D)
 deriving Inhabited
section
variable [KK]
noncomputable def zas (o:HO)(t:Bool)(ks:List (List Key))(xs:List V):Prop :=
 if t=true then ∃ kvs,o=.dT kvs/\kvs.map (·.1)=ks/\kvs.map (·.2)=xs else ∃ kvs:List (Key × V),o=.dK kvs/\kvs.map (λp=>[p.1])=ks/\kvs.map (·.2)=xs
noncomputable def WQ (H:Hp)(a:Addr)(z t:Bool)(ks:List (List Key))(xs:List V):Prop :=
 ∃ u,zas u t ks xs/\if z=true then ∃ ob,H a=some (.frz ob u)else H a=some u
theorem WQ.mono {H H':Hp}{a:Addr}{z t:Bool}{ks:List (List Key)}{xs:List V}(s:yq H H')(h:WQ H a z t ks xs):WQ H' a z t ks xs:=by
 obtain⟨u,h1,h2⟩:=h
 refine⟨u,h1,?_⟩
 cases z with
 | true =>
  rw[if_pos rfl]at h2 ⊢
  obtain⟨ob,h2⟩:=h2
  exact⟨ob,s _ _ h2⟩
 | false =>
  rw[if_neg Bool.false_ne_true]at h2 ⊢
  exact s _ _ h2
theorem WQ.rd {H:Hp}{a:Addr}{z t:Bool}{ks:List (List Key)}{xs:List V}(h:WQ H a z t ks xs):∃ u,zas u t ks xs/\Rd H a u:=by
 obtain⟨u,h1,h2⟩:=h
 refine⟨u,h1,?_⟩
 cases z with
 | true =>
  rw[if_pos rfl]at h2
  obtain⟨ob,h2⟩:=h2
  exact .inr ⟨ob,h2⟩
 | false =>
  rw[if_neg Bool.false_ne_true]at h2
  exact .inl h2
mutual
noncomputable def At (H:Hp):D->V->Prop
 | .non,v=>v=.non
 | .bl b,v=>v=.bl b
 | .int i,v=>v=.int i
 | .str x,v=>v=.str x
 | .tup ds,v=>∃ a xs,v=.ref a/\H a=some (.tup xs)/\AtL H ds xs
 | .lst ds,v=>∃ a xs,v=.ref a/\H a=some (.lst xs)/\AtL H ds xs
 | .scr ns,v=>∃ a,v=.ref a/\SqL KK.K H a (ns.map V.int)
 | .dct z t ks vs,v=>∃ a xs,v=.ref a/\WQ H a z t ks xs/\AtL H vs xs
noncomputable def AtL (H:Hp):List D->List V->Prop
 | [],xs=>xs=[]
 | d::ds,xs=>∃ x r,xs=x::r/\At H d x/\AtL H ds r
end
mutual
theorem At.mono {H H':Hp}(s:yq H H'):∀ {d:D} {v:V},At H d v->At H' d v
 | .non,_,h=>by unfold At at h ⊢;exact h
 | .bl _,_,h=>by unfold At at h ⊢;exact h
 | .int _,_,h=>by unfold At at h ⊢;exact h
 | .str _,_,h=>by unfold At at h ⊢;exact h
 | .tup ds,_,h=>by
  unfold At at h ⊢
  obtain⟨a,xs,e,hx,hl⟩:=h
  exact⟨a,xs,e,s _ _ hx,AtL.mono s hl⟩
 | .lst ds,_,h=>by
  unfold At at h ⊢
  obtain⟨a,xs,e,hx,hl⟩:=h
  exact⟨a,xs,e,s _ _ hx,AtL.mono s hl⟩
 | .scr ns,_,h=>by
  unfold At at h ⊢
  obtain⟨a,e,hx⟩:=h
  exact⟨a,e,s.seq hx⟩
 | .dct z t ks vs,_,h=>by
  unfold At at h ⊢
  obtain⟨a,xs,e,hx,hl⟩:=h
  exact⟨a,xs,e,hx.mono s,AtL.mono s hl⟩
theorem AtL.mono {H H':Hp}(s:yq H H'):∀ {ds:List D} {xs:List V},AtL H ds xs->AtL H' ds xs
 | [],_,h=>by unfold AtL at h ⊢;exact h
 | d::ds,_,h=>by
  unfold AtL at h ⊢
  obtain⟨x,r,e,h1,h2⟩:=h
  exact⟨x,r,e,At.mono s h1,AtL.mono s h2⟩
end
mutual
noncomputable def noL:D->Bool
 | .tup ds=>zlj ds
 | .lst _=>false
 | .scr _=>false
 | .dct _ _ _ _=>false
 | _=>true
noncomputable def zlj:List D->Bool
 | []=>true
 | d::ds=>noL d&&zlj ds
end
mutual
theorem At.flat {G F:Hp}(h:∀ q xs,G q=some (.tup xs)->F q=some (.tup xs)):∀ {d:D} {v:V},noL d=true->At G d v->At F d v
 | .non,_,_,a=>by unfold At at a ⊢;exact a
 | .bl _,_,_,a=>by unfold At at a ⊢;exact a
 | .int _,_,_,a=>by unfold At at a ⊢;exact a
 | .str _,_,_,a=>by unfold At at a ⊢;exact a
 | .tup ds,_,n,a=>by
  unfold At at a ⊢
  unfold noL at n
  obtain⟨p,xs,e,hx,hl⟩:=a
  exact⟨p,xs,e,h _ _ hx,AtL.flat h n hl⟩
 | .lst ds,_,n,_=>by unfold noL at n;cases n
 | .scr ds,_,n,_=>by unfold noL at n;cases n
 | .dct _ _ _ _,_,n,_=>by unfold noL at n;cases n
theorem AtL.flat {G F:Hp}(h:∀ q xs,G q=some (.tup xs)->F q=some (.tup xs)):∀ {ds:List D} {xs:List V},zlj ds=true->AtL G ds xs->AtL F ds xs
 | [],_,_,a=>by unfold AtL at a ⊢;exact a
 | d::ds,_,n,a=>by
  unfold AtL at a ⊢
  unfold zlj at n
  rw[Bool.and_eq_true]at n
  obtain⟨x,r,e,h1,h2⟩:=a
  exact⟨x,r,e,At.flat h n.1 h1,AtL.flat h n.2 h2⟩
end
section
variable {H H':Hp}{d:D}{ds es:List D}{v x:V}{xs ys:List V}
theorem At.int {i:Int}:At H (.int i) (.int i):=by unfold At;rfl
theorem At.bl {b:Bool}:At H (.bl b) (.bl b):=by unfold At;rfl
theorem At.non:At H .non .non:=by unfold At;rfl
theorem At.str {y:Str}:At H (.str y) (.str y):=by unfold At;rfl
theorem At.tup {a:Addr}(h:H a=some (.tup xs))(hl:AtL H ds xs):At H (.tup ds) (.ref a):=by unfold At;exact⟨a,xs,rfl,h,hl⟩
theorem At.lst {a:Addr}(h:H a=some (.lst xs))(hl:AtL H ds xs):At H (.lst ds) (.ref a):=by unfold At;exact⟨a,xs,rfl,h,hl⟩
theorem AtL.nil:AtL H [] []:=by unfold AtL;rfl
theorem AtL.cons (h:At H d x)(hl:AtL H ds xs):AtL H (d::ds) (x::xs):=by unfold AtL;exact⟨x,xs,rfl,h,hl⟩
theorem At.int_inv {i:Int}(h:At H (.int i) v):v=.int i:=by unfold At at h;exact h
theorem At.bl_inv {b:Bool}(h:At H (.bl b) v):v=.bl b:=by unfold At at h;exact h
theorem At.non_inv (h:At H .non v):v=.non:=by unfold At at h;exact h
theorem At.str_inv {y:Str}(h:At H (.str y) v):v=.str y:=by unfold At at h;exact h
theorem At.tup_inv (h:At H (.tup ds) v):∃ a xs,v=.ref a/\H a=some (.tup xs)/\AtL H ds xs:=by unfold At at h;exact h
theorem At.lst_inv (h:At H (.lst ds) v):∃ a xs,v=.ref a/\H a=some (.lst xs)/\AtL H ds xs:=by unfold At at h;exact h
theorem At.scr_inv {ns:List Int}(h:At H (.scr ns) v):∃ a,v=.ref a/\SqL KK.K H a (ns.map V.int):=by unfold At at h;exact h
theorem At.dct_inv {z t:Bool}{ks:List (List Key)}{vs:List D}(h:At H (.dct z t ks vs) v):∃ a xs,v=.ref a/\WQ H a z t ks xs/\AtL H vs xs:=by unfold At at h;exact h
theorem AtL.nil_inv (h:AtL H [] xs):xs=[]:=by unfold AtL at h;exact h
theorem AtL.cons_inv (h:AtL H (d::ds) xs):∃ x r,xs=x::r/\At H d x/\AtL H ds r:=by unfold AtL at h;exact h
theorem AtL.length:∀ {ds:List D} {xs:List V},AtL H ds xs->xs.length=ds.length
 | [],_,h=>by rw[h.nil_inv];rfl
 | _::_,_,h=>by
  obtain⟨x,r,rfl,_,h2⟩:=h.cons_inv
  rw[List.length_cons,List.length_cons,AtL.length h2]
theorem AtL.get:∀ {ds:List D} {xs:List V} {i:Nat} {d:D},AtL H ds xs->ds[i]?=some d->∃ x,xs[i]?=some x/\At H d x
 | [],_,_,_,_,e=>by simp at e
 | _::_,_,i,_,h,e=>by
  obtain⟨x,r,rfl,h1,h2⟩:=h.cons_inv
  cases i with
  | zero =>
   simp at e
   subst e
   exact⟨x,rfl,h1⟩
  | succ i =>
   obtain⟨y,hy,ha⟩:=AtL.get (i:=i) h2 (by simpa using e)
   exact⟨y,by simpa using hy,ha⟩
theorem AtL.append:∀ {ds es:List D} {xs ys:List V},AtL H ds xs->AtL H es ys->AtL H (ds++es) (xs++ys)
 | [],_,_,_,h,k=>by rw[h.nil_inv];exact k
 | _::_,_,_,_,h,k=>by
  obtain⟨x,r,rfl,h1,h2⟩:=h.cons_inv
  exact .cons h1 (AtL.append h2 k)
theorem AtL.snoc (h:AtL H ds xs)(k:At H d v):AtL H (ds++[d]) (xs++[v]):=h.append (.cons k .nil)
theorem AtL.take:∀ (n:Nat) {ds:List D} {xs:List V},AtL H ds xs->AtL H (ds.take n) (xs.take n)
 | 0,_,_,_=>by simpa using AtL.nil
 | n+1,[],_,h=>by rw[h.nil_inv];simpa using AtL.nil
 | n+1,_::_,_,h=>by
  obtain⟨x,r,rfl,h1,h2⟩:=h.cons_inv
  rw[List.take_succ_cons,List.take_succ_cons]
  exact .cons h1 (AtL.take n h2)
theorem AtL.drop:∀ (n:Nat) {ds:List D} {xs:List V},AtL H ds xs->AtL H (ds.drop n) (xs.drop n)
 | 0,_,_,h=>h
 | n+1,[],_,h=>by rw[h.nil_inv];simpa using AtL.nil
 | n+1,_::_,_,h=>by
  obtain⟨x,r,rfl,h1,h2⟩:=h.cons_inv
  rw[List.drop_succ_cons,List.drop_succ_cons]
  exact AtL.drop n h2
theorem AtL.set:∀ (n:Nat) {ds:List D} {xs:List V},AtL H ds xs->At H d v->AtL H (ds.set n d) (xs.set n v)
 | _,[],_,h,_=>by rw[h.nil_inv];simpa using AtL.nil
 | 0,_::_,_,h,k=>by
  obtain⟨x,r,rfl,h1,h2⟩:=h.cons_inv
  exact .cons k h2
 | n+1,_::_,_,h,k=>by
  obtain⟨x,r,rfl,h1,h2⟩:=h.cons_inv
  exact .cons h1 (AtL.set n h2 k)
theorem AtL.rep (h:AtL H ds xs):∀ k:Nat,AtL H (List.replicate k ds).flatten (List.replicate k xs).flatten
 | 0=>.nil
 | k+1=>by
  rw[List.replicate_succ,List.replicate_succ,List.flatten_cons,List.flatten_cons]
  exact h.append (AtL.rep h k)
theorem AtL.ints (ns:List Int):AtL H (ns.map D.int) (ns.map V.int):=by
 induction ns with
 | nil=>exact .nil
 | cons n r ih=>exact .cons .int ih
theorem AtL.of_ints:∀ {ns:List Int} {xs:List V},AtL H (ns.map D.int) xs->xs=ns.map V.int
 | [],_,h=>h.nil_inv
 | n::r,_,h=>by
  obtain⟨x,r',rfl,h1,h2⟩:=AtL.cons_inv (by simpa using h)
  rw[h1.int_inv,AtL.of_ints h2]
  rfl
end
noncomputable def tyN:D->String
 | .non=>"NoneType" | .bl _=>"bool" | .int _=>"int" | .str _=>"str" | .tup _=>"tuple" | .lst _=>"list" | .scr _=>"list" | .dct _ _ _ _=>"dict"
noncomputable def Hid (F':Hp)(p:Addr)(o:HO):Prop:=F' p=none\/((∃ xs,o=.tup xs)/\F' p=some o)
noncomputable def Keep (F H F' H':Hp):Prop:=∀ p o,F p=none->H p=some o->Hid F' p o/\H' p=some o
set_option genInjectivity false in
set_option genSizeOf false in
set_option genCtorIdx false in
structure Gr (F H F' H':Hp):Prop where
 ff:yq F F'
 fh:yq F' H'
 kp:Keep F H F' H'
theorem Gr.refl {F H:Hp}(s:yq F H):Gr F H F H:=⟨yq.refl _,s,λ_ _ a b=>⟨.inl a,b⟩⟩
theorem Gr.trans {F H F1 H1 F2 H2:Hp}(a:Gr F H F1 H1)(b:Gr F1 H1 F2 H2):Gr F H F2 H2 :=
 ⟨a.ff.trans b.ff,b.fh,λp o e1 e2=>by
  obtain⟨x,y⟩:=a.kp p o e1 e2
  rcases x with x | ⟨x1,x2⟩
  .exact b.kp p o x y
  .exact⟨.inr ⟨x1,b.ff _ _ x2⟩,b.fh _ _ (b.ff _ _ x2)⟩⟩
theorem Gr.kl {F H F' H':Hp}{p:Addr}{o:HO}(g:Gr F H F' H')(n:∀ xs,o≠.tup xs)(e1:F p=none)(e2:H p=some o):F' p=none/\H' p=some o:=by
 obtain⟨x,y⟩:=g.kp p o e1 e2
 rcases x with x | ⟨⟨xs,x1⟩,_⟩
 .exact⟨x,y⟩
 .exact absurd x1 (n xs)
theorem Gr.alloc {F H:Hp}{p:Addr}(s:yq F H)(h:H p=none)(o:HO):Gr F H (upd F p o) (upd H p o):=by
 have hF:F p=none:=s.free h
 refine⟨λb u q=>?_,λb u q=>?_,λb u q r=>?_⟩
 .rw[zp (zm q hF)];exact q
 .by_cases e:b=p
  .subst e;rw[zo]at q ⊢;exact q
  .rw[zp e]at q ⊢;exact s b u q
 .have e:b≠p:=zm r h
  rw[zp e];exact⟨.inl (by rw[zp e];exact q),r⟩
theorem Gr.hide {F H:Hp}{p:Addr}(s:yq F H)(h:H p=none)(o:HO):Gr F H F (upd H p o):=by
 refine⟨yq.refl _,λb u q=>?_,λb u q r=>?_⟩
 .rw[zp (zm (s b u q) h)];exact s b u q
 .have e:b≠p:=zm r h
  rw[zp e];exact⟨.inl q,r⟩
theorem Gr.show {F H:Hp}{p:Addr}{o:HO}{F0 H0:Hp}(g:Gr F0 H0 F H)(h0:H0 p=none)(hF:F p=none)(h:H p=some o):Gr F0 H0 (upd F p o) H:=by
 refine⟨λb u q=>?_,λb u q=>?_,λb u q r=>?_⟩
 .have:=g.ff b u q
  rw[zp (zm this hF)];exact this
 .by_cases e:b=p
  .subst e;rw[zo]at q;rw[<-q];exact h
  .rw[zp e]at q;exact g.fh b u q
 .have e:b≠p:=zm r h0
  obtain⟨x,y⟩:=g.kp b u q r
  refine⟨?_,y⟩
  unfold Hid
  rw[zp e]
  exact x
noncomputable abbrev Ev:=List (Option D)
noncomputable def VAt (F:Hp)(ρ:Ev)(σ:St):Prop:=∀ (i:Nat) (d:D),ρ[i]?=some (some d)->∃ v,σ[i]?=some (some v)/\At F d v
theorem VAt.mono {F F':Hp}{ρ:Ev}{σ:St}(h:VAt F ρ σ)(s:yq F F'):VAt F' ρ σ:=λi d e=>let ⟨v,e1,a⟩:=h i d e;⟨v,e1,a.mono s⟩
noncomputable def RE (t:TE)(f:Ev->Option D):Prop :=
 ∀ (σ:St) (ρ:Ev) (F H:Hp) (d:D) (Q:VK),yq F H->VAt F ρ σ->f ρ=some d->(∀ F' H' v,Gr F H F' H'->At F' d v->Q v H')->t σ H Q
noncomputable def RT (t:TT)(f:Ev->Option Bool):Prop :=
 ∀ (σ:St) (ρ:Ev) (F H:Hp) (b:Bool) (Q:Bool->Hp->Prop),yq F H->VAt F ρ σ->f ρ=some b->(∀ F' H',Gr F H F' H'->Q b H')->t σ H Q
noncomputable def RA (t:TA)(f:Ev->Option (List D)):Prop :=
 ∀ (σ:St) (ρ:Ev) (F H:Hp) (ds:List D) (Q:List V->Hp->Prop),yq F H->VAt F ρ σ->f ρ=some ds->(∀ F' H' vs,Gr F H F' H'->AtL F' ds vs->Q vs H')->t σ H Q
noncomputable def RF (t:TE)(f:Ev->Option (List D)):Prop :=
 ∀ (σ:St) (ρ:Ev) (F H:Hp) (ds:List D) (Q:VK),yq F H->VAt F ρ σ->f ρ=some ds->(∀ F' H' p xs,Gr F H F' H'->H p=none->F' p=none->H' p=some (.lst xs)->AtL F' ds xs->Q (.ref p) H')->t σ H Q
noncomputable def ED (X:Cx)(e:Expr)(f:Ev->Option D):Prop:=∃ t,PE X e t/\RE t f
noncomputable def TD (X:Cx)(e:Expr)(f:Ev->Option Bool):Prop:=∃ t,PT X e t/\RT t f
noncomputable def WD (X:Cx)(e:Expr)(f:Ev->Option Bool):Prop:=∃ t,PW X e t/\RT t f
noncomputable def AD (X:Cx)(es:List Expr)(f:Ev->Option (List D)):Prop:=∃ t,PA X es t/\RA t f
noncomputable def FL (X:Cx)(e:Expr)(f:Ev->Option (List D)):Prop:=∃ t,PE X e t/\RF t f
section
variable {X:Cx}{a b c:Expr}{pos:Pos}
noncomputable def wc (f:Ev->Option (List D)):Ev->Option D:=fun ρ=>(f ρ).map .lst
theorem xX {f:Ev->Option (List D)}(h:FL X a f):ED X a (wc f):=by
 obtain⟨t,ht,r⟩:=h
 refine⟨t,ht,fun σ ρ F H d Q s va e q=>?_⟩
 obtain⟨ds,e1,rfl⟩:=Option.map_eq_some_iff.mp e
 refine r σ ρ F H ds Q s va e1 λF' H' p xs g h0 hF hH hx=>?_
 have g2:=g.show h0 hF hH
 exact q _ _ _ g2 (At.lst zo (hx.mono (λb u e=>by rw[zp (zm e hF)];exact e)))
noncomputable def zf (i:Nat):Ev->Option D:=fun ρ=>(ρ[i]?).getD none
theorem za (i:Nat)(h:PE X a (zir i)):ED X a (zf i):=by
 refine⟨_,h,fun σ ρ F H d Q s va e q=>?_⟩
 have e':ρ[i]?=some (some d):=by
  unfold zf at e
  cases h:ρ[i]? with
  | none=>rw[h]at e;cases e
  | some x=>rw[h]at e;cases x with
   | none=>cases e
   | some y=>cases e;rfl
 obtain⟨v,e1,a1⟩:=va i d e'
 exact⟨v,e1,q _ _ _ (.refl s) a1⟩
noncomputable def eC (d:D):Ev->Option D:=λ_=>some d
theorem zd {i:Int}(h:PE X a (tC (.int i))):ED X a (eC (.int i)):=⟨_,h,λ_ _ _ _ _ _ s _ e q=>by cases e;exact q _ _ _ (.refl s) .int⟩
theorem we {i:Bool}(h:PE X a (tC (.bl i))):ED X a (eC (.bl i)):=⟨_,h,λ_ _ _ _ _ _ s _ e q=>by cases e;exact q _ _ _ (.refl s) .bl⟩
theorem Xl (h:PE X a (tC .non)):ED X a (eC .non):=⟨_,h,λ_ _ _ _ _ _ s _ e q=>by cases e;exact q _ _ _ (.refl s) .non⟩
noncomputable def OpD (r:R2)(g:D->D->Option D):Prop :=
 ∀ (F H:Hp) (x y:V) (d e z:D) (Q:VK),yq F H->At F d x->At F e y->g d e=some z->(∀ F' H' v,Gr F H F' H'->At F' z v->Q v H')->r x y H Q
noncomputable def zk (g:D->D->Option D)(f h:Ev->Option D):Ev->Option D:=fun ρ=>(f ρ).bind λx=>(h ρ).bind λy=>g x y
theorem zgz {r:R2}{g:D->D->Option D}{ta tb:TE}{f h:Ev->Option D}(hg:OpD r g)(ra:RE ta f)(rb:RE tb h):RE (tOp r ta tb) (zk g f h):=by
 intro σ ρ F H z Q s va e q
 obtain⟨x,e1,e⟩:=Option.bind_eq_some_iff.mp e
 obtain⟨y,e2,e⟩:=Option.bind_eq_some_iff.mp e
 refine ra σ ρ F H x _ s va e1 λF1 H1 v g1 a1=>?_
 refine rb σ ρ F1 H1 y _ g1.fh (va.mono g1.ff) e2 λF2 H2 u g2 a2=>?_
 exact hg F2 H2 v u x y z Q g2.fh (a1.mono g2.ff) a2 e λF3 H3 w g3 a3=>q F3 H3 w ((g1.trans g2).trans g3) a3
theorem XL {op:Operator}{r:R2}{g:D->D->Option D}{f h:Ev->Option D}(ho:OpR X (binaryOp op) r)(hg:OpD r g)(ha:ED X a f)(hb:ED X b h):ED X (.BinOp a op b pos) (zk g f h) :=
 let ⟨_,pa,ra⟩:=ha
 let ⟨_,pb,rb⟩:=hb
 ⟨_,zkU ho pa pb,zgz hg ra rb⟩
theorem VI {op:CmpOp}{r:R2}{g:D->D->Option D}{f h:Ev->Option D}(ho:OpR X (compareOp op) r)(hg:OpD r g)(hm:behindInMarks op b=false)(ha:ED X a f)(hb:ED X b h):ED X (.Compare a [op] [b] pos) (zk g f h) :=
 let ⟨_,pa,ra⟩:=ha
 let ⟨_,pb,rb⟩:=hb
 ⟨_,zhO ho pa pb hm,zgz hg ra rb⟩
noncomputable def asB:D->Option Bool
 | .bl b=>some b
 | _=>none
theorem ZT {d:D}{b:Bool}(h:asB d=some b):d=.bl b:=by
 cases d <;> first | (cases h;rfl) | cases h
noncomputable def tOf (f:Ev->Option D):Ev->Option Bool:=fun ρ=>(f ρ).bind asB
theorem zkX {t:TE}{f:Ev->Option D}(r:RE t f):RT (zkR t) (tOf f):=by
 intro σ ρ F H b Q s va e q
 obtain⟨x,e1,e⟩:=Option.bind_eq_some_iff.mp e
 cases ZT e
 exact r σ ρ F H _ _ s va e1 λF1 H1 v g1 a1=>⟨b,a1.bl_inv,q F1 H1 g1⟩
theorem zG {op:CmpOp}{r:R2}{g:D->D->Option D}{f h:Ev->Option D}(ho:OpR X (compareOp op) r)(hg:OpD r g)(hm:behindInMarks op b=false)(ha:ED X a f)(hb:ED X b h):TD X (.Compare a [op] [b] pos) (tOf (zk g f h)) :=
 let ⟨_,pa,ra⟩:=ha
 let ⟨_,pb,rb⟩:=hb
 ⟨_,ziE ho pa pb hm,zkX (zgz hg ra rb)⟩
theorem xo {f:Ev->Option D}(ha:ED X a f)(he:∀ whole,isTrue a X.env whole=(do let v<-whole;standAt a.pos;holding [v] (truthy v)):=by intro _;rfl):TD X a (tOf f) :=
 let ⟨_,pa,ra⟩:=ha
 ⟨_,zki pa he,zkX ra⟩
noncomputable def vh (f g:Ev->Option Bool):Ev->Option Bool:=fun ρ=>(f ρ).bind λc=>if c=true then g ρ else some false
noncomputable def ZL (f g:Ev->Option Bool):Ev->Option Bool:=fun ρ=>(f ρ).bind λc=>if c=true then some true else g ρ
noncomputable def xz (f:Ev->Option Bool):Ev->Option Bool:=fun ρ=>(f ρ).map (!·)
theorem Xv {f:Ev->Option Bool}(ha:TD X a f):WD X (.BoolOp .And [a] pos) f:=let ⟨_,pa,ra⟩:=ha;⟨_,zio pa,ra⟩
theorem wJ {f:Ev->Option Bool}(ha:TD X a f):WD X (.BoolOp .Or [a] pos) f:=let ⟨_,pa,ra⟩:=ha;⟨_,zjz pa,ra⟩
theorem Vo {rest:List Expr}{f g:Ev->Option Bool}(ha:TD X a f)(hb:WD X (.BoolOp .And (b::rest) pos) g):WD X (.BoolOp .And (a::b::rest) pos) (vh f g):=by
 obtain⟨ta,pa,ra⟩:=ha
 obtain⟨tb,pb,rb⟩:=hb
 refine⟨_,zkz pa pb,fun σ ρ F H z Q s va e q=>?_⟩
 obtain⟨x,e1,e⟩:=Option.bind_eq_some_iff.mp e
 refine ra σ ρ F H x _ s va e1 λF1 H1 g1=>?_
 cases x with
 | true =>
  rw[if_pos rfl]at e ⊢
  exact rb σ ρ F1 H1 z Q g1.fh (va.mono g1.ff) e λF2 H2 g2=>q F2 H2 (g1.trans g2)
 | false =>
  rw[if_neg Bool.false_ne_true]at e ⊢
  cases e
  exact q F1 H1 g1
theorem Yh {rest:List Expr}{f g:Ev->Option Bool}(ha:TD X a f)(hb:WD X (.BoolOp .Or (b::rest) pos) g):WD X (.BoolOp .Or (a::b::rest) pos) (ZL f g):=by
 obtain⟨ta,pa,ra⟩:=ha
 obtain⟨tb,pb,rb⟩:=hb
 refine⟨_,zlK pa pb,fun σ ρ F H z Q s va e q=>?_⟩
 obtain⟨x,e1,e⟩:=Option.bind_eq_some_iff.mp e
 refine ra σ ρ F H x _ s va e1 λF1 H1 g1=>?_
 cases x with
 | false =>
  rw[if_neg Bool.false_ne_true]at e ⊢
  exact rb σ ρ F1 H1 z Q g1.fh (va.mono g1.ff) e λF2 H2 g2=>q F2 H2 (g1.trans g2)
 | true =>
  rw[if_pos rfl]at e ⊢
  cases e
  exact q F1 H1 g1
theorem Vk {f:Ev->Option Bool}(h:WD X a f):TD X a f:=let ⟨_,p,r⟩:=h;⟨_,p.pt,r⟩
theorem xC {f:Ev->Option Bool}(ha:TD X a f):TD X (.UnaryOp .Not a pos) (xz f):=by
 obtain⟨ta,pa,ra⟩:=ha
 refine⟨_,zj4 pa,fun σ ρ F H z Q s va e q=>?_⟩
 obtain⟨x,e1,rfl⟩:=Option.map_eq_some_iff.mp e
 exact ra σ ρ F H x _ s va e1 λF1 H1 g1=>q F1 H1 g1
noncomputable def V4 (f g:Ev->Option D):Ev->Option D:=fun ρ=>((f ρ).bind asB).bind λc=>if c=true then g ρ else some (.bl false)
noncomputable def eOr (f g:Ev->Option D):Ev->Option D:=fun ρ=>((f ρ).bind asB).bind λc=>if c=true then some (.bl true)else g ρ
noncomputable def zfr (f:Ev->Option D):Ev->Option D:=fun ρ=>((f ρ).bind asB).map λc=>.bl (!c)
theorem Xy {op}{f:Ev->Option D}(ha:ED X a f):ED X (.BoolOp op [a] pos) f:=let ⟨_,pa,ra⟩:=ha;⟨_,zkB pa,ra⟩
theorem ZA {rest:List Expr}{f g:Ev->Option D}(ha:ED X a f)(hb:ED X (.BoolOp .And (b::rest) pos) g):ED X (.BoolOp .And (a::b::rest) pos) (V4 f g):=by
 obtain⟨ta,pa,ra⟩:=ha
 obtain⟨tb,pb,rb⟩:=hb
 refine⟨_,zku pa pb,fun σ ρ F H z Q s va e q=>?_⟩
 obtain⟨x,e1,e⟩:=Option.bind_eq_some_iff.mp e
 obtain⟨y,e1,e2⟩:=Option.bind_eq_some_iff.mp e1
 cases ZT e2
 refine ra σ ρ F H _ _ s va e1 λF1 H1 v g1 a1=>⟨x,a1.bl_inv,?_⟩
 cases x with
 | true =>
  rw[if_pos rfl]at e ⊢
  exact rb σ ρ F1 H1 z Q g1.fh (va.mono g1.ff) e λF2 H2 w g2 a2=>q F2 H2 w (g1.trans g2) a2
 | false =>
  rw[if_neg Bool.false_ne_true]at e ⊢
  cases e
  exact q F1 H1 _ g1 .bl
theorem zjX {f:Ev->Option D}(ha:ED X a f):ED X (.UnaryOp .Not a pos) (zfr f):=by
 obtain⟨ta,pa,ra⟩:=ha
 refine⟨_,zj1 pa,fun σ ρ F H z Q s va e q=>?_⟩
 obtain⟨x,e1,rfl⟩:=Option.map_eq_some_iff.mp e
 obtain⟨y,e1,e2⟩:=Option.bind_eq_some_iff.mp e1
 cases ZT e2
 exact ra σ ρ F H _ _ s va e1 λF1 H1 v g1 a1=>⟨x,a1.bl_inv,q F1 H1 _ g1 .bl⟩
noncomputable def eIf (t:Ev->Option Bool)(f g:Ev->Option D):Ev->Option D:=fun ρ=>(t ρ).bind λc=>if c=true then f ρ else g ρ
noncomputable def eUn (g:D->Option D)(f:Ev->Option D):Ev->Option D:=fun ρ=>(f ρ).bind g
noncomputable def zg6:D->Option D
 | .int i=>some (.int (-i))
 | _=>none
noncomputable def zt:Ev->Option (List D):=λ_=>some []
noncomputable def zc (f:Ev->Option D)(g:Ev->Option (List D)):Ev->Option (List D):=fun ρ=>(f ρ).bind λd=>(g ρ).map (d::·)
theorem zh:AD X [] zt:=⟨_,zeZ,λ_ _ _ _ _ _ s _ e q=>by cases e;exact q _ _ _ (.refl s) .nil⟩
theorem zb {e:Expr}{es:List Expr}{f:Ev->Option D}{g:Ev->Option (List D)}(ha:ED X e f)(hr:AD X es g)(hs:starEach (e::es) X.env=(false,eval e X.env)::starEach es X.env:=by rfl):AD X (e::es) (zc f g):=by
 obtain⟨ta,pa,ra⟩:=ha
 obtain⟨tb,pb,rb⟩:=hr
 refine⟨_,W8 pa pb hs,fun σ ρ F H z Q s va e q=>?_⟩
 obtain⟨x,e1,e⟩:=Option.bind_eq_some_iff.mp e
 obtain⟨ds,e2,rfl⟩:=Option.map_eq_some_iff.mp e
 refine ra σ ρ F H x _ s va e1 λF1 H1 v g1 a1=>?_
 exact rb σ ρ F1 H1 ds _ g1.fh (va.mono g1.ff) e2 λF2 H2 w g2 a2=>q F2 H2 _ (g1.trans g2) (.cons (a1.mono g2.ff) a2)
noncomputable def lim (n:Nat):Bool:=decide (n<=sizeLine)
noncomputable def wP (g:Ev->Option (List D)):Ev->Option D:=fun ρ=>(g ρ).bind λds=>if lim ds.length=true then some (.tup ds)else none
noncomputable def xi (g:Ev->Option (List D)):Ev->Option (List D):=fun ρ=>(g ρ).bind λds=>if lim ds.length=true then some ds else none
theorem yh {es:List Expr}{x1}{g:Ev->Option (List D)}(h:AD X es g):ED X (.Tuple es x1 pos) (wP g):=by
 obtain⟨ta,pa,ra⟩:=h
 refine⟨_,zkn pa,fun σ ρ F H z Q s va e q=>?_⟩
 obtain⟨ds,e1,e⟩:=Option.bind_eq_some_iff.mp e
 split at e <;> cases e
 rename_i hl
 refine ra σ ρ F H ds _ s va e1 λF1 H1 vs g1 a1=>⟨by rw[a1.length];exact of_decide_eq_true hl,λp hp=>?_⟩
 have g2:=Gr.alloc g1.fh hp (.tup vs)
 exact q _ _ _ (g1.trans g2) (.tup zo (a1.mono g2.ff))
theorem xZ {es:List Expr}{g:Ev->Option (List D)}(h:AD X es g):FL X (.List es pos) (xi g):=by
 obtain⟨ta,pa,ra⟩:=h
 refine⟨_,zky pa,fun σ ρ F H z Q s va e q=>?_⟩
 obtain⟨ds,e1,e⟩:=Option.bind_eq_some_iff.mp e
 split at e <;> cases e
 rename_i hl
 refine ra σ ρ F H _ _ s va e1 λF1 H1 vs g1 a1=>⟨by rw[a1.length];exact of_decide_eq_true hl,λp hp=>?_⟩
 have g2:=Gr.hide g1.fh hp (.lst vs)
 have h0:H p=none:=by
  cases e:H p with
  | none=>rfl
  | some o =>
   cases e2:F p with
   | none=>rw[(g1.kp p o e2 e).2]at hp;cases hp
   | some u=>rw[g1.fh _ _ (g1.ff _ _ e2)]at hp;cases hp
 exact q _ _ _ _ (g1.trans g2) h0 (g1.fh.free hp) zo a1
end
end
end Dl
namespace Dl
open PySem L2
variable [KK]
inductive Sl where
 | no | v (d:D) | o (ds:List D) | m (t:Bool) (ks:List (List Key)) (vs:List D)
 deriving Inhabited
noncomputable abbrev SE:=List Sl
noncomputable def Sl.f:Sl->Option D
 | .v d=>some d
 | _=>none
noncomputable def Sl.g:Sl->Option D
 | .v d=>some d
 | .o ds=>some (.lst ds)
 | .m t ks vs=>some (.dct false t ks vs)
 | .no=>none
noncomputable def Sl.isO:Sl->Bool
 | .o _=>true
 | .m _ _ _=>true
 | _=>false
noncomputable def visF (ρ:SE):Ev:=ρ.map Sl.f
noncomputable def visG (ρ:SE):Ev:=ρ.map Sl.g
noncomputable def zby (F:Hp)(o:HO):Sl->Prop
 | .o ds=>∃ xs,o=.lst xs/\AtL F ds xs
 | .m t ks ds=>∃ xs,zas o t ks xs/\AtL F ds xs
 | _=>False
theorem zby.mono {F F':Hp}{o:HO}{s:Sl}(h:zby F o s)(k:yq F F'):zby F' o s:=by
 cases s with
 | no=>exact h
 | v d=>exact h
 | o ds=>obtain⟨xs,e,a⟩:=h;exact⟨xs,e,a.mono k⟩
 | m t ks ds=>obtain⟨xs,e,a⟩:=h;exact⟨xs,e,a.mono k⟩
theorem zby.isO {F:Hp}{o:HO}{s:Sl}(h:zby F o s):s.isO=true:=by
 cases s with
 | no=>exact h.elim
 | v d=>exact h.elim
 | o ds=>rfl
 | m t ks ds=>rfl
theorem zby.ntup {F:Hp}{o:HO}{s:Sl}(h:zby F o s)(xs:List V):o≠.tup xs:=by
 cases s with
 | no=>exact h.elim
 | v d=>exact h.elim
 | o ds=>obtain⟨ys,rfl,_⟩:=h;intro e;cases e
 | m t ks ds =>
  obtain⟨ys,e,_⟩:=h
  unfold zas at e
  split at e
  .obtain⟨kvs,rfl,_⟩:=e;intro e;cases e
  .obtain⟨kvs,rfl,_⟩:=e;intro e;cases e
theorem zby.at {F G:Hp}{o:HO}{s:Sl}{d:D}{p:Addr}(h:zby F o s)(e:s.g=some d)(hp:G p=some o)(k:yq F G):At G d (.ref p):=by
 cases s with
 | no=>exact h.elim
 | v d=>exact h.elim
 | o ds =>
  cases e
  obtain⟨xs,rfl,a⟩:=h
  exact .lst hp (a.mono k)
 | m t ks ds =>
  cases e
  obtain⟨xs,e,a⟩:=h
  unfold At
  exact⟨p,xs,rfl,⟨o,e,hp⟩,a.mono k⟩
set_option genInjectivity false in
set_option genSizeOf false in
set_option genCtorIdx false in
structure Rl (Fb Hb F H:Hp) (ρ:SE) (σ:St):Prop where
 gr:Gr Fb Hb F H
 vals:∀ (i:Nat) (d:D),ρ[i]?=some (.v d)->∃ v,σ[i]?=some (some v)/\At F d v
 ows:∀ (i:Nat) (s:Sl),ρ[i]?=some s->s.isO=true->∃ p o,σ[i]?=some (some (.ref p))/\Hb p=none/\F p=none/\H p=some o/\zby F o s
 dis:∀ (i j:Nat) (p:Addr) (s t:Sl),ρ[i]?=some s->ρ[j]?=some t->s.isO=true->t.isO=true->σ[i]?=some (some (.ref p))->σ[j]?=some (some (.ref p))->i=j
 len:ρ.length=σ.length
section
variable {Fb Hb F H F' H':Hp}{ρ ρ':SE}{σ σ':St}
theorem Rl.owns (r:Rl Fb Hb F H ρ σ)(i:Nat)(ds:List D)(e:ρ[i]?=some (.o ds)):∃ p xs,σ[i]?=some (some (.ref p))/\Hb p=none/\F p=none/\H p=some (.lst xs)/\AtL F ds xs:=by
 obtain⟨p,o,e1,e2,e3,e4,xs,rfl,a⟩:=r.ows i _ e rfl
 exact⟨p,xs,e1,e2,e3,e4,a⟩
theorem Rl.grow (r:Rl Fb Hb F H ρ σ)(g:Gr F H F' H'):Rl Fb Hb F' H' ρ σ:=by
 refine⟨r.gr.trans g,λi d e=>?_,λi s e h=>?_,r.dis,r.len⟩
 .obtain⟨v,e1,a⟩:=r.vals i d e
  exact⟨v,e1,a.mono g.ff⟩
 .obtain⟨p,o,e1,e2,e3,e4,a⟩:=r.ows i s e h
  obtain⟨k1,k2⟩:=g.kl a.ntup e3 e4
  exact⟨p,o,e1,e2,k1,k2,a.mono g.ff⟩
theorem Rl.visF (r:Rl Fb Hb F H ρ σ):VAt F (visF ρ) σ:=λi d e=>by
 unfold Dl.visF at e
 rw[List.getElem?_map]at e
 cases h:ρ[i]? with
 | none=>rw[h]at e;cases e
 | some x =>
  rw[h]at e
  cases x with
  | no=>cases e
  | v d' =>
   cases e
   exact r.vals i d h
  | o ds=>cases e
  | m t ks ds=>cases e
noncomputable def Own (ρ:SE)(σ:St)(p:Addr):Prop:=∃ (i:Nat) (s:Sl),ρ[i]?=some s/\s.isO=true/\σ[i]?=some (some (.ref p))
open Classical in
noncomputable def gOf (ρ:SE)(σ:St)(F H:Hp):Hp:=λp=>if Own ρ σ p then H p else F p
open Classical in
noncomputable def fOf (ρ:SE)(σ:St)(G:Hp):Hp:=λp=>if Own ρ σ p then none else G p
theorem Rl.own (r:Rl Fb Hb F H ρ σ){p:Addr}(h:Own ρ σ p):Hb p=none/\F p=none/\∃ o,H p=some o/\∀ xs,o≠.tup xs:=by
 obtain⟨i,s,e1,e2,e3⟩:=h
 obtain⟨q,o,e4,e5,e6,e7,a⟩:=r.ows i s e1 e2
 rw[e3]at e4
 cases e4
 exact⟨e5,e6,o,e7,a.ntup⟩
theorem Rl.notown (r:Rl Fb Hb F H ρ σ){q:Addr}(h:H q=none)(j:Nat)(s:Sl)(e1:ρ[j]?=some s)(e2:s.isO=true):σ[j]?≠some (some (.ref q)):=λe=>by
 obtain⟨p,o,f1,_,_,f4,_⟩:=r.ows j s e1 e2
 rw[e]at f1
 cases f1
 rw[h]at f4
 cases f4
theorem Rl.notbase (r:Rl Fb Hb F H ρ σ){q:Addr}(h:H q=none):Hb q=none:=by
 cases z:Hb q with
 | none=>rfl
 | some o =>
  cases z2:Fb q with
  | none=>rw[(r.gr.kp q o z2 z).2]at h;cases h
  | some u=>rw[r.gr.fh _ _ (r.gr.ff _ _ z2)]at h;cases h
theorem Rl.fg (r:Rl Fb Hb F H ρ σ):yq F (gOf ρ σ F H):=λp o e=>by
 unfold gOf
 split
 .exact r.gr.fh p o e
 .exact e
theorem Rl.gh (r:Rl Fb Hb F H ρ σ):yq (gOf ρ σ F H) H:=λp o e=>by
 unfold gOf at e
 split at e
 .exact e
 .exact r.gr.fh p o e
theorem Rl.visG (r:Rl Fb Hb F H ρ σ):VAt (gOf ρ σ F H) (visG ρ) σ:=λi d e=>by
 unfold Dl.visG at e
 rw[List.getElem?_map]at e
 cases h:ρ[i]? with
 | none=>rw[h]at e;cases e
 | some x =>
  rw[h]at e
  have e:x.g=some d:=Option.some.inj e
  have own:x.isO=true->∃ v,σ[i]?=some (some v)/\At (gOf ρ σ F H) d v:=λhx=>by
   obtain⟨p,o,e1,e2,e3,e4,a⟩:=r.ows i x h hx
   refine⟨_,e1,a.at e ?_ r.fg⟩
   unfold gOf
   rw[if_pos ⟨i,x,h,hx,e1⟩]
   exact e4
  cases x with
  | no=>cases e
  | v d' =>
   cases e
   obtain⟨v,e1,a⟩:=r.vals i d h
   exact⟨v,e1,a.mono r.fg⟩
  | o ds=>exact own rfl
  | m t ks ds=>exact own rfl
theorem Rl.back {G':Hp}(r:Rl Fb Hb F H ρ σ)(g:Gr (gOf ρ σ F H) H G' H'):Gr F H (fOf ρ σ G') H'/\∀ q xs,G' q=some (.tup xs)->fOf ρ σ G' q=some (.tup xs):=by
 refine⟨⟨λp o e=>?_,λp o e=>?_,λp o e1 e2=>?_⟩,λq xs e=>?_⟩
 .unfold fOf
  rw[if_neg (λh=>by rw[(r.own h).2.1]at e;cases e)]
  exact g.ff p o (r.fg p o e)
 .unfold fOf at e
  split at e
  .cases e
  .exact g.fh p o e
 .by_cases h:Own ρ σ p
  .refine⟨.inl (by unfold fOf;rw[if_pos h]),g.fh p o (g.ff p o ?_)⟩
   unfold gOf
   rw[if_pos h]
   exact e2
  .obtain⟨x,y⟩:=g.kp p o (by unfold gOf;rw[if_neg h];exact e1) e2
   refine⟨?_,y⟩
   unfold Hid fOf
   rw[if_neg h]
   exact x
 .unfold fOf
  rw[if_neg (λh=>?_)]
  .exact e
  .obtain⟨_,_,o,e2,n⟩:=r.own h
   have:G' q=some o:=g.ff q _ (by unfold gOf;rw[if_pos h];exact e2)
   rw[this]at e
   cases e
   exact n xs rfl
theorem Rl.out {G':Hp}(r:Rl Fb Hb F H ρ σ)(g:Gr (gOf ρ σ F H) H G' H'):Gr Fb Hb G' H':=by
 refine⟨λp o e=>g.ff p o (r.fg p o (r.gr.ff p o e)),g.fh,λp o e1 e2=>?_⟩
 obtain⟨k1,k2⟩:=r.gr.kp p o e1 e2
 have e3:gOf ρ σ F H p=F p:=by
  unfold gOf
  rw[if_neg (λh=>by rw[(r.own h).1]at e2;cases e2)]
 rcases k1 with k1 | ⟨k1,k3⟩
 .exact g.kp p o (by rw[e3];exact k1) k2
 .have:=g.ff p o (by rw[e3];exact k3)
  exact⟨.inr ⟨k1,this⟩,g.fh _ _ this⟩
theorem Rl.set (r:Rl Fb Hb F H ρ σ){i:Nat}{d:D}{v:V}(a:At F d v):Rl Fb Hb F H (ρ.set i (.v d)) (σ.set i (some v)):=by
 have nj:∀ {j:Nat} {s:Sl},(ρ.set i (.v d))[j]?=some s->s.isO=true->i≠j:=λ{j s} h ho e=>by
  subst e
  rw[List.getElem?_set]at h
  simp only[if_true]at h
  split at h <;> cases h
  cases ho
 refine⟨r.gr,λj e h=>?_,λj s h ho=>?_,λj k p s t h1 h2 o1 o2 h3 h4=>?_,by simp[r.len]⟩
 .by_cases hj:i=j
  .subst hj
   rw[List.getElem?_set]at h
   simp only[if_true]at h
   split at h
   .rename_i hl
    cases h
    refine⟨v,?_,a⟩
    rw[List.getElem?_set]
    simp[<-r.len,hl]
   .cases h
  .rw[List.getElem?_set_ne hj]at h ⊢
   exact r.vals j e h
 .have hj:=nj h ho
  rw[List.getElem?_set_ne hj]at h ⊢
  exact r.ows j s h ho
 .have a1:=nj h1 o1
  have a2:=nj h2 o2
  rw[List.getElem?_set_ne a1]at h1 h3
  rw[List.getElem?_set_ne a2]at h2 h4
  exact r.dis j k p s t h1 h2 o1 o2 h3 h4
theorem Rl.setW (r:Rl Fb Hb F H ρ σ){i:Nat}{w:Sl}{p:Addr}{o:HO}(h0:Hb p=none)(hF:F p=none)(hH:H p=some o)(a:zby F o w)
 (nw:∀ (j:Nat) (s:Sl),ρ[j]?=some s->s.isO=true->σ[j]?≠some (some (.ref p))):Rl Fb Hb F H (ρ.set i w) (σ.set i (some (.ref p))):=by
 have at_i:∀ {s:Sl},(ρ.set i w)[i]?=some s->i < ρ.length/\s=w:=λ{s} h=>by
  rw[List.getElem?_set]at h
  simp only[if_true]at h
  split at h
  .rename_i hl
   cases h
   exact⟨hl,rfl⟩
  .cases h
 have st_i:i < ρ.length->(σ.set i (some (V.ref p)))[i]?=some (some (.ref p)):=λhl=>by
  rw[List.getElem?_set]
  simp[<-r.len,hl]
 refine⟨r.gr,λj e h=>?_,λj s h ho=>?_,λj k q s t h1 h2 o1 o2 h3 h4=>?_,by simp[r.len]⟩
 .by_cases hj:i=j
  .subst hj
   have e:=(at_i h).2
   have:=a.isO
   rw[<-e]at this
   cases this
  .rw[List.getElem?_set_ne hj]at h ⊢
   exact r.vals j e h
 .by_cases hj:i=j
  .subst hj
   obtain⟨hl,e⟩:=at_i h
   subst e
   exact⟨p,o,st_i hl,h0,hF,hH,a⟩
  .rw[List.getElem?_set_ne hj]at h ⊢
   exact r.ows j s h ho
 .by_cases hj:i=j
  .subst hj
   by_cases hk:i=k
   .exact hk
   .obtain⟨hl,_⟩:=at_i h1
    rw[st_i hl]at h3
    cases h3
    rw[List.getElem?_set_ne hk]at h2 h4
    exact absurd h4 (nw k t h2 o2)
  .by_cases hk:i=k
   .subst hk
    obtain⟨hl,_⟩:=at_i h2
    rw[st_i hl]at h4
    cases h4
    rw[List.getElem?_set_ne hj]at h1 h3
    exact absurd h3 (nw j s h1 o1)
   .rw[List.getElem?_set_ne hj]at h1 h3
    rw[List.getElem?_set_ne hk]at h2 h4
    exact r.dis j k q s t h1 h2 o1 o2 h3 h4
theorem Rl.setO (r:Rl Fb Hb F H ρ σ){i:Nat}{ds:List D}{p:Addr}{xs:List V}(h0:Hb p=none)(hF:F p=none)(hH:H p=some (.lst xs))(a:AtL F ds xs)
 (nw:∀ (j:Nat) (s:Sl),ρ[j]?=some s->s.isO=true->σ[j]?≠some (some (.ref p))):Rl Fb Hb F H (ρ.set i (.o ds)) (σ.set i (some (.ref p))):=r.setW h0 hF hH ⟨xs,rfl,a⟩ nw
theorem Rl.mutW (r:Rl Fb Hb F H ρ σ){i:Nat}{w w':Sl}{p:Addr}{o':HO}(e:ρ[i]?=some w)(hw:w.isO=true)(e1:σ[i]?=some (some (.ref p)))(a:zby F o' w'):Rl Fb Hb F (upd H p o') (ρ.set i w') σ:=by
 obtain⟨q,o,e2,h0,hF,hH,_⟩:=r.ows i w e hw
 rw[e1]at e2
 cases e2
 have hi:i < ρ.length:=(List.getElem?_eq_some_iff.mp e).1
 have neP:∀ {j:Nat} {s:Sl} {q:Addr},i≠j->ρ[j]?=some s->s.isO=true->σ[j]?=some (some (.ref q))->q≠p:=λ{j s q} hne h1 ho h2 z=>by
  subst z
  exact hne (r.dis i j q w s e h1 hw ho e1 h2)
 refine⟨⟨r.gr.ff,λb o z=>?_,λb o z1 z2=>?_⟩,λj d h=>?_,λj s h ho=>?_,λj k q s t h1 h2 o1 o2 h3 h4=>?_,by simp[r.len]⟩
 .rw[zp (zm z hF)]
  exact r.gr.fh b o z
 .rw[zp (zm z2 h0)]
  exact r.gr.kp b o z1 z2
 .by_cases hj:i=j
  .subst hj
   rw[List.getElem?_set_self hi]at h
   cases h
   exact(Bool.noConfusion a.isO)
  .rw[List.getElem?_set_ne hj]at h
   exact r.vals j d h
 .by_cases hj:i=j
  .subst hj
   rw[List.getElem?_set_self hi]at h
   cases h
   exact⟨p,o',e1,h0,hF,zo,a⟩
  .rw[List.getElem?_set_ne hj]at h
   obtain⟨q,z,f1,f2,f3,f4,f5⟩:=r.ows j s h ho
   refine⟨q,z,f1,f2,f3,?_,f5⟩
   rw[zp (neP hj h ho f1)]
   exact f4
 .have back:∀ {j:Nat} {s:Sl},(ρ.set i w')[j]?=some s->s.isO=true->∃ s',ρ[j]?=some s'/\s'.isO=true:=λ{j s} h ho=>by
   by_cases hj:i=j
   .subst hj;exact⟨w,e,hw⟩
   .rw[List.getElem?_set_ne hj]at h;exact⟨s,h,ho⟩
  obtain⟨f1,g1,g1'⟩:=back h1 o1
  obtain⟨f2,g2,g2'⟩:=back h2 o2
  exact r.dis j k q f1 f2 g1 g2 g1' g2' h3 h4
theorem Rl.mutate (r:Rl Fb Hb F H ρ σ){i:Nat}{ds es:List D}{p:Addr}{ys:List V}(e:ρ[i]?=some (.o ds))(e1:σ[i]?=some (some (.ref p)))(a:AtL F es ys):Rl Fb Hb F (upd H p (.lst ys)) (ρ.set i (.o es)) σ :=
 r.mutW e rfl e1 ⟨ys,rfl,a⟩
noncomputable def Sl.fz:Sl->Sl
 | .o ds=>.v (.lst ds)
 | .m t ks vs=>.v (.dct false t ks vs)
 | s=>s
noncomputable def zlq (ρ:SE)(i:Nat):SE:=ρ.set i ((ρ[i]?).getD .no).fz
theorem Rl.freeze (r:Rl Fb Hb F H ρ σ)(i:Nat):∃ F',Rl Fb Hb F' H (zlq ρ i) σ:=by
 unfold zlq
 cases h:ρ[i]? with
 | none =>
  refine⟨F,?_⟩
  rw[List.set_eq_of_length_le (List.getElem?_eq_none_iff.mp h)]
  exact r
 | some s =>
  have hi:i < ρ.length:=(List.getElem?_eq_some_iff.mp h).1
  have same:s.fz=s->∃ F',Rl Fb Hb F' H (ρ.set i ((some s).getD .no).fz) σ:=λe=>by
   refine⟨F,?_⟩
   show Rl Fb Hb F H (ρ.set i s.fz) σ
   rw[e]
   have:ρ.set i s=ρ:=by
    apply List.ext_getElem?
    intro j
    by_cases hj:i=j
    .subst hj;rw[List.getElem?_set_self hi,h]
    .rw[List.getElem?_set_ne hj]
   rw[this]
   exact r
  have give:∀ d,s.isO=true->s.g=some d->s.fz=.v d->∃ F',Rl Fb Hb F' H (ρ.set i ((some s).getD .no).fz) σ:=λd ho hg hz=>by
   obtain⟨p,o,e1,e2,e3,e4,a⟩:=r.ows i s h ho
   have sF:yq F (upd F p o):=λb u e=>by rw[zp (zm e e3)];exact e
   show ∃ F',Rl Fb Hb F' H (ρ.set i s.fz) σ
   rw[hz]
   have nj:∀ {j:Nat} {t:Sl},(ρ.set i (.v d))[j]?=some t->t.isO=true->i≠j:=λ{j t} h ht e=>by
    subst e
    rw[List.getElem?_set_self hi]at h
    cases h
    cases ht
   refine⟨upd F p o,r.gr.show e2 e3 e4,λj e z=>?_,λj t z ht=>?_,λj k q t u h1 h2 o1 o2 h3 h4=>?_,by simp[r.len]⟩
   .by_cases hj:i=j
    .subst hj
     rw[List.getElem?_set_self hi]at z
     cases z
     exact⟨_,e1,a.at hg zo sF⟩
    .rw[List.getElem?_set_ne hj]at z
     obtain⟨v,f1,f2⟩:=r.vals j e z
     exact⟨v,f1,f2.mono sF⟩
   .have hj:=nj z ht
    rw[List.getElem?_set_ne hj]at z
    obtain⟨q,y,f1,f2,f3,f4,f5⟩:=r.ows j t z ht
    refine⟨q,y,f1,f2,?_,f4,f5.mono sF⟩
    rw[zp (λw=>hj (r.dis i j p s t h z ho ht e1 (by rw[<-w];exact f1)))]
    exact f3
   .have a1:=nj h1 o1
    have a2:=nj h2 o2
    rw[List.getElem?_set_ne a1]at h1
    rw[List.getElem?_set_ne a2]at h2
    exact r.dis j k q t u h1 h2 o1 o2 h3 h4
  cases s with
  | no=>exact same rfl
  | v d=>exact same rfl
  | o ds=>exact give _ rfl rfl rfl
  | m t ks ds=>exact give _ rfl rfl rfl
end
inductive Ctl where
 | nx (ρ:SE) | rt (d:D) | bk (ρ:SE) | ct (ρ:SE) | no
 deriving Inhabited
noncomputable def SOk (Fb Hb:Hp)(E:zgJ):Ctl->Prop
 | .nx ρ=>∀ F H σ,Rl Fb Hb F H ρ σ->E.nx σ H
 | .bk ρ=>∀ F H σ,Rl Fb Hb F H ρ σ->E.bk σ H
 | .ct ρ=>∀ F H σ,Rl Fb Hb F H ρ σ->E.ct σ H
 | .rt d=>∀ F H v,Gr Fb Hb F H->At F d v->E.rt v H
 | .no=>False
noncomputable def RS (t:TS)(g:SE->Ctl):Prop:=∀ (Fb Hb F H:Hp) (ρ:SE) (σ:St) (E:zgJ),Rl Fb Hb F H ρ σ->SOk Fb Hb E (g ρ)->t E σ H
noncomputable def SD (X:Cx)(st:Stmt)(g:SE->Ctl):Prop:=∃ t,PS X st t/\RS t g
noncomputable def SDs (X:Cx)(sts:List Stmt)(g:SE->Ctl):Prop:=∃ t,PSs X sts t/\RS t g
section
variable {X:Cx}{st:Stmt}{sts:List Stmt}{a b c e:Expr}{pos pos':Pos}
noncomputable def yc:SE->Ctl:=.nx
noncomputable def zO (g h:SE->Ctl):SE->Ctl:=fun ρ=>match g ρ with
 | .nx ρ'=>h ρ'
 | .rt d=>.rt d
 | .bk ρ'=>.bk ρ'
 | .ct ρ'=>.ct ρ'
 | .no=>.no
theorem zD:SDs X [] yc:=⟨_,zhP,λ_ _ F H ρ σ E r h=>h F H σ r⟩
theorem zg {g h:SE->Ctl}(h1:SD X st g)(h2:SDs X sts h):SDs X (st::sts) (zO g h):=by
 obtain⟨t,p,r⟩:=h1
 obtain⟨u,p2,r2⟩:=h2
 refine⟨_,zf2 p p2,λFb Hb F H ρ σ E rl k=>?_⟩
 refine r Fb Hb F H ρ σ { E with nx:=u E } rl ?_
 unfold zO at k
 cases e:g ρ with
 | nx ρ' =>
  rw[e]at k
  exact λF' H' σ' rl'=>r2 Fb Hb F' H' ρ' σ' E rl' k
 | rt d=>rw[e]at k;exact k
 | bk d=>rw[e]at k;exact k
 | ct d=>rw[e]at k;exact k
 | no=>rw[e]at k;exact k
theorem zi {g:SE->Ctl}(h1:SD X st g):SDs X [st] g:=let ⟨_,p,r⟩:=h1;⟨_,zi2 p,r⟩
noncomputable def sFz (i:Nat)(g:SE->Ctl):SE->Ctl:=fun ρ=>g (zlq ρ i)
theorem XI {g:SE->Ctl}(i:Nat)(h:SDs X sts g):SDs X sts (sFz i g):=by
 obtain⟨t,p,r⟩:=h
 refine⟨_,p,λFb Hb F H ρ σ E rl k=>?_⟩
 obtain⟨F',rl'⟩:=rl.freeze i
 exact r Fb Hb F' H _ σ E rl' k
noncomputable def sNo:SE->Ctl:=λ_=>.no
theorem zbs:SD X st sNo:=⟨_,zgM,λ_ _ _ _ _ _ _ _ h=>h.elim⟩
noncomputable def xa (f:Ev->Option D):SE->Ctl:=fun ρ=>match f (visG ρ) with
 | some d=>.rt d
 | none=>.no
theorem zx {f:Ev->Option D}(h:ED X e f):SD X (.Return (some e) pos) (xa f):=by
 obtain⟨t,p,r⟩:=h
 refine⟨_,zjT p,λFb Hb F H ρ σ E rl k=>?_⟩
 unfold xa at k
 cases h:f (visG ρ) with
 | none=>rw[h]at k;exact k.elim
 | some d =>
  rw[h]at k
  exact r σ _ _ H d _ rl.gh rl.visG h λF' H' v g av=>k F' H' v (rl.out g) av
noncomputable def VR:SE->Ctl:=λ_=>.rt .non
noncomputable def vEv (m:Bool)(f:Ev->Option D)(ρ:SE):Option D:=if m=true then (f (visG ρ)).bind λd=>if noL d=true then some d else none else f (visF ρ)
theorem RE.at {Fb Hb F H:Hp}{ρ:SE}{σ:St}{m:Bool}{f:Ev->Option D}{t:TE}{d:D}{Q:VK}(r:RE t f)(rl:Rl Fb Hb F H ρ σ)(h:vEv m f ρ=some d)(q:∀ F' H' v,Gr F H F' H'->At F' d v->Q v H'):t σ H Q:=by
 unfold vEv at h
 cases m with
 | false =>
  rw[if_neg Bool.false_ne_true]at h
  exact r σ _ _ H d _ rl.gr.fh rl.visF h q
 | true =>
  rw[if_pos rfl]at h
  obtain⟨d',h1,h2⟩:=Option.bind_eq_some_iff.mp h
  split at h2 <;> cases h2
  rename_i hn
  refine r σ _ _ H d _ rl.gh rl.visG h1 λF' H' v g av=>?_
  obtain⟨g2,fl⟩:=rl.back g
  exact q _ H' v g2 (av.flat fl hn)
noncomputable def xE (m:Bool)(i:Nat)(f:Ev->Option D):SE->Ctl:=fun ρ=>match vEv m f ρ with
 | some d=>.nx (ρ.set i (.v d))
 | none=>.no
theorem zL {m:Bool}{i:Nat}{x:Str}{f:Ev->Option D}(hN:X.N.Nodup)(hi:X.N[i]?=some x)(hx:Loc X.env.scope x)(he:ED X e f)(hs:swapsWith e (some (.Name x pos')) pos.line X.env=pure false:=by rfl)
 (hf:X.fn x=true\/X.env.scope.names.lookup x=some .local:=by first | exact .inl rfl | exact .inr rfl | assumption):SD X (.Assign [.Name x pos'] e pos) (xE m i f):=by
 obtain⟨t,p,r⟩:=he
 refine⟨_,Wi hN hi hx p hs hf,λFb Hb F H ρ σ E rl k=>?_⟩
 unfold xE at k
 cases h:vEv m f ρ with
 | none=>rw[h]at k;exact k.elim
 | some d =>
  rw[h]at k
  exact r.at rl h λF' H' v g av=>k F' H' _ ((rl.grow g).set av)
noncomputable def zb7 (f:Ev->Option D):SE->Ctl:=fun ρ=>match f (visG ρ) with
 | some _=>.nx ρ
 | none=>.no
theorem zeJ {f:Ev->Option D}(he:ED X e f)(hs:swapsWith e none pos.line X.env=pure false:=by rfl):SD X (.Expr e pos) (zb7 f):=by
 obtain⟨t,p,r⟩:=he
 refine⟨_,zeg p hs,λFb Hb F H ρ σ E rl k=>?_⟩
 unfold zb7 at k
 cases h:f (visG ρ) with
 | none=>rw[h]at k;exact k.elim
 | some d =>
  rw[h]at k
  exact r σ _ _ H d _ rl.gh rl.visG h λF' H' v g av=>k _ H' σ (rl.grow (rl.back g).1)
noncomputable def Vm (i:Nat)(f:Ev->Option (List D)):SE->Ctl:=fun ρ=>match f (visF ρ) with
 | some ds=>.nx (ρ.set i (.o ds))
 | none=>.no
theorem Wh {i:Nat}{x:Str}{f:Ev->Option (List D)}(hN:X.N.Nodup)(hi:X.N[i]?=some x)(hx:Loc X.env.scope x)(he:FL X e f)(hs:swapsWith e (some (.Name x pos')) pos.line X.env=pure false:=by rfl)
 (hf:X.fn x=true\/X.env.scope.names.lookup x=some .local:=by first | exact .inl rfl | exact .inr rfl | assumption):SD X (.Assign [.Name x pos'] e pos) (Vm i f):=by
 obtain⟨t,p,r⟩:=he
 refine⟨_,Wi hN hi hx p hs hf,λFb Hb F H ρ σ E rl k=>?_⟩
 unfold Vm at k
 cases h:f (visF ρ) with
 | none=>rw[h]at k;exact k.elim
 | some ds =>
  rw[h]at k
  refine r σ _ _ H ds _ rl.gr.fh rl.visF h λF' H' q xs g h0 hF hH hx=>?_
  have rl2:=rl.grow g
  exact k F' H' _ (rl2.setO (rl.notbase h0) hF hH hx (rl.notown h0))
noncomputable def sIf (t:Ev->Option Bool)(g h:SE->Ctl):SE->Ctl:=fun ρ=>match t (visG ρ) with
 | some true=>g ρ
 | some false=>h ρ
 | none=>.no
theorem yW {as bs:List Stmt}{t:Ev->Option Bool}{g h:SE->Ctl}(hc:TD X c t)(ha:SDs X as g)(hb:SDs X bs h):SD X (.If c as bs pos) (sIf t g h):=by
 obtain⟨tc,pc,rc⟩:=hc
 obtain⟨ta,pa,ra⟩:=ha
 obtain⟨tb,pb,rb⟩:=hb
 refine⟨_,zl7 pc pa pb,λFb Hb F H ρ σ E rl k=>?_⟩
 unfold sIf at k
 cases h:t (visG ρ) with
 | none=>rw[h]at k;exact k.elim
 | some d =>
  rw[h]at k
  refine rc σ _ _ H d _ rl.gh rl.visG h λF' H' g=>?_
  have rl2:=rl.grow (rl.back g).1
  cases d with
  | true=>rw[if_pos rfl];exact ra Fb Hb _ H' ρ σ E rl2 k
  | false=>rw[if_neg Bool.false_ne_true];exact rb Fb Hb _ H' ρ σ E rl2 k
noncomputable def vO (t:Ev->Option Bool)(g:SE->Ctl):Nat->SE->Ctl
 | 0,_=>.no
 | n+1,ρ=>match t (visG ρ) with
  | some true=>match g ρ with
   | .nx ρ'=>vO t g n ρ'
   | .ct ρ'=>vO t g n ρ'
   | .bk ρ'=>.nx ρ'
   | .rt d=>.rt d
   | .no=>.no
  | some false=>.nx ρ
  | none=>.no
theorem zb2 {as:List Stmt}{t:Ev->Option Bool}{g:SE->Ctl}(n:Nat)(hp:PassesOwn (model X.prog X.w) X.A X.env X.xe)(hc:TD X c t)(ha:SDs X as g):SD X (.While c as [] pos) (vO t g n):=by
 obtain⟨tc,pc,rc⟩:=hc
 obtain⟨ta,pa,ra⟩:=ha
 refine⟨_,zf7 hp pc pa,λFb Hb F H ρ σ E rl k=>?_⟩
 refine⟨λm σ H=>∃ F ρ,Rl Fb Hb F H ρ σ/\SOk Fb Hb E (vO t g m ρ),⟨n,F,ρ,rl,k⟩,?_⟩
 rintro m σ H ⟨F,ρ,rl,k⟩
 cases m with
 | zero=>exact k.elim
 | succ m =>
  unfold vO at k
  cases h:t (visG ρ) with
  | none=>rw[h]at k;exact k.elim
  | some d =>
   rw[h]at k
   refine rc σ _ _ H d _ rl.gh rl.visG h λF' H' gr=>?_
   have rl2:=rl.grow (rl.back gr).1
   cases d with
   | false=>rw[if_neg Bool.false_ne_true];exact k _ H' σ rl2
   | true =>
    rw[if_pos rfl]
    refine⟨fun σ H=>∃ F ρ,Rl Fb Hb F H ρ σ/\SOk Fb Hb E (vO t g m ρ),fun σ' H' w=>⟨m,Nat.lt_succ_self m,w⟩,?_⟩
    refine ra Fb Hb _ H' ρ σ _ rl2 ?_
    dsimp only at k
    cases hg:g ρ with
    | nx ρ'=>rw[hg]at k;exact λF2 H2 σ2 r2=>⟨F2,ρ',r2,k⟩
    | ct ρ'=>rw[hg]at k;exact λF2 H2 σ2 r2=>⟨F2,ρ',r2,k⟩
    | bk ρ'=>rw[hg]at k;exact k
    | rt d=>rw[hg]at k;exact k
    | no=>rw[hg]at k;exact k.elim
noncomputable def RG (t:TG)(b:D->SE->Option SE):Prop:=∀ (Fb Hb F H:Hp) (ρ ρ':SE) (σ:St) (d:D) (v:V) (Q:St->Hp->Prop),Rl Fb Hb F H ρ σ->At F d v->b d ρ=some ρ'->(∀ σ',Rl Fb Hb F H ρ' σ'->Q σ' H)->t v σ H Q
noncomputable def RGs (t:TGs)(b:List D->SE->Option SE):Prop:=∀ (Fb Hb F H:Hp) (ρ ρ':SE) (σ:St) (ds:List D) (vs:List V) (Q:St->Hp->Prop),Rl Fb Hb F H ρ σ->AtL F ds vs->b ds ρ=some ρ'->(∀ σ',Rl Fb Hb F H ρ' σ'->Q σ' H)->t vs σ H Q
noncomputable def BD (X:Cx)(tg:Expr)(b:D->SE->Option SE):Prop:=∃ t,PG X tg t/\RG t b
noncomputable def BDs (X:Cx)(tgs:List Expr)(b:List D->SE->Option SE):Prop:=∃ t,PGs X tgs t/\RGs t b
noncomputable def yX (i:Nat):D->SE->Option SE:=λd ρ=>some (ρ.set i (.v d))
theorem zU {i:Nat}(h:PG X a (YR i)):BD X a (yX i):=by
 refine⟨_,h,λFb Hb F H ρ ρ' σ d v Q rl av e q=>?_⟩
 cases e
 exact q _ (rl.set av)
noncomputable def zbm:List D->SE->Option SE
 | [],ρ=>some ρ
 | _,_=>none
noncomputable def vn (b:D->SE->Option SE)(c:List D->SE->Option SE):List D->SE->Option SE
 | d::ds,ρ=>(b d ρ).bind (c ds)
 | [],_=>none
theorem Xx:BDs X [] zbm:=by
 refine⟨_,Vi,λFb Hb F H ρ ρ' σ ds vs Q rl av e q=>?_⟩
 cases ds with
 | nil=>cases e;exact⟨av.nil_inv,q _ rl⟩
 | cons _ _=>cases e
theorem xw {es:List Expr}{b:D->SE->Option SE}{c:List D->SE->Option SE}(h1:BD X e b)(h2:BDs X es c)
 (hs:(assignEach (e::es) X.env).map (·.2)=assign e X.env::(assignEach es X.env).map (·.2):=by rfl):BDs X (e::es) (vn b c):=by
 obtain⟨t,p,r⟩:=h1
 obtain⟨u,p2,r2⟩:=h2
 refine⟨_,ve p p2 hs,λFb Hb F H ρ ρ' σ ds vs Q rl av e q=>?_⟩
 cases ds with
 | nil=>cases e
 | cons d ds =>
  obtain⟨x,xs,rfl,a1,a2⟩:=av.cons_inv
  obtain⟨ρ1,e1,e2⟩:=Option.bind_eq_some_iff.mp e
  exact⟨x,xs,rfl,r Fb Hb F H ρ ρ1 σ d x _ rl a1 e1 fun σ1 rl1=>r2 Fb Hb F H ρ1 ρ' σ1 ds xs Q rl1 a2 e2 q⟩
noncomputable def zav (n:Nat)(c:List D->SE->Option SE):D->SE->Option SE
 | .tup ds,ρ=>if ds.length=n then c ds ρ else none
 | _,_=>none
theorem VM {es:List Expr}{k:Nat}{n:Nat}{c:List D->SE->Option SE}(hc:X.calm=true)(h:BDs X es c)
 (hn:(assignEach es X.env).length=n:=by rfl) (hst:(assignEach es X.env).findIdx? (·.1)=none:=by rfl):BD X (.Tuple es k pos) (zav n c):=by
 obtain⟨t,p,r⟩:=h
 refine⟨_,zbo hc p hn hst,λFb Hb F H ρ ρ' σ d v Q rl av e q=>?_⟩
 cases d with
 | tup ds =>
  unfold zav at e
  dsimp only at e
  split at e
  .rename_i hl
   obtain⟨a,xs,rfl,hx,al⟩:=av.tup_inv
   exact⟨a,xs,rfl,SqT.of (rl.gr.fh _ _ hx),by rw[al.length];exact hl,r Fb Hb F H ρ ρ' σ ds xs Q rl al e q⟩
  .cases e
 | _=>cases e
noncomputable def zg0 (m:Bool)(f:Ev->Option D)(b:D->SE->Option SE):SE->Ctl:=fun ρ=>match (vEv m f ρ).bind λd=>b d ρ with
 | some ρ'=>.nx ρ'
 | none=>.no
noncomputable def Ve (m:Bool)(i:Nat)(fk fe:Ev->Option D):SE->Ctl:=fun ρ=>match (vEv m fe ρ).bind λd=>(fk (visG ρ)).bind λk=>match ρ[i]?,k with
 | some (.o ds),.int k=>(ixN ds.length k).map λj=>ρ.set i (.o (ds.set j d))
 | _,_=>none with
 | some ρ'=>.nx ρ'
 | none=>.no
theorem zad {m:Bool}{i:Nat}{ko:Expr}{fk fe:Ev->Option D}(he:ED X e fe)(ho:PE X a (zir i))(hk:ED X ko fk)(hs:swapsWithSole [.Subscript a ko pos'] e pos.line X.env=pure false:=by rfl)(hw:swappedStores [.Subscript a ko pos'] e X.env=pure none:=by rfl)
 (h1:(assignEach [.Subscript a ko pos'] X.env).map (·.2)=[assign (.Subscript a ko pos') X.env]:=by rfl)
 (ha:∀ v,assign (.Subscript a ko pos') X.env v=(do
  let ov<-holding [v] (eval a X.env)
  let iv<-holding [v,ov] (eval ko X.env)
  standAt pos'
  holding [v,ov,iv] (setItem ov iv v)
  release [v,ov,iv] []):=by intro _;rfl):SD X (.Assign [.Subscript a ko pos'] e pos) (Ve m i fk fe):=by
 obtain⟨t,p,r⟩:=he
 obtain⟨tk,pk,rk⟩:=hk
 refine⟨_,zjG p (zkE ho pk zfM ha) hs hw h1,λFb Hb F H ρ σ E rl k=>?_⟩
 unfold Ve at k
 cases h:(vEv m fe ρ).bind λd=>(fk (visG ρ)).bind λk=>match ρ[i]?,k with
  | some (.o ds),.int k=>(ixN ds.length k).map λj=>ρ.set i (.o (ds.set j d))
  | _,_=>none with
 | none=>rw[h]at k;exact k.elim
 | some ρ' =>
  rw[h]at k
  obtain⟨d,e1,e2⟩:=Option.bind_eq_some_iff.mp h
  obtain⟨kd,e3,e2⟩:=Option.bind_eq_some_iff.mp e2
  cases hs:ρ[i]? with
  | none=>rw[hs]at e2;cases e2
  | some sl =>
   rw[hs]at e2
   cases sl with
   | no=>cases e2
   | v _=>cases e2
   | m _ _ _=>cases e2
   | o ds =>
    cases kd with
    | int kk =>
     obtain⟨j,e4,rfl⟩:=Option.map_eq_some_iff.mp e2
     refine r.at rl e1 λF' H' v g av=>?_
     have rl2:=rl.grow g
     obtain⟨q,xs,f1,_⟩:=rl2.owns i ds hs
     refine⟨_,f1,?_⟩
     refine rk σ _ _ H' _ _ rl2.gh rl2.visG e3 λF3 H3 v3 g3 av3=>?_
     obtain⟨gb,_⟩:=rl2.back g3
     have rl3:=rl2.grow gb
     obtain⟨q3,xs3,f1',_,_,f4,f5⟩:=rl3.owns i ds hs
     rw[f1]at f1'
     cases f1'
     refine⟨q,xs3,kk,j,rfl,av3.int_inv,f4,by rw[f5.length];exact e4,?_⟩
     exact k _ _ σ (rl3.mutate hs f1 (f5.set j (av.mono gb.ff)))
    | _=>cases e2
end
end Dl
namespace L2
open PySem PySem.Spec PyProof.Rows
section
variable {X:Cx}{tg:Expr}
noncomputable def iSeq (K:PySem.W.Frag)(tl:TE):TI:=fun σ H R=>tl σ H λx H1=>(∃ a,x=.ref a/\(∃ xs,SqL K H1 a xs)/\R (Itl K a) H1)\/(∃ a,x=.ref a/\(∃ xs,SqT K H1 a xs)/\R (Itt K a) H1)
theorem zkF {l:Expr}{tl:TE}(hl:PE X l tl):PI X tg l (iSeq X.K tl):=by
 intro pins s σ H R I h
 refine thn (hl pins s σ H _ I h) λv s1 hh9=>?_
 obtain⟨x,H1,I1,r1,q1⟩:=hh9
 rcases q1 with ⟨a,e,⟨xs,hq⟩,q⟩ | ⟨a,e,⟨xs,hq⟩,q⟩
 .subst e
  cases r1
  obtain⟨its,rv,p,hz⟩:=I1.list hq
  refine wpAny_pyIter_list p.isList ?_
  refine⟨s1.heap.objs.size,[s1.heap.objs.size],_,_,H1,rfl,I1.kept (t':=s1.toks) λb o e=>Heap.get?_push_of_some _ e,zdx a _,⟨_,Heap.get?_push_size _ rfl,rfl,rfl⟩,λb hb=>?_,q⟩
  have e:b=s1.heap.objs.size:=by simpa using hb
  subst e
  exact I1.fpOk (Nat.le_refl _) (I1.hok.fresh (Nat.le_refl _))
 .subst e
  cases r1
  obtain⟨its,rv,p,hz⟩:=I1.tuple hq
  refine wpAny_pyIter_tuple (show s1.heap.IsTuple a its.toArray from p) ?_
  refine⟨s1.heap.objs.size,[s1.heap.objs.size],_,_,H1,rfl,I1.kept (t':=s1.toks) λb o e=>Heap.get?_push_of_some _ e,zcW a _,⟨_,Heap.get?_push_size _ rfl,rfl,rfl⟩,λb hb=>?_,q⟩
  have e:b=s1.heap.objs.size:=by simpa using hb
  subst e
  exact I1.fpOk (Nat.le_refl _) (I1.hok.fresh (Nat.le_refl _))
end
end L2
namespace Dl
open PySem L2
variable [KK]
noncomputable def zjt (J:It)(F:Hp)(ds:List D):Prop:=∀ (i:Nat) (F2 H2:Hp),yq F F2->yq F2 H2->(i=ds.length->J.stop i H2) /\
 ∀ d,ds[i]?=some d->J.go i H2/\∀ x H3,J.yld i H2 x H3->∃ F3,Gr F2 H2 F3 H3/\At F3 d x
noncomputable def RI (wi:TI)(f:Ev->Option (List D)):Prop :=
 ∀ (σ:St) (ρ:Ev) (F H:Hp) (ds:List D) (R:It->Hp->Prop),yq F H->VAt F ρ σ->f ρ=some ds->(∀ F' H' J,Gr F H F' H'->zjt J F' ds->R J H')->wi σ H R
noncomputable def ID (X:Cx)(tg iter:Expr)(f:Ev->Option (List D)):Prop:=∃ wi,PI X tg iter wi/\RI wi f
noncomputable def wf:D->Option (List D)
 | .lst ds=>some ds
 | .tup ds=>some ds
 | _=>none
section
variable {X:Cx}{tg a b c e:Expr}{pos:Pos}
theorem zkc {K:PySem.W.Frag}{F:Hp}{p:Addr}{xs:List V}{ds:List D}(h:F p=some (.lst xs))(al:AtL F ds xs):zjt (Itl K p) F ds:=by
 intro i F2 H2 s1 s2
 have q:SqL K H2 p xs:=SqL.of (s2 _ _ (s1 _ _ h))
 refine⟨λhl=>⟨xs,q,by rw[al.length,hl];exact Nat.le_refl _⟩,λd hd=>?_⟩
 obtain⟨x,hx,ax⟩:=al.get hd
 refine⟨⟨xs,x,q,hx⟩,λy H3 hy=>?_⟩
 obtain⟨rfl,hy⟩:=hy
 have:=hy xs q
 rw[hx]at this
 cases this
 exact⟨F2,.refl s2,ax.mono s1⟩
theorem zj7 {K:PySem.W.Frag}{F:Hp}{p:Addr}{xs:List V}{ds:List D}(h:F p=some (.tup xs))(al:AtL F ds xs):zjt (Itt K p) F ds:=by
 intro i F2 H2 s1 s2
 have q:SqT K H2 p xs:=SqT.of (s2 _ _ (s1 _ _ h))
 refine⟨λhl=>⟨xs,q,by rw[al.length,hl];exact Nat.le_refl _⟩,λd hd=>?_⟩
 obtain⟨x,hx,ax⟩:=al.get hd
 refine⟨⟨xs,x,q,hx⟩,λy H3 hy=>?_⟩
 obtain⟨rfl,hy⟩:=hy
 have:=hy xs q
 rw[hx]at this
 cases this
 exact⟨F2,.refl s2,ax.mono s1⟩
noncomputable def iOf (f:Ev->Option D):Ev->Option (List D):=fun ρ=>(f ρ).bind wf
theorem xB {f:Ev->Option D}(ha:ED X a f):ID X tg a (iOf f):=by
 obtain⟨t,p,r⟩:=ha
 refine⟨_,zkF p,fun σ ρ F H ds R s va e q=>?_⟩
 obtain⟨d,e1,e2⟩:=Option.bind_eq_some_iff.mp e
 refine r σ ρ F H d _ s va e1 λF1 H1 v g1 a1=>?_
 cases d <;> try cases e2
 .obtain⟨p,xs,rfl,hx,al⟩:=a1.tup_inv
  exact .inr ⟨p,rfl,⟨xs,SqT.of (g1.fh _ _ hx)⟩,q F1 H1 _ g1 (zj7 hx al)⟩
 .obtain⟨p,xs,rfl,hx,al⟩:=a1.lst_inv
  exact .inl ⟨p,rfl,⟨xs,SqL.of (g1.fh _ _ hx)⟩,q F1 H1 _ g1 (zkc hx al)⟩
noncomputable def ZN (lo:Int)(n:Nat):List D:=(List.range n).map λk:Nat=>.int (lo+k)
theorem zhf {F:Hp}(lo:Int)(n:Nat):zjt (Itr lo n) F (ZN lo n):=by
 intro i F2 H2 s1 s2
 have hlen:(ZN lo n).length=n:=by unfold ZN;simp
 refine⟨λhl=>by rw[hlen]at hl;rw[hl];exact Nat.le_refl _,λd hd=>?_⟩
 have hi:i < n:=by
  have:=(List.getElem?_eq_some_iff.mp hd).1
  omega
 refine⟨hi,λy H3 hy=>?_⟩
 obtain⟨rfl,rfl⟩:=hy
 refine⟨F2,.refl s2,?_⟩
 unfold ZN at hd
 rw[List.getElem?_map,List.getElem?_range hi]at hd
 cases hd
 exact .int
@[irreducible] noncomputable def zc2 (j:Int):Bool:=decide (-(2 ^ 62)<=j/\j < 2 ^ 62)
omit [KK] in
theorem yr {j:Int}:zc2 j=true↔-(2 ^ 62)<=j/\j < 2 ^ 62:=by unfold zc2;exact decide_eq_true_iff
noncomputable def ZB:List D->Option (List D)
 | [.int j]=>if zc2 j=true then some (ZN 0 j.toNat)else none
 | _=>none
noncomputable def VQ:List D->Option (List D)
 | [.int i,.int j]=>if zc2 i=true/\zc2 j=true then some (ZN i (j - i).toNat)else none
 | _=>none
noncomputable def zg5 (g:List D->Option (List D))(f:Ev->Option (List D)):Ev->Option (List D):=fun ρ=>(f ρ).bind g
noncomputable def XX (n:Nat):List D->List D
 | []=>[]
 | d::ds=>.tup [.int n,d]::XX (n+1) ds
omit [KK] in
theorem Y7 (ds:List D):∀ (n i:Nat),(XX n ds)[i]?=(ds[i]?).map λd=>.tup [.int ((n+i:Nat):Int),d]:=by
 induction ds with
 | nil=>intro n i;simp[XX]
 | cons d ds ih =>
  intro n i
  cases i with
  | zero=>simp[XX]
  | succ i =>
   show(XX (n+1) ds)[i]?=(ds[i]?).map _
   rw[ih]
   have:n+1+i=n+(i+1):=by omega
   rw[this]
omit [KK] in
theorem vS (ds:List D):∀ n,(XX n ds).length=ds.length:=by
 induction ds with
 | nil=>intro n;rfl
 | cons d ds ih=>intro n;simp[XX,ih]
noncomputable def vR (f:Ev->Option (List D)):Ev->Option (List D):=fun ρ=>(f ρ).bind λas=>match as with
 | [d]=>(wf d).map (XX 0)
 | _=>none
theorem zdq {es:List Expr} {k:Nat} {tp p:Pos} {f:Ev->Option (List D)} (hg:Gl X "enumerate") (hm:X.mg "enumerate"=none) (hb:bootBuiltins "enumerate"=some (.type "enumerate")) (ha:AD X [a] f)
 (hs:starEach [a] X.env=[(false,eval a X.env)]:=by rfl):ID X (.Tuple es k tp) (.Call (.Name "enumerate" p) [a] [] pos) (vR f):=by
 obtain⟨t,pa,r⟩:=ha
 refine⟨_,ziF hg hm hb pa hs,fun σ ρ F H ds R s va e q=>?_⟩
 obtain⟨as,e1,e2⟩:=Option.bind_eq_some_iff.mp e
 refine r σ ρ F H as _ s va e1 λF1 H1 v g1 a1=>?_
 split at e2
 .obtain⟨x,r',rfl,ax,ar⟩:=a1.cons_inv
  cases ar.nil_inv
  obtain⟨es,e3,rfl⟩:=Option.map_eq_some_iff.mp e2
  rename_i d
  cases d <;> try cases e3
  .obtain⟨p,xs,rfl,hx,al⟩:=ax.tup_inv
   refine⟨p,rfl,.inr ⟨xs,SqT.of (g1.fh _ _ hx),q F1 H1 _ g1 λi F2 H2 s1 s2=>?_⟩⟩
   have qq:SqT X.K H2 p xs:=SqT.of (s2 _ _ (s1 _ _ hx))
   refine⟨λhl=>⟨xs,qq,by rw[al.length,hl,vS];exact Nat.le_refl _⟩,λd hd=>?_⟩
   rw[Y7]at hd
   obtain⟨d',hd',rfl⟩:=Option.map_eq_some_iff.mp hd
   obtain⟨x,hxi,ax⟩:=al.get hd'
   refine⟨⟨xs,x,qq,hxi⟩,λy H3 hy=>?_⟩
   obtain⟨T,y,rfl,hT,rfl,hy⟩:=hy
   have:=hy xs qq
   rw[hxi]at this
   cases this
   have g3:=Gr.alloc s2 hT (.tup [.int i,x])
   exact⟨_,g3,.tup zo (.cons (by rw[Nat.zero_add];exact .int) (.cons (ax.mono (s1.trans g3.ff)) .nil))⟩
  .obtain⟨p,xs,rfl,hx,al⟩:=ax.lst_inv
   refine⟨p,rfl,.inl ⟨xs,g1.fh _ _ hx,q F1 H1 _ g1 λi F2 H2 s1 s2=>?_⟩⟩
   have qq:SqL X.K H2 p xs:=SqL.of (s2 _ _ (s1 _ _ hx))
   refine⟨λhl=>⟨xs,qq,by rw[al.length,hl,vS];exact Nat.le_refl _⟩,λd hd=>?_⟩
   rw[Y7]at hd
   obtain⟨d',hd',rfl⟩:=Option.map_eq_some_iff.mp hd
   obtain⟨x,hxi,ax⟩:=al.get hd'
   refine⟨⟨xs,x,qq,hxi⟩,λy H3 hy=>?_⟩
   obtain⟨T,y,rfl,hT,rfl,hy⟩:=hy
   have:=hy xs qq
   rw[hxi]at this
   cases this
   have g3:=Gr.alloc s2 hT (.tup [.int i,x])
   exact⟨_,g3,.tup zo (.cons (by rw[Nat.zero_add];exact .int) (.cons (ax.mono (s1.trans g3.ff)) .nil))⟩
 .cases e2
noncomputable def hb2 (F1 Hb:Hp):Hp:=λp=>match F1 p with
 | some o=>some o
 | none=>Hb p
theorem ZW {F1 Hb:Hp}{p:Addr}(h:F1 p=none):hb2 F1 Hb p=Hb p:=by unfold hb2;rw[h]
theorem zfC {F1 Hb:Hp}{p:Addr}{o:HO}(h:F1 p=some o):hb2 F1 Hb p=some o:=by unfold hb2;rw[h]
theorem Gr.up {Fb Hb F1 H1 F H:Hp}(g1:Gr Fb Hb F1 H1)(g:Gr F1 (hb2 F1 Hb) F H):Gr Fb Hb F H:=by
 refine⟨g1.ff.trans g.ff,g.fh,λp o e1 e2=>?_⟩
 rcases(g1.kp p o e1 e2).1 with n | ⟨n1,n2⟩
 .exact g.kp p o n (by rw[ZW n];exact e2)
 .exact⟨.inr ⟨n1,g.ff _ _ n2⟩,g.fh _ _ (g.ff _ _ n2)⟩
theorem Gr.dn {Fb Hb F1 F H:Hp}(g:Gr Fb Hb F H)(s1:yq Fb F1)(s:yq F1 F):Gr F1 (hb2 F1 Hb) F H:=by
 refine⟨s,g.fh,λp o e1 e2=>?_⟩
 rw[ZW e1]at e2
 exact g.kp p o (s1.free e1) e2
theorem Rl.up {Fb Hb F1 H1 F H:Hp}{ρ:SE}{σ:St}(g1:Gr Fb Hb F1 H1)(r:Rl F1 (hb2 F1 Hb) F H ρ σ):Rl Fb Hb F H ρ σ:=by
 refine⟨g1.up r.gr,r.vals,λi s e ho=>?_,r.dis,r.len⟩
 obtain⟨p,o,e1,e2,e3⟩:=r.ows i s e ho
 refine⟨p,o,e1,?_,e3⟩
 cases h:F1 p with
 | none=>rw[ZW h]at e2;exact e2
 | some o=>rw[zfC h]at e2;cases e2
theorem Rl.dn {Fb Hb F1 F H:Hp}{ρ:SE}{σ:St}(r:Rl Fb Hb F H ρ σ)(s1:yq Fb F1)(s:yq F1 F):Rl F1 (hb2 F1 Hb) F H ρ σ:=by
 refine⟨r.gr.dn s1 s,r.vals,λi t e ho=>?_,r.dis,r.len⟩
 obtain⟨p,o,e1,e2,e3,e4⟩:=r.ows i t e ho
 refine⟨p,o,e1,?_,e3,e4⟩
 rw[ZW (s.free e3)]
 exact e2
noncomputable def zd9 (b:D->SE->Option SE)(g:SE->Ctl):List D->SE->Ctl
 | [],ρ=>.nx ρ
 | d::ds,ρ=>match b d ρ with
  | none=>.no
  | some ρ1=>match g ρ1 with
   | .nx ρ'=>zd9 b g ds ρ'
   | .ct ρ'=>zd9 b g ds ρ'
   | .bk ρ'=>.nx ρ'
   | .rt d=>.rt d
   | .no=>.no
noncomputable def WK (f:Ev->Option (List D))(b:D->SE->Option SE)(g:SE->Ctl):SE->Ctl:=fun ρ=>match f (visF ρ) with
 | some ds=>zd9 b g ds ρ
 | none=>.no
theorem zd3 {Fb Hb F1 H1:Hp}{ρ:SE}{σ:St}{E:zgJ}{J:It}{g:TG}{tb:TS}{ds:List D}{b:D->SE->Option SE}{gb:SE->Ctl}(hit:zjt J F1 ds)(rg:RG g b)(rb:RS tb gb)(rl0:Rl Fb Hb F1 H1 ρ σ)(k:SOk Fb Hb E (zd9 b gb ds ρ)) :
 ∃ W:Nat->Nat->St->Hp->Prop,(∃ m,W 0 m σ H1)/\∀ i m σ H,W i m σ H ->
  (J.stop i H/\E.nx σ H)\/(J.go i H/\∃ N:St->Hp->Prop,(∀ σ' H',N σ' H'->∃ m',m' < m/\W (i+1) m' σ' H')/\∀ x H',J.yld i H x H'->g x σ H' fun σ2 H2=>tb { E with nx:=N,ct:=N,bk:=E.nx } σ2 H2):=by
 refine⟨λi m σ H=>m=ds.length - i/\i<=ds.length/\∃ F ρ,yq F1 F/\Rl Fb Hb F H ρ σ/\SOk Fb Hb E (zd9 b gb (ds.drop i) ρ),⟨ds.length,by simp,Nat.zero_le _,F1,ρ,yq.refl _,rl0,k⟩,?_⟩
 rintro i m σ H ⟨rfl,hi,F,ρ,s1,rl,k⟩
 obtain⟨stop,go⟩:=hit i F H s1 rl.gr.fh
 by_cases hlt:i < ds.length
 .have hd:ds.drop i=ds[i]::ds.drop (i+1):=List.drop_eq_getElem_cons hlt
  rw[hd]at k
  unfold zd9 at k
  obtain⟨g1,g2⟩:=go ds[i] (by simp[hlt])
  refine .inr ⟨g1,fun σ H=>∃ F ρ,yq F1 F/\Rl Fb Hb F H ρ σ/\SOk Fb Hb E (zd9 b gb (ds.drop (i+1)) ρ),fun σ' H' w=>⟨ds.length - (i+1),by omega,rfl,hlt,w⟩,λx H' hy=>?_⟩
  obtain⟨F3,g3,a3⟩:=g2 x H' hy
  cases hb:b ds[i] ρ with
  | none=>rw[hb]at k;exact k.elim
  | some ρ1 =>
   rw[hb]at k
   dsimp only at k
   refine rg Fb Hb F3 H' ρ ρ1 σ _ x _ (rl.grow g3) a3 hb fun σ2 rl2=>?_
   have s3:=s1.trans g3.ff
   refine rb F1 (hb2 F1 Hb) F3 H' ρ1 σ2 _ (rl2.dn rl0.gr.ff s3) ?_
   cases hg:gb ρ1 with
   | nx ρ'=>rw[hg]at k;exact λF4 H4 σ4 r4=>⟨F4,ρ',r4.gr.ff,r4.up rl0.gr,k⟩
   | ct ρ'=>rw[hg]at k;exact λF4 H4 σ4 r4=>⟨F4,ρ',r4.gr.ff,r4.up rl0.gr,k⟩
   | bk ρ'=>rw[hg]at k;exact λF4 H4 σ4 r4=>k F4 H4 σ4 (r4.up rl0.gr)
   | rt d=>rw[hg]at k;exact λF4 H4 v g4 a4=>k F4 H4 v (rl0.gr.up g4) a4
   | no=>rw[hg]at k;exact k.elim
 .have e:i=ds.length:=by omega
  subst e
  rw[List.drop_length]at k
  exact .inl ⟨stop rfl,k F H σ rl⟩
theorem Xu {iter:Expr}{body:List Stmt}{f:Ev->Option (List D)}{b:D->SE->Option SE}{g:SE->Ctl}(hp:PassesOwn (model X.prog X.w) X.A X.env X.xe)(hc:X.calm=true)(hi:ID X tg iter f)(hg:BD X tg b)(hb:SDs X body g)
 (hs:∀ x,foldedSetIterable iter X.env x=pure x:=by intro _;rfl):SD X (.For tg iter body [] pos) (WK f b g):=by
 obtain⟨wi,pi,ri⟩:=hi
 obtain⟨tg',pg,rg⟩:=hg
 obtain⟨tb,pb,rb⟩:=hb
 refine⟨_,zdH hp hc pi pg pb hs,λFb Hb F H ρ σ E rl k=>?_⟩
 unfold WK at k
 cases h:f (visF ρ) with
 | none=>rw[h]at k;exact k.elim
 | some ds =>
  rw[h]at k
  exact ri σ _ _ H ds _ rl.gr.fh rl.visF h λF1 H1 J g1 ok=>zd3 ok rg rb (rl.grow g1) k
end
noncomputable def lcD (b:D->Option (List (Option D)))(t:Ev->Option Bool)(f:Ev->Option D)(ρ:Ev):List D->Option (List D)
 | []=>some []
 | d::ds=>(b d).bind λown=>(t (own++ρ)).bind λc=>if c=true then (f (own++ρ)).bind λy=>(lcD b t f ρ ds).map (y::·)else lcD b t f ρ ds
noncomputable def fLC (i:Ev->Option (List D))(b:D->Option (List (Option D)))(t:Ev->Option Bool)(f:Ev->Option D):Ev->Option (List D):=fun ρ=>(i ρ).bind λds=>if lim ds.length=true then lcD b t f ρ ds else none
noncomputable def b1:D->Option (List (Option D)):=λd=>some [some d]
noncomputable def b2:D->Option (List (Option D))
 | .tup [x,y]=>some [some x,some y]
 | _=>none
noncomputable def RB (n:Nat)(t:TG)(b:D->Option (List (Option D))):Prop:=∀ (σ:St) (ρ:Ev) (F H:Hp) (d:D) (v:V) (own:List (Option D)) (Q:St->Hp->Prop),yq F H->VAt F ρ σ->At F d v->b d=some own->(∀ σ',VAt F (own++ρ) σ'->Q σ' H)->t v (List.replicate n none++σ) H Q
noncomputable def yz:Ev->Option Bool:=λ_=>some true
theorem zhh:RT tYes yz:=λ_ _ _ _ _ _ s _ e q=>by cases e;exact q _ _ (.refl s)
theorem zfU {wi:TI}{n:Nat}{g:TG}{tt:TT}{te:TE}{fi:Ev->Option (List D)}{b:D->Option (List (Option D))}{ft:Ev->Option Bool}{fe:Ev->Option D}(ri:RI wi fi)(rg:RB n g b)(rt:RT tt ft)(re:RE te fe) :
 RF (tLC wi n g tt te) (fLC fi b ft fe):=by
 intro σ ρ F H out Q s va e q
 obtain⟨ds,e1,e2⟩:=Option.bind_eq_some_iff.mp e
 split at e2 <;> try cases e2
 rename_i hlim
 have hlim:ds.length<=sizeLine:=of_decide_eq_true hlim
 refine ri σ ρ F H ds _ s va e1 λF1 H1 J g1 ok=>?_
 intro P hP
 have hF1:F1 P=none:=g1.fh.free hP
 have hH0:H P=none:=by
  cases e:H P with
  | none=>rfl
  | some o =>
   cases e2:F P with
   | none=>rw[(g1.kp P o e2 e).2]at hP;cases hP
   | some u=>rw[g1.fh _ _ (g1.ff _ _ e2)]at hP;cases hP
 refine⟨λi m ys H2=>m=ds.length - i/\i<=ds.length/\∃ F2 done,Gr F1 H1 F2 H2/\Gr F1 (upd H1 P (.lst [])) F2 (upd H2 P (.lst []))/\F2 P=none/\H2 P=some (.lst ys)/\AtL F2 done ys/\done.length<=i/\∃ more,lcD b ft fe ρ (ds.drop i)=some more/\done++more=out,⟨ds.length,by simp,Nat.zero_le _,F1,[],Gr.hide g1.fh hP _,?_,hF1,zo,.nil,Nat.zero_le _,out,e2,rfl⟩,?_⟩
 .rw[zaP]
  exact .refl λb u z=>by rw[zp (zm z hF1)];exact g1.fh b u z
 rintro i m ys H2 ⟨rfl,hi,F2,done,g2,g2',hF2,hH2,al,hdl,more,hm,hout⟩
 obtain⟨stop,go⟩:=ok i F2 H2 g2.ff g2.fh
 by_cases hlt:i < ds.length
 .have hd:ds.drop i=ds[i]::ds.drop (i+1):=List.drop_eq_getElem_cons hlt
  rw[hd]at hm
  unfold lcD at hm
  obtain⟨own,hb,hm⟩:=Option.bind_eq_some_iff.mp hm
  obtain⟨cb,hc,hm⟩:=Option.bind_eq_some_iff.mp hm
  obtain⟨k1,k2⟩:=go ds[i] (by simp[hlt])
  refine .inr ⟨k1,by rw[al.length];omega,λx H3 hy=>?_⟩
  obtain⟨F3,g3,a3⟩:=k2 x H3 hy
  refine rg σ ρ F3 H3 ds[i] x own _ g3.fh (va.mono (g1.ff.trans (g2.ff.trans g3.ff))) a3 hb fun σ4 va4=>?_
  refine rt σ4 _ F3 H3 cb _ g3.fh va4 hc λF5 H5 g5=>?_
  have g35:=g3.trans g5
  obtain⟨n5,h5⟩:=g35.kl (λ_ e=>by cases e) hF2 hH2
  have keep2:∀ {F6 H6:Hp} {o:HO},Gr F2 H2 F6 H6->F6 P=none->Gr F1 (upd H1 P (.lst [])) F6 (upd (upd H6 P o) P (.lst [])):=λ{F6 H6 o} g6 n6=>by
   rw[zaP]
   refine⟨g2.ff.trans g6.ff,λb u z=>?_,λb u z1 z2=>?_⟩
   .rw[zp (zm z n6)];exact g6.fh b u z
   .by_cases hbP:b=P
    .subst hbP
     rw[zo]at z2 ⊢
     exact⟨.inl n6,z2⟩
    .rw[zp hbP]at z2 ⊢
     exact(g2.trans g6).kp b u z1 z2
  have keep1:∀ {F6 H6:Hp} {o:HO},Gr F2 H2 F6 H6->F6 P=none->Gr F1 H1 F6 (upd H6 P o):=λ{F6 H6 o} g6 n6=>by
   refine⟨g2.ff.trans g6.ff,λb u z=>?_,λb u z1 z2=>?_⟩
   .rw[zp (zm z n6)];exact g6.fh b u z
   .rw[zp (zm z2 hP)]
    exact(g2.trans g6).kp b u z1 z2
  cases cb with
  | false =>
   rw[if_neg Bool.false_ne_true]at hm ⊢
   have ups:H5=upd H5 P (.lst ys):=by
    funext b
    by_cases hbP:b=P
    .subst hbP;rw[zo];exact h5
    .rw[zp hbP]
   refine⟨ds.length - (i+1),by omega,rfl,hlt,F5,done,?_,?_,n5,h5,al.mono g35.ff,by omega,more,hm,hout⟩
   .rw[ups];exact keep1 g35 n5
   .have:=keep2 (o:=.lst ys) g35 n5
    rw[<-ups]at this
    exact this
  | true =>
   rw[if_pos rfl]at hm ⊢
   obtain⟨y,hy,hm⟩:=Option.bind_eq_some_iff.mp hm
   obtain⟨rest,hm',rfl⟩:=Option.map_eq_some_iff.mp hm
   refine re σ4 _ F5 H5 y _ g5.fh (va4.mono g5.ff) hy λF6 H6 v g6 a6=>?_
   have g36:=g35.trans g6
   obtain⟨n6,h6⟩:=g36.kl (λ_ e=>by cases e) hF2 hH2
   refine⟨h6,ds.length - (i+1),by omega,rfl,hlt,F6,done++[y],keep1 g36 n6,keep2 g36 n6,n6,zo,(al.mono g36.ff).snoc a6,by rw[List.length_append];simp;omega,rest,hm',by rw[<-hout,List.append_assoc];rfl⟩
 .have e:i=ds.length:=by omega
  subst e
  rw[List.drop_length]at hm
  cases hm
  rw[List.append_nil]at hout
  subst hout
  exact .inl ⟨stop rfl,q F2 H2 P ys (g1.trans g2) hH0 hF2 hH2 al⟩
theorem rb1:RB 1 (YR 0) b1:=by
 intro σ ρ F H d v own Q s va av e q
 cases e
 refine q _ λi d' h=>?_
 cases i with
 | zero=>cases h;exact⟨v,rfl,av⟩
 | succ i=>exact va i d' h
theorem rb2 {K:PySem.W.Frag}:RB 2 (zll K 2 (zay (YR 0) (zay (YR 1) zlc))) b2:=by
 intro σ ρ F H d v own Q s va av e q
 unfold b2 at e
 split at e <;> cases e
 obtain⟨p,xs,rfl,hx,al⟩:=av.tup_inv
 obtain⟨x,r,rfl,ax,al⟩:=al.cons_inv
 obtain⟨y,r,rfl,ay,al⟩:=al.cons_inv
 cases al.nil_inv
 refine⟨p,_,rfl,SqT.of (s _ _ hx),rfl,x,_,rfl,y,_,rfl,rfl,?_⟩
 refine q _ λi d' h=>?_
 match i,h with
 | 0,h=>cases h;exact⟨x,rfl,ax⟩
 | 1,h=>cases h;exact⟨y,rfl,ay⟩
 | i+2,h=>exact va i d' h
noncomputable def tCan (f:Ev->Option D):TE:=fun σ H Q=>∃ ρ F d,yq F H/\VAt F ρ σ/\f ρ=some d/\∀ F' H' v,Gr F H F' H'->At F' d v->Q v H'
noncomputable def zkj (f:Ev->Option Bool):TT:=fun σ H Q=>∃ ρ F d,yq F H/\VAt F ρ σ/\f ρ=some d/\∀ F' H',Gr F H F' H'->Q d H'
theorem ED.can {X:Cx}{e:Expr}{f:Ev->Option D}(h:ED X e f):PE X e (tCan f):=by
 obtain⟨t,p,r⟩:=h
 rintro pins s σ H Q I ⟨ρ,F,d,h1,h2,h3,h4⟩
 exact p pins s σ H Q I (r σ ρ F H d Q h1 h2 h3 h4)
theorem TD.can {X:Cx}{e:Expr}{f:Ev->Option Bool}(h:TD X e f):PT X e (zkj f):=by
 obtain⟨t,p,r⟩:=h
 rintro pins s σ H Q I ⟨ρ,F,d,h1,h2,h3,h4⟩
 exact p pins s σ H Q I (r σ ρ F H d Q h1 h2 h3 h4)
theorem zbC {f:Ev->Option D}:RE (tCan f) f:=λ_ ρ F _ d _ h1 h2 h3 h4=>⟨ρ,F,d,h1,h2,h3,h4⟩
theorem zhy {f:Ev->Option Bool}:RT (zkj f) f:=λ_ ρ F _ d _ h1 h2 h3 h4=>⟨ρ,F,d,h1,h2,h3,h4⟩
theorem Xi {X:Cx}{elt tg iter:Expr}{L M:List Str}{scope:Scope}{cl:List (Str × Addr)}{pos:Pos}{fi:Ev->Option (List D)}{b:D->Option (List (Option D))}{fe:Ev->Option D}{g:TG}
 (hc:X.calm=true) (S:yU X L M scope cl) (hi:ID X tg iter fi)
 (hgS:∀ (σ:St) (v:V) (H:Hp) (Q:St->Hp->Prop),g v (List.replicate L.length none++σ) H Q->g v (List.replicate L.length none++σ) H (fun σ2 H2=>Zf (List.replicate L.length none++σ) σ2/\Q σ2 H2))
 (hrb:RB L.length g b)
 (hg:∀ s₀ H₀ ex pn,PG (Wp X L M scope cl s₀ H₀ ex pn) tg g) (he:∀ s₀ H₀ ex pn,ED (Wp X L M scope cl s₀ H₀ ex pn) elt fe)
 (hs:∀ x,foldedSetIterable iter X.env x=pure x:=by intro _;rfl):FL X (.ListComp elt [⟨tg,iter,[],0⟩] scope pos) (fLC fi b yz fe):=by
 obtain⟨wi,pi,ri⟩:=hi
 exact⟨_,zhm hc S pi hgS hg (λ_ _ _ _=>zeA) (λ_ _ _ _=>(he _ _ _ _).can) hs,zfU ri hrb zhh zbC⟩
theorem zg8 {X:Cx}{elt tg iter c:Expr}{L M:List Str}{scope:Scope}{cl:List (Str × Addr)}{pos:Pos}{fi:Ev->Option (List D)}{b:D->Option (List (Option D))}{ft:Ev->Option Bool}{fe:Ev->Option D}{g:TG}
 (hc:X.calm=true) (S:yU X L M scope cl) (hi:ID X tg iter fi)
 (hgS:∀ (σ:St) (v:V) (H:Hp) (Q:St->Hp->Prop),g v (List.replicate L.length none++σ) H Q->g v (List.replicate L.length none++σ) H (fun σ2 H2=>Zf (List.replicate L.length none++σ) σ2/\Q σ2 H2))
 (hrb:RB L.length g b)
 (hg:∀ s₀ H₀ ex pn,PG (Wp X L M scope cl s₀ H₀ ex pn) tg g) (ht:∀ s₀ H₀ ex pn,TD (Wp X L M scope cl s₀ H₀ ex pn) c ft) (he:∀ s₀ H₀ ex pn,ED (Wp X L M scope cl s₀ H₀ ex pn) elt fe)
 (hs:∀ x,foldedSetIterable iter X.env x=pure x:=by intro _;rfl):FL X (.ListComp elt [⟨tg,iter,[c],0⟩] scope pos) (fLC fi b ft fe):=by
 obtain⟨wi,pi,ri⟩:=hi
 exact⟨_,zhm hc S pi hgS hg (λ_ _ _ _=>zdi (ht _ _ _ _).can) (λ_ _ _ _=>(he _ _ _ _).can) hs,zfU ri hrb zhy zbC⟩
theorem zjQ {t:TE}{f:Ev->Option (List D)}(r:RF t f):RE t (wc f):=by
 intro σ ρ F H d Q s va e q
 obtain⟨ds,e1,rfl⟩:=Option.map_eq_some_iff.mp e
 refine r σ ρ F H ds Q s va e1 λF' H' p xs g h0 hF hH hx=>?_
 have g2:=g.show h0 hF hH
 exact q _ _ _ g2 (At.lst zo (hx.mono (λb u e=>by rw[zp (zm e hF)];exact e)))
noncomputable def FLS (X:Cx)(i:Nat)(st:Stmt)(f:Ev->Option (List D)):Prop:=∃ t,PS X st (zln t (YR i))/\RF t f
theorem W1 {m:Bool}{i:Nat}{st:Stmt}{f:Ev->Option (List D)}(he:FLS X i st f):SD X st (xE m i (wc f)):=by
 obtain⟨t,p,r⟩:=he
 refine⟨_,p,λFb Hb F H ρ σ E rl k=>?_⟩
 unfold xE at k
 cases h:vEv m (wc f) ρ with
 | none=>rw[h]at k;exact k.elim
 | some d =>
  rw[h]at k
  exact(zjQ r).at rl h λF' H' v g av=>k F' H' _ ((rl.grow g).set av)
theorem zdC {i:Nat}{x:Str}{px spos:Pos}{X:Cx}{elt tg iter:Expr}{L M:List Str}{scope:Scope}{cl:List (Str × Addr)}{pos:Pos}{fi:Ev->Option (List D)}{b:D->Option (List (Option D))}{fe:Ev->Option D}{g:TG}
 (hN:X.N.Nodup) (hi':X.N[i]?=some x) (hx:Loc X.env.scope x) (hc:X.calm=true) (S:yU X L M scope cl) (hi:ID X tg iter fi)
 (hgS:∀ (σ:St) (v:V) (H:Hp) (Q:St->Hp->Prop),g v (List.replicate L.length none++σ) H Q->g v (List.replicate L.length none++σ) H (fun σ2 H2=>Zf (List.replicate L.length none++σ) σ2/\Q σ2 H2))
 (hrb:RB L.length g b)
 (hg:∀ s₀ H₀ ex pn,PG (Wp X L M scope cl s₀ H₀ ex pn) tg g) (he:∀ s₀ H₀ ex pn,ED (Wp X L M scope cl s₀ H₀ ex pn) elt fe)
 (hs:∀ x,foldedSetIterable iter X.env x=pure x:=by intro _;rfl)
 (hsw:swapsWith (.ListComp elt [⟨tg,iter,[],0⟩] scope pos) (some (.Name x px)) spos.line X.env=pure true:=by rfl)
 (hf:X.fn x=true\/X.env.scope.names.lookup x=some .local:=by first | exact .inl rfl | exact .inr rfl | assumption):FLS X i (.Assign [.Name x px] (.ListComp elt [⟨tg,iter,[],0⟩] scope pos) spos) (fLC fi b yz fe):=by
 obtain⟨wi,pi,ri⟩:=hi
 exact⟨_,zhg hN hi' hx hc S pi hgS hg (λ_ _ _ _=>zeA) (λ_ _ _ _=>(he _ _ _ _).can) hs hsw hf,zfU ri hrb zhh zbC⟩
theorem zdT {i:Nat}{x:Str}{px spos:Pos}{X:Cx}{elt tg iter c:Expr}{L M:List Str}{scope:Scope}{cl:List (Str × Addr)}{pos:Pos}{fi:Ev->Option (List D)}{b:D->Option (List (Option D))}{ft:Ev->Option Bool}{fe:Ev->Option D}{g:TG}
 (hN:X.N.Nodup) (hi':X.N[i]?=some x) (hx:Loc X.env.scope x) (hc:X.calm=true) (S:yU X L M scope cl) (hi:ID X tg iter fi)
 (hgS:∀ (σ:St) (v:V) (H:Hp) (Q:St->Hp->Prop),g v (List.replicate L.length none++σ) H Q->g v (List.replicate L.length none++σ) H (fun σ2 H2=>Zf (List.replicate L.length none++σ) σ2/\Q σ2 H2))
 (hrb:RB L.length g b)
 (hg:∀ s₀ H₀ ex pn,PG (Wp X L M scope cl s₀ H₀ ex pn) tg g) (ht:∀ s₀ H₀ ex pn,TD (Wp X L M scope cl s₀ H₀ ex pn) c ft) (he:∀ s₀ H₀ ex pn,ED (Wp X L M scope cl s₀ H₀ ex pn) elt fe)
 (hs:∀ x,foldedSetIterable iter X.env x=pure x:=by intro _;rfl)
 (hsw:swapsWith (.ListComp elt [⟨tg,iter,[c],0⟩] scope pos) (some (.Name x px)) spos.line X.env=pure true:=by rfl)
 (hf:X.fn x=true\/X.env.scope.names.lookup x=some .local:=by first | exact .inl rfl | exact .inr rfl | assumption):FLS X i (.Assign [.Name x px] (.ListComp elt [⟨tg,iter,[c],0⟩] scope pos) spos) (fLC fi b ft fe):=by
 obtain⟨wi,pi,ri⟩:=hi
 exact⟨_,zhg hN hi' hx hc S pi hgS hg (λ_ _ _ _=>zdi (ht _ _ _ _).can) (λ_ _ _ _=>(he _ _ _ _).can) hs hsw hf,zfU ri hrb zhy zbC⟩
noncomputable def fnD (n:Nat)(g:SE->Ctl)(ds:List D):Option D:=match g (ds.map .v++List.replicate (n - ds.length) .no) with
 | .rt d=>some d
 | .nx _=>some .non
 | _=>none
noncomputable def spD (m:Nat)(p:List D->Option D):Sp:=λvs H Q _=>∃ ds d F,ds.length=m/\yq F H/\AtL F ds vs/\p ds=some d/\∀ F' H' v,Gr F H F' H'->At F' d v->Q v H'
theorem zgQ {F H:Hp}{N:List Str}{ds:List D}{vs:List V}(s:yq F H)(a:AtL F ds vs):Rl F H F H (ds.map .v++List.replicate (N.length - ds.length) .no) (L2.start N vs):=by
 have hl:=a.length
 have noO:∀ (i:Nat) (t:Sl),(ds.map Sl.v++List.replicate (N.length - ds.length) Sl.no)[i]?=some t->t.isO=true->False:=λi t h ho=>by
  by_cases hi:i < ds.length
  .rw[List.getElem?_append_left (by simpa using hi),List.getElem?_map]at h
   cases e:ds[i]? with
   | none=>rw[e]at h;cases h
   | some d=>rw[e]at h;cases h;cases ho
  .rw[List.getElem?_append_right (by simpa using hi),List.getElem?_replicate]at h
   split at h <;> cases h
   cases ho
 refine⟨.refl s,λi d h=>?_,λi t h ho=>(noO i t h ho).elim,λi j p t u h _ ho=>(noO i t h ho).elim,?_⟩
 .by_cases hi:i < ds.length
  .rw[List.getElem?_append_left (by simpa using hi),List.getElem?_map]at h
   cases e:ds[i]? with
   | none=>rw[e]at h;cases h
   | some d' =>
    rw[e]at h
    cases h
    obtain⟨x,hx,ax⟩:=a.get e
    refine⟨x,?_,ax⟩
    unfold L2.start
    rw[List.getElem?_append_left (by simpa [hl]using hi),List.getElem?_map,hx]
    rfl
  .rw[List.getElem?_append_right (by simpa using hi),List.getElem?_replicate]at h
   split at h <;> cases h
 .unfold L2.start
  simp[hl]
theorem yZ {P:Program}{w:World}{K:PySem.W.Frag}{mg:Str->Option Value}{base:Heap}{x qual:Str}{st:Stmt}{f:Addr}{fd:FuncData}{N ps:List Str}{k:Nat}{g:SE->Ctl}(Fu:Fun K x qual st f fd)(S:zA N ps (zn st))
 (hb:∀ (cdv:Value) (A:Around) (outer:List Env) (s:Shared) (H:Hp) (E:XK),YA k (A.deeper (PyProof.Rows.envOfC qual (zn st) s.heap.objs.size f cdv))->SDs (zh4 CX0 P w K mg base N qual (zn st) f cdv A outer s H E).nox (wX st) g) :
 xR P w K mg base CX0 (k+1) f fd ps (spD ps.length (fnD N.length g)):=by
 refine Fu.ok S (λvs H Q E h=>?_) λcdv A outer s H vs Q E hr h=>?_
 .obtain⟨ds,d,F,hl,_,a,_⟩:=h
  rw[a.length];exact hl
 .obtain⟨ds,d,F,hl,sm,a,e,q⟩:=h
  obtain⟨t,p,r⟩:=hb cdv A outer s H E hr
  refine⟨t,p,r F H F H _ _ _ (zgQ sm a) ?_⟩
  unfold fnD at e
  cases hg:g (ds.map .v++List.replicate (N.length - ds.length) .no) with
  | rt d'=>rw[hg]at e;cases e;exact λF' H' v g av=>q F' H' v g av
  | nx ρ=>rw[hg]at e;cases e;exact λF' H' σ rl=>q F' H' _ rl.gr .non
  | bk ρ=>rw[hg]at e;cases e
  | ct ρ=>rw[hg]at e;cases e
  | no=>rw[hg]at e;cases e
theorem vy {P:Program}{w:World}{K:PySem.W.Frag}{mg:Str->Option Value}{base:Heap}{f:Addr}{fd:FuncData}{ps:List Str}{k m:Nat}{p q:List D->Option D}(F:xR P w K mg base CX0 k f fd ps (spD m p))(h:∀ ds d,ds.length=m->q ds=some d->p ds=some d):xR P w K mg base CX0 k f fd ps (spD m q) :=
 F.imp λvs H Q E ⟨ds,d,F',h1,h2,h3,h4,h5⟩=>⟨ds,d,F',h1,h2,h3,h ds d h1 h4,h5⟩
noncomputable def zB (m:Nat)(p:List D->Option D)(f:Ev->Option (List D)):Ev->Option D:=fun ρ=>(f ρ).bind λds=>if ds.length=m then p ds else none
theorem zq {X:Cx}{x:Str}{k m:Nat}{f:Addr}{fd:FuncData}{ps:List Str}{p:List D->Option D}{e:Expr}{es:List Expr}{pp pos:Pos}{fa:Ev->Option (List D)}(F:xR X.prog X.w X.K X.mg X.base CX0 k f fd ps (spD m p))(hr:YA k X.A)(hg:Gl X x)(hm:X.mg x=some (.ref f))(hk:PySem.W.keepIn X.K (.ref f)=true)(hb:zau X.K fd ps [])
 (ha:AD X (e::es) fa) (hdb:(x == ("__debug__":Str))=false:=by decide) (he:starEach (e::es) X.env=(false,eval e X.env)::starEach es X.env:=by rfl) (hpl:(backTo pos (starEach es X.env)).any (·.1)=false:=by rfl) :
 ED X (.Call (.Name x pp) (e::es) [] pos) (zB m p fa):=by
 obtain⟨t,pa,r⟩:=ha
 refine⟨_,zig F hr hg hm hk hb .nil zly pa hdb he hpl,fun σ ρ F0 H d Q s va e q=>?_⟩
 obtain⟨ds,e1,e2⟩:=Option.bind_eq_some_iff.mp e
 split at e2 <;> try cases e2
 rename_i hl
 refine r σ ρ F0 H ds _ s va e1 λF1 H1 vs g1 a1=>?_
 refine⟨ds,d,F1,hl,g1.fh,by rw[List.append_nil];exact a1,e2,λF' H' v g av=>q F' H' v (g1.trans g) av⟩
end Dl
namespace Dl
open PySem L2
variable [KK]
section
variable {X:Cx}{a b c e:Expr}{pos:Pos}
theorem Wv:bootBuiltins "isinstance"=some (.builtin "isinstance"):=by decide +kernel
theorem Z0:bootBuiltins "len"=some (.builtin "len"):=by decide +kernel
theorem zhA:bootBuiltins "min"=some (.builtin "min"):=by decide +kernel
theorem zbx:bootBuiltins "max"=some (.builtin "max"):=by decide +kernel
theorem zal:bootBuiltins "sorted"=some (.builtin "sorted"):=by decide +kernel
theorem zhu:bootBuiltins "sum"=some (.builtin "sum"):=by decide +kernel
theorem zkd:bootBuiltins "all"=some (.builtin "all"):=by decide +kernel
theorem zka:bootBuiltins "int"=some (.type "int"):=by decide +kernel
theorem zis:bootBuiltins "bool"=some (.type "bool"):=by decide +kernel
theorem yB:bootBuiltins "tuple"=some (.type "tuple"):=by decide +kernel
theorem zba:bootBuiltins "list"=some (.type "list"):=by decide +kernel
theorem Zy:bootBuiltins "enumerate"=some (.type "enumerate"):=by decide +kernel
theorem zk6:bootBuiltins "zip"=some (.type "zip"):=by decide +kernel
noncomputable def za3 (C:Int->Int->Bool)(g:Int->Int->Int):D->D->Option D
 | .int i,.int j=>if C i j=true then some (.int (g i j))else none
 | _,_=>none
noncomputable def Zw (g:Int->Int->Int):D->D->Option D
 | .int i,.int j=>some (.int (g i j))
 | _,_=>none
noncomputable def zcL (g:Int->Int->Bool):D->D->Option D
 | .int i,.int j=>some (.bl (g i j))
 | _,_=>none
theorem YL {C:Int->Int->Prop}{Cb:Int->Int->Bool}{g:Int->Int->Int}(h:∀ i j,Cb i j=true->C i j):OpD (rI C λi j=>.int (g i j)) (za3 Cb g):=by
 intro F H x y d e z Q s ax ay ez q
 cases d <;> try cases ez
 cases e <;> try cases ez
 unfold za3 at ez
 dsimp only at ez
 split at ez <;> cases ez
 rename_i hc
 exact⟨_,_,ax.int_inv,ay.int_inv,h _ _ hc,q F H _ (.refl s) .int⟩
theorem VH {g:Int->Int->Int}:OpD (rI0 λi j=>.int (g i j)) (Zw g):=by
 intro F H x y d e z Q s ax ay ez q
 cases d <;> try cases ez
 cases e <;> try cases ez
 exact⟨_,_,ax.int_inv,ay.int_inv,q F H _ (.refl s) .int⟩
theorem ye {g:Int->Int->Bool}:OpD (rI0 λi j=>.bl (g i j)) (zcL g):=by
 intro F H x y d e z Q s ax ay ez q
 cases d <;> try cases ez
 cases e <;> try cases ez
 exact⟨_,_,ax.int_inv,ay.int_inv,q F H _ (.refl s) .bl⟩
theorem VG {r r':R2}{g g':D->D->Option D}(h:OpD r g)(h':OpD r' g'):OpD (λx y H Q=>r x y H Q\/r' x y H Q) (λd e=>(g d e).or (g' d e)):=by
 intro F H x y d e z Q s ax ay ez q
 dsimp only at ez
 cases hg:g d e with
 | some z'=>rw[hg]at ez;cases ez;exact .inl (h F H x y d e z Q s ax ay hg q)
 | none=>rw[hg]at ez;exact .inr (h' F H x y d e z Q s ax ay ez q)
noncomputable def zjr:D->D->Option D
 | .tup a,.tup b=>if lim (a.length+b.length)=true then some (.tup (a++b))else none
 | _,_=>none
noncomputable def zjB:D->D->Option (List D)
 | .lst a,.lst b=>if lim (a.length+b.length)=true then some (a++b)else none
 | _,_=>none
noncomputable def zeB (d e:D):Option D:=(zjB d e).map .lst
noncomputable def zk5:D->D->Option D
 | .str a,.str b=>if lim (a.length+b.length)=true then some (.str (a++b))else none
 | _,_=>none
theorem zgq {K:PySem.W.Frag}:OpD (zgY K) zjr:=by
 intro F H x y d e z Q s ax ay ez q
 cases d <;> try cases ez
 cases e <;> try cases ez
 unfold zjr at ez
 dsimp only at ez
 split at ez <;> cases ez
 rename_i hl
 obtain⟨p,xs,rfl,hx,al⟩:=ax.tup_inv
 obtain⟨p2,ys,rfl,hy,bl⟩:=ay.tup_inv
 refine⟨p,p2,xs,ys,rfl,rfl,SqT.of (s _ _ hx),SqT.of (s _ _ hy),by rw[al.length,bl.length];exact of_decide_eq_true hl,λe1=>?_,λ_ e2=>?_,λ_ _ r hr=>?_⟩
 .subst e1
  have:(_:List D)=[]:=List.length_eq_zero_iff.mp al.length.symm
  subst this
  exact q F H _ (.refl s) (.tup hy bl)
 .subst e2
  have:(_:List D)=[]:=List.length_eq_zero_iff.mp bl.length.symm
  subst this
  rw[List.append_nil]at q
  exact q F H _ (.refl s) (.tup hx al)
 .have g:=Gr.alloc s hr (.tup (xs++ys))
  exact q _ _ _ g (.tup zo ((al.append bl).mono g.ff))
theorem zgC:OpD rCat zeB:=by
 intro F H x y d e z Q s ax ay ez q
 cases d <;> try cases ez
 cases e <;> try cases ez
 unfold zeB zjB at ez
 dsimp only at ez
 split at ez <;> cases ez
 rename_i hl
 obtain⟨p,xs,rfl,hx,al⟩:=ax.lst_inv
 obtain⟨p2,ys,rfl,hy,bl⟩:=ay.lst_inv
 refine⟨p,p2,xs,ys,rfl,rfl,s _ _ hx,s _ _ hy,by rw[al.length,bl.length];exact of_decide_eq_true hl,λr hr=>?_⟩
 have g:=Gr.alloc s hr (.lst (xs++ys))
 exact q _ _ _ g (.lst zo ((al.append bl).mono g.ff))
theorem zfF:OpD (λx y H Q=>∃ i j,x=.str i/\y=.str j/\i.length+j.length<=sizeLine/\Q (.str (i++j)) H) zk5:=by
 intro F H x y d e z Q s ax ay ez q
 cases d <;> try cases ez
 cases e <;> try cases ez
 unfold zk5 at ez
 dsimp only at ez
 split at ez <;> cases ez
 rename_i hl
 exact⟨_,_,ax.str_inv,ay.str_inv,of_decide_eq_true hl,q F H _ (.refl s) .str⟩
noncomputable def xF:D->D->Option D
 | .int i,.int j=>some (.int (i+j))
 | .tup a,.tup b=>if lim (a.length+b.length)=true then some (.tup (a++b))else none
 | .lst a,.lst b=>if lim (a.length+b.length)=true then some (.lst (a++b))else none
 | .str a,.str b=>if lim (a.length+b.length)=true then some (.str (a++b))else none
 | _,_=>none
theorem zaB {r:R2}{g g':D->D->Option D}(h:OpD r g)(k:∀ d e z,g' d e=some z->g d e=some z):OpD r g':=λF H x y d e z Q s ax ay ez q=>h F H x y d e z Q s ax ay (k d e z ez) q
theorem zV {f h:Ev->Option D}(ha:ED X a f)(hb:ED X b h):ED X (.BinOp a .Add b pos) (zk xF f h) :=
 XL (((zjC.or zgT).or zj9).or zcO) (zaB (VG (VG (VG (VH (g:=λi j=>i+j)) zgq) zgC) zfF) λd e z h=>by
  cases d <;> try cases h
  all_goals cases e <;> try cases h
  .rfl
  .unfold xF at h;dsimp only at h;split at h <;> cases h;rename_i hl;simp[Zw,zjr,hl,zeB,zjB,zk5]
  .unfold xF at h;dsimp only at h;split at h <;> cases h;rename_i hl;simp[Zw,zjr,hl,zeB,zjB,zk5]
  .unfold xF at h;dsimp only at h;split at h <;> cases h;rename_i hl;simp[Zw,zjr,hl,zeB,zjB,zk5]) ha hb
noncomputable def zlE (g:D->D->Option (List D))(f h:Ev->Option D):Ev->Option (List D):=fun ρ=>(f ρ).bind λx=>(h ρ).bind λy=>g x y
theorem zck {F H F1 H1:Hp}{p:Addr}(g1:Gr F H F1 H1)(hp:H1 p=none):H p=none:=by
 cases e:H p with
 | none=>rfl
 | some o =>
  cases e2:F p with
  | none=>rw[(g1.kp p o e2 e).2]at hp;cases hp
  | some u=>rw[g1.fh _ _ (g1.ff _ _ e2)]at hp;cases hp
noncomputable def Yn (i j:Int):Bool:=decide ((-(2 ^ 64) < i/\i < 2 ^ 64)\/(-(2 ^ 64) < j/\j < 2 ^ 64))
noncomputable def zf4:D->D->Option (List D)
 | .lst a,.int k=>if -(2 ^ 63)<=k/\k < 2 ^ 63/\lim (a.length*k.toNat)=true then some (List.replicate k.toNat a).flatten else none
 | _,_=>none
noncomputable def zfP (d e:D):Option D:=(zf4 d e).map .lst
noncomputable def xP:D->D->Option D
 | .int i,.int j=>if Yn i j=true then some (.int (i*j))else none
 | .lst a,.int k=>if -(2 ^ 63)<=k/\k < 2 ^ 63/\lim (a.length*k.toNat)=true then some (.lst (List.replicate k.toNat a).flatten)else none
 | _,_=>none
theorem zfV:OpD rRep zfP:=by
 intro F H x y d e z Q s ax ay ez q
 cases d <;> try cases ez
 cases e <;> try cases ez
 unfold zfP zf4 at ez
 dsimp only at ez
 split at ez <;> cases ez
 rename_i hl
 obtain⟨p,xs,rfl,hx,al⟩:=ax.lst_inv
 refine⟨p,_,xs,rfl,ay.int_inv,s _ _ hx,hl.1,hl.2.1,by rw[al.length];exact of_decide_eq_true hl.2.2,λr hr=>?_⟩
 rename_i ds k
 have g:=Gr.alloc s hr (.lst (List.replicate k.toNat xs).flatten)
 exact q _ _ _ g (.lst zo ((al.rep _).mono g.ff))
theorem wo {f h:Ev->Option D}(ha:ED X a f)(hb:ED X b h):ED X (.BinOp a .Mult b pos) (zk xP f h) :=
 XL (zkl.or zg7) (zaB (VG (YL (Cb:=Yn) (g:=λi j=>i*j) λi j h=>by have h':=of_decide_eq_true (show decide ((-(2 ^ 64) < i/\i < 2 ^ 64)\/(-(2 ^ 64) < j/\j < 2 ^ 64))=true from h);exact h') zfV) λd e z h=>by
  cases d <;> try cases h
  all_goals cases e <;> try cases h
  .unfold xP at h;dsimp only at h;split at h <;> cases h;rename_i hl;simp[za3,hl]
  .unfold xP at h;dsimp only at h;split at h <;> cases h;rename_i hl;show(zfP _ _)=_;unfold zfP zf4;dsimp only;rw[if_pos hl];rfl) ha hb
theorem zhe {f h:Ev->Option D}(ha:ED X a f)(hb:ED X b h):FL X (.BinOp a .Mult b pos) (zlE zf4 f h):=by
 obtain⟨ta,pa,ra⟩:=ha
 obtain⟨tb,pb,rb⟩:=hb
 refine⟨_,zkU zg7 pa pb,fun σ ρ F H z Q s va e q=>?_⟩
 obtain⟨x,e1,e3⟩:=Option.bind_eq_some_iff.mp e
 obtain⟨y,e2,ez⟩:=Option.bind_eq_some_iff.mp e3
 clear e e3
 refine ra σ ρ F H x _ s va e1 λF1 H1 v g1 a1=>?_
 refine rb σ ρ F1 H1 y _ g1.fh (va.mono g1.ff) e2 λF2 H2 u g2 a2=>?_
 cases x <;> try cases ez
 cases y <;> try cases ez
 unfold zf4 at ez
 dsimp only at ez
 split at ez <;> cases ez
 rename_i hl
 obtain⟨p,xs,rfl,hx,al⟩:=(a1.mono g2.ff).lst_inv
 refine⟨p,_,xs,rfl,a2.int_inv,g2.fh _ _ hx,hl.1,hl.2.1,by rw[al.length];exact of_decide_eq_true hl.2.2,λr hr=>?_⟩
 exact q _ _ _ _ ((g1.trans g2).trans (Gr.hide g2.fh hr _)) (zck (g1.trans g2) hr) (g2.fh.free hr) zo (al.rep _)
noncomputable def Vl:=Zw λi j=>i - j
noncomputable def xj:=za3 (λ_ j=>decide (0 < j/\j < 1606938044258990275541962092341162602522202993782792835301376)) λi j=>i / j
noncomputable def wV:=za3 (λ_ j=>decide (0 < j)) λi j=>i % j
noncomputable def zjh:=za3 (λ_ j=>decide (0<=j)) λi j=>i / 2 ^ j.toNat
noncomputable def zid (i j:Int):Bool:=decide (0<=j/\j<=1000000/\i.natAbs < 2 ^ 64)
noncomputable def zl9:=za3 zid λi j=>i*2 ^ j.toNat
theorem Wa {f h:Ev->Option D}(ha:ED X a f)(hb:ED X b h):ED X (.BinOp a .Sub b pos) (zk Vl f h):=XL zkM VH ha hb
theorem zgl:OpR X (binaryOp .FloorDiv) (rI (λ_ j=>0 < j/\j < 1606938044258990275541962092341162602522202993782792835301376) λi j=>.int (i / j)):=opI λi j _ _ _ _ _ hc q=>by
 have h1:(0:Int) < j:=hc.1
 have h2:j < 1606938044258990275541962092341162602522202993782792835301376:=hc.2
 refine PyProof.Rows.floordiv_int (by omega) (by rw[Int.fdiv_eq_ediv_of_nonneg i (by omega)];exact q) (.inl (PyProof.noPylong_of_log2 ?_))
 have h0:j.natAbs≠0:=by omega
 have h3:j.natAbs < 1606938044258990275541962092341162602522202993782792835301376:=by omega
 have h4:j.natAbs.log2 < 200:=(Nat.log2_lt h0).mpr h3
 omega
theorem wC {f h:Ev->Option D}(ha:ED X a f)(hb:ED X b h):ED X (.BinOp a .FloorDiv b pos) (zk xj f h):=XL zgl (YL λ_ _ h=>by have h':=of_decide_eq_true h;exact h') ha hb
theorem wa {f h:Ev->Option D}(ha:ED X a f)(hb:ED X b h):ED X (.BinOp a .Mod b pos) (zk wV f h):=XL zkA (YL λ_ _ h=>by have h':=of_decide_eq_true h;exact h') ha hb
theorem zju {f h:Ev->Option D}(ha:ED X a f)(hb:ED X b h):ED X (.BinOp a .RShift b pos) (zk zjh f h):=XL zjv (YL λ_ _ h=>by have h':=of_decide_eq_true h;exact h') ha hb
theorem zjI {f h:Ev->Option D}(ha:ED X a f)(hb:ED X b h):ED X (.BinOp a .LShift b pos) (zk zl9 f h):=XL zkm (YL λ_ _ h=>by have h':=of_decide_eq_true h;exact h') ha hb
noncomputable def ltD:=zcL λi j=>decide (i < j)
noncomputable def leD:=zcL λi j=>decide (i<=j)
noncomputable def gtD:=zcL λi j=>decide (j < i)
noncomputable def geD:=zcL λi j=>decide (j<=i)
noncomputable def eqS:D->D->Option Bool
 | .non,.non=>some true
 | .int i,.int j=>some (decide (i=j))
 | .bl i,.bl j=>some (decide (i=j))
 | .str i,.str j=>some (decide (i=j))
 | .non,.int _=>some false | .int _,.non=>some false | .non,.bl _=>some false | .bl _,.non=>some false | .non,.str _=>some false | .str _,.non=>some false
 | .int _,.str _=>some false | .str _,.int _=>some false | .bl _,.str _=>some false | .str _,.bl _=>some false
 | _,_=>none
noncomputable def eqD (d e:D):Option D:=(eqS d e).map .bl
noncomputable def neD (d e:D):Option D:=(eqS d e).map λc=>.bl (!c)
theorem zhq:OpD rEq eqD:=by
 intro F H x y d e z Q s ax ay ez q
 obtain⟨c,e1,rfl⟩:=Option.map_eq_some_iff.mp ez
 cases d <;> cases e <;> try cases e1
 .cases ax.non_inv;cases ay.non_inv;exact⟨rfl,q F H _ (.refl s) .bl⟩
 .cases ax.non_inv;cases ay.bl_inv;exact⟨rfl,q F H _ (.refl s) .bl⟩
 .cases ax.non_inv;cases ay.int_inv;exact⟨rfl,q F H _ (.refl s) .bl⟩
 .cases ax.non_inv;cases ay.str_inv;exact⟨rfl,q F H _ (.refl s) .bl⟩
 .cases ax.bl_inv;cases ay.non_inv;exact⟨rfl,q F H _ (.refl s) .bl⟩
 .cases ax.bl_inv;cases ay.bl_inv;refine⟨rfl,?_⟩;rw[show ∀ i j:Bool,decide (V.bl i=V.bl j)=decide (i=j)from λi j=>by simp];exact q F H _ (.refl s) .bl
 .cases ax.bl_inv;cases ay.str_inv;exact⟨rfl,q F H _ (.refl s) .bl⟩
 .cases ax.int_inv;cases ay.non_inv;exact⟨rfl,q F H _ (.refl s) .bl⟩
 .cases ax.int_inv;cases ay.int_inv;refine⟨rfl,?_⟩;rw[show ∀ i j:Int,decide (V.int i=V.int j)=decide (i=j)from λi j=>by simp];exact q F H _ (.refl s) .bl
 .cases ax.int_inv;cases ay.str_inv;exact⟨rfl,q F H _ (.refl s) .bl⟩
 .cases ax.str_inv;cases ay.non_inv;exact⟨rfl,q F H _ (.refl s) .bl⟩
 .cases ax.str_inv;cases ay.bl_inv;exact⟨rfl,q F H _ (.refl s) .bl⟩
 .cases ax.str_inv;cases ay.int_inv;exact⟨rfl,q F H _ (.refl s) .bl⟩
 .cases ax.str_inv;cases ay.str_inv;refine⟨rfl,?_⟩;rw[show ∀ i j:Str,decide (V.str i=V.str j)=decide (i=j)from λi j=>by simp];exact q F H _ (.refl s) .bl
theorem Z4:OpD rNe neD:=by
 intro F H x y d e z Q s ax ay ez q
 obtain⟨c,e1,rfl⟩:=Option.map_eq_some_iff.mp ez
 have:=zhq F H x y d e (.bl c) (λv H'=>∃ b,v=.bl b/\Q (.bl (!b)) H') s ax ay (by unfold eqD;rw[e1];rfl) λF' H' v g av=>⟨c,av.bl_inv,q F' H' _ g .bl⟩
 obtain⟨h1,b,h2,h3⟩:=this
 cases h2
 exact⟨h1,h3⟩
noncomputable def zbt:D->D->Option D
 | d,.non=>some (.bl (match d with | .non=>true | _=>false))
 | .bl a,.bl b=>some (.bl (a == b))
 | _,_=>none
noncomputable def yP:D->D->Option D
 | d,.non=>some (.bl (match d with | .non=>false | _=>true))
 | .bl a,.bl b=>some (.bl (!(a == b)))
 | _,_=>none
theorem zfn {F:Hp}{d:D}{x:V}(h:At F d x):decide (x=V.non)=(match d with | .non=>true | _=>false):=by
 cases d with
 | non=>cases h.non_inv;rfl
 | bl b=>cases h.bl_inv;rfl
 | int b=>cases h.int_inv;rfl
 | str b=>cases h.str_inv;rfl
 | tup ds=>obtain⟨a,xs,rfl,_⟩:=h.tup_inv;rfl
 | lst ds=>obtain⟨a,xs,rfl,_⟩:=h.lst_inv;rfl
 | scr ds=>obtain⟨a,rfl,_⟩:=h.scr_inv;rfl
 | dct z t ks vs=>obtain⟨a,xs,rfl,_⟩:=h.dct_inv;rfl
theorem zex:OpD (λx y H Q=>(y=.non/\Q (.bl (decide (x=.non))) H)\/∃ i j,x=.bl i/\y=.bl j/\Q (.bl (i == j)) H) zbt:=by
 intro F H x y d e z Q s ax ay ez q
 unfold zbt at ez
 split at ez
 .cases ez
  refine .inl ⟨ay.non_inv,?_⟩
  rw[zfn ax]
  have:=q F H _ (.refl s) .bl
  cases d <;> exact this
 .cases ez
  exact .inr ⟨_,_,ax.bl_inv,ay.bl_inv,q F H _ (.refl s) .bl⟩
 .cases ez
theorem Wd:OpD (λx y H Q=>(y=.non/\Q (.bl (!decide (x=.non))) H)\/∃ i j,x=.bl i/\y=.bl j/\Q (.bl (!(i == j))) H) yP:=by
 intro F H x y d e z Q s ax ay ez q
 unfold yP at ez
 split at ez
 .cases ez
  refine .inl ⟨ay.non_inv,?_⟩
  rw[zfn ax]
  have:=q F H _ (.refl s) .bl
  cases d <;> exact this
 .cases ez
  exact .inr ⟨_,_,ax.bl_inv,ay.bl_inv,q F H _ (.refl s) .bl⟩
 .cases ez
theorem zhE:OpR X (compareOp .Is) (λx y H Q=>(y=.non/\Q (.bl (decide (x=.non))) H)\/∃ i j,x=.bl i/\y=.bl j/\Q (.bl (i == j)) H):=zkq.or zfZ
theorem V1:OpR X (compareOp .IsNot) (λx y H Q=>(y=.non/\Q (.bl (!decide (x=.non))) H)\/∃ i j,x=.bl i/\y=.bl j/\Q (.bl (!(i == j))) H):=zjc.or zaI
noncomputable def vN (g g':D->D->Option D)(f h k:Ev->Option D):Ev->Option D:=fun ρ=>(f ρ).bind λx=>(h ρ).bind λy=>((g x y).bind asB).bind λc=>if c=true then (k ρ).bind λz=>g' y z else some (.bl false)
theorem zfD {r r':R2}{g g':D->D->Option D}{ta tb tc:TE}{f h k:Ev->Option D}(hg:OpD r g)(hg':OpD r' g')(ra:RE ta f)(rb:RE tb h)(rc:RE tc k):RE (zfd r r' ta tb tc) (vN g g' f h k):=by
 intro σ ρ F H z Q s va e q
 obtain⟨x,e1,e⟩:=Option.bind_eq_some_iff.mp e
 obtain⟨y,e2,e⟩:=Option.bind_eq_some_iff.mp e
 obtain⟨c,e3,e⟩:=Option.bind_eq_some_iff.mp e
 obtain⟨cd,e3,e4⟩:=Option.bind_eq_some_iff.mp e3
 cases ZT e4
 refine ra σ ρ F H x _ s va e1 λF1 H1 v g1 a1=>?_
 refine rb σ ρ F1 H1 y _ g1.fh (va.mono g1.ff) e2 λF2 H2 u g2 a2=>?_
 refine hg F2 H2 v u x y _ _ g2.fh (a1.mono g2.ff) a2 e3 λF3 H3 w g3 a3=>⟨c,a3.bl_inv,?_⟩
 have g123:=(g1.trans g2).trans g3
 cases c with
 | true =>
  rw[if_pos rfl]at e ⊢
  obtain⟨z',e5,e6⟩:=Option.bind_eq_some_iff.mp e
  refine rc σ ρ F3 H3 z' _ g3.fh (va.mono g123.ff) e5 λF4 H4 w4 g4 a4=>?_
  exact hg' F4 H4 u w4 y z' z Q g4.fh (a2.mono (g3.ff.trans g4.ff)) a4 e6 λF5 H5 w5 g5 a5=>q F5 H5 w5 ((g123.trans g4).trans g5) a5
 | false =>
  rw[if_neg Bool.false_ne_true]at e ⊢
  cases e
  exact q F3 H3 _ g123 .bl
theorem zf3 {op op':CmpOp}{r r':R2}{g g':D->D->Option D}{f h k:Ev->Option D}(ho:OpR X (compareOp op) r)(ho':OpR X (compareOp op') r')(hg:OpD r g)(hg':OpD r' g')(ha:ED X a f)(hb:ED X b h)(hc:ED X c k)
 (pch:∀ {ta tb tc:TE},PE X a ta->PE X b tb->PE X c tc->PE X (.Compare a [op,op'] [b,c] pos) (zfd r r' ta tb tc)):ED X (.Compare a [op,op'] [b,c] pos) (vN g g' f h k) :=
 let ⟨_,pa,ra⟩:=ha
 let ⟨_,pb,rb⟩:=hb
 let ⟨_,pc,rc⟩:=hc
 ⟨_,pch pa pb pc,zfD hg hg' ra rb rc⟩
noncomputable def zb4:List D->Option (List Int)
 | []=>some []
 | .int b::ds=>(zb4 ds).map (b::·)
 | _=>none
omit [KK] in
theorem XO:∀ {ds:List D} {bs:List Int},zb4 ds=some bs->ds=bs.map .int
 | [],bs,h=>by cases h;rfl
 | d::ds,bs,h=>by
  cases d <;> try cases h
  obtain⟨cs,h1,rfl⟩:=Option.map_eq_some_iff.mp h
  rw[XO h1]
  rfl
noncomputable def leT:D->D->Option D
 | .tup a,.tup b=>(zb4 a).bind λns=>(zb4 b).map λms=>.bl (HT.lexLe ns ms)
 | _,_=>none
theorem zhL {K:PySem.W.Frag}:OpD (rLeT K) leT:=by
 intro F H x y d e z Q s ax ay ez q
 cases d <;> try cases ez
 cases e <;> try cases ez
 obtain⟨ns,e1,e2⟩:=Option.bind_eq_some_iff.mp ez
 obtain⟨ms,e3,rfl⟩:=Option.map_eq_some_iff.mp e2
 rw[XO e1]at ax
 rw[XO e3]at ay
 obtain⟨p,xs,rfl,hx,al⟩:=ax.tup_inv
 obtain⟨p2,ys,rfl,hy,bl⟩:=ay.tup_inv
 cases al.of_ints
 cases bl.of_ints
 exact⟨p,p2,ns,ms,rfl,rfl,SqT.of (s _ _ hx),SqT.of (s _ _ hy),q F H _ (.refl s) .bl⟩
noncomputable def ixD:D->D->Option D
 | .lst ds,.int i=>atI ds i
 | .tup ds,.int i=>atI ds i
 | .scr ns,.int i=>(atI ns i).map .int
 | _,_=>none
theorem AtL.atI {F:Hp}{ds:List D}{xs:List V}{i:Int}{d:D}(al:AtL F ds xs)(h:L2.atI ds i=some d):∃ x,L2.atI xs i=some x/\At F d x:=by
 unfold L2.atI at h ⊢
 obtain⟨j,e1,e2⟩:=Option.bind_eq_some_iff.mp h
 obtain⟨x,hx,ax⟩:=al.get e2
 exact⟨x,by rw[al.length,e1];exact hx,ax⟩
theorem zkx:OpD (rIx KK.K) ixD:=by
 intro F H x y d e z Q s ax ay ez q
 cases e <;> try (cases d <;> cases ez)
 cases ay.int_inv
 cases d with
 | lst ds =>
  obtain⟨p,xs,rfl,hx,al⟩:=ax.lst_inv
  obtain⟨v,e1,av⟩:=al.atI ez
  exact .inl ⟨p,xs,_,v,rfl,rfl,SqL.of (s _ _ hx),e1,q F H _ (.refl s) av⟩
 | tup ds =>
  obtain⟨p,xs,rfl,hx,al⟩:=ax.tup_inv
  obtain⟨v,e1,av⟩:=al.atI ez
  exact .inr (.inl ⟨p,xs,_,v,rfl,rfl,SqT.of (s _ _ hx),e1,q F H _ (.refl s) av⟩)
 | scr ns =>
  obtain⟨p,rfl,hx⟩:=ax.scr_inv
  obtain⟨n,e1,rfl⟩:=Option.map_eq_some_iff.mp ez
  refine .inl ⟨p,ns.map V.int,_,.int n,rfl,rfl,s.seq hx,?_,q F H _ (.refl s) .int⟩
  unfold L2.atI at e1 ⊢
  rw[List.length_map]
  obtain⟨j,e2,e3⟩:=Option.bind_eq_some_iff.mp e1
  rw[e2]
  show(ns.map V.int)[j]?=_
  rw[List.getElem?_map,e3]
  rfl
 | _=>cases ez
theorem zw {f h:Ev->Option D}(ha:ED X a f)(hb:ED X b h)(hs:zdM b)(hK:X.K=KK.K:=by rfl):ED X (.Subscript a b pos) (zk ixD f h) :=
 let ⟨_,pa,ra⟩:=ha
 let ⟨_,pb,rb⟩:=hb
 ⟨_,zmd zjD pa pb hs,zgz (by rw[hK];exact zkx) ra rb⟩
noncomputable def zc1 {α:Type}(xs:List α)(lo hi:Option Int):List α:=(xs.drop (HT.sIx xs.length 0 lo)).take (HT.sIx xs.length xs.length hi - HT.sIx xs.length 0 lo)
theorem AtL.cut {F:Hp}{ds:List D}{xs:List V}{lo hi:Option Int}(al:AtL F ds xs):AtL F (zc1 ds lo hi) (za6 xs lo hi):=by
 unfold zc1 za6
 rw[al.length]
 exact(al.drop _).take _
noncomputable def OD (X:Cx)(e:Option Expr)(f:Ev->Option (Option Int)):Prop:=∃ t,PO X e t/\∀ (σ:St) (ρ:Ev) (F H:Hp) (i:Option Int) (Q:Option Int->Hp->Prop),yq F H->VAt F ρ σ->f ρ=some i->(∀ F' H',Gr F H F' H'->Q i H')->t σ H Q
noncomputable def XR:Ev->Option (Option Int):=λ_=>some none
noncomputable def asI:D->Option Int
 | .int i=>some i
 | _=>none
noncomputable def Ys (f:Ev->Option D):Ev->Option (Option Int):=fun ρ=>((f ρ).bind asI).map some
theorem ziY:OD X none XR:=⟨_,ziK,λ_ _ _ _ _ _ s _ e q=>by cases e;exact q _ _ (.refl s)⟩
theorem za4 {f:Ev->Option D}(h:ED X e f):OD X (some e) (Ys f):=by
 obtain⟨t,p,r⟩:=h
 refine⟨_,zhM p,fun σ ρ F H i Q s va e q=>?_⟩
 obtain⟨j,e1,rfl⟩:=Option.map_eq_some_iff.mp e
 obtain⟨d,e1,e2⟩:=Option.bind_eq_some_iff.mp e1
 cases d <;> cases e2
 exact r σ ρ F H _ _ s va e1 λF1 H1 v g1 a1=>⟨_,a1.int_inv,q F1 H1 g1⟩
noncomputable def slD:D->Option Int->Option Int->Option D
 | .lst ds,lo,hi=>some (.lst (zc1 ds lo hi))
 | .scr ns,lo,hi=>some (.lst ((zc1 ns lo hi).map .int))
 | .tup ds,lo,hi=>some (.tup (zc1 ds lo hi))
 | _,_,_=>none
noncomputable def eSl (g:D->Option Int->Option Int->Option D)(f:Ev->Option D)(l h:Ev->Option (Option Int)):Ev->Option D:=fun ρ=>(f ρ).bind λd=>(l ρ).bind λlo=>(h ρ).bind λhi=>g d lo hi
omit [KK] in
theorem zgu {ns:List Int}{lo hi:Option Int}:za6 (ns.map V.int) lo hi=(zc1 ns lo hi).map V.int:=by
 unfold za6 zc1
 rw[List.length_map,List.map_take,List.map_drop]
end
end Dl
namespace L2
open PySem PySem.Spec PyProof.Rows
noncomputable def rSlN:V->Option Int->Option Int->Hp->VK->Prop:=λx lo hi H Q=>∃ a xs,x=.ref a/\H a=some (.tup xs)/\(za6 xs lo hi=xs->Q (.ref a) H)/\∀ p,H p=none->Q (.ref p) (upd H p (.tup (za6 xs lo hi)))
theorem zik {X:Cx}:SlR X rSlN:=by
 intro pins s σ H x v vl vu lo hi sl Q I rx hs pl pu h
 obtain⟨a,xs,rfl,hx,q1,q2⟩:=h
 by_cases hw:HT.sIx xs.length 0 lo=0/\HT.sIx xs.length xs.length hi=xs.length
 .cases rx
  obtain⟨its,r,ht,hz⟩:=I.tuple (SqT.of hx)
  have hlen:its.toArray.size=xs.length:=by rw[List.size_toArray];exact r.length.symm
  refine⟨"tuple",_,PyProof.Rows.slot_tuple_getitem.lookup,ht.typeIs,?_⟩
  refine HT.own_getItem_whole ht hs pl pu (by rw[hlen];exact hw) ⟨.ref a,H,I,rfl,q1 ?_⟩
  unfold za6
  rw[hw.1,hw.2,List.drop_zero,Nat.sub_zero,List.take_length]
 .exact zkT pins s σ H (.ref a) v vl vu lo hi sl Q I rx hs pl pu ⟨a,xs,rfl,SqT.of hx,hw,q2⟩
end L2
namespace Dl
open PySem L2
variable [KK]
section
variable {X:Cx}{a b c e:Expr}{pos:Pos}
theorem zbr {lo hi:Option Expr}{p2:Pos}{f:Ev->Option D}{l h:Ev->Option (Option Int)}(ha:ED X a f)(hl:OD X lo l)(hh:OD X hi h)(hK:X.K=KK.K:=by rfl):ED X (.Subscript a (.Slice lo hi none p2) pos) (eSl slD f l h):=by
 obtain⟨ta,pa,ra⟩:=ha
 obtain⟨tl,ppl,rl⟩:=hl
 obtain⟨th,ph,rh⟩:=hh
 refine⟨_,zgy (zij.or zik) pa ppl ph,fun σ ρ F H z Q s va e q=>?_⟩
 obtain⟨d,e1,e⟩:=Option.bind_eq_some_iff.mp e
 obtain⟨i,e2,e⟩:=Option.bind_eq_some_iff.mp e
 obtain⟨j,e3,e⟩:=Option.bind_eq_some_iff.mp e
 refine ra σ ρ F H d _ s va e1 λF1 H1 v g1 a1=>?_
 refine rl σ ρ F1 H1 i _ g1.fh (va.mono g1.ff) e2 λF2 H2 g2=>?_
 refine rh σ ρ F2 H2 j _ g2.fh (va.mono (g1.ff.trans g2.ff)) e3 λF3 H3 g3=>?_
 have g123:=(g1.trans g2).trans g3
 have a3:=a1.mono (g2.ff.trans g3.ff)
 cases d <;> try cases e
 .obtain⟨p,xs,rfl,hx,al⟩:=a3.tup_inv
  refine .inr ⟨p,xs,rfl,g3.fh _ _ hx,λec=>?_,λr hr=>?_⟩
  .have:=al.cut (lo:=i) (hi:=j)
   rw[ec]at this
   exact q F3 H3 _ g123 (.tup hx this)
  .have g:=Gr.alloc g3.fh hr (.tup (za6 xs i j))
   exact q _ _ _ (g123.trans g) (.tup zo (al.cut.mono g.ff))
 .obtain⟨p,xs,rfl,hx,al⟩:=a3.lst_inv
  refine .inl ⟨p,xs,rfl,SqL.of (g3.fh _ _ hx),λr hr=>?_⟩
  have g:=Gr.alloc g3.fh hr (.lst (za6 xs i j))
  exact q _ _ _ (g123.trans g) (.lst zo (al.cut.mono g.ff))
 .rename_i ns _ _
  obtain⟨p,rfl,hx⟩:=a3.scr_inv
  refine .inl ⟨p,_,rfl,(by rw[hK];exact g3.fh.seq hx),λr hr=>?_⟩
  rw[zgu]
  have g:=Gr.alloc g3.fh hr (.lst ((zc1 ns i j).map V.int))
  exact q _ _ _ (g123.trans g) (.lst zo (.ints _))
noncomputable def CaD (r:List V->Hp->VK->Prop)(g:List D->Option D):Prop:=∀ (F H:Hp) (vs:List V) (ds:List D) (z:D) (Q:VK),yq F H->AtL F ds vs->g ds=some z->(∀ F' H' v,Gr F H F' H'->At F' z v->Q v H')->r vs H Q
noncomputable def eFn (g:List D->Option D)(f:Ev->Option (List D)):Ev->Option D:=fun ρ=>(f ρ).bind g
noncomputable def fFn (g:List D->Option (List D))(f:Ev->Option (List D)):Ev->Option (List D):=fun ρ=>(f ρ).bind g
theorem zS {x:Str}{id:String}{p:Pos}{es:List Expr}{r:List V->Hp->VK->Prop}{g:List D->Option D}{f:Ev->Option (List D)}(hc:vL X (.builtin id) r)(hg:CaD r g)(hgl:Gl X x)(hm:X.mg x=none)(hv:bootBuiltins x=some (.builtin id))(ha:AD X (e::es) f)
 (hn:x≠"__name__":=by decide) (hdb:(x == ("__debug__":Str))=false:=by decide) (he:starEach (e::es) X.env=(false,eval e X.env)::starEach es X.env:=by rfl) (hpl:(backTo pos (starEach es X.env)).any (·.1)=false:=by rfl) :
 ED X (.Call (.Name x p) (e::es) [] pos) (eFn g f):=by
 obtain⟨t,pa,ra⟩:=ha
 refine⟨_,ZP hc hgl hm hv pa hn hdb he hpl,fun σ ρ F H z Q s va e q=>?_⟩
 obtain⟨ds,e1,e2⟩:=Option.bind_eq_some_iff.mp e
 refine ra σ ρ F H ds _ s va e1 λF1 H1 vs g1 a1=>?_
 exact hg F1 H1 vs ds z Q g1.fh a1 e2 λF' H' v g av=>q F' H' v (g1.trans g) av
theorem x5 {x:Str}{T:String}{p:Pos}{es:List Expr}{r:List V->Hp->VK->Prop}{g:List D->Option D}{f:Ev->Option (List D)}(hc:vL X (.type T) r)(hg:CaD r g)(hgl:Gl X x)(hm:X.mg x=none)(hv:bootBuiltins x=some (.type T))(ha:AD X (e::es) f)
 (hn:x≠"__name__":=by decide) (hdb:(x == ("__debug__":Str))=false:=by decide) (he:starEach (e::es) X.env=(false,eval e X.env)::starEach es X.env:=by rfl) (hpl:(backTo pos (starEach es X.env)).any (·.1)=false:=by rfl) :
 ED X (.Call (.Name x p) (e::es) [] pos) (eFn g f):=by
 obtain⟨t,pa,ra⟩:=ha
 refine⟨_,VO hc hgl hm hv pa hn hdb he hpl,fun σ ρ F H z Q s va e q=>?_⟩
 obtain⟨ds,e1,e2⟩:=Option.bind_eq_some_iff.mp e
 refine ra σ ρ F H ds _ s va e1 λF1 H1 vs g1 a1=>?_
 exact hg F1 H1 vs ds z Q g1.fh a1 e2 λF' H' v g av=>q F' H' v (g1.trans g) av
noncomputable def VN:List D->Option D
 | [.lst ds]=>some (.int ds.length)
 | [.tup ds]=>some (.int ds.length)
 | [.scr ds]=>some (.int ds.length)
 | _=>none
theorem Yx:CaD (λxs H Q=>∃ p ys,xs=[.ref p]/\(SqL KK.K H p ys\/SqT KK.K H p ys)/\Q (.int ys.length) H) VN:=by
 intro F H vs ds z Q s al e q
 unfold VN at e
 split at e <;> cases e
 all_goals
  obtain⟨x,r,rfl,ax,ar⟩:=al.cons_inv
  cases ar.nil_inv
 .obtain⟨p,xs,rfl,hx,bl⟩:=ax.lst_inv
  exact⟨p,xs,rfl,.inl (SqL.of (s _ _ hx)),by rw[bl.length];exact q F H _ (.refl s) .int⟩
 .obtain⟨p,xs,rfl,hx,bl⟩:=ax.tup_inv
  exact⟨p,xs,rfl,.inr (SqT.of (s _ _ hx)),by rw[bl.length];exact q F H _ (.refl s) .int⟩
 .obtain⟨p,rfl,hx⟩:=ax.scr_inv
  exact⟨p,_,rfl,.inl ((s.seq hx)),by rw[List.length_map];exact q F H _ (.refl s) .int⟩
noncomputable def zjK:List D->Option D
 | [.int i,.int j]=>some (.int (if j > i then j else i))
 | _=>none
noncomputable def zkv:List D->Option D
 | [.int i,.int j]=>some (.int (if j < i then j else i))
 | _=>none
theorem zbK {g:Int->Int->Int}:CaD (λxs H Q=>∃ i j,xs=[.int i,.int j]/\Q (.int (g i j)) H) (λds=>match ds with | [.int i,.int j]=>some (.int (g i j)) | _=>none):=by
 intro F H vs ds z Q s al e q
 dsimp only at e
 split at e <;> cases e
 obtain⟨x,r,rfl,ax,ar⟩:=al.cons_inv
 obtain⟨y,r,rfl,ay,ar⟩:=ar.cons_inv
 cases ar.nil_inv
 exact⟨_,_,by rw[ax.int_inv,ay.int_inv],q F H _ (.refl s) .int⟩
theorem zga:CaD (λxs H Q=>∃ i j,xs=[.int i,.int j]/\Q (.int (if j > i then j else i)) H) zjK:=zbK (g:=λi j=>if j > i then j else i)
theorem zgj:CaD (λxs H Q=>∃ i j,xs=[.int i,.int j]/\Q (.int (if j < i then j else i)) H) zkv:=zbK (g:=λi j=>if j < i then j else i)
noncomputable def yS:List D->Option D
 | [.lst ds]=>some (.tup ds)
 | [.tup ds]=>some (.tup ds)
 | _=>none
theorem x9 {K:PySem.W.Frag}:CaD (λxs H Q=>∃ p ys,xs=[.ref p]/\((SqL K H p ys/\∀ l,H l=none->Q (.ref l) (upd H l (.tup ys)))\/(SqT K H p ys/\Q (.ref p) H))) yS:=by
 intro F H vs ds z Q s al e q
 unfold yS at e
 split at e <;> cases e
 all_goals
  obtain⟨x,r,rfl,ax,ar⟩:=al.cons_inv
  cases ar.nil_inv
 .obtain⟨p,xs,rfl,hx,bl⟩:=ax.lst_inv
  refine⟨p,xs,rfl,.inl ⟨SqL.of (s _ _ hx),λl hl=>?_⟩⟩
  have g:=Gr.alloc s hl (.tup xs)
  exact q _ _ _ g (.tup zo (bl.mono g.ff))
 .obtain⟨p,xs,rfl,hx,bl⟩:=ax.tup_inv
  exact⟨p,xs,rfl,.inr ⟨SqT.of (s _ _ hx),q F H _ (.refl s) (.tup hx bl)⟩⟩
noncomputable def Xt:List D->Option (List D)
 | [.lst ds]=>some ds
 | [.tup ds]=>some ds
 | [.scr ns]=>some (ns.map .int)
 | _=>none
theorem ziX {p:Pos} {f:Ev->Option (List D)} (hgl:Gl X "list") (hm:X.mg "list"=none) (ha:AD X [e] f) (hK:X.K=KK.K:=by rfl)
 (he:starEach [e] X.env=(false,eval e X.env)::starEach [] X.env:=by rfl) (hpl:(backTo pos (starEach [] X.env)).any (·.1)=false:=by rfl):FL X (.Call (.Name "list" p) [e] [] pos) (fFn Xt f):=by
 obtain⟨t,pa,ra⟩:=ha
 refine⟨_,VO zae hgl hm zba pa (by decide) (by decide) he hpl,fun σ ρ F H z Q s va e q=>?_⟩
 obtain⟨ds,e1,e2⟩:=Option.bind_eq_some_iff.mp e
 refine ra σ ρ F H ds _ s va e1 λF1 H1 vs g1 a1=>?_
 unfold Xt at e2
 split at e2 <;> cases e2
 all_goals
  obtain⟨x,r,rfl,ax,ar⟩:=a1.cons_inv
  cases ar.nil_inv
 .obtain⟨p,xs,rfl,hx,bl⟩:=ax.lst_inv
  exact⟨p,xs,rfl,.inl (SqL.of (g1.fh _ _ hx)),λl hl=>q _ _ _ _ (g1.trans (Gr.hide g1.fh hl _)) (zck g1 hl) (g1.fh.free hl) zo bl⟩
 .obtain⟨p,xs,rfl,hx,bl⟩:=ax.tup_inv
  exact⟨p,xs,rfl,.inr (SqT.of (g1.fh _ _ hx)),λl hl=>q _ _ _ _ (g1.trans (Gr.hide g1.fh hl _)) (zck g1 hl) (g1.fh.free hl) zo bl⟩
 .obtain⟨p,rfl,hx⟩:=ax.scr_inv
  exact⟨p,_,rfl,.inl (by rw[hK];exact g1.fh.seq hx),λl hl=>q _ _ _ _ (g1.trans (Gr.hide g1.fh hl _)) (zck g1 hl) (g1.fh.free hl) zo (.ints _)⟩
inductive TyD (K:PySem.W.Frag) (H:Hp):V->Value->Prop where
 | of {v:V} {t:Value} (h:zbV K H v t):TyD K H v t
 | dd {a:Addr} {u:HO} (h:Rd H a u) (d:(∃ kvs,u=.dK kvs)\/∃ kvs,u=.dT kvs):TyD K H (.ref a) (.type "dict")
theorem VA {X:Cx}:vL X (.builtin "isinstance") (λxs H Q=>∃ x n t b,xs=[x,.ty n]/\TyD X.K H x t/\PySem.W.kitOne X.K t (.type n)=some b/\Q (.bl b) H):=by
 intro pins s σ H xs us Q I r h
 obtain⟨x,n,t,b,rfl,ty,e,q⟩:=h
 cases ty with
 | of ty=>exact zaZ pins s σ H _ us Q I r ⟨x,n,t,b,rfl,ty,e,q⟩
 | @dd a u h d =>
  cases r with
  | cons r1 r2 =>
   cases r2 with
   | cons r3 r4 =>
    cases r4
    cases r1
    cases r3
    have ok:=h.ok I.hok
    rcases d with ⟨kvs,rfl⟩ | ⟨kvs,rfl⟩
    .obtain⟨_,_,vs,_,p⟩:=(show yt X.prog X.w H s.heap a (.dK kvs)from ok)
     obtain⟨o,es,ep,h1,h2,_⟩:=p
     exact PySem.W.kia_one PySem.W.kitx_dict I.kIn ⟨o,h1,h2.1⟩ e (λz=>nomatch z) λtk=>⟨.bl b,H,I.tok tk,rfl,q⟩
    .obtain⟨_,_,xs,_,o,es,ep,h1,h2,_⟩:=(show yt X.prog X.w H s.heap a (.dT kvs)from ok)
     exact PySem.W.kia_one PySem.W.kitx_dict I.kIn ⟨o,h1,h2.1⟩ e (λz=>nomatch z) λtk=>⟨.bl b,H,I.tok tk,rfl,q⟩
theorem At.ty {K:PySem.W.Frag}{F H:Hp}(s:yq F H):∀ {d:D} {v:V},At F d v->(∀ ns,d≠.scr ns)->TyD K H v (.type (tyN d))
 | .non,_,h,_=>by cases h.non_inv;exact .of .non
 | .bl b,_,h,_=>by cases h.bl_inv;exact .of (.bl b)
 | .int i,_,h,_=>by cases h.int_inv;exact .of (.int i)
 | .str x,_,h,_=>by cases h.str_inv;exact .of (.str x)
 | .tup ds,_,h,_=>by obtain⟨a,xs,rfl,e,_⟩:=h.tup_inv;exact .of (.tup (s _ _ e))
 | .lst ds,_,h,_=>by obtain⟨a,xs,rfl,e,_⟩:=h.lst_inv;exact .of (.lst (s _ _ e))
 | .scr ns,_,_,n=>absurd rfl (n ns)
 | .dct z t ks vs,_,h,_=>by
  obtain⟨a,xs,rfl,d,_⟩:=h.dct_inv
  obtain⟨u,e1,e2⟩:=(d.mono s).rd
  exact .dd e2 (by
   unfold zas at e1
   split at e1
   .obtain⟨kvs,rfl,_⟩:=e1;exact .inr ⟨kvs,rfl⟩
   .obtain⟨kvs,rfl,_⟩:=e1;exact .inl ⟨kvs,rfl⟩)
inductive Ty where
 | int | bool | tuple | list | str
noncomputable def Ty.nm:Ty->String
 | .int=>"int" | .bool=>"bool" | .tuple=>"tuple" | .list=>"list" | .str=>"str"
noncomputable def isT:Ty->D->Bool
 | .int,.int _=>true | .int,.bl _=>true
 | .bool,.bl _=>true
 | .tuple,.tup _=>true
 | .list,.lst _=>true
 | .str,.str _=>true
 | _,_=>false
noncomputable def vt (n:Ty):D->Option D
 | .scr _=>none
 | d=>some (.bl (isT n d))
theorem zkW (K:PySem.W.Frag)(n:Ty)(d:D)(h:∀ ns,d≠.scr ns):PySem.W.kitOne K (.type (tyN d)) (.type n.nm)=some (isT n d):=by
 cases n <;> cases d <;> first | exact absurd rfl (h _) | kernel_rfl
theorem yG {p:Pos} {f:Ev->Option D} (n:Ty) (hgl:Gl X "isinstance") (hm:X.mg "isinstance"=none) (ha:ED X a f) (hb:PE X b (tC (.ty n.nm)))
 (hs:starEach [a,b] X.env=(false,eval a X.env)::starEach [b] X.env:=by rfl) (hs2:starEach [b] X.env=(false,eval b X.env)::starEach [] X.env:=by rfl) (hpl:(backTo pos (starEach [b] X.env)).any (·.1)=false:=by rfl) :
 ED X (.Call (.Name "isinstance" p) [a,b] [] pos) (eUn (vt n) f):=by
 obtain⟨t,pa,ra⟩:=ha
 refine⟨_,ZP VA hgl hm Wv (W8 pa (W8 hb zeZ hs2) hs) (by decide) (by decide) hs hpl,fun σ ρ F H z Q s va e q=>?_⟩
 obtain⟨d,e1,e2⟩:=Option.bind_eq_some_iff.mp e
 refine ra σ ρ F H d _ s va e1 λF1 H1 v g1 a1=>?_
 have ns:∀ ns,d≠.scr ns:=λns h=>by subst h;cases e2
 have e3:z=.bl (isT n d):=by
  cases d <;> first | exact(Option.some.inj e2).symm | exact absurd rfl (ns _)
 subst e3
 exact⟨v,n.nm,_,_,rfl,a1.ty g1.fh ns,zkW _ n d ns,q F1 H1 _ g1 .bl⟩
noncomputable def zac (m:Bool)(i:Nat)(f:Ev->Option D):SE->Ctl:=fun ρ=>match (vEv m f ρ).bind λd=>match ρ[i]? with
 | some (.o ds)=>if decide (ds.length < sizeLine)=true then some (ρ.set i (.o (ds++[d])))else none
 | _=>none with
 | some ρ'=>.nx ρ'
 | none=>.no
theorem zef {m:Bool}{i:Nat}{p pos':Pos}{f:Ev->Option D}(ho:PE X a (zir i))(he:ED X e f)
 (hp:∀ {ta:TE} {t:TA},PE X a ta->PA X [e] t->PE X (.Call (.Attribute a "append" p) [e] [] pos') (tBM X.K "list" zdf ta t)) (hsw:swapsWith (.Call (.Attribute a "append" p) [e] [] pos') none pos.line X.env=pure false:=by rfl)
 (hs:starEach [e] X.env=(false,eval e X.env)::starEach [] X.env:=by rfl):SD X (.Expr (.Call (.Attribute a "append" p) [e] [] pos') pos) (zac m i f):=by
 obtain⟨t,pe,re⟩:=he
 refine⟨_,zeg (hp ho (W8 pe zeZ hs)) hsw,λFb Hb F H ρ σ E rl k=>?_⟩
 unfold zac at k
 cases h:(vEv m f ρ).bind λd=>match ρ[i]? with
  | some (.o ds)=>if decide (ds.length < sizeLine)=true then some (ρ.set i (.o (ds++[d])))else none
  | _=>none with
 | none=>rw[h]at k;exact k.elim
 | some ρ' =>
  rw[h]at k
  obtain⟨d,e1,e2⟩:=Option.bind_eq_some_iff.mp h
  cases hs:ρ[i]? with
  | none=>rw[hs]at e2;cases e2
  | some sl =>
   rw[hs]at e2
   cases sl with
   | no=>cases e2
   | v _=>cases e2
   | m _ _ _=>cases e2
   | o ds =>
    dsimp only at e2
    split at e2 <;> cases e2
    rename_i hl
    obtain⟨q,xs,f1,f2,f3,f4,f5⟩:=rl.owns i ds hs
    refine⟨_,f1,.inl ⟨rfl,xs,SqL.of f4⟩,?_⟩
    refine re.at rl e1 λF' H' v g av=>?_
    have rl2:=rl.grow g
    obtain⟨q2,xs2,f1',_,_,f4',f5'⟩:=rl2.owns i ds hs
    rw[f1]at f1'
    cases f1'
    refine⟨q,xs2,v,rfl,rfl,f4',by rw[f5'.length];exact of_decide_eq_true hl,?_⟩
    exact k _ _ σ (rl2.mutate hs f1 (f5'.snoc av))
noncomputable def zhw (i:Nat)(f:Ev->Option D):SE->Ctl:=fun ρ=>match (f (visF ρ)).bind λd=>match ρ[i]?,d with
 | some (.o ds),.lst es=>if lim (ds.length+es.length)=true then some (ρ.set i (.o (ds++es)))else none
 | _,_=>none with
 | some ρ'=>.nx ρ'
 | none=>.no
end
end Dl
namespace Dl
open PySem L2
variable [KK]
noncomputable def okE:Nat->D->Bool
 | _,.scr _=>false
 | _,.dct _ _ _ _=>false
 | 0,.tup _=>false
 | 0,.lst _=>false
 | n+1,.tup ds=>ds.all (okE n)
 | n+1,.lst ds=>ds.all (okE n)
 | _,_=>true
noncomputable def eqN:Nat->D->D->Bool
 | _,.non,.non=>true
 | _,.bl a,.bl b=>a == b
 | _,.bl a,.int b=>(if a then 1 else 0) == b
 | _,.int a,.bl b=>a == (if b then 1 else 0)
 | _,.int a,.int b=>a == b
 | _,.str a,.str b=>a == b
 | n+1,.tup a,.tup b=>(List.zipWith (eqN n) a b).all id&&a.length == b.length
 | n+1,.lst a,.lst b=>(List.zipWith (eqN n) a b).all id&&a.length == b.length
 | _,_,_=>false
omit [KK] in
theorem Wx {n:Nat}:∀ (a b:List D),(List.zipWith (eqN n) a b).all id=(List.range (min a.length b.length)).all λj=>eqN n (a.getD j .non) (b.getD j .non):=by
 intro a b
 have:List.zipWith (eqN n) a b=(List.range (min a.length b.length)).map λj=>eqN n (a.getD j .non) (b.getD j .non):=by
  apply List.ext_getElem
  .simp
  .intro i h1 h2
   simp at h1 h2
   have g1:i < a.length:=Nat.lt_of_lt_of_le h1 (Nat.min_le_left _ _)
   have g2:i < b.length:=Nat.lt_of_lt_of_le h1 (Nat.min_le_right _ _)
   simp[g1,g2]
 rw[this,List.all_map]
 rfl
omit [KK] in
noncomputable def vOf:D->V
 | .bl b=>.bl b
 | .int i=>.int i
 | .str t=>.str t
 | _=>.non
theorem xH {F:Hp}{d:D}{x:V}(h:okE 0 d=true)(a:At F d x):x=vOf d:=by
 cases d with
 | non=>exact a.non_inv
 | bl b=>exact a.bl_inv
 | int b=>exact a.int_inv
 | str b=>exact a.str_inv
 | _=>cases h
omit [KK] in
theorem ZS {d:D}(h:okE 0 d=true):zjf (vOf d)=true:=by
 cases d <;> first | rfl | cases h
omit [KK] in
theorem WZ {d:D}{p:Addr}(h:okE 0 d=true)(e:vOf d=.ref p):False:=by
 cases d <;> first | (cases h;done) | (cases e;done)
noncomputable def dOfV:V->D
 | .bl b=>.bl b
 | .int i=>.int i
 | .str t=>.str t
 | _=>.non
omit [KK] in
theorem zes {d:D}(h:okE 0 d=true):dOfV (vOf d)=d:=by
 cases d <;> first | rfl | (cases h;done)
omit [KK] in
theorem zer {d e:D}(h1:okE 0 d=true)(h2:okE 0 e=true)(h:vOf d=vOf e):d=e:=by
 rw[<-zes h1,h,zes h2]
omit [KK] in
theorem xD {n:Nat}{d:D}(h:okE (n+1) d=true):okE 0 d=true\/(∃ ds,d=.tup ds/\ds.all (okE n)=true)\/∃ ds,d=.lst ds/\ds.all (okE n)=true:=by
 cases d with
 | tup ds=>exact .inr (.inl ⟨ds,rfl,h⟩)
 | lst ds=>exact .inr (.inr ⟨ds,rfl,h⟩)
 | scr _=>cases h
 | dct _ _ _ _=>cases h
 | _=>exact .inl rfl
theorem zek {F:Hp}{n:Nat}(ih:∀ {d e:D} {v:V},okE n d=true->okE n e=true->At F d v->At F e v->d=e):∀ {xs:List V} {ds es:List D},ds.all (okE n)=true->es.all (okE n)=true->AtL F ds xs->AtL F es xs->ds=es:=by
 intro xs
 induction xs with
 | nil =>
  intro ds es _ _ a1 a2
  exact(List.length_eq_zero_iff.mp a1.length.symm).trans (List.length_eq_zero_iff.mp a2.length.symm).symm
 | cons x xs ih2 =>
  intro ds es h1 h2 a1 a2
  cases ds with
  | nil=>cases a1.nil_inv
  | cons d ds=>cases es with
   | nil=>cases a2.nil_inv
   | cons e es =>
    obtain⟨y,r,e1,b1,c1⟩:=a1.cons_inv
    obtain⟨y2,r2,e2,b2,c2⟩:=a2.cons_inv
    cases e1
    cases e2
    rw[List.all_cons,Bool.and_eq_true]at h1 h2
    rw[ih2 h1.2 h2.2 c1 c2,ih h1.1 h2.1 b1 b2]
theorem zhH {F:Hp}:∀ (n:Nat) {d e:D} {v:V},okE n d=true->okE n e=true->At F d v->At F e v->d=e:=by
 intro n
 induction n with
 | zero =>
  intro d e v h1 h2 a1 a2
  exact zer h1 h2 ((xH h1 a1).symm.trans (xH h2 a2))
 | succ n ih =>
  intro d e v h1 h2 a1 a2
  rcases xD h1 with f1 | ⟨ds,rfl,k1⟩ | ⟨ds,rfl,k1⟩
  .have e1:=xH f1 a1
   rcases xD h2 with f2 | ⟨es,rfl,_⟩ | ⟨es,rfl,_⟩
   .exact zer f1 f2 (e1.symm.trans (xH f2 a2))
   .obtain⟨p,xs,e2,_⟩:=a2.tup_inv
    exact(WZ f1 (e1.symm.trans e2)).elim
   .obtain⟨p,xs,e2,_⟩:=a2.lst_inv
    exact(WZ f1 (e1.symm.trans e2)).elim
  .obtain⟨p,xs,e0,hx,al⟩:=a1.tup_inv
   rcases xD h2 with f2 | ⟨es,rfl,k2⟩ | ⟨es,rfl,k2⟩
   .exact(WZ f2 ((xH f2 a2).symm.trans e0)).elim
   .obtain⟨q,ys,e1,hy,bl⟩:=a2.tup_inv
    cases e0.symm.trans e1
    cases hx.symm.trans hy
    rw[zek ih k1 k2 al bl]
   .obtain⟨q,ys,e1,hy,bl⟩:=a2.lst_inv
    cases e0.symm.trans e1
    cases hx.symm.trans hy
  .obtain⟨p,xs,e0,hx,al⟩:=a1.lst_inv
   rcases xD h2 with f2 | ⟨es,rfl,k2⟩ | ⟨es,rfl,k2⟩
   .exact(WZ f2 ((xH f2 a2).symm.trans e0)).elim
   .obtain⟨q,ys,e1,hy,bl⟩:=a2.tup_inv
    cases e0.symm.trans e1
    cases hx.symm.trans hy
   .obtain⟨q,ys,e1,hy,bl⟩:=a2.lst_inv
    cases e0.symm.trans e1
    cases hx.symm.trans hy
    rw[zek ih k1 k2 al bl]
omit [KK] in
theorem zgB:∀ (n:Nat) {d:D},okE n d=true->eqN n d d=true:=by
 intro n
 induction n with
 | zero =>
  intro d h
  cases d with
  | tup _=>cases h
  | lst _=>cases h
  | scr _=>cases h
  | dct _ _ _ _=>cases h
  | _=>first | rfl | exact decide_eq_true rfl | exact beq_self_eq_true _
 | succ n ih =>
  have ihl:∀ {ds:List D},ds.all (okE n)=true->(List.zipWith (eqN n) ds ds).all id=true:=by
   intro ds
   induction ds with
   | nil=>intro _;rfl
   | cons d ds ih2 =>
    intro h
    rw[List.all_cons,Bool.and_eq_true]at h
    rw[List.zipWith_cons_cons,List.all_cons,ih2 h.2,Bool.and_true]
    exact ih h.1
  intro d h
  cases d with
  | tup ds=>show((List.zipWith (eqN n) ds ds).all id&&ds.length == ds.length)=true;rw[ihl h];simp
  | lst ds=>show((List.zipWith (eqN n) ds ds).all id&&ds.length == ds.length)=true;rw[ihl h];simp
  | scr _=>cases h
  | dct _ _ _ _=>cases h
  | _=>first | rfl | exact decide_eq_true rfl | exact beq_self_eq_true _
theorem zho {F:Hp}(n:Nat){d e:D}{v:V}(h1:okE n d=true)(h2:okE n e=true)(a1:At F d v)(a2:At F e v):eqN n d e=true:=by
 rw[zhH n h1 h2 a1 a2]
 exact zgB n h2
omit [KK] in
theorem xY {n:Nat}{ds:List D}{j:Nat}(h:ds.all (okE n)=true)(hj:j < ds.length):okE n (ds.getD j .non)=true:=by
 have:ds.getD j .non=ds[j]:=by simp[hj]
 rw[this]
 exact List.all_eq_true.mp h _ (List.getElem_mem hj)
theorem AtL.nth {F:Hp}{ds:List D}{xs:List V}{us:List Value}{j:Nat}(al:AtL F ds xs)(r:yf xs us)(h:j < us.length):∃ x,At F (ds.getD j .non) x/\yF x us[j]:=by
 have hl:=al.length
 have hl2:=r.length
 have hj:j < ds.length:=by omega
 obtain⟨x,hx,ax⟩:=al.get (i:=j) (d:=ds[j]) (by simp[hj])
 obtain⟨u,hu,ru⟩:=r.get hx
 refine⟨x,by rw[show ds.getD j .non=ds[j] by simp[hj]];exact ax,?_⟩
 have:us[j]?=some us[j]:=by simp[h]
 rw[hu]at this
 cases this
 exact ru
omit [KK] in
theorem zbJ {n:Nat}{d e:D}(h1:okE 0 d=true)(h2:okE 0 e=true):eqN n d e=eqV (vOf d) (vOf e):=by
 cases n <;> cases d <;> first | (cases h1;done) | skip
 all_goals cases e <;> first | (cases h2;done) | rfl
omit [KK] in
theorem zb5 {n:Nat}{d:D}(ds:List D)(h:okE 0 d=true):eqN (n+1) d (.tup ds)=false/\eqN (n+1) d (.lst ds)=false/\eqN (n+1) (.tup ds) d=false/\eqN (n+1) (.lst ds) d=false:=by
 cases d <;> first | exact⟨rfl,rfl,rfl,rfl⟩ | cases h
omit [KK] in
theorem Vj {A:Around}{s:Shared}{d:D}{u:Value}{p:Addr}{its:Array Value}(h:okE 0 d=true)(r:yF (vOf d) u)(hu:A.units < cLine) :
 (s.heap.IsTuple p its->SeqAt.EqAt A s u (.ref p) false/\SeqAt.EqAt A s (.ref p) u false)/\(s.heap.IsList p its->SeqAt.EqAt A s u (.ref p) false/\SeqAt.EqAt A s (.ref p) u false):=by
 cases d with
 | non=>cases r;exact⟨λht=>⟨.none_tuple ht hu,.tuple_none ht hu⟩,λht=>⟨.none_list ht hu,.list_none ht hu⟩⟩
 | bl b=>cases r;exact⟨λht=>⟨.bool_tuple b ht hu,.tuple_bool b ht hu⟩,λht=>⟨.bool_list b ht hu,.list_bool b ht hu⟩⟩
 | int b=>obtain⟨t,rfl⟩:=r;exact⟨λht=>⟨.int_tuple b t ht hu,.tuple_int b t ht hu⟩,λht=>⟨.int_list b t ht hu,.list_int b t ht hu⟩⟩
 | str b=>obtain⟨t,rfl⟩:=r;exact⟨λht=>⟨.str_tuple b t ht hu,.tuple_str b t ht hu⟩,λht=>⟨.str_list b t ht hu,.list_str b t ht hu⟩⟩
 | _=>cases h
theorem WG {X:Cx}{pins:List (Addr × Obj)}{σ:St}{F H:Hp}{s:Shared}(I:Inv X pins σ H s)(sm:yq F H){ds:List D}{x:V}{u:Value}(a:At F (.tup ds) x)(r:yF x u):∃ p its xs,u=.ref p/\x=.ref p/\yf xs its/\AtL F ds xs/\s.heap.IsTuple p its.toArray:=by
 obtain⟨p,xs,rfl,hx,al⟩:=a.tup_inv
 cases r
 obtain⟨its,rv,ht,hz⟩:=I.tuple (SqT.of (sm _ _ hx))
 exact⟨p,its,xs,rfl,rfl,rv,al,ht⟩
theorem Ww {X:Cx}{pins:List (Addr × Obj)}{σ:St}{F H:Hp}{s:Shared}(I:Inv X pins σ H s)(sm:yq F H){ds:List D}{x:V}{u:Value}(a:At F (.lst ds) x)(r:yF x u):∃ p its xs,u=.ref p/\x=.ref p/\yf xs its/\AtL F ds xs/\s.heap.IsList p its.toArray:=by
 obtain⟨p,xs,rfl,hx,al⟩:=a.lst_inv
 cases r
 obtain⟨its,rv,ht,hz⟩:=I.list (SqL.of (sm _ _ hx))
 exact⟨p,its,xs,rfl,rfl,rv,al,ht.isList⟩
omit [KK] in
theorem zeO {n:Nat}(ds es:List D):((List.zipWith (eqN n) ds es).all id&&ds.length == es.length)=((List.range (min ds.length es.length)).all (λj=>eqN n (ds.getD j .non) (es.getD j .non))&&ds.length == es.length):=by rw[Wx]
theorem zcd {X:Cx}{pins:List (Addr × Obj)}{σ:St}{F H:Hp}{s:Shared}(I:Inv X pins σ H s)(sm:yq F H):∀ (n:Nat) {A:Around} {d e:D} {x y:V} {u v:Value},okE n d=true->okE n e=true->At F d x->At F e y->yF x u->yF y v->A.units+n < cLine->SeqAt.EqAt A s u v (eqN n d e):=by
 intro n
 induction n with
 | zero =>
  intro A d e x y u v h1 h2 a1 a2 r1 r2 hu
  cases xH h1 a1
  cases xH h2 a2
  rw[zbJ h1 h2]
  exact zhn r1 r2 (ZS h1) (ZS h2)
 | succ n ih =>
  intro A d e x y u v h1 h2 a1 a2 r1 r2 hu
  have hu0:A.units < cLine:=Nat.lt_of_le_of_lt (Nat.le_add_right _ _) hu
  have hu1:A.units+1+n < cLine:=by rw[Nat.add_assoc,Nat.add_comm 1 n];exact hu
  rcases xD h1 with f1 | ⟨ds,rfl,k1⟩ | ⟨ds,rfl,k1⟩
  .cases xH f1 a1
   rcases xD h2 with f2 | ⟨es,rfl,k2⟩ | ⟨es,rfl,k2⟩
   .cases xH f2 a2
    rw[zbJ f1 f2]
    exact zhn r1 r2 (ZS f1) (ZS f2)
   .obtain⟨q,its2,ys,rfl,_,_,_,ht2⟩:=WG I sm a2 r2
    rw[(zb5 es f1).1]
    exact((Vj f1 r1 hu0).1 ht2).1
   .obtain⟨q,its2,ys,rfl,_,_,_,ht2⟩:=Ww I sm a2 r2
    rw[(zb5 es f1).2.1]
    exact((Vj f1 r1 hu0).2 ht2).1
  .obtain⟨p,its,xs,rfl,hxp,rv,al,ht⟩:=WG I sm a1 r1
   rcases xD h2 with f2 | ⟨es,rfl,k2⟩ | ⟨es,rfl,k2⟩
   .cases xH f2 a2
    rw[(zb5 ds f2).2.2.1]
    exact((Vj f2 r2 hu0).1 ht).2
   .obtain⟨q,its2,ys,rfl,hyq,rv2,bl,ht2⟩:=WG I sm a2 r2
    by_cases hpq:p=q
    .subst hpq
     rw[hxp]at a1
     rw[hyq]at a2
     rw[zho (n+1) h1 h2 a1 a2]
     exact .same _
    .have hl1:its.toArray.size=ds.length:=by rw[List.size_toArray,<- rv.length,al.length]
     have hl2:its2.toArray.size=es.length:=by rw[List.size_toArray,<- rv2.length,bl.length]
     have:=SeqAt.RcAt.tuples (A:=A) (e:=λj=>eqN n (ds.getD j .non) (es.getD j .non)) ht ht2 hu0 λj g1 g2=>by
      obtain⟨x',ax,rx⟩:=al.nth rv (j:=j) g1
      obtain⟨y',ay,ry⟩:=bl.nth rv2 (j:=j) g2
      exact ih (xY k1 (hl1 ▸ g1)) (xY k2 (hl2 ▸ g2)) ax ay rx ry hu1
     rw[hl1,hl2]at this
     rw[show eqN (n+1) (.tup ds) (.tup es)=_ from zeO ds es]
     exact SeqAt.EqAt.of_refs hpq this
   .obtain⟨q,its2,ys,rfl,_,_,_,ht2⟩:=Ww I sm a2 r2
    exact .tuple_list ht ht2 hu0
  .obtain⟨p,its,xs,rfl,hxp,rv,al,ht⟩:=Ww I sm a1 r1
   rcases xD h2 with f2 | ⟨es,rfl,k2⟩ | ⟨es,rfl,k2⟩
   .cases xH f2 a2
    rw[(zb5 ds f2).2.2.2]
    exact((Vj f2 r2 hu0).2 ht).2
   .obtain⟨q,its2,ys,rfl,_,_,_,ht2⟩:=WG I sm a2 r2
    exact .list_tuple ht ht2 hu0
   .obtain⟨q,its2,ys,rfl,hyq,rv2,bl,ht2⟩:=Ww I sm a2 r2
    by_cases hpq:p=q
    .subst hpq
     rw[hxp]at a1
     rw[hyq]at a2
     rw[zho (n+1) h1 h2 a1 a2]
     exact .same _
    .have hl1:its.toArray.size=ds.length:=by rw[List.size_toArray,<- rv.length,al.length]
     have hl2:its2.toArray.size=es.length:=by rw[List.size_toArray,<- rv2.length,bl.length]
     rw[show eqN (n+1) (.lst ds) (.lst es)=_ from zeO ds es]
     by_cases hle:ds.length=es.length
     .have:=SeqAt.RcAt.lists (A:=A) (e:=λj=>eqN n (ds.getD j .non) (es.getD j .non)) ht ht2 (by rw[hl1,hl2,hle]) hu0 λj g1 g2=>by
       obtain⟨x',ax,rx⟩:=al.nth rv (j:=j) g1
       obtain⟨y',ay,ry⟩:=bl.nth rv2 (j:=j) g2
       exact ih (xY k1 (hl1 ▸ g1)) (xY k2 (hl2 ▸ g2)) ax ay rx ry hu1
      rw[hl1]at this
      rw[<-hle,Nat.min_self,beq_self_eq_true,Bool.and_true]
      exact SeqAt.EqAt.of_refs hpq this
     .have:=SeqAt.RcAt.lists_lengths (A:=A) ht ht2 (by rw[hl1,hl2];exact bne_iff_ne.mpr hle) hu0
      rw[beq_eq_false_iff_ne.mpr hle,Bool.and_false]
      exact SeqAt.EqAt.of_refs hpq this
noncomputable def zkP (d:D)(es:List D):Option Bool:=if okE 20 d=true/\es.all (okE 20)=true then some (es.any λe=>eqN 20 e d)else none
noncomputable def inD (d e:D):Option D:=(wf e).bind λes=>(zkP d es).map .bl
open Classical in
noncomputable def zfu (F:Hp)(d:D)(u:Value):Bool:=decide (∃ d0 x,At F d0 x/\yF x u/\okE 20 d0=true/\eqN 20 d0 d=true)
open Classical in
theorem zfm {F:Hp}{d d0:D}{x:V}{u:Value}(a:At F d0 x)(r:yF x u)(k:okE 20 d0=true):zfu F d u=eqN 20 d0 d:=by
 unfold zfu
 cases h:eqN 20 d0 d with
 | true=>exact decide_eq_true ⟨d0,x,a,r,k,h⟩
 | false =>
  refine decide_eq_false ?_
  rintro⟨d1,y,a1,r1,k1,h1⟩
  have e:=r1.inj r
  subst e
  rw[zhH 20 k1 k a1 a]at h1
  rw[h1]at h
  cases h
theorem W7 {F:Hp}{d:D}:∀ {ds:List D} {xs:List V} {us:List Value},AtL F ds xs->yf xs us->ds.all (okE 20)=true->us.any (zfu F d)=ds.any λe=>eqN 20 e d
 | [],_,_,al,r,_=>by cases al.nil_inv;cases r;rfl
 | e::ds,_,_,al,r,k=>by
  obtain⟨x,xs,rfl,a1,a2⟩:=al.cons_inv
  cases r with
  | cons r1 r2 =>
   rw[List.all_cons,Bool.and_eq_true]at k
   rw[List.any_cons,List.any_cons,zfm a1 r1 k.1,W7 a2 r2 k.2]
section
variable {X:Cx}
noncomputable def rInD (neg:Bool):R2:=λx y H Q=>∃ F d e es b,yq F H/\At F d x/\At F e y/\wf e=some es/\zkP d es=some b/\Q (.bl (if neg then !b else b)) H
theorem zhC {k:Nat}(hr:YA k X.A):OpR X (compareOp .In) (rInD false):=by
 intro pins s σ H x y v u Q I rx ry h
 obtain⟨F,d,e,es,b,sm,a1,a2,hs,hb,q⟩:=h
 unfold zkP at hb
 split at hb <;> cases hb
 rename_i hk
 have hu:X.A.in1.units+20 < cLine:=by have:=hr.un;show X.A.units+1+20 < cLine;omega
 have mem:∀ {xs:List V} {us:List Value},AtL F es xs->yf xs us->∀ z∈us,SeqAt.EqAt X.A.in1 s z v (zfu F d z):=λ{xs us} al r z hz=>by
  obtain⟨j,hj,rfl⟩:=List.getElem_of_mem hz
  obtain⟨x',ax,rx'⟩:=al.nth r hj
  have hj':j < es.length:=by have:=al.length;have:=r.length;omega
  have k2:=xY hk.2 hj'
  rw[zfm ax rx' k2]
  exact zcd I sm 20 k2 hk.1 ax a1 rx' rx hu
 cases e <;> cases hs
 .obtain⟨p,xs,rfl,hx,al⟩:=a2.tup_inv
  cases ry
  obtain⟨its,r,pl,hz⟩:=I.tuple (SqT.of (sm _ _ hx))
  refine SeqAt.in_tupleAt (zfu F d) pl (λz hz=>mem al r z (by simpa using hz)) ⟨.bl _,H,I,rfl,?_⟩
  rw[show its.toArray.any (zfu F d)=its.any (zfu F d) by simp,W7 al r hk.2]
  exact q
 .obtain⟨p,xs,rfl,hx,al⟩:=a2.lst_inv
  cases ry
  obtain⟨its,r,pl,hz⟩:=I.list (SqL.of (sm _ _ hx))
  refine SeqAt.in_listAt (zfu F d) pl.isList (λz hz=>mem al r z (by simpa using hz)) ⟨.bl _,H,I,rfl,?_⟩
  rw[show its.toArray.any (zfu F d)=its.any (zfu F d) by simp,W7 al r hk.2]
  exact q
theorem zhv:OpD (rInD false) inD:=by
 intro F H x y d e z Q s ax ay ez q
 obtain⟨es,e1,e2⟩:=Option.bind_eq_some_iff.mp ez
 obtain⟨b,e3,rfl⟩:=Option.map_eq_some_iff.mp e2
 exact⟨F,d,e,es,b,s,ax,ay,e1,e3,q F H _ (.refl s) .bl⟩
noncomputable def eqG (d e:D):Option Bool:=match d,e with
 | .tup _,.tup _=>if okE 20 d=true/\okE 20 e=true then some (eqN 20 d e)else none
 | .lst _,.lst _=>if okE 20 d=true/\okE 20 e=true then some (eqN 20 d e)else none
 | _,_=>eqS d e
noncomputable def WN (d e:D):Option D:=(eqG d e).map .bl
noncomputable def zlf:R2:=λx y H Q=>∃ F d e,yq F H/\At F d x/\At F e y/\((∃ ds es,d=.tup ds/\e=.tup es)\/(∃ ds es,d=.lst ds/\e=.lst es))/\okE 20 d=true/\okE 20 e=true/\Q (.bl (eqN 20 d e)) H
theorem zjV {k:Nat}(hr:YA k X.A):OpR X (compareOp .Eq) zlf:=by
 intro pins s σ H x y v u Q I rx ry h
 obtain⟨F,d,e,sm,a1,a2,hk,k1,k2,q⟩:=h
 have hu:X.A.units+30 < cLine:=by have:=hr.un;omega
 rcases hk with ⟨ds,es,rfl,rfl⟩ | ⟨ds,es,rfl,rfl⟩
 .obtain⟨p,xs,rfl,hx,al⟩:=a1.tup_inv
  obtain⟨p2,ys,rfl,hy,bl⟩:=a2.tup_inv
  cases rx
  cases ry
  obtain⟨its,r,ht,hz⟩:=I.tuple (SqT.of (sm _ _ hx))
  obtain⟨its2,r2,ht2,hz2⟩:=I.tuple (SqT.of (sm _ _ hy))
  have hl1:its.toArray.size=ds.length:=by rw[List.size_toArray,<- r.length,al.length]
  have hl2:its2.toArray.size=es.length:=by rw[List.size_toArray,<- r2.length,bl.length]
  refine SeqAt.eq_tupleAt (e:=λj=>eqN 19 (ds.getD j .non) (es.getD j .non)) (show s.heap.IsTuple p its.toArray from ht) (show s.heap.IsTuple p2 its2.toArray from ht2) (by omega) (λj g1 g2=>?_) ⟨.bl _,H,I,rfl,?_⟩
  .obtain⟨x',ax,rx⟩:=al.nth r (j:=j) (by simpa using g1)
   obtain⟨y',ay,ry⟩:=bl.nth r2 (j:=j) (by simpa using g2)
   exact zcd I sm 19 (xY k1 (by rw[<-hl1];exact g1)) (xY k2 (by rw[<-hl2];exact g2)) ax ay (by simpa using rx) (by simpa using ry) (Nat.lt_of_le_of_lt (show X.A.units+20<=X.A.units+30 from Nat.add_le_add_left (by decide) _) hu)
  .rw[hl1,hl2,<- Wx]
   exact q
 .obtain⟨p,xs,rfl,hx,al⟩:=a1.lst_inv
  obtain⟨p2,ys,rfl,hy,bl⟩:=a2.lst_inv
  cases rx
  cases ry
  obtain⟨its,r,ht,hz⟩:=I.list (SqL.of (sm _ _ hx))
  obtain⟨its2,r2,ht2,hz2⟩:=I.list (SqL.of (sm _ _ hy))
  have hl1:its.toArray.size=ds.length:=by rw[List.size_toArray,<- r.length,al.length]
  have hl2:its2.toArray.size=es.length:=by rw[List.size_toArray,<- r2.length,bl.length]
  have e1:eqN 20 (.lst ds) (.lst es)=((List.range (min ds.length es.length)).all (λj=>eqN 19 (ds.getD j .non) (es.getD j .non))&&ds.length == es.length):=by
   show((List.zipWith (eqN 19) ds es).all id&&ds.length == es.length)=_
   rw[Wx]
  by_cases hle:ds.length=es.length
  .refine SeqAt.eq_listAt (e:=λj=>eqN 19 (ds.getD j .non) (es.getD j .non)) ht.isList ht2.isList (by rw[hl1,hl2];exact hle) (Nat.lt_of_le_of_lt (Nat.le_add_right _ 30) hu) (λj g1 g2=>?_) ⟨.bl _,H,I,rfl,?_⟩
   .obtain⟨x',ax,rx⟩:=al.nth r (j:=j) (by simpa using g1)
    obtain⟨y',ay,ry⟩:=bl.nth r2 (j:=j) (by simpa using g2)
    exact zcd I sm 19 (xY k1 (by rw[<-hl1];exact g1)) (xY k2 (by rw[<-hl2];exact g2)) ax ay (by simpa using rx) (by simpa using ry) (Nat.lt_of_le_of_lt (show X.A.units+20<=X.A.units+30 from Nat.add_le_add_left (by decide) _) hu)
   .rw[hl1]
    rw[e1,<- hle,Nat.min_self]at q
    simpa using q
  .refine SeqAt.eq_list_lengthsAt ht.isList ht2.isList (by rw[hl1,hl2];simpa using hle) (Nat.lt_of_le_of_lt (Nat.le_add_right _ 30) hu) ⟨.bl _,H,I,rfl,?_⟩
   have:(ds.length == es.length)=false:=by simpa using hle
   rw[e1,this,Bool.and_false]at q
   exact q
theorem ziC:OpD zlf (λd e=>match d,e with
 | .tup _,.tup _=>if okE 20 d=true/\okE 20 e=true then some (.bl (eqN 20 d e))else none
 | .lst _,.lst _=>if okE 20 d=true/\okE 20 e=true then some (.bl (eqN 20 d e))else none
 | _,_=>none):=by
 intro F H x y d e z Q s ax ay ez q
 dsimp only at ez
 split at ez
 .split at ez <;> cases ez
  rename_i hk
  exact⟨F,_,_,s,ax,ay,.inl ⟨_,_,rfl,rfl⟩,hk.1,hk.2,q F H _ (.refl s) .bl⟩
 .split at ez <;> cases ez
  rename_i hk
  exact⟨F,_,_,s,ax,ay,.inr ⟨_,_,rfl,rfl⟩,hk.1,hk.2,q F H _ (.refl s) .bl⟩
 .cases ez
theorem vw {k:Nat}(hr:YA k X.A):OpR X (compareOp .Eq) (λx y H Q=>rEq x y H Q\/zlf x y H Q):=zlR.or (zjV hr)
theorem xL:OpD (λx y H Q=>rEq x y H Q\/zlf x y H Q) WN:=by
 refine zaB (VG zhq ziC) λd e z h=>?_
 obtain⟨b,hb,rfl⟩:=Option.map_eq_some_iff.mp h
 unfold eqG at hb
 split at hb
 .split at hb <;> cases hb
  rename_i hk
  show(Option.or none (if okE 20 _=true/\okE 20 _=true then some (D.bl (eqN 20 _ _))else none))=_
  rw[if_pos hk]
  rfl
 .split at hb <;> cases hb
  rename_i hk
  show(Option.or none (if okE 20 _=true/\okE 20 _=true then some (D.bl (eqN 20 _ _))else none))=_
  rw[if_pos hk]
  rfl
 .show((eqD d e).or _)=_
  unfold eqD
  rw[hb]
  rfl
theorem ZV {pins:List (Addr × Obj)}{σ:St}{H:Hp}{s:Shared}{a:Addr}{xs:List V}{A:Around}{Q:Value->Shared->Prop}{E:Value->Shared->Prop}(I:Inv X pins σ H s)(hh:A.handled=none)(h:SqL X.K H a xs\/SqT X.K H a xs)
 (k:∀ (it:Addr) (its:List Value) (fp wr:List Addr) (St:Nat->Heap->Prop) (s₂:Shared),yf xs its->Walks X.prog X.w A it fp wr its.length (λi v=>its[i]?=some v) St->St 0 s₂.heap->(∀ b∈fp,b < s₂.heap.objs.size) ->
  (∀ (h':Heap) (tk:Nat),(∀ b o,b∉wr->s₂.heap.get? b=some o->h'.get? b=some o)->Inv X pins σ H { s₂ with heap:=h',toks:=tk })->Q (.ref it) s₂) :
 wpAny (model X.prog X.w) A (pyIter (.ref a)) Q E s:=by
 have back:∀ {o:Obj} {s₂:Shared},s₂={ s with heap:=s.heap.push o }->∀ (h':Heap) (tk:Nat),(∀ b u,b∉[s.heap.objs.size]->s₂.heap.get? b=some u->h'.get? b=some u)->Inv X pins σ H { s₂ with heap:=h',toks:=tk }:=λ{o s₂} e h' tk kk=>by
  subst e
  exact I.kept (t':=tk) λb u z=>kk b u (by simpa using Nat.ne_of_lt (Heap.lt_size z)) (Heap.get?_push_of_some _ z)
 rcases h with h | h
 .obtain⟨its,rv,p,hz⟩:=I.list h
  have lt:a < s.heap.objs.size:=by obtain⟨o,n,ho,_⟩:=p;exact Heap.lt_size ho
  refine wpAny_pyIter_list p.isList ?_
  have W:=Walks.list (prog:=X.prog) (w:=X.w) (A:=A) hh s.heap.objs.size a (Nat.ne_of_lt lt) its.toArray
  refine k s.heap.objs.size its [s.heap.objs.size,a] [s.heap.objs.size] (λi h=>h.IsListIter s.heap.objs.size a i/\h.IsList a its.toArray) _ rv (by simpa using W) ⟨⟨_,Heap.get?_push_size _ rfl,rfl,rfl⟩,p.isList.at λo e=>Heap.get?_push_of_some _ e⟩ (λb hb=>?_) (back rfl)
  show b < (s.heap.push _).objs.size
  rw[Heap.size_push]
  rcases List.mem_cons.mp hb with rfl | hb
  .exact Nat.lt_succ_self _
  .rw[List.mem_singleton.mp hb];exact Nat.lt_succ_of_lt lt
 .obtain⟨its,rv,p,hz⟩:=I.tuple h
  have p':s.heap.IsTuple a its.toArray:=p
  have lt:a < s.heap.objs.size:=by obtain⟨o,ho,_⟩:=p;exact Heap.lt_size ho
  refine wpAny_pyIter_tuple p' ?_
  have W:=Walks.tuple (prog:=X.prog) (w:=X.w) (A:=A) hh s.heap.objs.size a (Nat.ne_of_lt lt) its.toArray
  refine k s.heap.objs.size its [s.heap.objs.size,a] [s.heap.objs.size] (λi h=>h.IsTupleIter s.heap.objs.size a i/\h.IsTuple a its.toArray) _ rv (by simpa using W) ⟨⟨_,Heap.get?_push_size _ rfl,rfl,rfl⟩,p'.at λo e=>Heap.get?_push_of_some _ e⟩ (λb hb=>?_) (back rfl)
  show b < (s.heap.push _).objs.size
  rw[Heap.size_push]
  rcases List.mem_cons.mp hb with rfl | hb
  .exact Nat.lt_succ_self _
  .rw[List.mem_singleton.mp hb];exact Nat.lt_succ_of_lt lt
end
end Dl
namespace Dl
open PySem L2
variable [KK]
omit [KK] in
theorem zd5 {bs:List Bool}:(List.range bs.length).all (λi=>bs.getD i false)=bs.all id:=by
 have:bs=(List.range bs.length).map λi=>bs.getD i false:=by
  apply List.ext_getElem
  .simp
  .intro i h1 h2
   simp[h1]
 conv=>rhs;rw[this]
 rw[List.all_map]
 rfl
omit [KK] in
theorem zdQ:∀ (ns:List Int) (n:Nat),n<=ns.length->preSum (λi=>ns.getD i 0) n=(ns.take n).sum:=by
 intro ns n
 induction n with
 | zero=>intro _;simp[preSum]
 | succ n ih =>
  intro h
  show preSum (λi=>ns.getD i 0) n+ns.getD n 0=_
  rw[ih (by omega),List.take_succ,List.sum_append]
  have:ns[n]?=some ns[n]:=by simp[show n < ns.length by omega]
  simp[this]
section
variable {X:Cx}
omit [KK] in
theorem ziL {bs:List Bool}{its:List Value}{i:Nat}{v:Value}(r:yf (bs.map V.bl) its)(h:its[i]?=some v):v=.bool (bs.getD i false):=by
 have hl:=r.length
 have hi:i < its.length:=(List.getElem?_eq_some_iff.mp h).1
 rw[List.length_map]at hl
 obtain⟨u,hu,ru⟩:=r.get (i:=i) (x:=.bl (bs[i]'(by omega))) (by rw[List.getElem?_map];simp[show i < bs.length by omega])
 rw[h]at hu
 cases hu
 cases ru
 simp[show i < bs.length by omega]
omit [KK] in
theorem w8 {ns:List Int}{its:List Value}{i:Nat}{v:Value}(r:yf (ns.map V.int) its)(h:its[i]?=some v):∃ t,v=.int (ns.getD i 0) t:=by
 have hl:=r.length
 have hi:i < its.length:=(List.getElem?_eq_some_iff.mp h).1
 rw[List.length_map]at hl
 obtain⟨u,hu,ru⟩:=r.get (i:=i) (x:=.int (ns[i]'(by omega))) (by rw[List.getElem?_map];simp[show i < ns.length by omega])
 rw[h]at hu
 cases hu
 obtain⟨t,rfl⟩:=ru
 exact⟨t,by simp[show i < ns.length by omega]⟩
theorem zeW (hc:X.calm=true):vL X (.builtin "all") (λxs H Q=>∃ (p:Addr) (bs:List Bool),xs=[.ref p]/\(SqL X.K H p (bs.map V.bl)\/SqT X.K H p (bs.map V.bl))/\Q (.bl (bs.all id)) H):=by
 intro pins s σ H xs us Q I r h
 obtain⟨p,bs,rfl,hq,q⟩:=h
 obtain⟨u,rfl,ru⟩:=XW r
 cases ru
 refine call_all_walk (ZV I (I.ok.hd hc) hq λit its fp wr St s₂ rv W st fpl back=>?_)
 have hl:=rv.length
 rw[List.length_map]at hl
 refine⟨it,fp,wr,_,_,St,λi=>bs.getD i false,rfl,W,st,λi v s Q E hv hQ=>?_,λh' tk kk=>⟨.bl _,H,back h' tk kk,rfl,?_⟩⟩
 .rw[ziL rv hv]
  exact wpAny_truthy_bool hQ
 .rw[<-hl,zd5]
  exact q
theorem zan (hc:X.calm=true):vL X (.builtin "sum") (λxs H Q=>∃ (p:Addr) (ns:List Int),xs=[.ref p]/\(SqL X.K H p (ns.map V.int)\/SqT X.K H p (ns.map V.int))/\Q (.int ns.sum) H):=by
 intro pins s σ H xs us Q I r h
 obtain⟨p,ns,rfl,hq,q⟩:=h
 obtain⟨u,rfl,ru⟩:=XW r
 cases ru
 refine call_sum_walkG (ZV I (I.ok.hd hc) hq λit its fp wr St s₂ rv W st fpl back=>?_)
 have hl:=rv.length
 rw[List.length_map]at hl
 refine⟨it,fp,wr,_,_,St,λi=>ns.getD i 0,rfl,W,st,fpl,λi v hv=>w8 rv hv,λh' tk t' kk=>⟨.int ns.sum,H,back h' tk kk,?_,q⟩⟩
 refine⟨t',?_⟩
 rw[<-hl,zdQ ns _ (Nat.le_refl _),List.take_length]
noncomputable def VY (ns:List Int):Int:=(ns.max?).getD 0
noncomputable def zb8 (ns:List Int):Int:=(ns.min?).getD 0
omit [KK] in
theorem zc9 (f:Nat→Int):∀ k i,i≤k→f i≤f (argBest (fun i j=>decide (f j < f i)) k)∧argBest (fun i j=>decide (f j < f i)) k≤k:=by
  intro k
  induction k with
  | zero => intro i hi; have : i = 0 := by omega
            subst this;exact ⟨Int.le_refl _,Nat.le_refl _⟩
  | succ k ih =>
    intro i hi
    unfold argBest
    obtain ⟨h1,h2⟩:=ih (min i k) (Nat.min_le_right _ _)
    split
    · rename_i hc
      have hc:f (argBest (fun i j=>decide (f j < f i)) k) < f (k+1):=of_decide_eq_true hc
      refine ⟨?_,Nat.le_refl _⟩
      by_cases hik:i≤k
      · rw [Nat.min_eq_left hik] at h1;omega
      · have:i=k+1:=by omega
        subst this;exact Int.le_refl _
    · rename_i hc
      have hc:¬ f (argBest (fun i j=>decide (f j < f i)) k) < f (k+1):=fun z=>hc (decide_eq_true z)
      refine ⟨?_,by omega⟩
      by_cases hik:i≤k
      · rw [Nat.min_eq_left hik] at h1;exact h1
      · have:i=k+1:=by omega
        subst this;omega
omit [KK] in
theorem zhB {ns:List Int}{m:Int}(h1:m∈ns)(h2:∀ x∈ns,x<=m):VY ns=m:=by
 unfold VY
 rw[List.max?_eq_some_iff.mpr ⟨h1,h2⟩]
 rfl
omit [KK] in
theorem zkI {ns:List Int}{m:Int}(h1:m∈ns)(h2:∀ x∈ns,m<=x):zb8 ns=m:=by
 unfold zb8
 rw[List.min?_eq_some_iff.mpr ⟨h1,h2⟩]
 rfl
omit [KK] in
theorem getD_mem {ns:List Int}{k:Nat}(h:k < ns.length):ns.getD k 0∈ns:=by
 rw[List.getD_eq_getElem?_getD,List.getElem?_eq_getElem h]
 exact List.getElem_mem h
omit [KK] in
theorem getD_at {ns:List Int}{k:Nat}(h:k < ns.length):ns.getD k 0=ns[k]:=by
 rw[List.getD_eq_getElem?_getD,List.getElem?_eq_getElem h]
 rfl
theorem Xw (hc:X.calm=true):vL X (.builtin "max") (λxs H Q=>∃ (p:Addr) (ns:List Int),xs=[.ref p]/\(SqL X.K H p (ns.map V.int)\/SqT X.K H p (ns.map V.int))/\ns≠[]/\Q (.int (VY ns)) H):=by
 intro pins s σ H xs us Q I r h
 obtain⟨p,ns,rfl,hq,hne,q⟩:=h
 obtain⟨u,rfl,ru⟩:=XW r
 cases ru
 refine call_max_walk (ZV I (I.ok.hd hc) hq λit its fp wr St s₂ rv W st fpl back=>?_)
 have hl:=rv.length
 rw[List.length_map]at hl
 have hpos:0 < ns.length:=List.length_pos_iff.mpr hne
 refine⟨it,fp,wr,_,_,St,λi j=>decide (ns.getD j 0 < ns.getD i 0),rfl,W,st,fpl,by omega,λi j vi vj s Q E hi hj hQ=>?_,λv h' tk hv kk=>?_⟩
 .obtain⟨t1,rfl⟩:=w8 rv hi
  obtain⟨t2,rfl⟩:=w8 rv hj
  exact PyProof.Rows.gt_int hQ
 .obtain⟨t,rfl⟩:=w8 rv hv
  refine⟨.int (VY ns),H,back h' tk kk,⟨t,?_⟩,q⟩
  have key:=zc9 (λi=>ns.getD i 0) (its.length - 1)
  have hb:argBest (λi j=>decide (ns.getD j 0 < ns.getD i 0)) (its.length - 1) < ns.length:=by
   have:=(key 0 (Nat.zero_le _)).2
   omega
  rw[zhB (m:=ns.getD (argBest (λi j=>decide (ns.getD j 0 < ns.getD i 0)) (its.length - 1)) 0)]
  .exact getD_mem hb
  .intro x hx
   obtain⟨j,hj,rfl⟩:=List.getElem_of_mem hx
   have:=(key j (by omega)).1
   rw[<-getD_at hj]
   exact this
theorem zeh (hc:X.calm=true):vL X (.builtin "min") (λxs H Q=>∃ (p:Addr) (ns:List Int),xs=[.ref p]/\(SqL X.K H p (ns.map V.int)\/SqT X.K H p (ns.map V.int))/\ns≠[]/\Q (.int (zb8 ns)) H):=by
 intro pins s σ H xs us Q I r h
 obtain⟨p,ns,rfl,hq,hne,q⟩:=h
 obtain⟨u,rfl,ru⟩:=XW r
 cases ru
 refine call_min_walk (ZV I (I.ok.hd hc) hq λit its fp wr St s₂ rv W st fpl back=>?_)
 have hl:=rv.length
 rw[List.length_map]at hl
 have hpos:0 < ns.length:=List.length_pos_iff.mpr hne
 refine⟨it,fp,wr,_,_,St,λi j=>decide (ns.getD i 0 < ns.getD j 0),rfl,W,st,fpl,by omega,λi j vi vj s Q E hi hj hQ=>?_,λv h' tk hv kk=>?_⟩
 .obtain⟨t1,rfl⟩:=w8 rv hi
  obtain⟨t2,rfl⟩:=w8 rv hj
  exact PyProof.Rows.lt_int hQ
 .obtain⟨t,rfl⟩:=w8 rv hv
  refine⟨.int (zb8 ns),H,back h' tk kk,⟨t,?_⟩,q⟩
  have key:=zc9 (λi=>- ns.getD i 0) (its.length - 1)
  have e0:(λi j=>decide (ns.getD i 0 < ns.getD j 0))=λi j=>decide (-ns.getD j 0 < -ns.getD i 0):=by
   funext i j
   congr 1
   apply propext
   constructor <;> intro h <;> omega
  rw[e0]
  have hb:argBest (λi j=>decide (-ns.getD j 0 < -ns.getD i 0)) (its.length - 1) < ns.length:=by
   have:=(key 0 (Nat.zero_le _)).2
   omega
  rw[zkI (m:=ns.getD (argBest (λi j=>decide (-ns.getD j 0 < -ns.getD i 0)) (its.length - 1)) 0)]
  .exact getD_mem hb
  .intro x hx
   obtain⟨j,hj,rfl⟩:=List.getElem_of_mem hx
   have:=(key j (by omega)).1
   rw[<-getD_at hj]
   omega
noncomputable def zjn:List D->Option (List Bool)
 | []=>some []
 | .bl b::ds=>(zjn ds).map (b::·)
 | _=>none
noncomputable def zdh:List D->Option (List Int)
 | []=>some []
 | .int b::ds=>(zdh ds).map (b::·)
 | _=>none
omit [KK] in
theorem zdX:∀ {ds:List D} {bs:List Bool},zjn ds=some bs->ds=bs.map .bl
 | [],bs,h=>by cases h;rfl
 | d::ds,bs,h=>by
  cases d <;> try cases h
  obtain⟨cs,h1,rfl⟩:=Option.map_eq_some_iff.mp h
  rw[zdX h1]
  rfl
omit [KK] in
theorem Xa:∀ {ds:List D} {bs:List Int},zdh ds=some bs->ds=bs.map .int
 | [],bs,h=>by cases h;rfl
 | d::ds,bs,h=>by
  cases d <;> try cases h
  obtain⟨cs,h1,rfl⟩:=Option.map_eq_some_iff.mp h
  rw[Xa h1]
  rfl
omit [KK] in
theorem zgt (bs:List Bool):zjn (bs.map .bl)=some bs:=by
 induction bs with
 | nil=>rfl
 | cons b r ih=>show(zjn (r.map .bl)).map (b::·)=_;rw[ih];rfl
omit [KK] in
theorem WE (bs:List Int):zdh (bs.map .int)=some bs:=by
 induction bs with
 | nil=>rfl
 | cons b r ih=>show(zdh (r.map .int)).map (b::·)=_;rw[ih];rfl
theorem AtL.of_bls {H:Hp}:∀ {ns:List Bool} {xs:List V},AtL H (ns.map D.bl) xs->xs=ns.map V.bl
 | [],_,h=>h.nil_inv
 | n::r,_,h=>by
  obtain⟨x,r',rfl,h1,h2⟩:=AtL.cons_inv (by simpa using h)
  rw[h1.bl_inv,AtL.of_bls h2]
  rfl
noncomputable def zjl {α:Type}(as:List D->Option α)(g:α->Option D):List D->Option D
 | [d]=>((wf d).bind as).bind g
 | _=>none
theorem WC {K:PySem.W.Frag}{F H:Hp}{vs:List V}{ds:List D}{z:D}{α:Type}{as:List D->Option α}{g:α->Option D}(s:yq F H)(al:AtL F ds vs)(e:zjl as g ds=some z) :
 ∃ p es xs b,vs=[.ref p]/\(SqL K H p xs\/SqT K H p xs)/\AtL F es xs/\as es=some b/\g b=some z:=by
 unfold zjl at e
 split at e
 .obtain⟨b,e1,e2⟩:=Option.bind_eq_some_iff.mp e
  obtain⟨es,e3,e4⟩:=Option.bind_eq_some_iff.mp e1
  obtain⟨x,r,rfl,ax,ar⟩:=al.cons_inv
  cases ar.nil_inv
  rename_i d
  cases d <;> cases e3
  .obtain⟨p,xs,rfl,hx,bl⟩:=ax.tup_inv
   exact⟨p,_,xs,b,rfl,.inr (SqT.of (s _ _ hx)),bl,e4,e2⟩
  .obtain⟨p,xs,rfl,hx,bl⟩:=ax.lst_inv
   exact⟨p,_,xs,b,rfl,.inl (SqL.of (s _ _ hx)),bl,e4,e2⟩
 .cases e
noncomputable def zkJ:=zjl zjn λbs=>some (.bl (bs.all id))
noncomputable def zji:=zjl zdh λns=>some (.int ns.sum)
noncomputable def zdw:=zjl zdh λns=>if ns=[]then none else some (.int (VY ns))
noncomputable def ziq:=zjl zdh λns=>if ns=[]then none else some (.int (zb8 ns))
theorem zi8 {K:PySem.W.Frag}:CaD (λxs H Q=>∃ (p:Addr) (bs:List Bool),xs=[.ref p]/\(SqL K H p (bs.map V.bl)\/SqT K H p (bs.map V.bl))/\Q (.bl (bs.all id)) H) zkJ:=by
 intro F H vs ds z Q s al e q
 obtain⟨p,es,xs,bs,rfl,hq,bl,e1,e2⟩:=WC (K:=K) s al e
 cases e2
 rw[zdX e1]at bl
 rw[bl.of_bls]at hq
 exact⟨p,bs,rfl,hq,q F H _ (.refl s) .bl⟩
theorem zdZ {K:PySem.W.Frag}:CaD (λxs H Q=>∃ (p:Addr) (ns:List Int),xs=[.ref p]/\(SqL K H p (ns.map V.int)\/SqT K H p (ns.map V.int))/\Q (.int ns.sum) H) zji:=by
 intro F H vs ds z Q s al e q
 obtain⟨p,es,xs,bs,rfl,hq,bl,e1,e2⟩:=WC (K:=K) s al e
 cases e2
 rw[Xa e1]at bl
 rw[bl.of_ints]at hq
 exact⟨p,bs,rfl,hq,q F H _ (.refl s) .int⟩
theorem Vb {K:PySem.W.Frag}:CaD (λxs H Q=>∃ (p:Addr) (ns:List Int),xs=[.ref p]/\(SqL K H p (ns.map V.int)\/SqT K H p (ns.map V.int))/\ns≠[]/\Q (.int (VY ns)) H) zdw:=by
 intro F H vs ds z Q s al e q
 obtain⟨p,es,xs,bs,rfl,hq,bl,e1,e2⟩:=WC (K:=K) s al e
 split at e2 <;> cases e2
 rename_i hne
 rw[Xa e1]at bl
 rw[bl.of_ints]at hq
 exact⟨p,bs,rfl,hq,hne,q F H _ (.refl s) .int⟩
theorem zgc {K:PySem.W.Frag}:CaD (λxs H Q=>∃ (p:Addr) (ns:List Int),xs=[.ref p]/\(SqL K H p (ns.map V.int)\/SqT K H p (ns.map V.int))/\ns≠[]/\Q (.int (zb8 ns)) H) ziq:=by
 intro F H vs ds z Q s al e q
 obtain⟨p,es,xs,bs,rfl,hq,bl,e1,e2⟩:=WC (K:=K) s al e
 split at e2 <;> cases e2
 rename_i hne
 rw[Xa e1]at bl
 rw[bl.of_ints]at hq
 exact⟨p,bs,rfl,hq,hne,q F H _ (.refl s) .int⟩
end
end Dl
namespace Dl
open PySem L2
variable [KK]
section
variable {X:Cx}{tg a b c e:Expr}{pos:Pos}
noncomputable def zcT:List D->List D->List D
 | x::xs,y::ys=>.tup [x,y]::zcT xs ys
 | _,_=>[]
omit [KK] in
theorem zbI:∀ (xs ys:List D) (i:Nat),(zcT xs ys)[i]?=match xs[i]?,ys[i]? with | some x,some y=>some (.tup [x,y]) | _,_=>none
 | [],ys,i=>by simp[zcT]
 | x::xs,[],i=>by simp[zcT]
 | x::xs,y::ys,0=>by simp[zcT]
 | x::xs,y::ys,i+1=>by simpa [zcT]using zbI xs ys i
omit [KK] in
theorem Xb:∀ (xs ys:List D),xs.length<=ys.length->(zcT xs ys).length=xs.length
 | [],ys,_=>by simp[zcT]
 | x::xs,[],h=>by simp at h
 | x::xs,y::ys,h=>by simp[zcT,Xb xs ys (by simpa using h)]
noncomputable def XT (f:Ev->Option (List D)):Ev->Option (List D):=fun ρ=>(f ρ).bind λas=>match as with
 | [d,e]=>(wf d).bind λxs=>(wf e).bind λys=>if xs.length<=ys.length then some (zcT xs ys)else none
 | _=>none
theorem zkQ {K:PySem.W.Frag}{F H:Hp}{d:D}{v:V}{ds:List D}(s:yq F H)(h:At F d v)(e:wf d=some ds):∃ b p xs,v=.ref p/\(∀ {F' H':Hp},yq F F'->yq F' H'->Sq b K H' p xs)/\AtL F ds xs:=by
 cases d <;> cases e
 .obtain⟨p,xs,rfl,hx,al⟩:=h.tup_inv
  exact⟨false,p,xs,rfl,λs1 s2=>SqT.of (s2 _ _ (s1 _ _ hx)),al⟩
 .obtain⟨p,xs,rfl,hx,al⟩:=h.lst_inv
  exact⟨true,p,xs,rfl,λs1 s2=>SqL.of (s2 _ _ (s1 _ _ hx)),al⟩
theorem zkN {es:List Expr} {k:Nat} {tp p:Pos} {f:Ev->Option (List D)} (hg:Gl X "zip") (hm:X.mg "zip"=none) (ha:AD X [a,b] f)
 (hs:starEach [a,b] X.env=[(false,eval a X.env),(false,eval b X.env)]:=by rfl) (hs2:starEach [b] X.env=[(false,eval b X.env)]:=by rfl):ID X (.Tuple es k tp) (.Call (.Name "zip" p) [a,b] [] pos) (XT f):=by
 obtain⟨t,pa,r⟩:=ha
 refine⟨_,zj5 hg hm zk6 pa hs hs2,fun σ ρ F H ds R s va e q=>?_⟩
 obtain⟨as,e1,e2⟩:=Option.bind_eq_some_iff.mp e
 refine r σ ρ F H as _ s va e1 λF1 H1 v g1 a1=>?_
 split at e2
 .obtain⟨x,r',rfl,ax,ar⟩:=a1.cons_inv
  obtain⟨y,r',rfl,ay,ar⟩:=ar.cons_inv
  cases ar.nil_inv
  obtain⟨xs,e3,e2'⟩:=Option.bind_eq_some_iff.mp e2
  obtain⟨ys,e4,e2''⟩:=Option.bind_eq_some_iff.mp e2'
  clear e2 e2' e
  split at e2'' <;> cases e2''
  rename_i hle
  obtain⟨b1,p1,us,rfl,sq1,al⟩:=zkQ (K:=X.K) g1.fh ax e3
  obtain⟨b2,p2,ws,rfl,sq2,bl⟩:=zkQ (K:=X.K) g1.fh ay e4
  refine⟨b1,b2,p1,p2,us,ws,rfl,sq1 (yq.refl _) g1.fh,sq2 (yq.refl _) g1.fh,q F1 H1 _ g1 λi F2 H2 s1 s2=>?_⟩
  have q1:=sq1 s1 s2
  have q2:=sq2 s1 s2
  refine⟨λhl=>⟨us,q1,by rw[hl,Xb _ _ hle,al.length]⟩,λd hd=>?_⟩
  rw[zbI]at hd
  cases h1:xs[i]? with
  | none=>rw[h1]at hd;cases hd
  | some x =>
   cases h2:ys[i]? with
   | none=>rw[h1,h2]at hd;cases hd
   | some y =>
    rw[h1,h2]at hd
    cases hd
    obtain⟨u,hu,au⟩:=al.get h1
    obtain⟨u2,hu2,au2⟩:=bl.get h2
    refine⟨⟨us,ws,u,u2,q1,q2,hu,hu2⟩,λz H3 hz=>?_⟩
    obtain⟨T,x',y',rfl,hT,rfl,hx',hy'⟩:=hz
    have e5:=hx' us q1
    have e6:=hy' ws q2
    rw[hu]at e5
    rw[hu2]at e6
    cases e5
    cases e6
    have g3:=Gr.alloc s2 hT (.tup [u,u2])
    exact⟨_,g3,.tup zo (.cons (au.mono (s1.trans g3.ff)) (.cons (au2.mono (s1.trans g3.ff)) .nil))⟩
 .cases e2
noncomputable def wb (g:List D->Option (List D))(f:Ev->Option (List D))(b:D->SE->Option SE)(h:SE->Ctl):SE->Ctl:=fun ρ=>match (f (visG ρ)).bind g with
 | some ds=>zd9 b h ds ρ
 | none=>.no
theorem vZ {p pos':Pos} {body:List Stmt} {f:Ev->Option (List D)} {b':D->SE->Option SE} {g:SE->Ctl} (hp:PassesOwn (model X.prog X.w) X.A X.env X.xe) (hc:X.calm=true) (hgl:Gl X "range") (hm:X.mg "range"=none) (ha:AD X [a] f) (hg:BD X tg b') (hb:SDs X body g)
 (hs0:starEach [a] X.env=[(false,eval a X.env)]:=by rfl) (hs:∀ x,foldedSetIterable (.Call (.Name "range" p) [a] [] pos) X.env x=pure x:=by intro _;rfl):SD X (.For tg (.Call (.Name "range" p) [a] [] pos) body [] pos') (wb ZB f b' g):=by
 obtain⟨t,pa,r⟩:=ha
 obtain⟨tg',pg,rg⟩:=hg
 obtain⟨tb,pb,rb⟩:=hb
 refine⟨_,zdH hp hc (zeY hgl hm pa hs0) pg pb hs,λFb Hb F H ρ σ E rl k=>?_⟩
 unfold wb at k
 cases h:(f (visG ρ)).bind ZB with
 | none=>rw[h]at k;exact k.elim
 | some ds =>
  rw[h]at k
  obtain⟨as,e1,e2⟩:=Option.bind_eq_some_iff.mp h
  refine r σ _ _ H as _ rl.gh rl.visG e1 λF1 H1 vs g1 a1=>?_
  have rl2:=rl.grow (rl.back g1).1
  unfold ZB at e2
  split at e2
  .split at e2 <;> cases e2
   rename_i hc
   obtain⟨x,r',rfl,ax,ar⟩:=a1.cons_inv
   cases ar.nil_inv
   exact⟨_,by rw[ax.int_inv],(yr.mp hc).1,(yr.mp hc).2,zd3 (zhf 0 _) rg rb rl2 k⟩
  .cases e2
theorem zbv {p pos':Pos} {body:List Stmt} {f:Ev->Option (List D)} {b':D->SE->Option SE} {g:SE->Ctl} (hp:PassesOwn (model X.prog X.w) X.A X.env X.xe) (hc:X.calm=true) (hgl:Gl X "range") (hm:X.mg "range"=none) (ha:AD X [a,b] f) (hg:BD X tg b') (hb:SDs X body g)
 (hs0:starEach [a,b] X.env=[(false,eval a X.env),(false,eval b X.env)]:=by rfl) (hs2:starEach [b] X.env=[(false,eval b X.env)]:=by rfl) (hs:∀ x,foldedSetIterable (.Call (.Name "range" p) [a,b] [] pos) X.env x=pure x:=by intro _;rfl):SD X (.For tg (.Call (.Name "range" p) [a,b] [] pos) body [] pos') (wb VQ f b' g):=by
 obtain⟨t,pa,r⟩:=ha
 obtain⟨tg',pg,rg⟩:=hg
 obtain⟨tb,pb,rb⟩:=hb
 refine⟨_,zdH hp hc (zdk hgl hm pa hs0 hs2) pg pb hs,λFb Hb F H ρ σ E rl k=>?_⟩
 unfold wb at k
 cases h:(f (visG ρ)).bind VQ with
 | none=>rw[h]at k;exact k.elim
 | some ds =>
  rw[h]at k
  obtain⟨as,e1,e2⟩:=Option.bind_eq_some_iff.mp h
  refine r σ _ _ H as _ rl.gh rl.visG e1 λF1 H1 vs g1 a1=>?_
  have rl2:=rl.grow (rl.back g1).1
  unfold VQ at e2
  split at e2
  .split at e2 <;> cases e2
   rename_i hc
   obtain⟨x,r',rfl,ax,ar⟩:=a1.cons_inv
   obtain⟨y,r',rfl,ay,ar⟩:=ar.cons_inv
   cases ar.nil_inv
   exact⟨_,_,by rw[ax.int_inv,ay.int_inv],⟨(yr.mp hc.1).1,(yr.mp hc.1).2,(yr.mp hc.2).1,(yr.mp hc.2).2⟩,zd3 (zhf _ _) rg rb rl2 k⟩
  .cases e2
end
noncomputable def zdg (K:PySem.W.Frag):Sp:=λvs H Q _=>∃ (a:Addr) (ns:List Int),vs=[.ref a]/\SqL K H a (ns.map V.int)/\ns.length<=63/\∀ H',Q (.bl true) H'
end Dl
namespace Dl
open PySem L2
theorem zjL {P:Program}{w:World}{K:PySem.W.Frag}{mg:Str->Option Value}{base:Heap}{f:Addr}{fd:FuncData}{ps:List Str}{k:Nat}{p:List D->Option D}(F:xR P w K mg base CX0 k f fd ps (@spD ⟨K⟩ 1 p))(h:∀ ns:List Int,ns.length<=63->p [.scr ns]=some (.bl true)) :
 xR P w K mg base CX0 k f fd ps (zdg K):=by
 letI:KK:=⟨K⟩
 refine F.imp λvs H Q E hs=>?_
 obtain⟨a,ns,rfl,hq,hl,q⟩:=hs
 refine⟨[.scr ns],.bl true,H,rfl,yq.refl _,.cons ?_ .nil,h ns hl,λF' H' v _ av=>?_⟩
 .unfold At
  exact⟨a,rfl,hq⟩
 .rw[av.bl_inv]
  exact q H'
structure Def (K:PySem.W.Frag) (mg:Str->Option Value) (x:Str) (st:Stmt) (ps:List Str) (f:Addr) (fd:FuncData):Prop where
 fn:Fun K x x st f fd
 bd:zau K fd ps []
 at_:mg x=some (.ref f)
theorem Def.kp {K:PySem.W.Frag}{mg:Str->Option Value}{x:Str}{st:Stmt}{ps:List Str}{f:Addr}{fd:FuncData}(d:Def K mg x st ps f fd):PySem.W.keepIn K (.ref f)=true:=d.fn.kp
inductive Ctl.w:Ctl->(SE->Prop)->(SE->Prop)->(SE->Prop)->(D->Prop)->Prop where
 | nx {ρ:SE} {n b k:SE->Prop} {r:D->Prop}:n ρ->Ctl.w (.nx ρ) n b k r
 | bk {ρ:SE} {n b k:SE->Prop} {r:D->Prop}:b ρ->Ctl.w (.bk ρ) n b k r
 | ct {ρ:SE} {n b k:SE->Prop} {r:D->Prop}:k ρ->Ctl.w (.ct ρ) n b k r
 | rt {d:D} {n b k:SE->Prop} {r:D->Prop}:r d->Ctl.w (.rt d) n b k r
section
variable {ρ:SE}{d:D}{n b k:SE->Prop}{r:D->Prop}
theorem Ctl.w.nxi (h:Ctl.w (.nx ρ) n b k r):n ρ:=by cases h;assumption
theorem Ctl.w.bki (h:Ctl.w (.bk ρ) n b k r):b ρ:=by cases h;assumption
theorem Ctl.w.cti (h:Ctl.w (.ct ρ) n b k r):k ρ:=by cases h;assumption
theorem Ctl.w.rti (h:Ctl.w (.rt d) n b k r):r d:=by cases h;assumption
theorem Ctl.w.noi (h:Ctl.w .no n b k r):False:=by cases h
end
noncomputable abbrev noP:SE->Prop:=λ_=>False
section
variable {g h:SE->Ctl}{ρ ρ':SE}{n b k:SE->Prop}{r:D->Prop}
theorem xT (e:(g ρ).w (fun ρ'=>(h ρ').w n b k r) b k r):(zO g h ρ).w n b k r:=by
 unfold zO
 cases hg:g ρ with
 | nx ρ'=>rw[hg]at e;exact e.nxi
 | bk ρ'=>rw[hg]at e;exact .bk e.bki
 | ct ρ'=>rw[hg]at e;exact .ct e.cti
 | rt d=>rw[hg]at e;exact .rt e.rti
 | no=>rw[hg]at e;exact e.noi.elim
theorem zy (e:g ρ=.nx ρ')(q:(h ρ').w n b k r):(zO g h ρ).w n b k r:=xT (by rw[e];exact .nx q)
theorem YN (e:g ρ=.nx ρ')(q:n ρ'):(g ρ).w n b k r:=by rw[e];exact .nx q
theorem Yv {d:D}(e:g ρ=.rt d)(q:r d):(g ρ).w n b k r:=by rw[e];exact .rt q
theorem XB {t:Ev->Option Bool}{c:Bool}(e:t (visG ρ)=some c)(h1:c=true->(g ρ).w n b k r)(h2:c=false->(h ρ).w n b k r):(sIf t g h ρ).w n b k r:=by
 unfold sIf
 rw[e]
 cases c with
 | true=>exact h1 rfl
 | false=>exact h2 rfl
theorem zhN {i:Nat}(e:zlq ρ i=ρ')(q:(g ρ').w n b k r):(sFz i g ρ).w n b k r:=by
 unfold sFz
 rw[e]
 exact q
theorem zdY {bd:D->SE->Option SE}(I:Nat->SE->Prop):∀ (ds:List D) (j:Nat) (ρ:SE),I j ρ ->
 (∀ i d ρ,ds[i]?=some d->I (j+i) ρ->∃ ρ1,bd d ρ=some ρ1/\(g ρ1).w (I (j+i+1)) n (I (j+i+1)) r)->(∀ ρ,I (j+ds.length) ρ->n ρ)->(zd9 bd g ds ρ).w n b k r
 | [],j,ρ,h0,_,fin=>.nx (fin ρ h0)
 | d::ds,j,ρ,h0,step,fin=>by
  obtain⟨ρ1,e1,e2⟩:=step 0 d ρ rfl h0
  unfold zd9
  rw[e1]
  dsimp only
  have next:∀ ρ',I (j+1) ρ'->(zd9 bd g ds ρ').w n b k r:=fun ρ' h'=>zdY I ds (j+1) ρ' h'
   (λi d' ρ hd hI=>by
    have:=step (i+1) d' ρ (by simpa using hd) (by rw[show j+(i+1)=j+1+i by omega];exact hI)
    rwa[show j+(i+1)+1=j+1+i+1 by omega]at this)
   (fun ρ hI=>fin ρ (by rw[List.length_cons,show j+(ds.length+1)=j+1+ds.length by omega];exact hI))
  cases hg:g ρ1 with
  | nx ρ'=>rw[hg]at e2;exact next ρ' e2.nxi
  | ct ρ'=>rw[hg]at e2;exact next ρ' e2.cti
  | bk ρ'=>rw[hg]at e2;exact .nx e2.bki
  | rt d'=>rw[hg]at e2;exact .rt e2.rti
  | no=>rw[hg]at e2;exact e2.noi.elim
theorem zaM {f:Ev->Option (List D)}{bd:D->SE->Option SE}{ds:List D}(I:Nat->SE->Prop)(e:f (visF ρ)=some ds)(h0:I 0 ρ)
 (step:∀ i d ρ,ds[i]?=some d->I i ρ->∃ ρ1,bd d ρ=some ρ1/\(g ρ1).w (I (i+1)) n (I (i+1)) r) (fin:∀ ρ,I ds.length ρ->n ρ):(WK f bd g ρ).w n b k r:=by
 unfold WK
 rw[e]
 exact zdY I ds 0 ρ h0 (λi d ρ hd hI=>by rw[Nat.zero_add]at hI ⊢;exact step i d ρ hd hI) (fun ρ hI=>fin ρ (by rw[Nat.zero_add]at hI;exact hI))
theorem Zx {f:Ev->Option (List D)}{bd:D->SE->Option SE}{rg:List D->Option (List D)}{lo:Int}{c:Nat}(I:Nat->SE->Prop)(e:(f (visG ρ)).bind rg=some (ZN lo c))(h0:I 0 ρ)
 (step:∀ (i:Nat) ρ,i < c->I i ρ->∃ ρ1,bd (.int (lo+i)) ρ=some ρ1/\(g ρ1).w (I (i+1)) n (I (i+1)) r) (fin:∀ ρ,I c ρ->n ρ):(wb rg f bd g ρ).w n b k r:=by
 unfold wb
 rw[e]
 refine zdY I (ZN lo c) 0 ρ h0 (λi d ρ hd hI=>?_) (fun ρ hI=>fin ρ ?_)
 .rw[Nat.zero_add]at hI ⊢
  unfold ZN at hd
  rw[List.getElem?_map]at hd
  by_cases hi:i < c
  .rw[List.getElem?_range hi]at hd
   cases hd
   exact step i ρ hi hI
  .rw[List.getElem?_eq_none (by simpa using hi)]at hd
   cases hd
 .rw[Nat.zero_add]at hI
  rwa[show(ZN lo c).length=c by unfold ZN;simp]at hI
theorem zdS {n' b' k':SE->Prop}{r':D->Prop}{c:Ctl}(q:c.w n b k r)(h1:∀ ρ,n ρ->n' ρ)(h2:∀ ρ,b ρ->b' ρ)(h3:∀ ρ,k ρ->k' ρ)(h4:∀ d,r d->r' d):c.w n' b' k' r':=by
 cases q with
 | nx q=>exact .nx (h1 _ q)
 | bk q=>exact .bk (h2 _ q)
 | ct q=>exact .ct (h3 _ q)
 | rt q=>exact .rt (h4 _ q)
theorem zaU {t:Ev->Option Bool}(I:SE->Prop)(μ:SE->Nat)(step:∀ ρ,I ρ->∃ c,t (visG ρ)=some c/\(c=true->(g ρ).w (fun ρ'=>I ρ'/\μ ρ' < μ ρ) n (fun ρ'=>I ρ'/\μ ρ' < μ ρ) r)/\(c=false->n ρ)):∀ (fu:Nat) (ρ:SE),I ρ->μ ρ < fu->(vO t g fu ρ).w n b k r
 | 0,ρ,_,hf=>by omega
 | fu+1,ρ,hI,hf=>by
  obtain⟨c,e,q1,q2⟩:=step ρ hI
  unfold vO
  rw[e]
  cases c with
  | false=>exact .nx (q2 rfl)
  | true =>
   have q:=q1 rfl
   dsimp only
   cases hg:g ρ with
   | nx ρ'=>rw[hg]at q;exact zaU I μ step fu ρ' q.nxi.1 (by have:=q.nxi.2;omega)
   | ct ρ'=>rw[hg]at q;exact zaU I μ step fu ρ' q.cti.1 (by have:=q.cti.2;omega)
   | bk ρ'=>rw[hg]at q;exact .nx q.bki
   | rt d'=>rw[hg]at q;exact .rt q.rti
   | no=>rw[hg]at q;exact q.noi.elim
end
theorem zar {m:Nat}{g:SE->Ctl}{ds:List D}{d:D}{ρ:SE}(e:ds.map .v++List.replicate (m - ds.length) .no=ρ)(q:(g ρ).w (λ_=>d=.non) noP noP (λd'=>d'=d)):fnD m g ds=some d:=by
 unfold fnD
 rw[e]
 cases hg:g ρ with
 | nx ρ'=>rw[hg]at q;rw[show d=.non from q.nxi]
 | rt d'=>rw[hg]at q;rw[show d'=d from q.rti]
 | bk _=>rw[hg]at q;exact q.bki.elim
 | ct _=>rw[hg]at q;exact q.cti.elim
 | no=>rw[hg]at q;exact q.noi.elim
theorem zhI {m:Bool}{i:Nat}{f:Ev->Option D}{ρ:SE}{ds:List D}{d:D}(h1:vEv m f ρ=some d)(h2:ρ[i]?=some (.o ds))(h3:ds.length<=1000):zac m i f ρ=.nx (ρ.set i (.o (ds++[d]))):=by
 unfold zac
 rw[h1,h2]
 show(match (if decide (ds.length < sizeLine)=true then some (ρ.set i (.o (ds++[d])))else none)with | some ρ'=>Ctl.nx ρ' | none=>Ctl.no)=_
 rw[if_pos (decide_eq_true (YV h3))]
theorem wA {b:D->Option (List (Option D))}{t:Ev->Option Bool}{f:Ev->Option D}{ρ:Ev}{α:Type}(c:α->D)(y:α->D):∀ (xs:List α),(∀ x∈xs,∃ own,b (c x)=some own/\t (own++ρ)=some true/\f (own++ρ)=some (y x))->lcD b t f ρ (xs.map c)=some (xs.map y)
 | [],_=>rfl
 | x::xs,h=>by
  obtain⟨own,h1,h2,h3⟩:=h x List.mem_cons_self
  show lcD b t f ρ (c x::xs.map c)=_
  unfold lcD
  rw[h1]
  simp only[Option.bind_some,h2,if_true,h3,wA c y xs λz hz=>h z (List.mem_cons_of_mem _ hz)]
  rfl
theorem wN {b:D->Option (List (Option D))}{t:Ev->Option Bool}{f:Ev->Option D}{ρ:Ev}{α:Type}(c:α->D)(p:α->Bool)(y:α->D):∀ (xs:List α),(∀ x∈xs,∃ own,b (c x)=some own/\t (own++ρ)=some (p x)/\(p x=true->f (own++ρ)=some (y x)))->lcD b t f ρ (xs.map c)=some ((xs.filter p).map y)
 | [],_=>rfl
 | x::xs,h=>by
  obtain⟨own,h1,h2,h3⟩:=h x List.mem_cons_self
  have ih:=wN c p y xs λz hz=>h z (List.mem_cons_of_mem _ hz)
  show lcD b t f ρ (c x::xs.map c)=_
  unfold lcD
  rw[h1]
  simp only[Option.bind_some,h2]
  cases hp:p x with
  | false =>
   rw[if_neg Bool.false_ne_true,ih,List.filter_cons,if_neg (by rw[hp];exact Bool.false_ne_true)]
  | true =>
   rw[if_pos rfl,h3 hp,ih,List.filter_cons,if_pos hp]
   rfl
mutual
noncomputable def noS:D->Bool
 | .tup ds=>zg2 ds
 | .lst ds=>zg2 ds
 | .scr _=>false
 | _=>true
noncomputable def zg2:List D->Bool
 | []=>true
 | d::ds=>noS d&&zg2 ds
end
theorem v5:∀ {ds:List D} {i:Nat} {d:D},zg2 ds=true->ds[i]?=some d->noS d=true
 | [],_,_,_,h=>by simp at h
 | d::ds,i,e,h,he=>by
  unfold zg2 at h
  rw[Bool.and_eq_true]at h
  cases i with
  | zero=>simp at he;subst he;exact h.1
  | succ i=>exact v5 h.2 (by simpa using he)
theorem wR {n:Nat}(h:n<=1000):lim n=true:=by
 unfold lim
 exact decide_eq_true (Nat.le_of_lt (YV h))
end Dl
namespace Dl
open PySem L2
noncomputable abbrev Pr:=Int × Int
noncomputable def prD (t:Pr):D:=.tup [.int t.1,.int t.2]
noncomputable def zk8:D->Option Pr
 | .tup [.int a,.int b]=>some (a,b)
 | _=>none
noncomputable def zco:List D->Option (List Pr)
 | []=>some []
 | d::ds=>(zk8 d).bind λt=>(zco ds).map (t::·)
theorem zi6 {d:D}{t:Pr}(h:zk8 d=some t):d=prD t:=by
 unfold zk8 at h
 split at h
 .cases h;rfl
 .cases h
theorem zcj:∀ {ds:List D} {ts:List Pr},zco ds=some ts->ds=ts.map prD
 | [],ts,h=>by cases h;rfl
 | d::ds,ts,h=>by
  unfold zco at h
  obtain⟨t,h1,h2⟩:=Option.bind_eq_some_iff.mp h
  obtain⟨us,h3,rfl⟩:=Option.map_eq_some_iff.mp h2
  rw[zi6 h1,zcj h3]
  rfl
theorem ze4 (ts:List Pr):zco (ts.map prD)=some ts:=by
 induction ts with
 | nil=>rfl
 | cons t ts ih =>
  show(zk8 (prD t)).bind (λu=>(zco (ts.map prD)).map (u::·))=_
  rw[ih]
  rfl
noncomputable def zjj (a b:Pr):Bool:=!OwnSort.bltP b a
noncomputable def XZ (ts:List Pr):List Pr:=ts.mergeSort zjj
noncomputable def leI (a b:Int):Bool:=decide (a<=b)
noncomputable def zfy (ns:List Int):List Int:=ns.mergeSort leI
theorem Wc {a b:Pr}:OwnSort.bltP b a=false↔zjj a b=true:=by unfold zjj;simp
theorem wg {a b:Pr}:zjj a b=true↔a.1 < b.1\/(a.1=b.1/\a.2<=b.2):=by
 rw[<-Wc]
 unfold OwnSort.bltP
 rw[decide_eq_false_iff_not]
 omega
theorem zcV {ts us:List Pr}(p:us.Perm ts)(h:us.Pairwise λa b=>OwnSort.bltP b a=false):us=XZ ts:=by
 refine List.Perm.eq_of_pairwise (le:=λa b=>zjj a b=true) (λa b _ _ h1 h2=>?_) (h.imp λx=>Wc.mp x) ?_ (p.trans (List.mergeSort_perm _ _).symm)
 .rw[wg]at h1 h2
  exact Prod.ext (by omega) (by omega)
 .exact List.pairwise_mergeSort (λa b c h1 h2=>by rw[wg]at *;omega) (λa b=>by rw[Bool.or_eq_true,wg,wg];omega) _
theorem zcm {ts us:List Int}(p:us.Perm ts)(h:us.Pairwise (·<=·)):us=zfy ts:=by
 refine List.Perm.eq_of_pairwise (le:=λa b=>leI a b=true) (λa b _ _ h1 h2=>?_) (h.imp λx=>decide_eq_true x) ?_ (p.trans (List.mergeSort_perm _ _).symm)
 .unfold leI at h1 h2
  rw[decide_eq_true_eq]at h1 h2
  omega
 .exact List.pairwise_mergeSort (λa b c h1 h2=>by unfold leI at *;rw[decide_eq_true_eq]at *;omega) (λa b=>by unfold leI;rw[Bool.or_eq_true,decide_eq_true_eq,decide_eq_true_eq];omega) _
noncomputable def za5:List D->Option (List D)
 | [.lst ds]=>if ds.length < 64 then match zco ds with
  | some ts=>some ((XZ ts).map prD)
  | none=>match zdh ds with
   | some ns=>some ((zfy ns).map .int)
   | none=>none
  else none
 | _=>none
variable [KK]
section
variable {X:Cx}{e:Expr}{pos:Pos}
theorem At.pr_inv {F:Hp}{t:Pr}{v:V}(h:At F (prD t) v):∃ a,v=.ref a/\F a=some (.tup [.int t.1,.int t.2]):=by
 obtain⟨a,xs,rfl,hx,al⟩:=h.tup_inv
 obtain⟨x,r,rfl,a1,al⟩:=al.cons_inv
 obtain⟨y,r,rfl,a2,al⟩:=al.cons_inv
 cases al.nil_inv
 cases a1.int_inv
 cases a2.int_inv
 exact⟨a,rfl,hx⟩
theorem VL (hc:X.calm=true):vL X (.builtin "sorted") (λxs H Q=>∃ F p ys ds out,xs=[.ref p]/\yq F H/\H p=some (.lst ys)/\AtL F ds ys/\za5 [.lst ds]=some out/\∀ l zs,H l=none->AtL F out zs->Q (.ref l) (upd H l (.lst zs))):=by
 intro pins s σ H xs us Q I r h
 obtain⟨F,p,ys,ds,out,rfl,sm,hp,al,hs,q⟩:=h
 obtain⟨u,rfl,ru⟩:=XW r
 cases ru
 obtain⟨its,rv,pl,hz⟩:=I.list (SqL.of hp)
 have hlen:its.length=ds.length:=by rw[<-rv.length,al.length]
 unfold za5 at hs
 dsimp only at hs
 split at hs <;> try cases hs
 rename_i h64
 have fin:∀ (zs:List V) (ws:List Value),zs.length < 64->yf zs ws->AtL F out zs->EP X pins σ Q (.ref (s.heap.objs.size+1)) { s with heap:=PyProof.Rows.sortedAll s.heap its ws.toArray }:=λzs ws hl rz az=>by
  have hn:H (s.heap.objs.size+1)=none:=I.hok.fresh (Nat.le_succ _)
  obtain⟨ep,he⟩:=PyProof.Rows.sortedAll_at s.heap its ws.toArray
  refine⟨.ref (s.heap.objs.size+1),upd H (s.heap.objs.size+1) (.lst zs),I.laid (t':=s.toks) (λb o z=>PyProof.Rows.sortedAll_old z) (Nat.le_succ _) ?_,rfl,q _ zs hn az⟩
  exact⟨Nat.le_of_lt (YV (by omega)),ws,ep,rz,he⟩
 split at hs
 .rename_i ts hts
  cases hs
  have eds:=zcj hts
  subst eds
  have look:∀ {v:Value},v∈its->∃ a t,v=.ref a/\t∈ts/\F a=some (.tup [.int t.1,.int t.2])/\OwnSort.TP s.heap v t:=λ{v} hv=>by
   obtain⟨j,hj,rfl⟩:=List.getElem_of_mem hv
   have hj2:j < ts.length:=by rw[List.length_map]at hlen;omega
   obtain⟨x,hx,ax⟩:=al.get (i:=j) (d:=prD ts[j]) (by rw[List.getElem?_map];simp[hj2])
   obtain⟨a,rfl,ha⟩:=ax.pr_inv
   obtain⟨v,hv,rvv⟩:=rv.get hx
   have e1:its[j]?=some its[j]:=by simp[hj]
   rw[hv]at e1
   cases e1
   have e2:its[j]=.ref a:=rvv
   refine⟨a,ts[j],e2,List.getElem_mem hj2,ha,?_⟩
   obtain⟨us,ru,⟨o,ho,hcl,n,hd⟩,_⟩:=I.tuple (SqT.of (sm _ _ ha))
   obtain⟨u1,u2,rfl,r1,r2⟩:=zcP ru
   obtain⟨t1,rfl⟩:=r1
   obtain⟨t2,rfl⟩:=r2
   exact⟨a,o,n,t1,t2,e2,ho,hcl,hd⟩
  refine OwnSort.own_sorted pl.isList (λv hv=>let ⟨a,t,_,_,_,ht⟩:=look hv;⟨t,ht⟩) (by omega) λo2 pm ri=>?_
  obtain⟨us,l1,l2,l3⟩:=ri
  have hlo:o2.toList.length=ts.length:=by rw[pm.length_eq,hlen,List.length_map]
  -- the values' addresses
  have zsOf:∀ (ws:List Value) (vs:List Pr),ws.length=vs.length->(∀ w∈ws,w∈its)->(∀ (i:Nat) v t,ws[i]?=some v->vs[i]?=some t->OwnSort.TP s.heap v t)->∃ zs:List V,yf zs ws/\AtL F (vs.map prD) zs:=by
   intro ws
   induction ws with
   | nil =>
    intro vs hl _ _
    cases vs with
    | nil=>exact⟨[],.nil,.nil⟩
    | cons _ _=>simp at hl
   | cons w ws ih =>
    intro vs hl hm ht
    cases vs with
    | nil=>simp at hl
    | cons t vs =>
     obtain⟨zs,z1,z2⟩:=ih vs (by simpa using hl) (λw' hw'=>hm w' (List.mem_cons_of_mem _ hw')) (λi v t h1 h2=>ht (i+1) v t (by simpa using h1) (by simpa using h2))
     obtain⟨a,t',rfl,_,ha,htp⟩:=look (hm w List.mem_cons_self)
     have et:t'=t:=htp.uniq (ht 0 _ t rfl rfl)
     subst et
     exact⟨.ref a::zs,.cons rfl z1,.cons (.tup ha (.cons .int (.cons .int .nil))) z2⟩
  obtain⟨zs,z1,z2⟩:=zsOf o2.toList us l1 (λw hw=>pm.mem_iff.mp hw) l2
  have keysPerm:us.Perm ts:=by
   -- by the keys of the values
   have kv:∀ (ws:List Value) (vs:List Pr),ws.length=vs.length->(∀ (i:Nat) v t,ws[i]?=some v->vs[i]?=some t->OwnSort.TP s.heap v t)->vs=ws.map λv=>(OwnSort.keyP s.heap v).getD (0,0):=by
    intro ws
    induction ws with
    | nil=>intro vs hl _;cases vs with
     | nil=>rfl
     | cons _ _=>simp at hl
    | cons w ws ih =>
     intro vs hl ht
     cases vs with
     | nil=>simp at hl
     | cons t vs =>
      rw[List.map_cons,OwnSort.keyP_of (ht 0 w t rfl rfl),<- ih vs (by simpa using hl) λi v t h1 h2=>ht (i+1) v t (by simpa using h1) (by simpa using h2)]
      rfl
   rw[kv _ _ l1 l2,kv its ts (by rw[hlen,List.length_map]) λi v t h1 h2=>?_]
   .exact pm.map _
   .obtain⟨x,hx,ax⟩:=al.get (i:=i) (d:=prD t) (by rw[List.getElem?_map,h2];rfl)
    obtain⟨a,rfl,ha⟩:=ax.pr_inv
    obtain⟨v',hv',rvv⟩:=rv.get hx
    rw[h1]at hv'
    cases hv'
    obtain⟨us',ru',⟨o,ho,hcl,n,hd⟩,_⟩:=I.tuple (SqT.of (sm _ _ ha))
    obtain⟨u1,u2,rfl,r1,r2⟩:=zcP ru'
    obtain⟨t1,rfl⟩:=r1
    obtain⟨t2,rfl⟩:=r2
    exact⟨a,o,n,t1,t2,rvv,ho,hcl,hd⟩
  have e3:=zcV keysPerm l3
  rw[e3]at z2
  have:=fin zs o2.toList (by rw[z1.length];rw[List.length_map]at h64;omega) z1 z2
  simpa using this
 .split at hs <;> try cases hs
  rename_i ns hns
  have eds:=Xa hns
  subst eds
  have hI:PyProof.Rows.IntsAre its ns:=wH (by rw[<-al.of_ints];exact rv)
  refine PyProof.Rows.sorted_ints pl.isList hI (by omega) λo2 ns' h1 h2 h3=>?_
  have e3:=zcm h2 h3
  subst e3
  have z1:yf ((zfy ns).map V.int) o2.toList:=VF h1
  have:=fin ((zfy ns).map V.int) o2.toList (by rw[List.length_map,h2.length_eq];rw[List.length_map]at h64;omega) z1 (.ints _)
  simpa using this
theorem zdm {p:Pos} {f:Ev->Option (List D)} (hc:X.calm=true) (hgl:Gl X "sorted") (hm:X.mg "sorted"=none) (ha:AD X [e] f)
 (he:starEach [e] X.env=(false,eval e X.env)::starEach [] X.env:=by rfl) (hpl:(backTo pos (starEach [] X.env)).any (·.1)=false:=by rfl):FL X (.Call (.Name "sorted" p) [e] [] pos) (fFn za5 f):=by
 obtain⟨t,pa,ra⟩:=ha
 refine⟨_,ZP (VL hc) hgl hm zal pa (by decide) (by decide) he hpl,fun σ ρ F H z Q s va e q=>?_⟩
 obtain⟨ds,e1,e2⟩:=Option.bind_eq_some_iff.mp e
 refine ra σ ρ F H ds _ s va e1 λF1 H1 vs g1 a1=>?_
 have e2':=e2
 unfold za5 at e2'
 split at e2'
 .obtain⟨x,r,rfl,ax,ar⟩:=a1.cons_inv
  cases ar.nil_inv
  obtain⟨p,ys,rfl,hx,bl⟩:=ax.lst_inv
  exact⟨F1,p,ys,_,z,rfl,g1.fh,g1.fh _ _ hx,bl,e2,λl zs hl az=>q _ _ _ _ (g1.trans (Gr.hide g1.fh hl _)) (zck g1 hl) (g1.fh.free hl) zo az⟩
 .cases e2'
end
end Dl
namespace Dl
open PySem L2
noncomputable def zlB:D->Option Key
 | .int i=>some (.inl i)
 | .str x=>some (.inr x)
 | _=>none
noncomputable def zcp:List D->Option (List Key)
 | []=>some []
 | d::ds=>(zlB d).bind λk=>(zcp ds).map (k::·)
noncomputable def zfs:D->Option (List Key)
 | .tup ds=>zcp ds
 | _=>none
noncomputable def zi3 (t:Bool)(d:D):Option (List Key):=if t=true then zfs d else (zlB d).map ([·])
noncomputable def intQ:Int->Int->Bool
 | .ofNat a,.ofNat b=>Nat.beq a b
 | .negSucc a,.negSucc b=>Nat.beq a b
 | _,_=>false
theorem zbz {a b:Int}:intQ a b=true↔a=b:=by
 cases a with
 | ofNat a=>cases b with
  | ofNat b=>exact⟨λh=>(by rw[Nat.eq_of_beq_eq_true h]),λh=>(by cases h;exact Nat.beq_refl a)⟩
  | negSucc b=>exact⟨λh=>(by cases h),λh=>(by cases h)⟩
 | negSucc a=>cases b with
  | ofNat b=>exact⟨λh=>(by cases h),λh=>(by cases h)⟩
  | negSucc b=>exact⟨λh=>(by rw[Nat.eq_of_beq_eq_true h]),λh=>(by cases h;exact Nat.beq_refl a)⟩
noncomputable def zgS:Key->Key->Bool
 | .inl i,.inl j=>intQ i j
 | .inr a,.inr b=>decide (a=b)
 | _,_=>false
noncomputable def zlo:List Key->List Key->Bool
 | [],[]=>true
 | a::r,b::s=>match zgS a b with
  | true=>zlo r s
  | false=>false
 | _,_=>false
theorem zaa {a b:Key}:zgS a b=true↔a=b:=by
 cases a with
 | inl i=>cases b with
  | inl j=>exact⟨λh=>(by rw[zbz.mp h]),λh=>(by cases h;exact zbz.mpr rfl)⟩
  | inr b=>exact⟨λh=>(by cases h),λh=>(by cases h)⟩
 | inr i=>cases b with
  | inl j=>exact⟨λh=>(by cases h),λh=>(by cases h)⟩
  | inr b=>exact⟨λh=>(by rw[of_decide_eq_true h]),λh=>(by cases h;exact decide_eq_true rfl)⟩
theorem zb6 {x y:List Key}:zlo x y=true↔x=y:=by
 induction x generalizing y with
 | nil=>cases y with
  | nil=>exact⟨λ_=>rfl,λ_=>rfl⟩
  | cons b s=>exact⟨λh=>(by cases h),λh=>(by cases h)⟩
 | cons a r ih=>cases y with
  | nil=>exact⟨λh=>(by cases h),λh=>(by cases h)⟩
  | cons b s =>
   show(match zgS a b with | true=>zlo r s | false=>false)=true↔_
   cases h:zgS a b with
   | true=>rw[zaa.mp h];exact ih.trans ⟨λh=>(by rw[h]),λh=>(by cases h;rfl)⟩
   | false=>exact⟨λh=>(by cases h),λe=>(by cases e;rw[zaa.mpr rfl]at h;cases h)⟩
noncomputable def zez (x y:List Key):Decidable (x=y):=match h:zlo x y with
 | true=>.isTrue (zb6.mp h)
 | false=>.isFalse λe=>by rw[zb6.mpr e]at h;cases h
noncomputable def YG:List (List Key)->List D->List Key->Option D
 | k'::ks,v::vs,k=>@ite _ (k'=k) (zez k' k) (some v) (YG ks vs k)
 | _,_,_=>none
noncomputable def zlh:List (List Key)->List D->List Key->D->List D
 | k'::ks,v::vs,k,d=>(@ite _ (k'=k) (zez k' k) d v)::zlh ks vs k d
 | _,_,_,_=>[]
noncomputable def Xr (ks:List (List Key))(vs:List D)(k:List Key):List (List Key):=if (YG ks vs k).isSome=true then ks else ks++[k]
noncomputable def Xc (ks:List (List Key))(vs:List D)(k:List Key)(d:D):List D:=if (YG ks vs k).isSome=true then zlh ks vs k d else vs++[d]
theorem vP {k' k:List Key}{ks:List (List Key)}{v:D}{vs:List D}:YG (k'::ks) (v::vs) k=if k'=k then some v else YG ks vs k:=by
 show @ite _ (k'=k) (zez k' k) (some v) (YG ks vs k)=_
 by_cases h:k'=k
 .rw[if_pos h,if_pos h]
 .rw[if_neg h,if_neg h]
section
variable [KK]
theorem za0 {F:Hp}{d:D}{k:Key}{y:V}(h:zlB d=some k)(a:At F d y):y=kV k:=by
 cases d with
 | int i=>cases h;exact a.int_inv
 | str x=>cases h;exact a.str_inv
 | _=>cases h
theorem zbH {F:Hp}:∀ {ds:List D} {ks:List Key} {ys:List V},zcp ds=some ks->AtL F ds ys->ys=ks.map kV
 | [],_,_,h,a=>by cases h;exact a.nil_inv
 | d::ds,_,_,h,a=>by
  obtain⟨k,h1,h2⟩:=Option.bind_eq_some_iff.mp h
  obtain⟨r,h3,rfl⟩:=Option.map_eq_some_iff.mp h2
  obtain⟨x,xs,rfl,a1,a2⟩:=a.cons_inv
  rw[za0 h1 a1,zbH h3 a2]
  rfl
theorem za9 {F:Hp}{d:D}{k:List Key}{y:V}(h:zfs d=some k)(a:At F d y):∃ b,y=.ref b/\F b=some (.tup (k.map kV)):=by
 cases d with
 | tup ds =>
  obtain⟨b,ys,rfl,hb,al⟩:=a.tup_inv
  rw[zbH (show zcp ds=some k from h) al]at hb
  exact⟨b,rfl,hb⟩
 | _=>cases h
section
variable {κ:Type}[DecidableEq κ](f:κ->List Key)(hf:∀ a b,f a=f b->a=b)
include hf
theorem WL {F:Hp}{k:κ}:∀ {kvs:List (κ × V)} {vs:List D},AtL F vs (kvs.map (·.2)) ->
 (∀ d,YG (kvs.map λp=>f p.1) vs (f k)=some d->∃ x,zcb kvs k=some x/\At F d x)/\(YG (kvs.map λp=>f p.1) vs (f k)=none->zcb kvs k=none)
 | [],_,_=>⟨λd h=>(by cases h),λ_=>rfl⟩
 | p::kvs,[],a=>by cases a.nil_inv
 | p::kvs,v::vs,a=>by
  obtain⟨x,r,e,a1,a2⟩:=a.cons_inv
  cases e
  have ih:=WL (k:=k) a2
  by_cases h:p.1=k
  .rw[ZX h]
   have e:YG ((p::kvs).map λp=>f p.1) (v::vs) (f k)=some v:=by
    rw[List.map_cons,vP,if_pos (by rw[h])]
   rw[e]
   exact⟨λd z=>(by cases z;exact⟨_,rfl,a1⟩),λz=>(by cases z)⟩
  .rw[ZO h]
   have e:YG ((p::kvs).map λp=>f p.1) (v::vs) (f k)=YG (kvs.map λp=>f p.1) vs (f k):=by
    rw[List.map_cons,vP,if_neg (λz=>h (hf _ _ z))]
   rw[e]
   exact ih
theorem zgo {F:Hp}{k:κ}{kvs:List (κ × V)}{vs:List D}(a:AtL F vs (kvs.map (·.2))):(YG (kvs.map λp=>f p.1) vs (f k)).isSome=(zcb kvs k).isSome:=by
 obtain⟨h1,h2⟩:=WL f hf (k:=k) a
 cases h:YG (kvs.map λp=>f p.1) vs (f k) with
 | none=>rw[h2 h];rfl
 | some d=>obtain⟨x,e,_⟩:=h1 d h;rw[e];rfl
theorem zfl {F:Hp}{k:κ}{d:D}{y:V}(ad:At F d y):∀ {kvs:List (κ × V)} {vs:List D},AtL F vs (kvs.map (·.2)) ->
 AtL F (zlh (kvs.map λp=>f p.1) vs (f k) d) ((kvs.map λkv=>if kv.1=k then (kv.1,y)else kv).map (·.2))
 | [],_,_=>by unfold zlh;exact .nil
 | p::kvs,[],a=>by cases a.nil_inv
 | p::kvs,v::vs,a=>by
  obtain⟨x,r,e,a1,a2⟩:=a.cons_inv
  cases e
  have ih:=zfl (k:=k) ad a2
  rw[List.map_cons,List.map_cons]
  refine AtL.cons ?_ ih
  by_cases h:p.1=k
  .rw[if_pos h,if_pos (by rw[h])];exact ad
  .rw[if_neg h,if_neg (λz=>h (hf _ _ z))];exact a1
theorem ze8 {F:Hp}{k:κ}{d:D}{y:V}(ad:At F d y){kvs:List (κ × V)}{vs:List D}(a:AtL F vs (kvs.map (·.2))) :
 (zaY kvs k y).map (λp=>f p.1)=Xr (kvs.map λp=>f p.1) vs (f k)/\AtL F (Xc (kvs.map λp=>f p.1) vs (f k) d) ((zaY kvs k y).map (·.2)):=by
 unfold zaY Xr Xc
 rw[zgo f hf a,W4]
 cases h:(zcb kvs k).isSome with
 | true =>
  rw[if_pos rfl,if_pos rfl,if_pos rfl]
  refine⟨?_,zfl f hf ad a⟩
  rw[List.map_map]
  refine List.map_congr_left λp _=>?_
  by_cases e:p.1=k
  .show f (if p.1=k then (p.1,y)else p).1=_;rw[if_pos e]
  .show f (if p.1=k then (p.1,y)else p).1=_;rw[if_neg e]
 | false =>
  rw[if_neg Bool.false_ne_true,if_neg Bool.false_ne_true,if_neg Bool.false_ne_true,List.map_append,List.map_append]
  exact⟨rfl,a.append (.cons ad .nil)⟩
end
theorem zeX (a b:Key)(h:[a]=[b]):a=b:=by cases h;rfl
theorem zhk (a b:List Key)(h:a=b):a=b:=h
theorem ze2 {F H:Hp}{a:Addr}{z t:Bool}{ks:List (List Key)}{xs:List V}{vs:List D}{kd:D}{k:List Key}{y:V}(s:yq F H)(hd:WQ F a z t ks xs)(al:AtL F vs xs)(hk:zi3 t kd=some k)(ak:At F kd y) :
 ∃ o,ziS H a y o/\(∀ d,YG ks vs k=some d->∃ x,o=some x/\At F d x)/\(YG ks vs k=none->o=none):=by
 obtain⟨u,hd,rd⟩:=(hd.mono s).rd
 unfold zas at hd
 unfold zi3 at hk
 cases t with
 | true =>
  rw[if_pos rfl]at hd hk
  obtain⟨kvs,rfl,rfl,rfl⟩:=hd
  obtain⟨b,rfl,hb⟩:=za9 hk ak
  exact⟨_,.inr ⟨kvs,k,b,rd,rfl,s _ _ hb,rfl⟩,WL (λk=>k) zhk al⟩
 | false =>
  rw[if_neg Bool.false_ne_true]at hd hk
  obtain⟨kvs,rfl,rfl,rfl⟩:=hd
  obtain⟨k0,h2,rfl⟩:=Option.map_eq_some_iff.mp hk
  rw[za0 h2 ak]
  exact⟨_,.inl ⟨kvs,k0,rd,rfl,rfl⟩,WL (λk=>[k]) zeX al⟩
theorem zi7 {F H:Hp}{a:Addr}{o:HO}{t:Bool}{ks:List (List Key)}{xs:List V}{vs:List D}{kd d:D}{k:List Key}{y v:V}{G:Hp}(h:H a=some o)(hd:zas o t ks xs)(al:AtL F vs xs)(hk:zi3 t kd=some k)(ak:At G kd y)(s:yq G H)(ad:At F d v)
 (hl:ks.length < sizeLine):∃ o',zgp H a y v (upd H a o')/\zby F o' (.m t (Xr ks vs k) (Xc ks vs k d)):=by
 unfold zas at hd
 unfold zi3 at hk
 cases t with
 | true =>
  rw[if_pos rfl]at hd hk
  obtain⟨kvs,rfl,rfl,rfl⟩:=hd
  obtain⟨b,rfl,hb⟩:=za9 hk ak
  obtain⟨q1,q2⟩:=ze8 (λk=>k) zhk (k:=k) ad al
  refine⟨_,zgp.t h (s _ _ hb) (by simpa using hl),_,?_,q2⟩
  unfold zas
  rw[if_pos rfl]
  exact⟨_,rfl,q1,rfl⟩
 | false =>
  rw[if_neg Bool.false_ne_true]at hd hk
  obtain⟨kvs,rfl,rfl,rfl⟩:=hd
  obtain⟨k0,h2,rfl⟩:=Option.map_eq_some_iff.mp hk
  rw[za0 h2 ak]
  obtain⟨q1,q2⟩:=ze8 (λk=>[k]) zeX (k:=k0) ad al
  refine⟨_,zgp.k h (by simpa using hl),_,?_,q2⟩
  unfold zas
  rw[if_neg Bool.false_ne_true]
  exact⟨_,rfl,q1,rfl⟩
noncomputable def zea:D->D->Option D
 | .dct _ t ks vs,kd=>(zi3 t kd).bind λk=>YG ks vs k
 | _,_=>none
noncomputable def zft (neg:Bool):D->D->Option D
 | kd,.dct _ t ks vs=>(zi3 t kd).map λk=>.bl (neg != (YG ks vs k).isSome)
 | _,_=>none
section
variable {X:Cx}{a b c:Expr}{pos apos:Pos}
theorem ziD {k:Nat}{f h:Ev->Option D}(hr:YA k X.A)(ha:ED X a f)(hb:ED X b h)(hs:zmc b):ED X (.Subscript a b pos) (zk zea f h):=by
 obtain⟨ta,pa,ra⟩:=ha
 obtain⟨tb,pb,rb⟩:=hb
 refine⟨_,zhT (zee hr) pa pb hs,fun σ ρ F H z Q s va e q=>?_⟩
 obtain⟨x,e1,e⟩:=Option.bind_eq_some_iff.mp e
 obtain⟨y,e2,e⟩:=Option.bind_eq_some_iff.mp e
 refine ra σ ρ F H x _ s va e1 λF1 H1 v g1 a1=>?_
 refine rb σ ρ F1 H1 y _ g1.fh (va.mono g1.ff) e2 λF2 H2 u g2 a2=>?_
 cases x with
 | dct z' t ks vs =>
  obtain⟨kk,h1,h2⟩:=Option.bind_eq_some_iff.mp e
  obtain⟨p,xs,rfl,hd,al⟩:=(a1.mono g2.ff).dct_inv
  obtain⟨o,hg,h3,_⟩:=ze2 g2.fh hd al h1 a2
  obtain⟨w,rfl,aw⟩:=h3 z h2
  exact⟨p,w,rfl,hg,q F2 H2 w (g1.trans g2) aw⟩
 | _=>cases e
noncomputable def zl3 (neg:Bool):R2:=λx y H Q=>∃ a o,y=.ref a/\ziS H a x o/\Q (.bl (neg != o.isSome)) H
theorem zhF {k:Nat}(hr:YA k X.A):OpR X (compareOp .In) (zl3 false):=by
 intro pins s σ H x y v u Q I rx ry h
 obtain⟨a,o,rfl,g,q⟩:=h
 obtain rfl:u=Value.ref a:=ry
 exact d_in (zee hr) I g rx λs3 I3=>⟨.bl o.isSome,H,I3,rfl,by simpa using q⟩
theorem zd2 {k:Nat}(hr:YA k X.A):OpR X (compareOp .NotIn) (zl3 true):=by
 intro pins s σ H x y v u Q I rx ry h
 obtain⟨a,o,rfl,g,q⟩:=h
 obtain rfl:u=Value.ref a:=ry
 exact zh0 (zee hr) I g rx λs3 I3=>⟨.bl (!o.isSome),H,I3,rfl,by simpa using q⟩
theorem zbb {neg:Bool}:OpD (zl3 neg) (zft neg):=by
 intro F H x y d e z Q s a1 a2 h q
 cases e with
 | dct z' t ks vs =>
  obtain⟨k,h1,rfl⟩:=Option.map_eq_some_iff.mp h
  obtain⟨p,xs,rfl,hd,al⟩:=a2.dct_inv
  obtain⟨o,hg,h3,h4⟩:=ze2 s hd al h1 a1
  refine⟨p,o,rfl,hg,?_⟩
  have e:(YG ks vs k).isSome=o.isSome:=by
   cases h:YG ks vs k with
   | none=>rw[h4 h];rfl
   | some d=>obtain⟨w,rfl,_⟩:=h3 d h;rfl
  rw[<-e]
  exact q F H _ (.refl s) .bl
 | _=>cases h
end
section
variable {X:Cx}{a e ko:Expr}{pos pos':Pos}{st:Stmt}
noncomputable def zhZ (t:Bool)(i:Nat):SE->Ctl:=fun ρ=>.nx (ρ.set i (.m t [] []))
theorem ziT {t:Bool}{i:Nat}{x:Str}(hN:X.N.Nodup)(hi:X.N[i]?=some x)(hx:Loc X.env.scope x)(hs:swapsWith (.Dict [] [] pos) (some (.Name x pos')) pos.line X.env=pure false:=by rfl)
 (hf:X.fn x=true\/X.env.scope.names.lookup x=some .local:=by first | exact .inl rfl | exact .inr rfl | assumption) {p2:Pos} (hs:swapsWith (.Dict [] [] p2) (some (.Name x pos')) pos.line X.env=pure false:=by rfl):SD X (.Assign [.Name x pos'] (.Dict [] [] p2) pos) (zhZ t i):=by
 have go:∀ (o:HO),zby (λ_=>none) o (.m t [] [])->∀ (Fb Hb F H:Hp) (ρ:SE) (σ:St) (E:zgJ),Rl Fb Hb F H ρ σ->SOk Fb Hb E (zhZ t i ρ)->∀ p,H p=none->E.nx (σ.set i (some (.ref p))) (upd H p o):=λo ho Fb Hb F H ρ σ E rl k p hp=>by
  have g:=Gr.hide rl.gr.fh hp o
  refine k F _ _ ((rl.grow g).setW (rl.notbase hp) (rl.gr.fh.free hp) zo (ho.mono λ_ _ z=>by cases z) (rl.notown hp))
 cases t with
 | true =>
  refine⟨_,Wi hN hi hx zgs hs hf,λFb Hb F H ρ σ E rl k=>?_⟩
  refine λp hp=>go (.dT []) ⟨[],?_,.nil⟩ Fb Hb F H ρ σ E rl k p hp
  unfold zas
  rw[if_pos rfl]
  exact⟨[],rfl,rfl,rfl⟩
 | false =>
  refine⟨_,Wi hN hi hx zgk hs hf,λFb Hb F H ρ σ E rl k=>?_⟩
  refine λp hp=>go (.dK []) ⟨[],?_,.nil⟩ Fb Hb F H ρ σ E rl k p hp
  unfold zas
  rw[if_neg Bool.false_ne_true]
  exact⟨[],rfl,rfl,rfl⟩
noncomputable def zeE (ρ:SE)(i:Nat)(kd d:D):Option SE:=match ρ[i]? with
 | some (.m t ks vs)=>(zi3 t kd).bind λk=>if decide (ks.length < sizeLine)=true then some (ρ.set i (.m t (Xr ks vs k) (Xc ks vs k d)))else none
 | _=>none
noncomputable def X2 (m:Bool)(i:Nat)(fk fe:Ev->Option D):SE->Ctl:=fun ρ=>match (vEv m fe ρ).bind λd=>(fk (visG ρ)).bind λkd=>zeE ρ i kd d with
 | some ρ'=>.nx ρ'
 | none=>.no
theorem zdb {k:Nat}{m:Bool}{i:Nat}{fk fe:Ev->Option D}(hr:YA k X.A)(he:ED X e fe)(ho:PE X a (zir i))(hk:ED X ko fk)(hs:swapsWith e (some (.Subscript a ko pos')) pos.line X.env=pure false:=by rfl):SD X (.Assign [.Subscript a ko pos'] e pos) (X2 m i fk fe):=by
 obtain⟨t,p,r⟩:=he
 obtain⟨tk,pk,rk⟩:=hk
 refine⟨_,ziQ (zee hr) ho pk p hs,λFb Hb F H ρ σ E rl k=>?_⟩
 unfold X2 at k
 cases h:(vEv m fe ρ).bind λd=>(fk (visG ρ)).bind λkd=>zeE ρ i kd d with
 | none=>rw[h]at k;exact k.elim
 | some ρ' =>
  rw[h]at k
  obtain⟨d,e1,e2⟩:=Option.bind_eq_some_iff.mp h
  obtain⟨kd,e3,e2⟩:=Option.bind_eq_some_iff.mp e2
  unfold zeE at e2
  split at e2
  .rename_i tt ks vs hs
   obtain⟨kk,e4,e5⟩:=Option.bind_eq_some_iff.mp e2
   have hl:decide (ks.length < sizeLine)=true:=by
    cases hh:decide (ks.length < sizeLine) with
    | true=>rfl
    | false=>rw[hh,if_neg Bool.false_ne_true]at e5;cases e5
   rw[if_pos hl]at e5
   cases e5
   refine r.at rl e1 λF' H' v g av=>?_
   have rl2:=rl.grow g
   obtain⟨q,o,f1,_⟩:=rl2.ows i _ hs rfl
   refine⟨_,f1,?_⟩
   refine rk σ _ _ H' _ _ rl2.gh rl2.visG e3 λF3 H3 v3 g3 av3=>?_
   obtain⟨gb,_⟩:=rl2.back g3
   have rl3:=rl2.grow gb
   obtain⟨q3,o3,f1',_,_,f4,xs,f5,f6⟩:=rl3.ows i _ hs rfl
   rw[f1]at f1'
   cases f1'
   obtain⟨o',hp,hw⟩:=zi7 f4 f5 f6 e4 av3 g3.fh (av.mono gb.ff) (of_decide_eq_true hl)
   exact⟨q,_,rfl,hp,k _ _ σ (rl3.mutW hs rfl f1 hw)⟩
  .cases e2
end
end
end Dl
namespace Dl
open PySem L2
variable [KK]
section
variable {X:Cx}
noncomputable def rNeL:R2:=λx y H Q=>∃ F ds es,yq F H/\At F (.lst ds) x/\At F (.lst es) y/\okE 20 (.lst ds)=true/\okE 20 (.lst es)=true/\Q (.bl (!eqN 20 (.lst ds) (.lst es))) H
theorem zkw {k:Nat}(hr:YA k X.A):OpR X (compareOp .NotEq) rNeL:=by
 intro pins s σ H x y v u Q I rx ry h
 obtain⟨F,ds,es,sm,a1,a2,k1,k2,q⟩:=h
 have hu:X.A.units+30 < cLine:=by have:=hr.un;omega
 obtain⟨p,xs,rfl,hx,al⟩:=a1.lst_inv
 obtain⟨p2,ys,rfl,hy,bl⟩:=a2.lst_inv
 cases rx
 cases ry
 obtain⟨its,r,ht,hz⟩:=I.list (SqL.of (sm _ _ hx))
 obtain⟨its2,r2,ht2,hz2⟩:=I.list (SqL.of (sm _ _ hy))
 have hl1:its.toArray.size=ds.length:=by rw[List.size_toArray,<- r.length,al.length]
 have hl2:its2.toArray.size=es.length:=by rw[List.size_toArray,<- r2.length,bl.length]
 have e1:eqN 20 (.lst ds) (.lst es)=((List.range (min ds.length es.length)).all (λj=>eqN 19 (ds.getD j .non) (es.getD j .non))&&ds.length == es.length):=by
  show((List.zipWith (eqN 19) ds es).all id&&ds.length == es.length)=_
  rw[Wx]
 by_cases hle:ds.length=es.length
 .refine SeqAt.RcNeAt.lists (e:=λj=>eqN 19 (ds.getD j .non) (es.getD j .non)) ht.isList ht2.isList (by rw[hl1,hl2];exact hle) (Nat.lt_of_le_of_lt (Nat.le_add_right _ 30) hu) (λj g1 g2=>?_) _ _ _ _ ⟨.bl _,H,I,rfl,?_⟩
  .obtain⟨x',ax,rx⟩:=al.nth r (j:=j) (by simpa using g1)
   obtain⟨y',ay,ry⟩:=bl.nth r2 (j:=j) (by simpa using g2)
   exact zcd I sm 19 (xY k1 (by rw[<-hl1];exact g1)) (xY k2 (by rw[<-hl2];exact g2)) ax ay (by simpa using rx) (by simpa using ry) (Nat.lt_of_le_of_lt (show X.A.units+20<=X.A.units+30 from Nat.add_le_add_left (by decide) _) hu)
  .rw[hl1]
   rw[e1,<- hle,Nat.min_self]at q
   simpa using q
 .refine SeqAt.RcNeAt.lists_lengths ht.isList ht2.isList (by rw[hl1,hl2];simpa using hle) (Nat.lt_of_le_of_lt (Nat.le_add_right _ 30) hu) _ _ _ _ ⟨.bl _,H,I,rfl,?_⟩
  have:(ds.length == es.length)=false:=by simpa using hle
  rw[e1,this,Bool.and_false]at q
  exact q
end
noncomputable def zjR:D->D->Option D
 | .lst ds,.lst es=>if (okE 20 (.lst ds)&&okE 20 (.lst es))=true then some (.bl (!eqN 20 (.lst ds) (.lst es)))else none
 | _,_=>none
theorem zi9:OpD rNeL zjR:=by
 intro F H x y d e z Q s ax ay ez q
 unfold zjR at ez
 split at ez
 .split at ez <;> cases ez
  rename_i hk
  rw[Bool.and_eq_true]at hk
  exact⟨F,_,_,s,ax,ay,hk.1,hk.2,q F H _ (.refl s) .bl⟩
 .cases ez
end Dl
namespace L2
open PySem PySem.Spec PyProof.Rows
section
variable {prog:Program}{w:World}{A:Around}{E:Value->Shared->Prop}{s:Shared}{d it:Addr}{o:Obj}{es:Array DictEntry}{ep i:Nat}
theorem raw_iter {Q:Value->Shared->Prop}(hs:(d == sysModules)=false)(ho:s.heap.get? d=some o)(hc:o.ExactDict)(hd:o.data=.dict es ep)
 (hQ:Q (.ref s.heap.objs.size) { s with heap:=s.heap.push { cls:=.type "dict_keyiterator",data:=.fields #[.ref d,.int 0 0,.int es.size 0,.int ep 0] } }):wpAny (model prog w) A (pyIter (.ref d)) Q E s:=by
 have hT:s.TypeIs (.ref d) "dict":=⟨o,ho,hc.1⟩
 refine wpAny_pyIter_slot hT PySem.F.slot_dict_iter (wpAny_call_entry PySem.F.slot_dict_iter hT PySem.F.entry_dict_iter ?_ (PySem.F.args_dict_iter_1 _))
 unfold Builtin.«dict.__iter__»
 refine wpAny_bind ?_
 unfold Builtin.Dict.dictSlotNone
 refine wpAny_bind (wpAny_notOrdered_dict hT ?_)
 show wpAny _ _ (pure (Value.ref d)) _ _ s
 refine wpAny_pure ?_
 show wpAny _ _ (Builtin.Dict.showsAll d>>=_) _ _ s
 unfold Builtin.Dict.showsAll
 rw[if_neg (by rw[hs];exact Bool.false_ne_true)]
 refine wpAny_bind (wpAny_pure (wpAny_bind (wpAny_dictEntries ho hd (wpAny_bind (wpAny_dictEpoch ho hd ?_)))))
 refine wpAny_bind (wpAny_newObj_type (wpAny_pure ⟨_,rfl,"dict_keyiterator",_,⟨_,Heap.get?_push_size _ rfl,rfl⟩,PySem.F.slot_dict_keyiterator_next.lookup,?_⟩))
 simpa [rawInt]using hQ
theorem raw_next {e:DictEntry}{Q:Option Value->Shared->Prop}(hit:s.heap.IsKeyIter it d i es.size ep)(ho:s.heap.get? d=some o)(hd:o.data=.dict es ep)(hx:es[i]?=some e)
 (hQ:∀ h',h'.IsKeyIter it d (i+1) es.size ep->Heap.SameBut it s.heap h'->Q (some e.key) { s with heap:=h' }):wpAny (model prog w) A (pyNext (.ref it)) Q E s:=by
 obtain⟨oi,hoi,hci,hdi⟩:=id hit
 unfold pyNext
 refine wpAny_bind (wpAny_attempt (wpAny_callSpecial?_slot (name:=Str.ofString "__next__") hit.typeIs PySem.F.slot_dict_keyiterator_next
  (wpAny_call_entry PySem.F.slot_dict_keyiterator_next hit.typeIs PySem.F.entry_dict_keyiterator_next ?_ (PySem.F.args_dict_keyiterator_next_1 _))))
 refine wpAny_bind (wpAny_pure ?_)
 refine wpAny_bind ?_
 refine wpAny_bind ?_
 first | refine wpAny_bind (wpAny_typeNameOfWhole_keyiter hit.typeIs (wpAny_pure ?_)) | refine wpAny_bind (wpAny_typeNameOf_keyiter hit.typeIs (wpAny_pure ?_))
 refine wpAny_bind (wpAny_fieldsOf hoi hdi ?_)
 have hown:Builtin.Dict_items.ownsTuple "dict_keyiterator"=false:=by decide
 simp only[hown,Bool.false_eq_true,if_false]
 show wpAny _ _ (if (Value.ref d == Value.none)=true then _ else _) _ _ s
 rw[if_neg (show ¬ ((Value.ref d == Value.none)=true)from Bool.false_ne_true)]
 refine wpAny_bind (wpAny_pure (wpAny_bind (wpAny_dictEntries ho hd ?_)))
 rw[if_neg (by simp)]
 refine wpAny_bind (wpAny_pure (wpAny_bind (wpAny_dictEpoch ho hd ?_)))
 rw[if_neg (by simp)]
 refine wpAny_pure ?_
 simp only[show ¬ ((i:Int) < 0)from by omega,if_false,Int.toNat_natCast,hx]
 refine wpAny_bind ?_
 first | refine wpAny_bind (wpAny_typeNameOfWhole_keyiter hit.typeIs (wpAny_pure ?_)) | refine wpAny_bind (wpAny_typeNameOf_keyiter hit.typeIs (wpAny_pure ?_))
 refine wpAny_bind (wpAny_isOneOf_keyiter hit.typeIs ?_)
 show wpAny _ _ (setField (.ref it) 1 (rawInt ((i:Int)+1))>>=_) _ _ s
 refine wpAny_bind (wpAny_setField hoi hdi (by simp) ?_)
 have hit':(s.heap.update it (Obj.mapFields (·.setIfInBounds 1 (rawInt ((i:Int)+1))))).IsKeyIter it d (i+1) es.size ep :=
  ⟨_,Heap.get?_update_self _ hoi (Obj.isFreed_of_fields (Obj.data_mapFields hdi _)),(Obj.cls_mapFields ..).trans hci,by rw[Obj.data_mapFields hdi];simp[rawInt]⟩
 refine wpAny_bind (wpAny_holding ?_)
 refine wpAny_bind (wpAny_isOneOf_keyiter (s:={ s with heap:=s.heap.update it (Obj.mapFields (·.setIfInBounds 1 (rawInt ((i:Int)+1)))) }) hit'.typeIs ?_)
 show wpAny _ _ (pure e.key) _ _ _
 exact wpAny_pure (wpAny_pure ⟨_,rfl,wpAny_pure (hQ _ hit' (Heap.SameBut.update ..))⟩)
theorem raw_end {Q:Option Value->Shared->Prop}(hh:A.handled=none)(hit:s.heap.IsKeyIter it d i es.size ep)(ho:s.heap.get? d=some o)(hd:o.data=.dict es ep)(hx:es.size<=i)
 (hQ:∀ h',Heap.ExtBut it s.heap h'->Q none { s with heap:=h' }):wpAny (model prog w) A (pyNext (.ref it)) Q E s:=by
 obtain⟨oi,hoi,hci,hdi⟩:=id hit
 unfold pyNext
 refine wpAny_bind (wpAny_attempt (wpAny_callSpecial?_slot (name:=Str.ofString "__next__") hit.typeIs PySem.F.slot_dict_keyiterator_next
  (wpAny_call_entry PySem.F.slot_dict_keyiterator_next hit.typeIs PySem.F.entry_dict_keyiterator_next ?_ (PySem.F.args_dict_keyiterator_next_1 _))))
 refine wpAny_bind (wpAny_pure ?_)
 refine wpAny_bind ?_
 refine wpAny_bind ?_
 first | refine wpAny_bind (wpAny_typeNameOfWhole_keyiter hit.typeIs (wpAny_pure ?_)) | refine wpAny_bind (wpAny_typeNameOf_keyiter hit.typeIs (wpAny_pure ?_))
 refine wpAny_bind (wpAny_fieldsOf hoi hdi ?_)
 have hown:Builtin.Dict_items.ownsTuple "dict_keyiterator"=false:=by decide
 simp only[hown,Bool.false_eq_true,if_false]
 show wpAny _ _ (if (Value.ref d == Value.none)=true then _ else _) _ _ s
 rw[if_neg (show ¬ ((Value.ref d == Value.none)=true)from Bool.false_ne_true)]
 refine wpAny_bind (wpAny_pure (wpAny_bind (wpAny_dictEntries ho hd ?_)))
 rw[if_neg (by simp)]
 refine wpAny_bind (wpAny_pure (wpAny_bind (wpAny_dictEpoch ho hd ?_)))
 rw[if_neg (by simp)]
 refine wpAny_pure ?_
 simp only[show ¬ ((i:Int) < 0)from by omega,if_false,Int.toNat_natCast,Array.getElem?_eq_none hx]
 refine wpAny_bind ?_
 first | refine wpAny_bind (wpAny_typeNameOfWhole_keyiter hit.typeIs (wpAny_pure ?_)) | refine wpAny_bind (wpAny_typeNameOf_keyiter hit.typeIs (wpAny_pure ?_))
 show wpAny _ _ (setField (.ref it) 0 .none>>=_) _ _ s
 refine wpAny_bind (wpAny_setField hoi hdi (by simp) ?_)
 show wpAny _ _ (newExc (.type "StopIteration") []>>=_) _ _ _
 refine wpAny_bind ?_
 simp only[newExc,newTuple]
 refine wpAny_bind (wpAny_newObj_type ?_ (by size_fits))
 refine wpAny_bind (m:=firstArgMember _ _) (wpAny_of_eq (a:=Value.none) (by first | rfl | (simp only[firstArgMember];rfl)) ?_)
 refine wpAny_newObj_type ?_ (by size_fits)
 simp only[raiseNew]
 refine wpAny_bind (wpAny_handled ?_)
 rw[show A.in1.handled=none from hh]
 refine wpAny_bind (wpAny_pure (wpAny_throw ?_))
 refine wpAny_bind (wpAny_isInstance (T:="StopIteration") (b:=true) ⟨_,Heap.get?_push_size _ rfl,rfl⟩ isSubtype_stop ?_)
 exact wpAny_pure (hQ _ (((Heap.SameBut.update ..).extBut.push _).push _))
end
noncomputable def dLen:HO->Nat
 | .dK kvs=>kvs.length
 | .dT kvs=>kvs.length
 | _=>0
noncomputable def zfL (u:HO):Prop:=(∃ kvs,u=.dK kvs)\/∃ kvs,u=.dT kvs
section
variable {X:Cx}{tg:Expr}
theorem Inv.frz {pins:List (Addr × Obj)}{σ:St}{H:Hp}{s:Shared}{p:Addr}{u:HO}(I:Inv X pins σ H s)(e:H p=some u)(hu:zfL u):∃ ob,Inv X pins σ (upd H p (.frz ob u)) s:=by
 have ok:=I.hok p u e
 have mu:Mut (H p):=by
  rw[e]
  rcases hu with ⟨kvs,rfl⟩ | ⟨kvs,rfl⟩ <;> exact True.intro
 rcases hu with ⟨kvs,rfl⟩ | ⟨kvs,rfl⟩
 .obtain⟨z,sys,vs,kv,o,es,ep,e1,r⟩:=ok
  refine⟨o,I.write (h':=s.heap) (t':=s.toks) mu (.inl rfl) (λb u _ e=>e) ⟨o,e1⟩ ⟨e1,z,sys,vs,kv,o,es,ep,e1,r⟩⟩
 .obtain⟨z,sys,xs,pr,o,es,ep,e1,r⟩:=ok
  refine⟨o,I.write (h':=s.heap) (t':=s.toks) mu (.inl rfl) (λb u _ e=>e) ⟨o,e1⟩ ⟨e1,z,sys,xs,?_,o,es,ep,e1,r⟩⟩
  exact KT.keeps pr λb ys eb=>by
   rw[zp (ziZ eb e (λz=>nomatch z))]
   exact eb
noncomputable def tFrz (i:Nat)(t:TS):TS:=λE σ H=>∃ p u,σ[i]?=some (some (.ref p))/\H p=some u/\zfL u/\∀ ob,t E σ (upd H p (.frz ob u))
theorem ziP {sts:List Stmt}{t:TS}(i:Nat)(h:PSs X sts t):PSs X sts (tFrz i t):=by
 intro pins s σ H E I q
 obtain⟨p,u,_,e,hu,q⟩:=q
 obtain⟨ob,I2⟩:=I.frz e hu
 exact h pins s σ _ E I2 (q ob)
noncomputable def zhi (z:Bool)(tk tv:TE):TE:=fun σ H Q=>∀ p,H p=none->tk σ (upd H p (.dT [])) λx H1=>tv σ H1 λy H2=>H2 p=some (.dT [])/\∃ b k,x=.ref b/\H2 b=some (.tup (k.map kV)) /\
 if z=true then ∀ ob,Q (.ref p) (upd H2 p (.frz ob (.dT [(k,y)])))else Q (.ref p) (upd H2 p (.dT [(k,y)]))
theorem zfx {z:Bool}{k v:Expr}{pos:Pos}{tk tv:TE}(hu:X.A.units+1 < cLine)(hk:PE X k tk)(hv:PE X v tv):PE X (.Dict [some k] [v] pos) (zhi z tk tv):=by
 intro pins s σ H Q I q
 have hn:=I.hok.fresh (Nat.le_refl s.heap.objs.size)
 have I1:=I.laid (a:=s.heap.objs.size) (o:=.dT []) (h':=s.heap.push { cls:=.type "dict",data:=.dict #[] }) (t':=s.toks) (λ_ _ q=>Heap.get?_push_of_some _ q) (Nat.le_refl _) (zb1 s.heap I.big)
 refine wpAny_Dict_any (by rfl) rfl (by simp) (by simp) ?_
 refine pairTrees_cons_walk (thn (hk pins _ σ _ _ I1 (q _ hn)) λu s1 ⟨x,H1,I1,rx,q1⟩=>thn (hv pins s1 σ H1 _ I1 q1) λw2 s2 hh9=>?_)
 obtain⟨y,H2,I2,ry,q2⟩:=hh9
 obtain⟨e,b,kk,ex,eb,q2⟩:=q2
 subst ex
 obtain rfl:u=Value.ref b:=rx
 refine pairTrees_nil_walk ?_
 unfold storeAll
 simp only[List.forIn_cons,List.forIn_nil]
 obtain⟨zz,hd,xs,rel,dd⟩:=zjP I2.hok e
 cases rel
 refine wpAny_bind (wpAny_bind (wpAny_dictSet_heap (hsz:=Nat.zero_le _) (show(tupleKind (yO X.prog X.w)).room X.A from Nat.lt_of_succ_lt hu) (Wj I2.hok eb) dd λh' dd' hs=>wpAny_pure (wpAny_pure ?_)))
 have dd2:=dd'
 obtain⟨q,es,ep,hq,h2,h3,h4,_,h5⟩:=dd'
 have I3:=zbk (t':=s2.toks+(tupleKind (yO X.prog X.w)).draws kk) (ob:=.dT [(kk,y)]) I2 (by rw[e];exact True.intro) hs ⟨q,hq⟩ ⟨by show 1<=sizeLine;decide,hd,_,((show KT H2 [] []from .nil).put kk eb ry).keeps λc ys ec=>by
  rw[zp (ziZ ec e (λz=>nomatch z))]
  exact ec,q,es,ep,hq,h2,h3,h4,h5⟩
 cases z with
 | false=>exact⟨.ref s.heap.objs.size,_,I3,rfl,by rw[if_neg Bool.false_ne_true]at q2;exact q2⟩
 | true =>
  rw[if_pos rfl]at q2
  obtain⟨ob,I4⟩:=I3.frz (p:=s.heap.objs.size) (u:=.dT [(kk,y)]) zo (.inr ⟨_,rfl⟩)
  rw[zaP]at I4
  exact⟨.ref s.heap.objs.size,_,I4,rfl,q2 ob⟩
end
end L2
namespace Dl
open PySem L2
section
variable [KK]
theorem zii {u:HO}{t:Bool}{ks:List (List Key)}{xs:List V}(h:zas u t ks xs):zfL u/\dLen u=ks.length:=by
 unfold zas at h
 cases t with
 | true=>rw[if_pos rfl]at h;obtain⟨kvs,rfl,rfl,_⟩:=h;exact⟨.inr ⟨_,rfl⟩,by rw[List.length_map];rfl⟩
 | false=>rw[if_neg Bool.false_ne_true]at h;obtain⟨kvs,rfl,rfl,_⟩:=h;exact⟨.inl ⟨_,rfl⟩,by rw[List.length_map];rfl⟩
theorem Gr.see {F H:Hp}{b:Addr}{ys:List V}(s:yq F H)(h:H b=some (.tup ys)):∃ F',Gr F H F' H/\F' b=some (.tup ys):=by
 cases e:F b with
 | some o =>
  have:=s _ _ e
  rw[h]at this
  cases this
  exact⟨F,.refl s,e⟩
 | none =>
  refine⟨upd F b (.tup ys),⟨λp o z=>?_,λp o z=>?_,λp o z1 z2=>⟨?_,z2⟩⟩,zo⟩
  .rw[zp (zm z e)];exact z
  .by_cases hp:p=b
   .subst hp;rw[zo]at z;cases z;exact h
   .rw[zp hp]at z;exact s p o z
  .by_cases hp:p=b
   .subst hp
    rw[h]at z2
    cases z2
    exact .inr ⟨⟨_,rfl⟩,zo⟩
   .exact .inl (by rw[zp hp];exact z1)
section
variable {X:Cx}{tg a b e k v:Expr}{pos pos':Pos}{sts:List Stmt}
noncomputable def zlU (i:Nat)(g:SE->Ctl):SE->Ctl:=fun ρ=>match ρ[i]? with
 | some (.m t ks vs)=>g (ρ.set i (.v (.dct true t ks vs)))
 | _=>.no
theorem Rl.fzM {Fb Hb F H:Hp}{ρ:SE}{σ:St}{i:Nat}{t:Bool}{ks:List (List Key)}{vs:List D}(r:Rl Fb Hb F H ρ σ)(h:ρ[i]?=some (.m t ks vs)) :
 ∃ p u,σ[i]?=some (some (.ref p))/\H p=some u/\zfL u/\∀ ob,Rl Fb Hb (upd F p (.frz ob u)) (upd H p (.frz ob u)) (ρ.set i (.v (.dct true t ks vs))) σ:=by
 obtain⟨p,u,e1,e2,e3,e4,xs,hd,al⟩:=r.ows i _ h rfl
 refine⟨p,u,e1,e4,(zii hd).1,λob=>?_⟩
 have hi:i < ρ.length:=(List.getElem?_eq_some_iff.mp h).1
 have sF:yq F (upd F p (.frz ob u)):=λb o e=>by rw[zp (zm e e3)];exact e
 have nj:∀ {j:Nat} {s:Sl},(ρ.set i (.v (.dct true t ks vs)))[j]?=some s->s.isO=true->i≠j:=λ{j s} h ht e=>by
  subst e
  rw[List.getElem?_set_self hi]at h
  cases h
  cases ht
 refine⟨⟨r.gr.ff.trans sF,λb o z=>?_,λb o z1 z2=>?_⟩,λj d z=>?_,λj s z ht=>?_,λj k q s s' h1 h2 o1 o2 h3 h4=>?_,by simp[r.len]⟩
 .by_cases hb:b=p
  .subst hb;rw[zo]at z ⊢;exact z
  .rw[zp hb]at z ⊢;exact r.gr.fh b o z
 .have hb:b≠p:=zm z2 e2
  obtain⟨x,y⟩:=r.gr.kp b o z1 z2
  refine⟨?_,by rw[zp hb];exact y⟩
  unfold Hid
  rw[zp hb]
  exact x
 .by_cases hj:i=j
  .subst hj
   rw[List.getElem?_set_self hi]at z
   cases z
   refine⟨_,e1,?_⟩
   unfold At
   exact⟨p,xs,rfl,⟨u,hd,by rw[if_pos rfl];exact⟨ob,zo⟩⟩,al.mono sF⟩
  .rw[List.getElem?_set_ne hj]at z
   obtain⟨v,f1,f2⟩:=r.vals j d z
   exact⟨v,f1,f2.mono sF⟩
 .have hj:=nj z ht
  rw[List.getElem?_set_ne hj]at z
  obtain⟨q,y,f1,f2,f3,f4,f5⟩:=r.ows j s z ht
  have hq:q≠p:=λw=>hj (r.dis i j p _ s h z rfl ht e1 (by rw[<-w];exact f1))
  exact⟨q,y,f1,f2,by rw[zp hq];exact f3,by rw[zp hq];exact f4,f5.mono sF⟩
 .have a1:=nj h1 o1
  have a2:=nj h2 o2
  rw[List.getElem?_set_ne a1]at h1
  rw[List.getElem?_set_ne a2]at h2
  exact r.dis j k q s s' h1 h2 o1 o2 h3 h4
theorem ziO {g:SE->Ctl}(i:Nat)(h:SDs X sts g):SDs X sts (zlU i g):=by
 obtain⟨t,p,r⟩:=h
 refine⟨_,ziP i p,λFb Hb F H ρ σ E rl k=>?_⟩
 unfold zlU at k
 split at k
 .rename_i tt ks vs hs
  obtain⟨q,u,e1,e2,e3,e4⟩:=rl.fzM hs
  exact⟨q,u,e1,e2,e3,λob=>r Fb Hb _ _ _ σ E (e4 ob) k⟩
 .exact k.elim
theorem zc5 {z:Bool}{tk tv:TE}{fk fv:Ev->Option D}{σ:St}{ρ:Ev}{F H:Hp}{kd d:D}{kk:List Key}{Q:VK}(rk:RE tk fk)(rv:RE tv fv)(s:yq F H)(va:VAt F ρ σ)(e1:fk ρ=some kd)(e2:fv ρ=some d)(e3:zfs kd=some kk)
 (q:∀ F2 H2 p y,Gr F H F2 H2->H p=none->F2 p=none->H2 p=some (.dT [])->At F2 d y->if z=true then ∀ ob,Q (.ref p) (upd H2 p (.frz ob (.dT [(kk,y)])))else Q (.ref p) (upd H2 p (.dT [(kk,y)]))):zhi z tk tv σ H Q:=by
 intro p hp
 have g0:=Gr.hide s hp (.dT [])
 refine rk σ ρ F _ kd _ g0.fh va e1 λF1 H1 x g1 a1=>?_
 refine rv σ ρ F1 H1 d _ g1.fh (va.mono g1.ff) e2 λF2 H2 y g2 a2=>?_
 have g12:=g1.trans g2
 obtain⟨n2,h2⟩:=g12.kl (o:=.dT []) (λ_ e=>by cases e) (s.free hp) zo
 obtain⟨b,rfl,hb⟩:=za9 e3 a1
 exact⟨h2,b,kk,rfl,g2.fh _ _ (g2.ff _ _ hb),q F2 H2 p y (g0.trans g12) hp n2 h2 a2⟩
noncomputable def zgU (i:Nat)(fk fv:Ev->Option D):SE->Ctl:=fun ρ=>match (fk (visF ρ)).bind λkd=>(fv (visF ρ)).bind λd=>(zfs kd).map λk=>Sl.m true [k] [d] with
 | some s=>.nx (ρ.set i s)
 | none=>.no
theorem zjd {n i:Nat}{x:Str}{fk fv:Ev->Option D}(hr:YA n X.A)(hN:X.N.Nodup)(hi:X.N[i]?=some x)(hx:Loc X.env.scope x)(hk:ED X k fk)(hv:ED X v fv){p2:Pos}
 (hs:swapsWith (.Dict [some k] [v] p2) (some (.Name x pos')) pos.line X.env=pure false:=by rfl)
 (hf:X.fn x=true\/X.env.scope.names.lookup x=some .local:=by first | exact .inl rfl | exact .inr rfl | assumption):SD X (.Assign [.Name x pos'] (.Dict [some k] [v] p2) pos) (zgU i fk fv):=by
 obtain⟨tk,pk,rk⟩:=hk
 obtain⟨tv,pv,rv⟩:=hv
 refine⟨_,Wi hN hi hx (zfx (z:=false) (zee hr) pk pv) hs hf,λFb Hb F H ρ σ E rl kk=>?_⟩
 unfold zgU at kk
 cases h:(fk (visF ρ)).bind λkd=>(fv (visF ρ)).bind λd=>(zfs kd).map λk=>Sl.m true [k] [d] with
 | none=>rw[h]at kk;exact kk.elim
 | some s =>
  rw[h]at kk
  obtain⟨kd,e1,e⟩:=Option.bind_eq_some_iff.mp h
  obtain⟨d,e2,e⟩:=Option.bind_eq_some_iff.mp e
  obtain⟨k0,e3,rfl⟩:=Option.map_eq_some_iff.mp e
  refine zc5 (z:=false) rk rv rl.gr.fh rl.visF e1 e2 e3 λF2 H2 p y g hp n2 h2 ay=>?_
  rw[if_neg Bool.false_ne_true]
  have g2:Gr F H F2 (upd H2 p (.dT [(k0,y)])):=by
   refine⟨g.ff,λb o z=>?_,λb o z1 z2=>?_⟩
   .rw[zp (zm z n2)];exact g.fh b o z
   .rw[zp (zm z2 hp)];exact g.kp b o z1 z2
  refine kk F2 _ _ ((rl.grow g2).setW (rl.notbase hp) n2 zo ⟨[y],?_,.cons ay .nil⟩ (rl.notown hp))
  unfold zas
  rw[if_pos rfl]
  exact⟨_,rfl,rfl,rfl⟩
end
end
end Dl
namespace L2
open PySem PySem.Spec PyProof.Rows
open Sem (wp)
section
variable {prog:Program}{w:World}{A:Around}{E:Value->Shared->Prop}{h:Heap}{g:Array GenState}{d:Drawn}{t:Nat}{os:OsState}
 {nm q:Str} {C N fI:Addr} {bs bm:List Value} {hdct:Bool} {sn:List Str} {sub:List Value} {ab:Bool} {col:Option Bool} {dd:Option Addr} {k0 k1 k2 k3 k5:Option Value} {mN:Str->Option Value} {us:List Value} {oI:Obj}
end
end L2
namespace L2
open PySem PySem.Spec PyProof.Rows
section
variable {prog:Program}{w:World}{A:Around}{E:Value->Shared->Prop}{s:Shared}{env:Env}
 {nm q:Str} {C N fI:Addr} {bs bm:List Value} {hdct:Bool} {sn:List Str} {sub:List Value} {ab:Bool} {col:Option Bool} {dd:Option Addr} {k0 k1 k2 k3 k5:Option Value} {mN:Str->Option Value} {oI:Obj}
end
end L2
namespace OwnDk
open PySem
section
variable {prog:Program}{w:World}{A:Around}{E:Value->Shared->Prop}{s:Shared}
theorem Vp (hh:A.handled=none)(I a:Addr)(hne:a≠I){ob:Obj}{es:Array DictEntry}{ep:Nat}(hd:ob.data=.dict es ep) :
 Walks prog w A I [I,a] [I] es.size (λi v=>∃ e,es[i]?=some e/\v=e.key) (λi h=>h.IsKeyIter I a i es.size ep/\h.get? a=some ob) where
 sub:=λb hb=>by simp at hb;simp[hb]
 frame:=λ_ _ _ x hk=>⟨x.1.at λo e=>hk I (by simp) o e,hk a (by simp) _ x.2⟩
 item:=λi s Q E hi x hQ=>by
  have hx:es[i]?=some (es[i]'hi):=Array.getElem?_eq_getElem _
  refine L2.raw_next x.1 x.2 hd hx λh' he' hs'=>?_
  exact hQ _ h' s.toks ⟨_,hx,rfl⟩ ⟨he',(hs'.2 a hne).trans x.2⟩ λb o hb eo=>hs'.extBut b o (λh=>hb (by simp[h])) eo
 done:=λs Q E x hQ=>L2.raw_end hh x.1 x.2 hd (Nat.le_refl _) λh' he'=>hQ h' s.toks λb o hb eo=>he' b o (λh=>hb (by simp[h])) eo
 self:=λ_ _ _ _ x hQ=>wpAny_pyIter_keyiter x.1 hQ
theorem ZD {a:Addr}{ob:Obj}{es:Array DictEntry}{ep:Nat}{Q:List Value->Shared->Prop}(hh:A.handled=none)(hs:(a == sysModules)=false)(hS:s.heap.get? a=some ob)(hc:ob.ExactDict)(hd:ob.data=.dict es ep)(h8:es.size<=sizeLine)
 (hQ:∀ s',(∀ b o,s.heap.get? b=some o->s'.heap.get? b=some o)->s'.gens=s.gens->s'.drawn=s.drawn->s'.os=s.os->Q (es.toList.map (·.key)) s'):wpAny (model prog w) A (collect (.ref a)) Q E s:=by
 have hlt:a < s.heap.objs.size:=Heap.lt_size hS
 have hSa:s.heap.objs.size≠a:=Nat.ne_of_gt hlt
 unfold collect
 refine wpAny_bind (wpAny_runValue (codeAny_builtin F.entry_proto_collect ?_))
 rw[Around.under_plainId F.plain_proto_collect _]
 show wpAny _ A.in1 (newList []>>=λl=>again (.builtin "list.__iadd__" ⟨[l,.ref a],[]⟩)) _ _ s
 refine wpAny_bind (wpAny_newObj_type ?_)
 refine wpAny_pure ⟨plainId_quiet F.plain_list_iadd _,codeAny_builtin F.entry_list_iadd ?_⟩
 rw[Around.under_plainId F.plain_list_iadd _]
 have hS1:(s.heap.push { cls:=.type "list",data:=.seq ([]:List Value).toArray }).get? a=some ob:=Heap.get?_push_of_some _ hS
 have hL1:(s.heap.push { cls:=.type "list",data:=.seq ([]:List Value).toArray }).get? s.heap.objs.size=some { cls:=.type "list",data:=.seq ([]:List Value).toArray }:=Heap.get?_push_size _ rfl
 generalize hh1:s.heap.push { cls:=.type "list",data:=.seq ([]:List Value).toArray }=h1 at hS1 hL1 ⊢
 have k1:∀ b o,s.heap.get? b=some o->h1.get? b=some o:=λb o e=>by rw[<-hh1];exact Heap.get?_push_of_some _ e
 have hz1:h1.objs.size=s.heap.objs.size+1:=by rw[<-hh1];exact Heap.size_push ..
 show wpAny _ A.in1 (Builtin.List.listExtendWith (.ref s.heap.objs.size) (.ref a) (.ref s.heap.objs.size)) _ _ _
 unfold Builtin.List.listExtendWith
 refine wpAny_bind (wpAny_typeOf (T:="dict") ⟨_,hS1,hc.1⟩ ?_)
 have g1:Builtin.List.listSameRef (.ref s.heap.objs.size) (.ref a)=false:=by simp[Builtin.List.listSameRef,hSa]
 have g2:(Value.type "dict" == Value.type "list")=false:=by decide
 have g3:(Value.type "dict" == Value.type "tuple")=false:=by decide
 simp only[g1,g2,g3,Bool.or_false,Bool.false_eq_true,if_false]
 refine wpAny_bind (L2.raw_iter hs hS1 hc hd ?_)
 have hI2:(h1.push { cls:=.type "dict_keyiterator",data:=.fields #[.ref a,.int 0 0,.int es.size 0,.int ep 0] }).IsKeyIter h1.objs.size a 0 es.size ep:=⟨_,Heap.get?_push_size _ rfl,rfl,rfl⟩
 have hS2:(h1.push { cls:=.type "dict_keyiterator",data:=.fields #[.ref a,.int 0 0,.int es.size 0,.int ep 0] }).get? a=some ob:=Heap.get?_push_of_some _ hS1
 have hL2:=Heap.get?_push_of_some { cls:=.type "dict_keyiterator",data:=.fields #[.ref a,.int 0 0,.int es.size 0,.int ep 0] } hL1
 generalize hh2:h1.push { cls:=.type "dict_keyiterator",data:=.fields #[.ref a,.int 0 0,.int es.size 0,.int ep 0] }=h2 at hI2 hS2 hL2 ⊢
 have k2:∀ b o,h1.get? b=some o->h2.get? b=some o:=λb o e=>by rw[<-hh2];exact Heap.get?_push_of_some _ e
 refine wpAny_bind (wpAny_holding (PySem.W.kdl_hint_dict ⟨_,hS2,hc.1⟩ ?_))
 show wpAny _ A.in1 (if true=true then _ else _) _ _ _
 rw[if_pos rfl]
 refine wpAny_bind (wpAny_rule (wpAny_bind ?_))
 show wpAny _ A.in1 (updateSeq s.heap.objs.size (·.push .none)>>=λ_=>updateSeq s.heap.objs.size (·.pop)) _ _ _
 refine wpAny_bind (wpAny_updateSeq hL2 rfl ?_)
 have hL3:=Heap.get?_update_self (Obj.mapSeq (·.push Value.none)) hL2 rfl
 refine wpAny_updateSeq (hz:=by seq_fits) hL3 rfl ?_
 have hL4:=Heap.get?_update_self (Obj.mapSeq (·.pop)) hL3 rfl
 have oth:∀ b o,b≠s.heap.objs.size->h2.get? b=some o->((h2.update s.heap.objs.size (Obj.mapSeq (·.push Value.none))).update s.heap.objs.size (Obj.mapSeq (·.pop))).get? b=some o :=
  λb o hb e=>(Heap.get?_update_other _ _ (Ne.symm hb)).trans ((Heap.get?_update_other _ _ (Ne.symm hb)).trans e)
 have hIne:h1.objs.size≠s.heap.objs.size:=by rw[hz1];exact Nat.succ_ne_self _
 have hIa:a≠h1.objs.size:=by rw[hz1];exact Nat.ne_of_lt (Nat.lt_succ_of_lt hlt)
 have W:=Vp (prog:=prog) (w:=w) (A:=A.in1) hh h1.objs.size a hIa hd
 refine wpAny_pure ⟨plainId_quiet F.plain_extend_loop _,codeAny_extend_loopS W.toS h8 _ (λhmem=>?_) _ es.size 0 _ #[] _ rfl (Nat.zero_le _) ⟨hI2.at λo e=>oth _ _ hIne e,oth _ _ (Ne.symm hSa) hS2⟩ hL4 (ItemsOf.nil _) λs' acc' c' hmv hS' hacc=>?_⟩
 .rcases List.mem_cons.mp hmem with e | e
  .exact hIne e.symm
  .exact hSa (List.mem_singleton.mp e)
 .show wpAny _ A (load s.heap.objs.size>>=_) _ _ s'
  refine wpAny_bind (wpAny_load hS' ?_)
  refine wpAny_pure ?_
  have e1:acc'.toList=es.toList.map (·.key):=by
   apply List.ext_getElem?
   intro i
   by_cases hi:i < es.size
   .have q1:acc'[i]?=some (acc'[i]'(by rw[hacc.1];exact hi)):=Array.getElem?_eq_getElem _
    obtain⟨e,q2,q3⟩:=hacc.2 i _ q1
    rw[List.getElem?_map,Array.getElem?_toList,Array.getElem?_toList,q1,q2,q3]
    rfl
   .rw[List.getElem?_eq_none (by rw[Array.length_toList,hacc.1];exact Nat.le_of_not_lt hi),List.getElem?_eq_none (by rw[List.length_map,Array.length_toList];exact Nat.le_of_not_lt hi)]
  rw[e1]
  refine hQ s' (λb o e=>hmv.heap b o (λhmem=>?_) (oth b o (Nat.ne_of_lt (Heap.lt_size e)) (k2 b o (k1 b o e)))) hmv.gens hmv.drawn hmv.os
  rcases List.mem_cons.mp hmem with z | z
  .exact Nat.ne_of_lt (Heap.lt_size e) z
  .have:=Heap.lt_size e
   rw[List.mem_singleton.mp z,hz1]at this
   exact absurd (Nat.lt_of_succ_lt this) (Nat.lt_irrefl _)
theorem own_sorted_dict {a:Addr}{ob:Obj}{es:Array DictEntry}{ep:Nat}{Q:Value->Shared->Prop}(hh:A.handled=none)(hs:(a == sysModules)=false)(hS:s.heap.get? a=some ob)(hc:ob.ExactDict)(hd:ob.data=.dict es ep)(h64:es.size < 10000000)(hT:∀ v∈es.toList.map (·.key),∃ t,OwnSortT.TT s.heap v t)
 (h:∀ (h1 h':Heap) (tk':Nat) (out:Array Value) (c:Nat),out.toList.Perm (es.toList.map (·.key))->OwnSortT.Rise s.heap out.toList->(∀ b o,s.heap.get? b=some o->h1.get? b=some o)->(∀ b o,h1.get? b=some o->h'.get? b=some o) ->
  h'.get? h1.objs.size=some { cls:=.type "list",dict:=none,data:=.seq out c,slots:=#[] }->Q (.ref h1.objs.size) { s with heap:=h',toks:=tk' }) :
 wpAny (model prog w) A (call (.builtin "sorted") [.ref a]) Q E s:=by
 refine Calls.call_function_entry PyProof.Rows.kind_sorted PyProof.Rows.plain_sorted PyProof.Rows.entry_sorted (PyProof.Rows.args_sorted1 _) ?_
 unfold Builtin.«sorted»
 refine wpAny_bind (m:=checkCount "sorted" 1 1 _) (wpAny_pure (wpAny_bind (ZD hh hs hS hc hd (Nat.le_trans (Nat.le_of_lt h64) (by rw[sizeLine_eq];decide)) λs' k g1 g2 g3=>?_)))
 obtain⟨h1,g',d',tk1,os'⟩:=s'
 have e1:g'=s.gens:=g1
 have e2:d'=s.drawn:=g2
 have e3:os'=s.os:=g3
 subst e1 e2 e3
 have h64:(es.toList.map (·.key)).length < 10000000:=by rw[List.length_map,Array.length_toList];exact h64
 generalize es.toList.map (·.key)=vs at *
 refine wpAny_bind (wpAny_newList ?_)
 have hoL:(h1.push (PyProof.Rows.seqObj "list" vs.toArray 0)).get? h1.objs.size=some (PyProof.Rows.seqObj "list" vs.toArray 0):=Heap.get?_push_size _ rfl
 have up:∀ b o,s.heap.get? b=some o->(h1.push (PyProof.Rows.seqObj "list" vs.toArray 0)).get? b=some o:=λb o e=>Heap.get?_push_of_some _ (k b o e)
 refine wpAny_bind (wpAny_holding (wpAny_call_entry PyProof.Rows.slot_list_sort ⟨_,hoL,rfl⟩ PyProof.Rows.entry_list_sort (OwnSortT.ownT_list_sort hoL (λv hv=>let ⟨t,ht⟩:=hT v hv;⟨t,ht.keep up⟩) h64 λout p1 p2=>⟨_,rfl,?_⟩) (PyProof.Rows.args_list_sort _)))
 have rise:OwnSortT.Rise s.heap out.toList:=by
  obtain⟨ts,q1,q2,q3⟩:=p2
  refine⟨ts,q1,λi v t hv ht=>?_,q3⟩
  obtain⟨t0,ht0⟩:=hT v (p1.mem_iff.mp (List.mem_of_getElem? hv))
  rw[(q2 i v t hv ht).uniq (ht0.keep up)]
  exact ht0
 have hn:∀ b o,b≠h1.objs.size->(h1.push (PyProof.Rows.seqObj "list" vs.toArray 0)).get? b=some o->(PyProof.Rows.sortedHeap (h1.push (PyProof.Rows.seqObj "list" vs.toArray 0)) h1.objs.size vs out).get? b=some o:=λb o hb e=>by
  unfold PyProof.Rows.sortedHeap
  exact(Heap.get?_update_other _ _ (Ne.symm hb)).trans (Heap.get?_push_of_some _ (Heap.get?_push_of_some _ ((Heap.get?_update_other _ _ (Ne.symm hb)).trans e)))
 have hL:∃ c,(PyProof.Rows.sortedHeap (h1.push (PyProof.Rows.seqObj "list" vs.toArray 0)) h1.objs.size vs out).get? h1.objs.size=some { cls:=.type "list",dict:=none,data:=.seq out c,slots:=#[] }:=by
  unfold PyProof.Rows.sortedHeap
  have u1:=Heap.get?_update_self (Obj.mapSeq λ_=>(#[]:Array Value)) hoL rfl
  have u2:=Heap.get?_push_of_some (PyProof.Rows.seqObj "list" #[] 0) (Heap.get?_push_of_some (PyProof.Rows.seqObj "tuple" vs.toArray 0) u1)
  exact⟨_,Heap.get?_update_self (Obj.mapSeq λ_=>out) u2 rfl⟩
 obtain⟨c,hL⟩:=hL
 exact wpAny_pure ⟨_,rfl,h h1 _ _ out c p1 rise k (λb o e=>hn b o (Nat.ne_of_lt (Heap.lt_size e)) (Heap.get?_push_of_some _ e)) hL⟩
end
end OwnDk
namespace Dl
open PySem L2
noncomputable def zcu:List Key->Option (List Int)
 | []=>some []
 | .inl i::r=>(zcu r).map (i::·)
 | _=>none
noncomputable def Vq:List (List Key)->Option (List (List Int))
 | []=>some []
 | k::ks=>match zcu k with
  | some (i::t)=>(Vq ks).map ((i::t)::·)
  | _=>none
theorem zgD:∀ {k:List Key} {t:List Int},zcu k=some t->k=t.map Sum.inl:=by
 intro k
 induction k with
 | nil=>intro t h;cases h;rfl
 | cons a k ih =>
  intro t h
  cases a with
  | inl i =>
   obtain⟨r,e,rfl⟩:=Option.map_eq_some_iff.mp h
   rw[ih e]
   rfl
  | inr x=>cases h
theorem zge:∀ {ks:List (List Key)} {ts:List (List Int)},Vq ks=some ts->ks=ts.map (λt=>t.map Sum.inl)/\∀ t∈ts,t≠[]:=by
 intro ks
 induction ks with
 | nil=>intro ts h;cases h;exact⟨rfl,λt h=>by cases h⟩
 | cons k ks ih =>
  intro ts h
  unfold Vq at h
  split at h
  .rename_i i t e
   obtain⟨r,e2,rfl⟩:=Option.map_eq_some_iff.mp h
   obtain⟨h1,h2⟩:=ih e2
   refine⟨by rw[h1,zgD e];rfl,λu hu=>?_⟩
   rcases List.mem_cons.mp hu with rfl | hu
   .exact List.cons_ne_nil _ _
   .exact h2 u hu
  .cases h
noncomputable def zjk (t:List Int):List (List Int)->List (List Int)
 | []=>[t]
 | u::us=>if HT.lexLt u t=true then u::zjk t us else t::u::us
noncomputable def vU:List (List Int)->List (List Int)
 | []=>[]
 | t::ts=>zjk t (vU ts)
theorem V2 (t:List Int):∀ us:List (List Int),(zjk t us).Perm (t::us):=by
 intro us
 induction us with
 | nil=>exact List.Perm.refl _
 | cons u us ih =>
  unfold zjk
  split
  .exact(ih.cons u).trans (List.Perm.swap _ _ _)
  .exact List.Perm.refl _
theorem vc:∀ ts:List (List Int),(vU ts).Perm ts:=by
 intro ts
 induction ts with
 | nil=>exact List.Perm.refl _
 | cons t ts ih=>exact(V2 t _).trans (ih.cons t)
theorem zeK (t:List Int):∀ us:List (List Int),us.Pairwise (λa b=>HT.lexLt b a=false)->(zjk t us).Pairwise λa b=>HT.lexLt b a=false:=by
 intro us
 induction us with
 | nil=>intro _;exact List.pairwise_singleton _ _
 | cons u us ih =>
  intro h
  rw[List.pairwise_cons]at h
  unfold zjk
  by_cases c:HT.lexLt u t=true
  .rw[if_pos c]
   refine List.pairwise_cons.mpr ⟨λv hv=>?_,ih h.2⟩
   rcases List.mem_cons.mp ((V2 t us).mem_iff.mp hv)with rfl | hv
   .cases e:HT.lexLt v u with
    | false=>rfl
    | true =>
     have:=OwnSortT.lex_trans _ _ _ c e
     rw[OwnSortT.lex_irr]at this
     cases this
   .exact h.1 v hv
  .rw[if_neg c]
   have c:HT.lexLt u t=false:=by cases e:HT.lexLt u t with
    | false=>rfl
    | true=>exact absurd e c
   refine List.pairwise_cons.mpr ⟨λv hv=>?_,List.pairwise_cons.mpr h⟩
   rcases List.mem_cons.mp hv with rfl | hv
   .exact c
   .cases e:HT.lexLt v t with
    | false=>rfl
    | true =>
     rcases OwnSortT.lex_neg v u t e with z | z
     .rw[h.1 v hv]at z;cases z
     .rw[c]at z;cases z
theorem zaD:∀ ts:List (List Int),(vU ts).Pairwise λa b=>HT.lexLt b a=false:=by
 intro ts
 induction ts with
 | nil=>exact List.Pairwise.nil
 | cons t ts ih=>exact zeK t _ ih
theorem zaR {ts us:List (List Int)}(p:us.Perm ts)(h:us.Pairwise λa b=>HT.lexLt b a=false):us=vU ts :=
 List.Perm.eq_of_pairwise (le:=λa b=>HT.lexLt b a=false) (λa b _ _ h1 h2=>OwnSortT.lex_total _ _ h2 h1) h (zaD ts) (p.trans (vc ts).symm)
noncomputable def zlm (t:List Int):D:=.tup (t.map .int)
noncomputable def sortMD:List D->Option (List D)
 | [.dct _ true ks _]=>if ks.length < 64 then (Vq ks).map λts=>(vU ts).map zlm else none
 | _=>none
variable [KK]
section
variable {X:Cx}{e:Expr}{pos:Pos}
theorem Gr.seeL {H:Hp}:∀ {F:Hp} (bs:List (Addr × List V)),yq F H->(∀ b∈bs,H b.1=some (.tup b.2))->∃ F',Gr F H F' H/\∀ b∈bs,F' b.1=some (.tup b.2):=by
 intro F bs
 induction bs generalizing F with
 | nil=>intro s _;exact⟨F,.refl s,λb h=>by cases h⟩
 | cons b bs ih =>
  intro s h
  obtain⟨F1,g1,e1⟩:=Gr.see s (h b List.mem_cons_self)
  obtain⟨F2,g2,e2⟩:=ih g1.fh λc hc=>h c (List.mem_cons_of_mem _ hc)
  refine⟨F2,g1.trans g2,λc hc=>?_⟩
  rcases List.mem_cons.mp hc with rfl | hc
  .exact g2.ff _ _ e1
  .exact e2 c hc
theorem Vr (hc:X.calm=true):vL X (.builtin "sorted") (λxs H Q=>∃ F a z ks ys ts,xs=[.ref a]/\yq F H/\WQ F a z true ks ys/\ks.length < 10000000/\Vq ks=some ts/\∀ l zs F',H l=none->Gr F H F' H->AtL F' ((vU ts).map zlm) zs->Q (.ref l) (upd H l (.lst zs))):=by
 intro pins s σ H xs us Q I r h
 obtain⟨F,a,z,ks,ys,ts,rfl,sm,hd,h64,hk,q⟩:=h
 obtain⟨u,rfl,ru⟩:=XW r
 cases ru
 obtain⟨rfl,hne⟩:=zge hk
 rw[List.length_map]at h64
 obtain⟨u,hu,hz⟩:=hd.mono sm
 unfold zas at hu
 rw[if_pos rfl]at hu
 obtain⟨kvs,rfl,hks,-⟩:=hu
 have ok:yt X.prog X.w H s.heap a (.dT kvs):=by
  cases z with
  | true=>rw[if_pos rfl]at hz;obtain⟨ob,e⟩:=hz;exact(show yt X.prog X.w H s.heap a (.frz ob (.dT kvs))from I.hok a _ e).2
  | false=>rw[if_neg Bool.false_ne_true]at hz;exact I.hok a _ hz
 obtain⟨_,sys,xs,pr,o,es,ep,e1,ex,dt,he,nd⟩:=ok
 have hp:=Paired.length pr
 have hkl:kvs.length=ts.length:=by have:=congrArg List.length hks;rw[List.length_map,List.length_map]at this;exact this
 have hkeys:es.toList.map (·.key)=xs.map λq=>Value.ref q.2.1:=by rw[he,List.map_map];rfl
 have hsz:es.size < 10000000:=by rw[<-Array.length_toList,he,List.length_map];omega
 have rel:∀ {l:List (List Key × V)} {m:List (List Key × Addr × Value)},Paired (λp q=>p.1=q.1/\H q.2.1=some (.tup (p.1.map kV))/\yF p.2 q.2.2) l m->∀ (j:Nat) (h1:j < l.length) (h2:j < m.length),l[j].1=m[j].1/\H m[j].2.1=some (.tup (l[j].1.map kV)):=λ{l m} r=>by
  induction r with
  | nil=>intro j h1;simp at h1
  | cons h t ih =>
   intro j h1 h2
   cases j with
   | zero=>exact⟨h.1,h.2.1⟩
   | succ j=>exact ih j (by simpa using h1) (by simpa using h2)
 have atJ:∀ (j:Nat) (h1:j < ts.length) (h2:j < xs.length),H xs[j].2.1=some (.tup (ts[j].map V.int)):=λj h1 h2=>by
  have h3:j < kvs.length:=by omega
  obtain⟨-,r2⟩:=rel pr j h3 h2
  have e3:kvs[j].1=ts[j].map Sum.inl:=by
   have:=congrArg (λl=>l[j]?) hks
   simp only[List.getElem?_map]at this
   rw[List.getElem?_eq_getElem h3,List.getElem?_eq_getElem h1]at this
   exact Option.some.inj this
  rw[r2,e3,List.map_map]
  rfl
 have look:∀ {v:Value},v∈(xs.map λq=>Value.ref q.2.1)->∃ b t,v=.ref b/\t∈ts/\H b=some (.tup (t.map V.int))/\OwnSortT.TT s.heap v t:=λ{v} hv=>by
  obtain⟨j,hj,rfl⟩:=List.getElem_of_mem hv
  rw[List.length_map]at hj
  have hj2:j < ts.length:=by omega
  have hb:=atJ j hj2 hj
  rw[List.getElem_map]
  obtain⟨us,ru,⟨o,ho,hcl,n,hd⟩,_⟩:=I.tuple (SqT.of hb)
  exact⟨xs[j].2.1,ts[j],rfl,List.getElem_mem hj2,hb,xs[j].2.1,o,n,us,rfl,ho,hcl,hd,wH ru,hne _ (List.getElem_mem hj2)⟩
 refine OwnDk.own_sorted_dict (I.ok.hd hc) sys e1 ex dt hsz (λv hv=>by rw[hkeys]at hv;obtain⟨b,t,-,-,-,ht⟩:=look hv;exact⟨t,ht⟩) λh1 h' tk out c pm ri k1 k2 hL=>?_
 rw[hkeys]at pm
 obtain⟨us,l1,l2,l3⟩:=ri
 have zsOf:∀ (ws:List Value) (vs:List (List Int)),ws.length=vs.length->(∀ w∈ws,w∈xs.map λq=>Value.ref q.2.1)->(∀ (i:Nat) v t,ws[i]?=some v->vs[i]?=some t->OwnSortT.TT s.heap v t)->∃ bs:List (Addr × List Int),bs.map (·.2)=vs/\yf (bs.map λb=>V.ref b.1) ws/\∀ b∈bs,H b.1=some (.tup (b.2.map V.int)):=by
  intro ws
  induction ws with
  | nil =>
   intro vs hl _ _
   cases vs with
   | nil=>exact⟨[],rfl,.nil,λb h=>by cases h⟩
   | cons _ _=>simp at hl
  | cons w ws ih =>
   intro vs hl hm ht
   cases vs with
   | nil=>simp at hl
   | cons t vs =>
    obtain⟨bs,z0,z1,z2⟩:=ih vs (by simpa using hl) (λw' hw'=>hm w' (List.mem_cons_of_mem _ hw')) (λi v t h1 h2=>ht (i+1) v t (by simpa using h1) (by simpa using h2))
    obtain⟨a,t',rfl,_,ha,htp⟩:=look (hm w List.mem_cons_self)
    have et:t'=t:=htp.uniq (ht 0 _ t rfl rfl)
    subst et
    exact⟨(a,t')::bs,by rw[List.map_cons,z0],.cons rfl z1,λb hb=>by
     rcases List.mem_cons.mp hb with rfl | hb
     .exact ha
     .exact z2 b hb⟩
 obtain⟨bs,z0,z1,z2⟩:=zsOf out.toList us l1 (λw hw=>pm.mem_iff.mp hw) l2
 have keysPerm:us.Perm ts:=by
  have kv:∀ (ws:List Value) (vs:List (List Int)),ws.length=vs.length->(∀ (i:Nat) v t,ws[i]?=some v->vs[i]?=some t->OwnSortT.TT s.heap v t)->vs=ws.map λv=>(OwnSortT.keyTT s.heap v).getD []:=by
   intro ws
   induction ws with
   | nil=>intro vs hl _;cases vs with
    | nil=>rfl
    | cons _ _=>simp at hl
   | cons w ws ih =>
    intro vs hl ht
    cases vs with
    | nil=>simp at hl
    | cons t vs =>
     rw[List.map_cons,OwnSortT.keyTT_of (ht 0 w t rfl rfl),<- ih vs (by simpa using hl) λi v t h1 h2=>ht (i+1) v t (by simpa using h1) (by simpa using h2)]
     rfl
  rw[kv _ _ l1 l2,kv (xs.map λq=>Value.ref q.2.1) ts (by rw[List.length_map];omega) λi v t h1 h2=>?_]
  .exact pm.map _
  .obtain⟨hi,e2⟩:=List.getElem?_eq_some_iff.mp h1
   obtain⟨hi2,e3⟩:=List.getElem?_eq_some_iff.mp h2
   rw[List.length_map]at hi
   have hb:=atJ i hi2 hi
   rw[e3]at hb
   obtain⟨us',ru',⟨o,ho,hcl,n,hd⟩,_⟩:=I.tuple (SqT.of hb)
   exact⟨xs[i].2.1,o,n,us',by rw[<-e2,List.getElem_map],ho,hcl,hd,wH ru',hne t (by rw[<-e3];exact List.getElem_mem hi2)⟩
 have e3:=zaR keysPerm l3
 subst e3
 obtain⟨F',g,hF⟩:=Gr.seeL (bs.map λb=>(b.1,b.2.map V.int)) sm λb hb=>by
  obtain⟨c,hc,rfl⟩:=List.mem_map.mp hb
  exact z2 c hc
 have az:AtL F' ((vU ts).map zlm) (bs.map λb=>V.ref b.1):=by
  rw[<-z0]
  clear z0 z1 pm l1 l2
  induction bs with
  | nil=>exact .nil
  | cons b bs ih=>exact .cons (.tup (hF (b.1,b.2.map V.int) (List.mem_map.mpr ⟨b,List.mem_cons_self,rfl⟩)) (.ints _)) (ih (λc hc=>z2 c (List.mem_cons_of_mem _ hc)) (λc hc=>by
   obtain⟨d,hd,rfl⟩:=List.mem_map.mp hc
   exact hF _ (List.mem_map.mpr ⟨d,List.mem_cons_of_mem _ hd,rfl⟩)))
 have I2:Inv X pins σ H { s with heap:=h1,toks:=tk }:=I.kept λb u e=>k1 b u e
 have hlo:(bs.map λb=>V.ref b.1).length<=sizeLine:=by
  have hh:bs.length=(vU ts).length:=by rw[<-z0,List.length_map]
  rw[List.length_map,hh,(vc ts).length_eq,sizeLine_eq]
  omega
 exact⟨.ref h1.objs.size,_,I2.laid (t':=tk) (λb o e=>k2 b o e) (Nat.le_refl _) (show yt X.prog X.w _ h' _ (.lst (bs.map λb=>V.ref b.1)) from⟨hlo,out.toList,c,z1,by simpa using hL⟩),rfl,q _ _ F' (I2.hok.fresh (Nat.le_refl _)) g az⟩
noncomputable def zcc:List D->Option (List D)
 | [.dct _ true ks _]=>if ks.length < 10000000 then (Vq ks).map λts=>(vU ts).map zlm else none
 | _=>none
theorem zcQ {p:Pos} {f:Ev->Option (List D)} (hc:X.calm=true) (hgl:Gl X "sorted") (hm:X.mg "sorted"=none) (ha:AD X [e] f)
 (he:starEach [e] X.env=(false,eval e X.env)::starEach [] X.env:=by rfl) (hpl:(backTo pos (starEach [] X.env)).any (·.1)=false:=by rfl):FL X (.Call (.Name "sorted" p) [e] [] pos) (fFn zcc f):=by
 obtain⟨t,pa,ra⟩:=ha
 refine⟨_,ZP (Vr hc) hgl hm zal pa (by decide) (by decide) he hpl,fun σ ρ F H z Q s va e q=>?_⟩
 obtain⟨ds,e1,e2⟩:=Option.bind_eq_some_iff.mp e
 refine ra σ ρ F H ds _ s va e1 λF1 H1 vs g1 a1=>?_
 have e2':=e2
 unfold zcc at e2'
 split at e2'
 .rename_i z' ks ws
  split at e2' <;> try cases e2'
  rename_i h64
  obtain⟨ts,e3,rfl⟩:=Option.map_eq_some_iff.mp e2'
  obtain⟨x,r,rfl,ax,ar⟩:=a1.cons_inv
  cases ar.nil_inv
  obtain⟨p,ys,rfl,hx,bl⟩:=ax.dct_inv
  refine⟨F1,p,z',ks,ys,ts,rfl,g1.fh,hx,h64,e3,λl zs F' hl g az=>?_⟩
  have g2:=g1.trans g
  exact q _ _ _ _ (g2.trans (Gr.hide g2.fh hl _)) (zck g2 hl) (g2.fh.free hl) zo az
 .cases e2'
end
end Dl
namespace L2
open PySem PySem.Spec PyProof.Rows
section
variable {X:Cx}
noncomputable def zkt:V->List V->Hp->VK->Prop:=λx vs H Q=>∃ l xs y,x=.ref l/\vs=[]/\H l=some (.lst (xs++[y]))/\Q y (upd H l (.lst xs))
theorem zdO {xs:List V}{y:V}{its:List Value}(r:yf (xs++[y]) its):∃ js u,its=js++[u]/\yf xs js/\yF y u:=by
 have h1:=r.take xs.length
 have h2:=r.drop xs.length
 rw[List.take_left]at h1
 rw[List.drop_left]at h2
 obtain⟨u,e,ru⟩:=h2.one
 refine⟨its.take xs.length,u,?_,h1,ru⟩
 have:=List.take_append_drop xs.length its
 rw[e]at this
 exact this.symm
theorem ziB:MtM X "list.pop" zkt:=by
 intro pins s σ H x vs v us Q I rx rv h
 obtain⟨l,xs,y,rfl,rfl,hH,q⟩:=h
 cases rx
 cases rv
 obtain⟨z,its,n,r,hl,e⟩:=I.lstM hH
 obtain⟨js,u,rfl,r1,ru⟩:=zdO r
 have hz:xs.length+1<=sizeLine:=by rw[List.length_append]at z;exact z
 have hj:js.length=xs.length:=r1.length.symm
 refine call_meets F.slot_list_pop ⟨_,e,rfl⟩ F.entry_list_pop (F.args_list_pop_1 _) (PySem.MeetsSeq.list_pop_last l (js++[u]).toArray n u (by simp) (by rw[List.size_toArray,List.length_append,hj];exact hz)) ⟨e,?_⟩
 refine⟨y,_,I.lset (its':=js) hH e (by simp[List.eraseIdx_append_of_length_le]) r1 (by omega),ru,q⟩
end
end L2
namespace Dl
open PySem L2
section
variable [KK]{X:Cx}{a:Expr}{pos:Pos}
theorem AtL.unsnoc {F:Hp}{ds:List D}{d:D}{xs:List V}(h:AtL F (ds++[d]) xs):∃ ys y,xs=ys++[y]/\AtL F ds ys/\At F d y:=by
 have h1:=h.take ds.length
 have h2:=h.drop ds.length
 rw[List.take_left]at h1
 rw[List.drop_left]at h2
 obtain⟨y,r,e,ay,ar⟩:=h2.cons_inv
 cases ar.nil_inv
 refine⟨xs.take ds.length,y,?_,h1,ay⟩
 have:=List.take_append_drop ds.length xs
 rw[e]at this
 exact this.symm
noncomputable def zkO (i j:Nat):SE->Ctl:=fun ρ=>match ρ[i]? with
 | some (.o ds)=>(match ds.getLast? with
  | some d=>.nx ((ρ.set i (.o ds.dropLast)).set j (.v d))
  | none=>.no)
 | _=>.no
theorem zkk {i j:Nat}{x:Str}{p pos' pos2:Pos}(hN:X.N.Nodup)(hi:X.N[j]?=some x)(hx:Loc X.env.scope x)(ho:PE X a (zir i))
 (hp:∀ {ta:TE},PE X a ta->PE X (.Call (.Attribute a "pop" p) [] [] pos2) (tBM0 X.K "list" zkt ta)) (hs:swapsWith (.Call (.Attribute a "pop" p) [] [] pos2) (some (.Name x pos')) pos.line X.env=pure false:=by rfl)
 (hf:X.fn x=true\/X.env.scope.names.lookup x=some .local:=by first | exact .inl rfl | exact .inr rfl | assumption):SD X (.Assign [.Name x pos'] (.Call (.Attribute a "pop" p) [] [] pos2) pos) (zkO i j):=by
 refine⟨_,Wi hN hi hx (hp ho) hs hf,λFb Hb F H ρ σ E rl k=>?_⟩
 unfold zkO at k
 cases hs:ρ[i]? with
 | none=>rw[hs]at k;exact k.elim
 | some sl =>
  rw[hs]at k
  cases sl with
  | no=>exact k.elim
  | v _=>exact k.elim
  | m _ _ _=>exact k.elim
  | o ds =>
   dsimp only at k
   cases hd:ds.getLast? with
   | none=>rw[hd]at k;exact k.elim
   | some d =>
    rw[hd]at k
    obtain⟨es,rfl⟩:=List.getLast?_eq_some_iff.mp hd
    rw[List.dropLast_concat]at k
    obtain⟨q,xs,f1,f2,f3,f4,f5⟩:=rl.owns i _ hs
    obtain⟨ys,y,rfl,al,ay⟩:=f5.unsnoc
    refine⟨_,f1,.inl ⟨rfl,_,SqL.of f4⟩,q,ys,y,rfl,rfl,f4,?_⟩
    exact k _ _ _ ((rl.mutate hs f1 al).set ay)
end
theorem zkb {i j:Nat}{ρ ρ':SE}{ds:List D}{d:D}(h:ρ[i]?=some (.o (ds++[d])))(h2:(ρ.set i (.o ds)).set j (.v d)=ρ':=by rfl):zkO i j ρ=.nx ρ':=by
 unfold zkO
 rw[h]
 show(match (ds++[d]).getLast? with | some d'=>Ctl.nx ((ρ.set i (.o (ds++[d]).dropLast)).set j (.v d')) | none=>Ctl.no)=_
 rw[List.getLast?_concat,List.dropLast_concat,<- h2]
noncomputable def b3:D->Option (List (Option D))
 | .tup [x,y,z]=>some [some x,some y,some z]
 | _=>none
end Dl
namespace Mz
open PySem Dl
noncomputable abbrev Tie:=Int × Int
noncomputable def ltP (s t:Tie):Prop:=s.1 < t.1\/(s.1=t.1/\s.2 < t.2)
noncomputable instance (s t:Tie):Decidable (ltP s t):=by unfold ltP;infer_instance
theorem zen {a b c:Tie}(h:ltP a b)(k:ltP b c):ltP a c:=by
 unfold ltP at *
 omega
noncomputable def zj (t:Tie):D:=.tup [.int t.1,.int t.2]
theorem zdr {s t:Tie}(h:zj s=zj t):s=t:=by
 unfold zj at h
 injection h with h
 injection h with h1 h2
 injection h2 with h2 _
 injection h1 with h1
 injection h2 with h2
 exact Prod.ext h1 h2
noncomputable def zF (many:Int)(ties:List Tie):D:=.tup [.int many,.tup (ties.map zj)]
set_option genInjectivity false in
set_option genSizeOf false in
set_option genCtorIdx false in
structure yy (many:Int) (ties:List Tie):Prop where
 lo:1<=many
 hi:many<=8
 rng:∀ t∈ties,0<=t.1/\t.1 < t.2/\t.2 < many
 srt:ties.Pairwise ltP
noncomputable def leP (s t:Tie):Bool:=if s.1=t.1 then (if s.2=t.2 then true else decide (s.2<=t.2))else decide (s.1<=t.1)
theorem zaf {s t:Tie}:leP s t=false↔ltP t s:=by
 unfold leP ltP
 by_cases h:s.1=t.1
 .rw[if_pos h]
  by_cases k:s.2=t.2
  .rw[if_pos k];simp;omega
  .rw[if_neg k,decide_eq_false_iff_not];omega
 .rw[if_neg h,decide_eq_false_iff_not];omega
noncomputable def Yk:D->Option Tie
 | .tup [.int a,.int b]=>some (a,b)
 | _=>none
theorem vI (t:Tie):Yk (zj t)=some t:=rfl
theorem Xs {d:D}{t:Tie}(h:Yk d=some t):d=zj t:=by
 unfold Yk at h
 split at h
 .cases h;rfl
 .cases h
noncomputable def inR (m a:Int):Bool:=decide (0<=a)&&decide (a<=m - 1)
noncomputable def xM (m:Int)(d:D):Bool:=match Yk d with
 | some t=>inR m t.1&&inR m t.2&&!decide (t.1=t.2)
 | none=>false
noncomputable def VV (p:Option Tie)(t:Tie):Bool:=match p with
 | some q=>!leP t q
 | none=>true
noncomputable def yb (m:Int):Option Tie->List D->Bool
 | _,[]=>true
 | p,d::r=>match Yk d with
  | some t=>xM m d&&!decide (t.2 < t.1)&&VV p t&&yb m (some t) r
  | none=>false
noncomputable def v6 (m:Int):D->Bool
 | .tup ts=>yb m none ts
 | _=>false
noncomputable def Ym:D->Bool
 | .tup [.int m,t]=>decide (1<=m)&&decide (m<=8)&&v6 m t
 | _=>false
theorem Zz (m:Int):∀ (ts:List D) (p:Option Tie),yb m p ts=true↔∃ l:List Tie,ts=l.map zj/\(∀ t∈l,0<=t.1/\t.1 < t.2/\t.2 < m)/\(∀ q,p=some q->∀ t∈l,ltP q t)/\l.Pairwise ltP:=by
 intro ts
 induction ts with
 | nil =>
  intro p
  refine⟨λ_=>⟨[],rfl,by simp,by simp,.nil⟩,λ_=>rfl⟩
 | cons d r ih =>
  intro p
  unfold yb
  cases e:Yk d with
  | none =>
   refine Iff.intro (λh=>nomatch h) (λhh=>?_)
   obtain⟨l,h,_⟩:=hh
   cases l with
   | nil=>cases h
   | cons t l' =>
    rw[List.map_cons]at h
    injection h with h1 _
    rw[h1,vI]at e
    cases e
  | some t =>
   have ed:=Xs e
   subst ed
   simp only[xM,vI,Bool.and_eq_true,Bool.not_eq_true',decide_eq_false_iff_not,inR,decide_eq_true_eq]
   rw[ih (some t)]
   constructor
   .rintro⟨⟨⟨⟨⟨h1,h2⟩,h3⟩,h4⟩,h5⟩,l,rfl,hr,hq,hs⟩
    refine⟨t::l,rfl,?_,?_,List.pairwise_cons.mpr ⟨hq t rfl,hs⟩⟩
    .intro u hu
     rcases List.mem_cons.mp hu with rfl | hu
     .omega
     .exact hr u hu
    .rintro q rfl u hu
     have hqt:ltP q t:=zaf.mp (by simpa [VV]using h5)
     rcases List.mem_cons.mp hu with rfl | hu
     .exact hqt
     .exact zen hqt (hq t rfl u hu)
   .rintro⟨l,h,hr,hq,hs⟩
    cases l with
    | nil=>cases h
    | cons u l' =>
     rw[List.map_cons]at h
     injection h with h1 h2
     have hu:=zdr h1
     subst hu
     have hb:=hr t (by simp)
     refine⟨⟨⟨⟨⟨by omega,by omega⟩,by omega⟩,by omega⟩,?_⟩,l',h2,λv hv=>hr v (by simp[hv]),λq hqe v hv=>?_,(List.pairwise_cons.mp hs).2⟩
     .cases p with
      | none=>rfl
      | some q =>
       have:=zaf.mpr (hq q rfl t (by simp))
       simp[VV,this]
     .cases hqe
      exact(List.pairwise_cons.mp hs).1 v hv
theorem Zg (d:D):Ym d=true↔∃ m ties,d=zF m ties/\yy m ties:=by
 constructor
 .intro h
  unfold Ym at h
  split at h
  .rename_i m t
   simp only[Bool.and_eq_true,decide_eq_true_eq]at h
   obtain⟨⟨h1,h2⟩,h3⟩:=h
   unfold v6 at h3
   split at h3
   .rename_i ts
    obtain⟨l,rfl,hr,_,hs⟩:=(Zz m ts none).mp h3
    exact⟨m,l,rfl,h1,h2,hr,hs⟩
   .cases h3
  .cases h
 .rintro⟨m,ties,rfl,w⟩
  unfold zF Ym v6
  simp only[Bool.and_eq_true,decide_eq_true_eq]
  exact⟨⟨w.lo,w.hi⟩,(Zz m _ none).mpr ⟨ties,rfl,w.rng,by simp,w.srt⟩⟩
theorem zh8 {d:D}(h:∀ m ties,d=zF m ties->¬ yy m ties):Ym d=false:=by
 cases e:Ym d with
 | false=>rfl
 | true =>
  obtain⟨m,ties,rfl,w⟩:=(Zg d).mp e
  exact absurd w (h m ties rfl)
end Mz
namespace Mz
open Dl
noncomputable def zcR (c k:Int):Int :=
 let a:=(c % 2147483647+977*k+1)*48271 % 2147483647
 let b:=a*a % 2147483629
 (b+40692*(k+3))*69621 % 2147483647 / 8
noncomputable def adj (ts:List Tie)(a b:Int):Prop:=(a,b)∈ts\/(b,a)∈ts
theorem adj.symm {ts:List Tie}{a b:Int}(h:adj ts a b):adj ts b a:=h.elim .inr .inl
inductive yJ (ts:List Tie) (p:Int):Nat->Int->Prop
 | zero:yJ ts p 0 p
 | step {k:Nat} {a b:Int}:yJ ts p k a->adj ts a b->yJ ts p (k+1) b
theorem adj.rng {m:Int}{ts:List Tie}{a b:Int}(ok:yy m ts)(h:adj ts a b):(0<=a/\a < m)/\0<=b/\b < m:=by
 rcases h with h | h <;> (have:=ok.rng _ h;simp only at this;omega)
theorem yJ.rng {m:Int}{ts:List Tie}{p v:Int}{k:Nat}(ok:yy m ts)(hp:0<=p/\p < m)(h:yJ ts p k v):0<=v/\v < m:=by
 cases h with
 | zero=>exact hp
 | step _ h=>exact(h.rng ok).2
theorem yJ.inv {ts:List Tie}{p v:Int}{k:Nat}(h:yJ ts p (k+1) v):∃ a,yJ ts p k a/\adj ts a v:=by
 cases h with
 | step h1 h2=>exact⟨_,h1,h2⟩
theorem zaJ {P:Nat->Prop}:∀ k,P k->∃ j,P j/\∀ i,P i->j<=i:=by
 intro k
 induction k using Nat.strongRecOn with
 | _ k ih =>
  intro h
  by_cases c:∃ i,i < k/\P i
  .obtain⟨i,hi,h2⟩:=c
   exact ih i hi h2
  .exact⟨k,h,λi hi=>Nat.le_of_not_lt λz=>c ⟨i,z,hi⟩⟩
noncomputable def Within (ts:List Tie)(p:Int)(k:Nat)(v:Int):Prop:=∃ j,j<=k/\yJ ts p j v
theorem Within.succ {ts:List Tie}{p v:Int}{k:Nat}:Within ts p (k+1) v↔v=p\/∃ a,Within ts p k a/\adj ts a v:=by
 constructor
 .rintro⟨j,hj,h⟩
  cases h with
  | zero=>exact .inl rfl
  | step h1 h2=>exact .inr ⟨_,⟨_,by omega,h1⟩,h2⟩
 .rintro(rfl | ⟨a,⟨j,hj,h⟩,h2⟩)
  .exact⟨0,by omega,.zero⟩
  .exact⟨j+1,by omega,.step h h2⟩
theorem Within.up {ts:List Tie}{p v:Int}{k k':Nat}(h:Within ts p k v)(hk:k<=k'):Within ts p k' v:=let ⟨j,hj,r⟩:=h;⟨j,by omega,r⟩
theorem Xm {α:Type}{p q:α->Bool}:∀ {l:List α},(∀ x∈l,p x=true->q x=true)->l.countP q<=l.countP p->∀ x∈l,q x=true->p x=true
 | [],_,_,_,h,_=>by simp at h
 | y::l,hpq,hc,x,hx,hq=>by
  have h1:l.countP p<=l.countP q:=List.countP_mono_left λz hz=>hpq z (List.mem_cons_of_mem _ hz)
  rw[List.countP_cons,List.countP_cons]at hc
  have hy:=hpq y List.mem_cons_self
  have ih:=Xm (p:=p) (q:=q) (l:=l) λz hz=>hpq z (List.mem_cons_of_mem _ hz)
  cases e1:p y <;> cases e2:q y <;> simp[e1,e2]at hc hy
  .rcases List.mem_cons.mp hx with rfl | hx
   .rw[e2]at hq;cases hq
   .exact ih (by omega) x hx hq
  .omega
  .rcases List.mem_cons.mp hx with rfl | hx
   .exact e1
   .exact ih (by omega) x hx hq
open Classical in
noncomputable def wiB (ts:List Tie)(p:Int)(k v:Nat):Bool:=decide (Within ts p k (v:Int))
theorem XA {ts:List Tie}{p:Int}{k v:Nat}:wiB ts p k v=true↔Within ts p k (v:Int):=by classical exact decide_eq_true_iff
noncomputable def cnt (ts:List Tie)(p:Int)(n k:Nat):Nat:=(List.range n).countP (wiB ts p k)
noncomputable def zgE (ts:List Tie)(p:Int)(k:Nat):Prop:=∀ v,Within ts p (k+1) v->Within ts p k v
theorem zgE.all {ts:List Tie}{p:Int}{k:Nat}(h:zgE ts p k):∀ j v,Within ts p j v->Within ts p k v:=by
 intro j
 induction j with
 | zero =>
  rintro v ⟨i,hi,r⟩
  obtain rfl:i=0:=by omega
  exact⟨0,by omega,r⟩
 | succ j ih =>
  intro v hv
  rcases Within.succ.mp hv with rfl | ⟨a,ha,h2⟩
  .exact⟨0,by omega,.zero⟩
  .exact h v (Within.succ.mpr (.inr ⟨a,ih a ha,h2⟩))
theorem zf6 {m:Int}{ts:List Tie}{p:Int}(ok:yy m ts)(hp:0<=p/\p < m):∃ k,k < m.toNat/\zgE ts p k:=by
 have key:∀ k,(∃ k',k' < k/\zgE ts p k')\/k+1<=cnt ts p m.toNat k:=by
  intro k
  induction k with
  | zero =>
   refine .inr ?_
   unfold cnt
   rw[List.one_le_countP_iff]
   exact⟨p.toNat,List.mem_range.mpr (by omega),XA.mpr ⟨0,Nat.le_refl _,by rw[Int.toNat_of_nonneg hp.1];exact .zero⟩⟩
  | succ k ih =>
   rcases ih with ⟨k',h1,h2⟩ | ih
   .exact .inl ⟨k',by omega,h2⟩
   .by_cases c:cnt ts p m.toNat (k+1)<=cnt ts p m.toNat k
    .refine .inl ⟨k,by omega,λv hv=>?_⟩
     obtain⟨j,hj,r⟩:=hv
     have hr:=r.rng ok hp
     have:=Xm (λx _ h=>XA.mpr ((XA.mp h).up (Nat.le_succ k))) c v.toNat (List.mem_range.mpr (by omega)) (XA.mpr (by rw[Int.toNat_of_nonneg hr.1];exact⟨j,hj,r⟩))
     have:=XA.mp this
     rwa[Int.toNat_of_nonneg hr.1]at this
    .exact .inr (by omega)
 rcases key m.toNat with h | h
 .exact h
 .unfold cnt at h
  have:=List.countP_le_length (p:=wiB ts p m.toNat) (l:=List.range m.toNat)
  rw[List.length_range]at this
  omega
noncomputable def Far (ts:List Tie)(p v:Int)(k:Nat):Prop:=yJ ts p k v/\∀ i,yJ ts p i v->k<=i
theorem Far.uniq {ts:List Tie}{p v:Int}{k j:Nat}(h:Far ts p v k)(h':Far ts p v j):k=j:=Nat.le_antisymm (h.2 _ h'.1) (h'.2 _ h.1)
theorem Far.lt {m:Int}{ts:List Tie}{p v:Int}{k:Nat}(ok:yy m ts)(hp:0<=p/\p < m)(h:Far ts p v k):k < m.toNat:=by
 obtain⟨b,hb,hs⟩:=zf6 ok hp
 obtain⟨j,hj,r⟩:=hs.all k v ⟨k,Nat.le_refl _,h.1⟩
 have:=h.2 j r
 omega
theorem VS {ts:List Tie}{p v:Int}{k:Nat}(h:yJ ts p k v):∃ j,Far ts p v j:=zaJ k h
open Classical in
noncomputable def zgw (ts:List Tie)(p v:Int):Option Int:=if h:∃ k,Far ts p v k then some (h.choose:Int)else none
theorem zah {ts:List Tie}{p v:Int}{k:Nat}(h:Far ts p v k):zgw ts p v=some (k:Int):=by
 unfold zgw
 have hx:∃ k,Far ts p v k:=⟨k,h⟩
 rw[dif_pos hx,hx.choose_spec.uniq h]
theorem zfo {ts:List Tie}{p v:Int}(h:∀ k,¬ yJ ts p k v):zgw ts p v=none:=by
 unfold zgw
 rw[dif_neg]
 rintro⟨k,hk⟩
 exact h k hk.1
theorem Zu (ts:List Tie)(p v:Int):(∃ k:Nat,zgw ts p v=some (k:Int)/\Far ts p v k)\/(zgw ts p v=none/\∀ k,¬ yJ ts p k v):=by
 by_cases h:∃ k,yJ ts p k v
 .obtain⟨k,hk⟩:=h
  obtain⟨j,hj⟩:=VS hk
  exact .inl ⟨j,zah hj,hj⟩
 .have:∀ k,¬ yJ ts p k v:=λk hk=>h ⟨k,hk⟩
  exact .inr ⟨zfo this,this⟩
noncomputable def zat (m:Int)(ts:List Tie)(p:Int):List (Option Int):=(List.range m.toNat).map λv:Nat=>zgw ts p v
noncomputable def Zh:Option Int->D
 | none=>.non
 | some k=>.int k
noncomputable def oAt (fs:List (Option Int))(i:Int):Option Int:=(fs[i.toNat]?).getD none
theorem zhj {n:Nat}{i:Int}(h0:0<=i)(h1:i < n):L2.ixN n i=some i.toNat:=by
 unfold L2.ixN
 rw[if_pos h0,if_pos h1]
theorem zhb {α:Type}{xs:List α}{i:Int}{x:α}(h0:0<=i)(h:xs[i.toNat]?=some x):L2.atI xs i=some x:=by
 have:=(List.getElem?_eq_some_iff.mp h).1
 unfold L2.atI
 rw[zhj h0 (by omega)]
 exact h
theorem zko {m:Bool}{i:Nat}{fk fe:Ev->Option D}{ρ:SE}{ds:List D}{d:D}{k:Int}(h1:vEv m fe ρ=some d)(h2:fk (visG ρ)=some (.int k))(h3:ρ[i]?=some (.o ds))(h4:0<=k)(h5:k < ds.length) :
 Ve m i fk fe ρ=.nx (ρ.set i (.o (ds.set k.toNat d))):=by
 unfold Ve
 rw[h1,h2,h3]
 show(match ((L2.ixN ds.length k).map λj=>ρ.set i (Sl.o (ds.set j d)))with | some ρ'=>Ctl.nx ρ' | none=>Ctl.no)=_
 rw[zhj h4 h5]
 rfl
theorem zhW {fs:List (Option Int)}{i:Int}(h0:0<=i)(h1:i < fs.length):L2.atI (fs.map Zh) i=some (Zh (oAt fs i)):=by
 refine zhb h0 ?_
 unfold oAt
 rw[List.getElem?_map,List.getElem?_eq_getElem (by omega)]
 rfl
theorem Zv {fs:List (Option Int)}{i j:Int}{x:Option Int}(hi:0<=i)(hl:i < fs.length)(hj:0<=j):oAt (fs.set i.toNat x) j=if j=i then x else oAt fs j:=by
 unfold oAt
 rw[List.getElem?_set]
 by_cases c:j=i
 .subst c
  rw[if_pos rfl,if_pos rfl,if_pos (by omega)]
  rfl
 .rw[if_neg (by omega),if_neg c]
theorem zi5 {fs gs:List (Option Int)}(hl:fs.length=gs.length)(h:∀ i:Int,0<=i->i < fs.length->oAt fs i=oAt gs i):fs=gs:=by
 refine List.ext_getElem? λi=>?_
 by_cases c:i < fs.length
 .have:=h (i:Int) (by omega) (by omega)
  unfold oAt at this
  rw[Int.toNat_natCast,List.getElem?_eq_getElem c,List.getElem?_eq_getElem (by omega)]at this
  rw[List.getElem?_eq_getElem c,List.getElem?_eq_getElem (by omega)]
  exact congrArg some this
 .rw[List.getElem?_eq_none (by omega),List.getElem?_eq_none (by omega)]
theorem Xk (m:Int)(ts:List Tie)(p:Int):(zat m ts p).length=m.toNat:=by unfold zat;simp
theorem zbF {m:Int}{ts:List Tie}{p v:Int}(h0:0<=v)(h1:v < m):oAt (zat m ts p) v=zgw ts p v:=by
 unfold oAt zat
 rw[List.getElem?_map,List.getElem?_range (by omega)]
 show zgw ts p ((v.toNat:Nat):Int)=_
 rw[Int.toNat_of_nonneg h0]
theorem zeP:∀ {ns:List Int} {k:Nat} {x:Int} (h:k < ns.length),(ns.set k x).sum=ns.sum - ns[k]+x
 | [],_,_,h=>by simp at h
 | n::ns,0,x,_=>by simp;omega
 | n::ns,k+1,x,h=>by
  have:=zeP (ns:=ns) (k:=k) (x:=x) (by simpa using h)
  simp only[List.set_cons_succ,List.sum_cons,List.getElem_cons_succ,this]
  omega
noncomputable def zcI (b n:Nat):List Tie:=(List.range n).map λ(k:Nat)=>((k:Int),(b:Int))
noncomputable def Zk (n:Nat):List Tie:=(List.range n).flatMap λb=>zcI (b+1) (b+1)
theorem Vt (b n:Nat):zcI b (n+1)=zcI b n++[((n:Int),(b:Int))]:=by
 unfold zcI
 rw[List.range_succ,List.map_append]
 rfl
theorem zcr (n:Nat):Zk (n+1)=Zk n++zcI (n+1) (n+1):=by
 unfold Zk
 rw[List.range_succ,List.flatMap_append]
 simp
theorem ZU:∀ n:Nat,n<=7->(Zk n).Nodup/\(∀ t∈Zk n,0<=t.1/\t.1 < t.2/\t.2<=(n:Int))/\(Zk n).length<=28:=by
 have h:∀ n:_root_.Fin 8,(Zk n.val).Nodup/\(∀ t∈Zk n.val,0<=t.1/\t.1 < t.2/\t.2<=(n.val:Int))/\(Zk n.val).length<=28:=by decide +kernel
 exact λn hn=>h ⟨n,by omega⟩
theorem v7 (ts:List Tie):(XZ ts).Perm ts:=List.mergeSort_perm _ _
theorem VE {ts:List Tie}(h:ts.Nodup):(XZ ts).Pairwise ltP:=by
 have h1:(XZ ts).Pairwise λa b=>zjj a b=true:=List.pairwise_mergeSort (λa b c h1 h2=>by rw[wg]at *;omega) (λa b=>by rw[Bool.or_eq_true,wg,wg];omega) _
 have h2:(XZ ts).Nodup:=(v7 ts).nodup_iff.mpr h
 refine(h1.and h2).imp λ{a b} hh=>?_
 obtain⟨x,y⟩:=hh
 rw[wg]at x
 unfold ltP
 rcases x with x | x
 .exact .inl x
 .refine .inr ⟨x.1,?_⟩
  have:a.2≠b.2:=λe=>y (Prod.ext x.1 e)
  omega
theorem za1 {n:Nat}{ts:List Tie}(hn:n<=7)(h:ts.Sublist (Zk n)):yy (1+(n:Int)) (XZ ts):=by
 obtain⟨h1,h2,h3⟩:=ZU n hn
 refine⟨by omega,by omega,λt ht=>?_,VE (h1.sublist h)⟩
 have:=h2 t (h.subset ((v7 ts).mem_iff.mp ht))
 omega
theorem zhY {d:D}{n:Int}(h0:0<=n)(h1:n<=1000):zf4 (.lst [d]) (.int n)=some (List.replicate n.toNat d):=by
 show(if -(2 ^ 63)<=n/\n < 2 ^ 63/\lim (1*n.toNat)=true then _ else none)=_
 rw[if_pos ⟨by omega,by omega,wR (by omega)⟩,List.flatten_replicate_singleton]
theorem zc6 {m:Bool}{i:Nat}{fk fe:Ev->Option D}{ρ:SE}{n b kk:SE->Prop}{r:D->Prop}(ds:List D)(d:D)(k:Int)(h1:vEv m fe ρ=some d)(h2:fk (visG ρ)=some (.int k))(h3:ρ[i]?=some (.o ds))(h4:0<=k)(h5:k < ds.length)(q:n (ρ.set i (.o (ds.set k.toNat d)))) :
 (Ve m i fk fe ρ).w n b kk r:=YN (zko h1 h2 h3 h4 h5) q
theorem zeT (n:Nat):(List.replicate n (0:Int)).sum=0:=by
 induction n with
 | zero=>rfl
 | succ n ih=>rw[List.replicate_succ,List.sum_cons,ih];rfl
theorem zhK {i j:Int}(h1:-(2 ^ 64) < i)(h2:i < 2 ^ 64):xP (.int i) (.int j)=some (.int (i*j)):=by
 show(if Yn i j=true then _ else none)=_
 rw[if_pos (show Yn i j=true from decide_eq_true (.inl ⟨h1,h2⟩))]
theorem zbY (ns:List Int):zji [.lst (ns.map .int)]=some (.int ns.sum):=by
 show((zdh (ns.map .int)).bind λns=>some (D.int ns.sum))=_
 rw[WE]
 rfl
theorem zgO {α:Type}(xs:List α)(lo hi:Option Int):(zc1 xs lo hi).length<=xs.length:=by
 unfold zc1
 rw[List.length_take,List.length_drop]
 omega
theorem zfN {a b:List D}(h:a.length+b.length<=1000):xF (.lst a) (.lst b)=some (.lst (a++b)):=by
 show(if lim (a.length+b.length)=true then _ else none)=_
 rw[if_pos (wR h)]
theorem zkD {g h:SE->Ctl}{ρ:SE}{n b k:SE->Prop}{r:D->Prop}(J:SE->Prop)(h1:(g ρ).w J b k r)(h2:∀ ρ',J ρ'->(h ρ').w n b k r):(zO g h ρ).w n b k r :=
 xT (zdS h1 h2 (λ_ h=>h) (λ_ h=>h) λ_ h=>h)
theorem zf5 {m:Int}{ts:List Tie}{p:Int}{o:Option Int}(ok:yy m ts)(hp:0<=p/\p < m)(h:o∈zat m ts p):o=none\/∃ k:Int,o=some k/\0<=k/\k < m:=by
 unfold zat at h
 obtain⟨v,hv,rfl⟩:=List.mem_map.mp h
 rcases Zu ts p v with ⟨k,e,hk⟩ | ⟨e,_⟩
 .have:=hk.lt ok hp
  exact .inr ⟨_,e,by omega,by omega⟩
 .exact .inl e
theorem zg4:∀ {ns:List Int},(∀ x∈ns,0<=x)->0<=ns.sum
 | [],_=>by simp
 | n::ns,h=>by
  have:=zg4 (ns:=ns) λx hx=>h x (List.mem_cons_of_mem _ hx)
  have:=h n List.mem_cons_self
  rw[List.sum_cons]
  omega
theorem Wo:∀ {ns:List Int} {y:Int},(∀ x∈ns,0<=x)->y∈ns->y<=ns.sum
 | [],_,_,h=>by simp at h
 | n::ns,y,h,hy=>by
  have h2:∀ x∈ns,0<=x:=λx hx=>h x (List.mem_cons_of_mem _ hx)
  have:=zg4 h2
  have:=h n List.mem_cons_self
  rw[List.sum_cons]
  rcases List.mem_cons.mp hy with rfl | hy
  .omega
  .have:=Wo h2 hy
   omega
theorem ym {m:Bool}{i:Nat}{f:Ev->Option D}{ρ ρ':SE}{d:D}(h:vEv m f ρ=some d)(h2:ρ.set i (.v d)=ρ':=by rfl):xE m i f ρ=.nx ρ':=by
 unfold xE
 rw[h,<- h2]
theorem zeo {f:Ev->Option D}{ρ:SE}{d:D}(h:f (visG ρ)=some d):zb7 f ρ=.nx ρ:=by
 unfold zb7
 rw[h]
theorem xq {f:Ev->Option D}{ρ:SE}{d:D}(h:f (visG ρ)=some d):xa f ρ=.rt d:=by
 unfold xa
 rw[h]
theorem zdK {i:Nat}{f:Ev->Option (List D)}{ρ ρ':SE}{ds:List D}(h:f (visF ρ)=some ds)(h2:ρ.set i (.o ds)=ρ':=by rfl):Vm i f ρ=.nx ρ':=by
 unfold Vm
 rw[h,<- h2]
theorem zhG {o:Option (List D)}{ds:List D}(h:o=some ds):o.map D.lst=some (.lst ds):=by rw[h];rfl
theorem vF {a b:Int}:neD (.int a) (.int b)=some (.bl (!decide (a=b))):=rfl
theorem ZR {a m x:Int}(h:0 < m)(hx:a % m=x):0<=x/\x < m:=by
 subst hx
 exact⟨Int.emod_nonneg _ (by omega),Int.emod_lt_of_pos _ h⟩
theorem zk2 {i:Nat}{x:Int}(hx:(0:Int)+(i:Int)=x):(i:Int)=x:=by omega
theorem zkp {n:Nat}(h:n<=8):lim n=true:=wR (by omega)
theorem YY {α:Type}{xs:List α}{x m:Int}(h0:0<=x)(h:x < m)(hl:xs.length=m.toNat):x < (xs.length:Int):=by omega
theorem zeQ {α:Type}{f:α->D}{xs:List α}{x m:Int}(h0:0<=x)(h:x < m)(hl:xs.length=m.toNat):x < ((xs.map f).length:Int):=by rw[List.length_map];omega
theorem zhp {fs:List (Option Int)}{i m:Int}(h0:0<=i)(h:i < m)(hl:fs.length=m.toNat):L2.atI (fs.map Zh) i=some (Zh (oAt fs i)):=zhW h0 (YY h0 h hl)
theorem zke {d:D}{m:Int}(h1:1<=m)(h8:m<=8):zf4 (.lst [d]) (.int m)=some (List.replicate m.toNat d):=zhY (by omega) (by omega)
theorem zg9 {m:Int}(h1:1<=m)(h8:m<=8):ZB [.int m]=some (ZN 0 m.toNat):=by
 show(if zc2 m=true then some (ZN 0 m.toNat)else none)=_
 rw[if_pos (yr.mpr ⟨by omega,by omega⟩)]
theorem zk7 {m:Int}{n:Nat}(h:m=((n+1:Nat):Int))(h7:n<=7):ZB [.int m]=some (ZN 0 (n+1)):=by
 rw[zg9 (by omega) (by omega),show m.toNat=n+1 by omega]
theorem zkS {m:Int}{n:Nat}(h:m=((n+1:Nat):Int))(h7:n<=7):VQ [.int 1,.int m]=some (ZN 1 n):=by
 show(if zc2 1=true/\zc2 m=true then some (ZN 1 (m - 1).toNat)else none)=_
 rw[if_pos ⟨yr.mpr ⟨by omega,by omega⟩,yr.mpr ⟨by omega,by omega⟩⟩,show(m - 1).toNat=n by omega]
theorem zeF {n:Nat}(h:n<=28):lim n=true:=wR (by omega)
theorem yM {a b:Int}:WN (.int a) (.int b)=some (.bl (decide (a=b))):=rfl
theorem vV {a b:Bool}:WN (.bl a) (.bl b)=some (.bl (decide (a=b))):=rfl
theorem wk {a b:PySem.Str}:WN (.str a) (.str b)=some (.bl (decide (a=b))):=rfl
theorem wt {a b:Int}:xF (.int a) (.int b)=some (.int (a+b)):=rfl
section
variable {ρ:Ev}{f g h:Ev->Option D}{a:Ev->Option (List D)}{t u:Ev->Option Bool}{d e x y z:D}{ds es:List D}{b c:Bool}
theorem Yl:zt ρ=some []:=rfl
theorem zN (h1:f ρ=some d)(h2:a ρ=some ds):zc f a ρ=some (d::ds):=by unfold zc;rw[h1,h2];rfl
theorem YE {n:Nat}{p:List D->Option D}(h1:a ρ=some ds)(h2:p ds=some d)(hl:ds.length=n:=by rfl):zB n p a ρ=some d:=by
 unfold zB
 rw[h1,Option.bind_some,if_pos hl,h2]
theorem vG {i n:Nat}{p:List D->Option D}{σ σ':SE}(h1:a (visF σ)=some ds)(h2:p ds=some d)(hl:ds.length=n:=by rfl)(h3:σ.set i (.v d)=σ':=by rfl):xE false i (zB n p a) σ=.nx σ':=ym (show zB n p a (visF σ)=some d from YE h1 h2 hl) h3
theorem Vc {i:Nat}{f:Ev->Option D}{σ σ':SE}(h:f (visF σ)=some d)(h3:σ.set i (.v d)=σ':=by rfl):xE false i f σ=.nx σ':=ym (show f (visF σ)=some d from h) h3
theorem zI {k:D->D->Option D}(h1:f ρ=some x)(h2:g ρ=some y)(h3:k x y=some z):zk k f g ρ=some z:=by unfold zk;rw[h1,h2];exact h3
theorem YK (h1:a ρ=some ds):wc a ρ=some (.lst ds):=by unfold wc;rw[h1];rfl
theorem zdE {k:List D->Option D}(h1:a ρ=some ds)(h2:k ds=some d):eFn k a ρ=some d:=by unfold eFn;rw[h1];exact h2
theorem zjM {k:List D->Option (List D)}(h1:a ρ=some ds)(h2:k ds=some es):fFn k a ρ=some es:=by unfold fFn;rw[h1];exact h2
theorem zbg (h1:a ρ=some ds)(hl:ds.length<=1000):xi a ρ=some ds:=by unfold xi;rw[h1,Option.bind_some,if_pos (wR hl)]
theorem zhr (h1:a ρ=some ds)(hl:ds.length<=1000):wP a ρ=some (.tup ds):=by unfold wP;rw[h1,Option.bind_some,if_pos (wR hl)]
theorem zep (h1:f ρ=some d)(h2:wf d=some ds):iOf f ρ=some ds:=by unfold iOf;rw[h1];exact h2
theorem Xj (h1:f ρ=some (.bl b)):tOf f ρ=some b:=by unfold tOf;rw[h1];rfl
theorem ziJ (h1:t ρ=some false):vh t u ρ=some false:=by unfold vh;rw[h1];rfl
theorem zif (h1:t ρ=some true)(h2:u ρ=some c):vh t u ρ=some c:=by unfold vh;rw[h1];exact h2
end
end Mz
namespace Mz
open PySem L2 Dl
noncomputable def top (i:Nat):Stmt:=PySem.Challenge.pw_twoforone_k73_whole_shows_bound.main.body.getD i (.Pass ⟨0,0,0,0⟩)
noncomputable abbrev Yu:Stmt:=top 6
noncomputable abbrev xc:Stmt:=top 7
noncomputable abbrev xt:Stmt:=top 8
noncomputable abbrev Yz:Stmt:=top 9
noncomputable abbrev Zm:Stmt:=top 11
noncomputable abbrev Yp:Stmt:=top 12
noncomputable abbrev Xz:Stmt:=top 13
noncomputable abbrev ww:Stmt:=top 14
noncomputable abbrev xI:Stmt:=top 15
noncomputable abbrev wz:Stmt:=top 16
noncomputable abbrev Zq:Stmt:=top 18
noncomputable abbrev Z6:Stmt:=top 20
noncomputable abbrev xJ:Stmt:=top 22
noncomputable abbrev y4:Stmt:=top 23
noncomputable abbrev wY:Stmt:=top 24
noncomputable abbrev Yr:Stmt:=top 25
noncomputable abbrev yQ:Stmt:=top 26
noncomputable abbrev vk:Stmt:=top 27
noncomputable abbrev vK:Stmt:=top 28
noncomputable abbrev vb:Stmt:=top 29
noncomputable abbrev xV:Stmt:=top 31
noncomputable abbrev vH:Stmt:=top 32
noncomputable abbrev wx:Stmt:=top 33
noncomputable abbrev vC:Stmt:=top 34
noncomputable abbrev wE:Stmt:=top 35
noncomputable abbrev yV:Stmt:=top 36
noncomputable abbrev vD:Stmt:=top 37
noncomputable abbrev x4:Stmt:=top 38
noncomputable abbrev zdI:Stmt:=top 39
theorem zaK:zA ["thing"] ["thing"] (zn Yu):=⟨rfl,rfl,rfl,by decide +kernel,rfl,by decide +kernel,by decide +kernel⟩
theorem YX:zA ["thing","least","most"] ["thing","least","most"] (zn xc):=⟨rfl,rfl,rfl,by decide +kernel,rfl,by decide +kernel,by decide +kernel⟩
theorem Zo:zA ["thing"] ["thing"] (zn xt):=⟨rfl,rfl,rfl,by decide +kernel,rfl,by decide +kernel,by decide +kernel⟩
theorem zbh:zA ["many","thing"] ["many","thing"] (zn Yz):=⟨rfl,rfl,rfl,by decide +kernel,rfl,by decide +kernel,by decide +kernel⟩
theorem zcM:zA ["many","thing"] ["many","thing"] (zn Zm):=⟨rfl,rfl,rfl,by decide +kernel,rfl,by decide +kernel,by decide +kernel⟩
theorem YC:zA ["many","thing","at","tie"] ["many","thing"] (zn Yp):=⟨rfl,rfl,rfl,by decide +kernel,rfl,by decide +kernel,by decide +kernel⟩
theorem zeC:zA ["thing"] ["thing"] (zn Xz):=⟨rfl,rfl,rfl,by decide +kernel,rfl,by decide +kernel,by decide +kernel⟩
theorem X1:zA ["thing"] ["thing"] (zn ww):=⟨rfl,rfl,rfl,by decide +kernel,rfl,by decide +kernel,by decide +kernel⟩
theorem ZK:zA ["web","thing"] ["web","thing"] (zn xI):=⟨rfl,rfl,rfl,by decide +kernel,rfl,by decide +kernel,by decide +kernel⟩
theorem XU:zA ["one","other"] ["one","other"] (zn wz):=⟨rfl,rfl,rfl,by decide +kernel,rfl,by decide +kernel,by decide +kernel⟩
theorem zcv:zA ["web","thing"] ["web","thing"] (zn Zq):=⟨rfl,rfl,rfl,by decide +kernel,rfl,by decide +kernel,by decide +kernel⟩
theorem wO:zA ["top","bottom","one","other","rest"] ["top","bottom"] (zn Z6):=⟨rfl,rfl,rfl,by decide +kernel,rfl,by decide +kernel,by decide +kernel⟩
theorem ZC:zA ["web","root","weights_ahead","thing"] ["web","root","weights_ahead","thing"] (zn xJ):=⟨rfl,rfl,rfl,by decide +kernel,rfl,by decide +kernel,by decide +kernel⟩
theorem xl:zA ["web","root","thing","weights_ahead","row"] ["web","root","thing"] (zn y4):=⟨rfl,rfl,rfl,by decide +kernel,rfl,by decide +kernel,by decide +kernel⟩
theorem WH:zA ["branch"] ["branch"] (zn wY):=⟨rfl,rfl,rfl,by decide +kernel,rfl,by decide +kernel,by decide +kernel⟩
theorem zaC:zA ["thing"] ["thing"] (zn Yr):=⟨rfl,rfl,rfl,by decide +kernel,rfl,by decide +kernel,by decide +kernel⟩
theorem YD:zA ["web","root","thing"] ["web","root","thing"] (zn yQ):=⟨rfl,rfl,rfl,by decide +kernel,rfl,by decide +kernel,by decide +kernel⟩
theorem ya:zA ["shares","numbers","top","bottom","share","number"] ["shares","numbers"] (zn vk):=⟨rfl,rfl,rfl,by decide +kernel,rfl,by decide +kernel,by decide +kernel⟩
theorem Vy:zA ["branch","place"] ["branch","place"] (zn vK):=⟨rfl,rfl,rfl,by decide +kernel,rfl,by decide +kernel,by decide +kernel⟩
theorem yA:zA ["web","place","thing","shares","branches","other","told","total"] ["web","place","thing"] (zn vb):=⟨rfl,rfl,rfl,by decide +kernel,rfl,by decide +kernel,by decide +kernel⟩
theorem Xg:zA ["script","k"] ["script","k"] (zn xV):=⟨rfl,rfl,rfl,by decide +kernel,rfl,by decide +kernel,by decide +kernel⟩
theorem wu:zA ["cell","k","number"] ["cell","k"] (zn vH):=⟨rfl,rfl,rfl,by decide +kernel,rfl,by decide +kernel,by decide +kernel⟩
theorem zJ:zA ["cell","most","joined","many","left","ties","b","inner","a","drawn"] ["cell","most","joined"] (zn wx):=⟨rfl,rfl,rfl,by decide +kernel,rfl,by decide +kernel,by decide +kernel⟩
theorem xA:zA ["web","place","found","turn","a","b"] ["web","place"] (zn vC):=⟨rfl,rfl,rfl,by decide +kernel,rfl,by decide +kernel,by decide +kernel⟩
theorem zR:zA ["web","heap","found","todo","here","a","b","other"] ["web","heap"] (zn wE):=⟨rfl,rfl,rfl,by decide +kernel,rfl,by decide +kernel,by decide +kernel⟩
theorem YM:zA ["web","heap","place"] ["web","heap","place"] (zn yV):=⟨rfl,rfl,rfl,by decide +kernel,rfl,by decide +kernel,by decide +kernel⟩
theorem zQ:zA ["web","root","turned","far_ones","deep","found","far_here","place","inners","inner"] ["web","root","turned"] (zn vD):=⟨rfl,rfl,rfl,by decide +kernel,rfl,by decide +kernel,by decide +kernel⟩
theorem yn:zA ["many","stones","root","cell","found","k","place"] ["many","stones","root","cell"] (zn x4):=⟨rfl,rfl,rfl,by decide +kernel,rfl,by decide +kernel,by decide +kernel⟩
theorem wI:zA ["script","cell","web","root","one","other","shows","k","show","bound","turn","heap"] ["script"] (zn zdI):=⟨rfl,rfl,rfl,by decide +kernel,rfl,by decide +kernel,by decide +kernel⟩
set_option genInjectivity false in
set_option genSizeOf false in
set_option genCtorIdx false in
structure Adr where
 f_is_whole:Addr
 e_is_whole:FuncData
 f_is_whole_within:Addr
 e_is_whole_within:FuncData
 f_is_place_count:Addr
 e_is_place_count:FuncData
 f_is_place:Addr
 e_is_place:FuncData
 f_is_pair:Addr
 e_is_pair:FuncData
 f_are_ties:Addr
 e_are_ties:FuncData
 f_is_web:Addr
 e_is_web:FuncData
 f_must_be_web:Addr
 e_must_be_web:FuncData
 f_must_be_place:Addr
 e_must_be_place:FuncData
 f_tie_between:Addr
 e_tie_between:FuncData
 f_is_step:Addr
 e_is_step:FuncData
 f_lowest:Addr
 e_lowest:FuncData
 f_is_branch_row:Addr
 e_is_branch_row:FuncData
 f_are_branch_rows:Addr
 e_are_branch_rows:FuncData
 f_branch_sum:Addr
 e_branch_sum:FuncData
 f_is_share:Addr
 e_is_share:FuncData
 f_is_shared_branch:Addr
 e_is_shared_branch:FuncData
 f_shared_sum:Addr
 e_shared_sum:FuncData
 f_weight_at:Addr
 e_weight_at:FuncData
 f_show_bound:Addr
 e_show_bound:FuncData
 f__law_cell_at:Addr
 e__law_cell_at:FuncData
 f__law_stir:Addr
 e__law_stir:FuncData
 f__law_web_by:Addr
 e__law_web_by:FuncData
 f__law_fars:Addr
 e__law_fars:FuncData
 f__law_behind:Addr
 e__law_behind:FuncData
 f__law_most_there:Addr
 e__law_most_there:FuncData
 f__law_walk:Addr
 e__law_walk:FuncData
 f__law_heap_of:Addr
 e__law_heap_of:FuncData
 f_law:Addr
 e_law:FuncData
 t_MOST_PLACES:Tok
set_option genInjectivity false in
set_option genSizeOf false in
set_option genCtorIdx false in
structure Txt (K:PySem.W.Frag) (mg:Str->Option Value) (ad:Adr):Prop where
 d_is_whole:Def K mg "is_whole" Yu ["thing"] ad.f_is_whole ad.e_is_whole
 d_is_whole_within:Def K mg "is_whole_within" xc ["thing","least","most"] ad.f_is_whole_within ad.e_is_whole_within
 d_is_place_count:Def K mg "is_place_count" xt ["thing"] ad.f_is_place_count ad.e_is_place_count
 d_is_place:Def K mg "is_place" Yz ["many","thing"] ad.f_is_place ad.e_is_place
 d_is_pair:Def K mg "is_pair" Zm ["many","thing"] ad.f_is_pair ad.e_is_pair
 d_are_ties:Def K mg "are_ties" Yp ["many","thing"] ad.f_are_ties ad.e_are_ties
 d_is_web:Def K mg "is_web" Xz ["thing"] ad.f_is_web ad.e_is_web
 d_must_be_web:Def K mg "must_be_web" ww ["thing"] ad.f_must_be_web ad.e_must_be_web
 d_must_be_place:Def K mg "must_be_place" xI ["web","thing"] ad.f_must_be_place ad.e_must_be_place
 d_tie_between:Def K mg "tie_between" wz ["one","other"] ad.f_tie_between ad.e_tie_between
 d_is_step:Def K mg "is_step" Zq ["web","thing"] ad.f_is_step ad.e_is_step
 d_lowest:Def K mg "lowest" Z6 ["top","bottom"] ad.f_lowest ad.e_lowest
 d_is_branch_row:Def K mg "is_branch_row" xJ ["web","root","weights_ahead","thing"] ad.f_is_branch_row ad.e_is_branch_row
 d_are_branch_rows:Def K mg "are_branch_rows" y4 ["web","root","thing"] ad.f_are_branch_rows ad.e_are_branch_rows
 d_branch_sum:Def K mg "branch_sum" wY ["branch"] ad.f_branch_sum ad.e_branch_sum
 d_is_share:Def K mg "is_share" Yr ["thing"] ad.f_is_share ad.e_is_share
 d_is_shared_branch:Def K mg "is_shared_branch" yQ ["web","root","thing"] ad.f_is_shared_branch ad.e_is_shared_branch
 d_shared_sum:Def K mg "shared_sum" vk ["shares","numbers"] ad.f_shared_sum ad.e_shared_sum
 d_weight_at:Def K mg "weight_at" vK ["branch","place"] ad.f_weight_at ad.e_weight_at
 d_show_bound:Def K mg "show_bound" vb ["web","place","thing"] ad.f_show_bound ad.e_show_bound
 d__law_cell_at:Def K mg "_law_cell_at" xV ["script","k"] ad.f__law_cell_at ad.e__law_cell_at
 d__law_stir:Def K mg "_law_stir" vH ["cell","k"] ad.f__law_stir ad.e__law_stir
 d__law_web_by:Def K mg "_law_web_by" wx ["cell","most","joined"] ad.f__law_web_by ad.e__law_web_by
 d__law_fars:Def K mg "_law_fars" vC ["web","place"] ad.f__law_fars ad.e__law_fars
 d__law_behind:Def K mg "_law_behind" wE ["web","heap"] ad.f__law_behind ad.e__law_behind
 d__law_most_there:Def K mg "_law_most_there" yV ["web","heap","place"] ad.f__law_most_there ad.e__law_most_there
 d__law_walk:Def K mg "_law_walk" vD ["web","root","turned"] ad.f__law_walk ad.e__law_walk
 d__law_heap_of:Def K mg "_law_heap_of" x4 ["many","stones","root","cell"] ad.f__law_heap_of ad.e__law_heap_of
 d_law:Def K mg "law" zdI ["script"] ad.f_law ad.e_law
 g_MOST_PLACES:mg "MOST_PLACES"=some (Value.int 8 ad.t_MOST_PLACES)
 z_all:mg "all"=none
 z_bool:mg "bool"=none
 z_enumerate:mg "enumerate"=none
 z_int:mg "int"=none
 z_isinstance:mg "isinstance"=none
 z_len:mg "len"=none
 z_list:mg "list"=none
 z_max:mg "max"=none
 z_min:mg "min"=none
 z_range:mg "range"=none
 z_sorted:mg "sorted"=none
 z_sum:mg "sum"=none
 z_tuple:mg "tuple"=none
 z_zip:mg "zip"=none
theorem zjO:(["a","b","web","place","found","turn","·a","·b"]:List Str).Nodup:=by decide +kernel
theorem zkH:(["a","b","web","heap","found","todo","here","·a","·b","other"]:List Str).Nodup:=by decide +kernel
theorem zlN:(["other","web","heap","place"]:List Str).Nodup:=by decide +kernel
theorem zlS:(["row","branch","place"]:List Str).Nodup:=by decide +kernel
theorem zme:(["row","branch"]:List Str).Nodup:=by decide +kernel
theorem zkf:(["branch","web","place","thing","shares","branches","other","told","total"]:List Str).Nodup:=by decide +kernel
theorem zh5:(["part","web","place","thing","shares","branches","other","told","total"]:List Str).Nodup:=by decide +kernel
theorem zlF:(["other","web","root","turned","far_ones","deep","found","far_here","place","inners","inner"]:List Str).Nodup:=by decide +kernel
theorem zj6:(["a","b","web","root","turned","far_ones","deep","found","far_here","place","inners","inner"]:List Str).Nodup:=by decide +kernel
theorem zlA:(["row","script","cell","web","root","one","other","shows","k","show","bound","turn","heap"]:List Str).Nodup:=by decide +kernel
noncomputable def WO:D->Bool
 | .int _=>true
 | _=>false
noncomputable def zY (d:D)(lo hi:Int):Bool:=match d with
 | .int i=>decide (lo<=i)&&decide (i<=hi)
 | _=>false
section
variable {P:Program}{w:World}{K:PySem.W.Frag}{mg:Str->Option Value}{base:Heap}{ad:Adr}
noncomputable def yw:List D->Option D
 | [d]=>if noS d=true then some (.bl (WO d))else none
 | _=>none
noncomputable def Zl:SE->Ctl :=
 (xa (V4 (eUn (vt .int) (zf 0)) (zfr (eUn (vt .bool) (zf 0)))))
noncomputable def zcA:List D->Option D:=fnD 1 Zl
theorem zld {α:Type}{ds:List α}(h:ds.length=1):∃ a,ds=[a]:=by match ds,h with | [a],_=>exact⟨a,rfl⟩
theorem zhz {α:Type}{ds:List α}(h:ds.length=2):∃ a b,ds=[a,b]:=by match ds,h with | [a,b],_=>exact⟨a,b,rfl⟩
theorem len3 {α:Type}{ds:List α}(h:ds.length=3):∃ a b c,ds=[a,b,c]:=by match ds,h with | [a,b,c],_=>exact⟨a,b,c,rfl⟩
theorem ifS {c:Bool}{x y:D}(h:(if c=true then some x else none)=some y):c=true/\x=y:=by
 split at h
 .cases h
  exact⟨by assumption,rfl⟩
 .cases h
theorem zaQ:∀ ds d,ds.length=1->yw ds=some d->zcA ds=some d:=by
 intro ds d hl h
 obtain⟨a,rfl⟩:=zld hl
 obtain⟨hn,rfl⟩:=ifS h
 cases a <;> first | rfl | cases hn
theorem Yw (T:Txt K mg ad):xR P w K mg base CX0 1 ad.f_is_whole ad.e_is_whole ["thing"] (@spD ⟨K⟩ 1 yw):=by
 letI:KK:=⟨K⟩
 refine vy (yZ (N:=["thing"]) (ps:=["thing"]) T.d_is_whole.fn zaK (g:=Zl) λcdv A outer s H E hr=>?_) zaQ
 unfold Zl
 exact(zi (zx (ZA (yG .int rfl T.z_isinstance (za 0 (pv 0)) (wv (v:=.ty "int") rfl T.z_int zka rfl)) (Xy (zjX (yG .bool rfl T.z_isinstance (za 0 (pv 0)) (wv (v:=.ty "bool") rfl T.z_bool zis rfl)))))))
noncomputable def zT:SE->Ctl :=
 (xa (V4 (zB 1 yw (zc (zf 0) zt)) (vN leD leD (zf 1) (zf 0) (zf 2))))
noncomputable def wL:List D->Option D:=fnD 3 zT
noncomputable def zC:List D->Option D
 | [d,.int lo,.int hi]=>if noS d=true then some (.bl (zY d lo hi))else none
 | _=>none
theorem WV {a:D}{lo hi:Int}(hn:noS a=true)(hw:WO a=false):wL [a,.int lo,.int hi]=some (.bl false):=by
 have e:yw [a]=some (.bl false):=by
  show(if noS a=true then some (D.bl (WO a))else none)=_
  rw[if_pos hn,hw]
 refine zar (ρ:=[.v a,.v (.int lo),.v (.int hi)]) rfl ?_
 unfold zT
 refine Yv (xq ?_) rfl
 show(((yw [a]).bind asB).bind λc=>if c=true then _ else some (D.bl false))=_
 rw[e]
 rfl
theorem YJ:∀ ds d,ds.length=3->zC ds=some d->wL ds=some d:=by
 intro ds d hl h
 obtain⟨a,b,c,rfl⟩:=len3 hl
 cases b <;> try cases h
 cases c <;> try cases h
 rename_i lo hi
 obtain⟨hn,rfl⟩:=ifS h
 cases a with
 | scr _=>cases hn
 | int i =>
  refine zar (ρ:=[.v (.int i),.v (.int lo),.v (.int hi)]) rfl ?_
  unfold zT
  refine Yv (xq ?_) rfl
  show(if decide (lo<=i)=true then some (D.bl (decide (i<=hi)))else some (.bl false))=some (.bl (decide (lo<=i)&&decide (i<=hi)))
  cases decide (lo<=i) <;> rfl
 | tup es=>exact WV hn rfl
 | lst es=>exact WV hn rfl
 | dct z t ks vs=>exact WV hn rfl
 | non=>rfl
 | bl _=>rfl
 | str _=>rfl
theorem wl (T:Txt K mg ad):xR P w K mg base CX0 2 ad.f_is_whole_within ad.e_is_whole_within ["thing","least","most"] (@spD ⟨K⟩ 3 zC):=by
 letI:KK:=⟨K⟩
 have G_is_whole:=Yw (P:=P) (w:=w) (base:=base) T
 refine vy (yZ (N:=["thing","least","most"]) (ps:=["thing","least","most"]) T.d_is_whole_within.fn YX (g:=zT) λcdv A outer s H E hr=>?_) YJ
 unfold zT
 exact(zi (zx (ZA (zq (G_is_whole.mono (by decide)) hr rfl T.d_is_whole.at_ T.d_is_whole.kp T.d_is_whole.bd (zb (za 0 (pv 0)) zh)) (Xy (zf3 zeR zeR ye ye (za 1 (pv 1)) (za 0 (pv 0)) (za 2 (pv 2)) (λa b c=>zfG zeR zeR a b c))))))
noncomputable def yL:SE->Ctl :=
 (xa (zB 3 zC (zc (zf 0) (zc (eC (.int 1)) (zc (eC (.int 8)) zt)))))
noncomputable def xG:List D->Option D:=fnD 1 yL
noncomputable def yg:List D->Option D
 | [d]=>if noS d=true then some (.bl (zY d 1 8))else none
 | _=>none
theorem Zi:∀ ds d,ds.length=1->yg ds=some d->xG ds=some d:=by
 intro ds d hl h
 obtain⟨a,rfl⟩:=zld hl
 have e:xG [a]=zC [a,.int 1,.int 8]:=by
  cases h2:zC [a,.int 1,.int 8] <;> simp[xG,yL,fnD,zO,xa,VR,sIf,xE,zb7,sNo,yc,zg0,Vm,zac,zhw,Ve,vEv,visF,visG,Sl.f,Sl.g,zf,eC,zk,V4,eOr,zfr,eIf,eUn,zg6,wP,wc,xi,zc,zt,zB,eFn,fFn,tOf,vh,ZL,xz,asB,asI,wt,Vl,xP,xj,wV,za3,Zw,ltD,leD,gtD,geD,zcL,yM,vV,wk,vF,zbt,yP,ixD,VN,vt,isT,eSl,XR,Ys,vN,wf,iOf,WK,wb,zg5,ZB,VQ,vR,XT,fLC,yz,yS,Xt,yX,zav,vn,zbm,b1,b2,h2]
 rw[e]
 exact h
theorem Zp (T:Txt K mg ad):xR P w K mg base CX0 3 ad.f_is_place_count ad.e_is_place_count ["thing"] (@spD ⟨K⟩ 1 yg):=by
 letI:KK:=⟨K⟩
 have G_is_whole_within:=wl (P:=P) (w:=w) (base:=base) T
 refine vy (yZ (N:=["thing"]) (ps:=["thing"]) T.d_is_place_count.fn Zo (g:=yL) λcdv A outer s H E hr=>?_) Zi
 unfold yL
 exact(zi (zx (zq (G_is_whole_within.mono (by decide)) hr rfl T.d_is_whole_within.at_ T.d_is_whole_within.kp T.d_is_whole_within.bd (zb (za 0 (pv 0)) (zb (zd ze) (zb (zd (ziN (v:=.int 8) rfl T.g_MOST_PLACES ⟨_,rfl⟩)) zh))))))
noncomputable def v8:SE->Ctl :=
 (xa (zB 3 zC (zc (zf 1) (zc (eC (.int 0)) (zc (zk Vl (zf 0) (eC (.int 1))) zt)))))
noncomputable def Zj:List D->Option D:=fnD 2 v8
noncomputable def yi:List D->Option D
 | [.int m,d]=>if noS d=true then some (.bl (zY d 0 (m - 1)))else none
 | _=>none
theorem zaA:∀ ds d,ds.length=2->yi ds=some d->Zj ds=some d:=by
 intro ds d hl h
 obtain⟨a,b,rfl⟩:=zhz hl
 cases a <;> try cases h
 rename_i m
 have e:Zj [.int m,b]=zC [b,.int 0,.int (m - 1)]:=by
  cases h2:zC [b,.int 0,.int (m - 1)] <;> simp[Zj,v8,fnD,zO,xa,VR,sIf,xE,zb7,sNo,yc,zg0,Vm,zac,zhw,Ve,vEv,visF,visG,Sl.f,Sl.g,zf,eC,zk,V4,eOr,zfr,eIf,eUn,zg6,wP,wc,xi,zc,zt,zB,eFn,fFn,tOf,vh,ZL,xz,asB,asI,wt,Vl,xP,xj,wV,za3,Zw,ltD,leD,gtD,geD,zcL,yM,vV,wk,vF,zbt,yP,ixD,VN,vt,isT,eSl,XR,Ys,vN,wf,iOf,WK,wb,zg5,ZB,VQ,vR,XT,fLC,yz,yS,Xt,yX,zav,vn,zbm,b1,b2,h2]
 rw[e]
 exact h
theorem Xo (T:Txt K mg ad):xR P w K mg base CX0 3 ad.f_is_place ad.e_is_place ["many","thing"] (@spD ⟨K⟩ 2 yi):=by
 letI:KK:=⟨K⟩
 have G_is_whole_within:=wl (P:=P) (w:=w) (base:=base) T
 refine vy (yZ (N:=["many","thing"]) (ps:=["many","thing"]) T.d_is_place.fn zbh (g:=v8) λcdv A outer s H E hr=>?_) zaA
 unfold v8
 exact(zi (zx (zq (G_is_whole_within.mono (by decide)) hr rfl T.d_is_whole_within.at_ T.d_is_whole_within.kp T.d_is_whole_within.bd (zb (za 1 (pv 1)) (zb (zd ze) (zb (Wa (za 0 (pv 0)) (zd ze)) zh))))))
theorem zaL {m i:Int}:zY (.int i) 0 (m - 1)=inR m i:=rfl
theorem zic {d:D}{lo hi:Int}(h:∀ i,d≠.int i):zY d lo hi=false:=by
 cases d <;> first | rfl | exact absurd rfl (h _)
theorem Vs {d:D}{lo hi:Int}(h:zY d lo hi=true):∃ i,d=.int i:=by
 cases d with
 | int i=>exact⟨i,rfl⟩
 | _=>cases h
noncomputable def Zd:SE->Ctl :=
 (zO (sIf (ZL (xz (tOf (eUn (vt .tuple) (zf 1)))) (tOf (zk neD (eFn VN (zc (zf 1) zt)) (eC (.int 2))))) (xa (eC (.bl false))) yc)
  (xa (V4 (zB 2 yi (zc (zf 0) (zc (zk ixD (zf 1) (eC (.int 0))) zt))) (V4 (zB 2 yi (zc (zf 0) (zc (zk ixD (zf 1) (eC (.int 1))) zt))) (zk neD (zk ixD (zf 1) (eC (.int 0))) (zk ixD (zf 1) (eC (.int 1))))))))
noncomputable def zdz:List D->Option D:=fnD 2 Zd
noncomputable def yk:List D->Option D
 | [.int m,d]=>if noS d=true then some (.bl (xM m d))else none
 | _=>none
theorem zfX {m:Int}{x y:D}(h:zY x 0 (m - 1)=false):xM m (.tup [x,y])=false:=by
 cases x with
 | int i =>
  cases y with
  | int j =>
   show(inR m i&&inR m j&&!decide (i=j))=false
   rw[show inR m i=false from h]
   rfl
  | _=>rfl
 | _=>rfl
theorem zgi {m:Int}{x y:D}(h:zY y 0 (m - 1)=false):xM m (.tup [x,y])=false:=by
 cases x with
 | int i =>
  cases y with
  | int j =>
   show(inR m i&&inR m j&&!decide (i=j))=false
   rw[show inR m j=false from h,Bool.and_false]
   rfl
  | _=>rfl
 | _=>rfl
theorem zcx:∀ ds d,ds.length=2->yk ds=some d->zdz ds=some d:=by
 intro ds d hl h
 obtain⟨a,b,rfl⟩:=zhz hl
 cases a <;> try cases h
 rename_i m
 obtain⟨hn,rfl⟩:=ifS h
 clear h
 cases b with
 | tup es =>
  refine zar (ρ:=[.v (.int m),.v (.tup es)]) rfl ?_
  unfold Zd
  by_cases hl:es.length=2
  .obtain⟨x,y,rfl⟩:=zhz hl
   have hx:noS x=true:=v5 (ds:=[x,y]) (i:=0) hn rfl
   have hy:noS y=true:=v5 (ds:=[x,y]) (i:=1) hn rfl
   have e0:yi [.int m,x]=some (.bl (zY x 0 (m - 1))):=by
    show(if noS x=true then some (D.bl (zY x 0 (m - 1)))else none)=_
    rw[if_pos hx]
   have e1:yi [.int m,y]=some (.bl (zY y 0 (m - 1))):=by
    show(if noS y=true then some (D.bl (zY y 0 (m - 1)))else none)=_
    rw[if_pos hy]
   refine zy (ρ':=[.v (.int m),.v (.tup [x,y])]) rfl (Yv (xq ?_) rfl)
   show(((yi [.int m,x]).bind asB).bind λc=>if c=true then (((yi [.int m,y]).bind asB).bind λc=>if c=true then neD x y else some (D.bl false))else some (D.bl false))=_
   rw[e0,e1]
   cases h1:zY x 0 (m - 1) with
   | false=>rw[zfX h1];rfl
   | true =>
    cases h2:zY y 0 (m - 1) with
    | false=>rw[zgi h2];rfl
    | true =>
     obtain⟨i,rfl⟩:=Vs h1
     obtain⟨j,rfl⟩:=Vs h2
     show some (D.bl (!decide (i=j)))=some (.bl (inR m i&&inR m j&&!decide (i=j)))
     rw[show inR m i=true from h1,show inR m j=true from h2]
     rfl
  .have e:xM m (.tup es)=false:=by
    unfold xM Yk
    split
    .rename_i t ht
     split at ht
     .rename_i e'
      injection e' with e'
      rw[e']at hl
      exact absurd rfl hl
     .cases ht
    .rfl
   rw[e]
   refine xT (XB (c:=true) ?_ (λ_=>Yv rfl rfl) λz=>by cases z)
   show some (!decide ((es.length:Int)=2))=_
   rw[decide_eq_false (show ¬ (es.length:Int)=2 from λh=>hl (Int.ofNat.inj h))]
   rfl
 | scr _=>cases hn
 | _=>rfl
theorem X8 (T:Txt K mg ad):xR P w K mg base CX0 4 ad.f_is_pair ad.e_is_pair ["many","thing"] (@spD ⟨K⟩ 2 yk):=by
 letI:KK:=⟨K⟩
 have G_is_place:=Xo (P:=P) (w:=w) (base:=base) T
 refine vy (yZ (N:=["many","thing"]) (ps:=["many","thing"]) T.d_is_pair.fn zcM (g:=Zd) λcdv A outer s H E hr=>?_) zcx
 unfold Zd
 exact(zg (yW (Vk (Yh (xC (xo (yG .tuple rfl T.z_isinstance (za 1 (pv 1)) (wv (v:=.ty "tuple") rfl T.z_tuple yB rfl)))) (wJ (zG zaW Z4 (zE _) (zS yo Yx rfl T.z_len Z0 (zb (za 1 (pv 1)) zh)) (zd ze))))) (zi (zx (we wd))) zD)
  (zi (zx (ZA (zq (G_is_place.mono (by decide)) hr rfl T.d_is_place.at_ T.d_is_place.kp T.d_is_place.bd (zb (za 0 (pv 0)) (zb (zw (za 1 (pv 1)) (zd ze) (λ_ _=>rfl)) zh))) (ZA (zq (G_is_place.mono (by decide)) hr rfl T.d_is_place.at_ T.d_is_place.kp T.d_is_place.bd (zb (za 0 (pv 0)) (zb (zw (za 1 (pv 1)) (zd ze) (λ_ _=>rfl)) zh))) (Xy (VI zaW Z4 (zE _) (zw (za 1 (pv 1)) (zd ze) (λ_ _=>rfl)) (zw (za 1 (pv 1)) (zd ze) (λ_ _=>rfl)))))))))
noncomputable def VD (ds:List D):Nat->Option Tie
 | 0=>none
 | k+1=>(ds[k]?).bind Yk
noncomputable def vJ:SE->Ctl :=
 (zO (sIf (ZL (xz (tOf (zB 2 yk (zc (zf 0) (zc (zf 3) zt))))) (tOf (zk gtD (zk ixD (zf 3) (eC (.int 0))) (zk ixD (zf 3) (eC (.int 1)))))) (xa (eC (.bl false))) yc)
  (sIf (vh (tOf (zk gtD (zf 2) (eC (.int 0)))) (tOf (zk leT (zf 3) (zk ixD (zf 1) (zk Vl (zf 2) (eC (.int 1))))))) (xa (eC (.bl false))) yc))
noncomputable def wG:SE->Ctl :=
 (zO (sIf (xz (tOf (eUn (vt .tuple) (zf 1)))) (xa (eC (.bl false))) yc)
  (zO (WK (vR (zc (zf 1) zt)) (zav 2 (vn (yX 2) (vn (yX 3) zbm))) vJ)
  (xa (eC (.bl true)))))
noncomputable def zcB:List D->Option D:=fnD 4 wG
noncomputable def wM:List D->Option D
 | [.int m,d]=>if noS d=true then some (.bl (v6 m d))else none
 | _=>none
theorem XQ {m:Int}{d:D}(h:xM m d=true):∃ t,d=zj t:=by
 unfold xM at h
 split at h
 .rename_i t ht
  exact⟨t,Xs ht⟩
 .cases h
theorem zbe:∀ ds d,ds.length=2->wM ds=some d->zcB ds=some d:=by
 intro ds d hl h
 obtain⟨a,b,rfl⟩:=zhz hl
 cases a <;> try cases h
 rename_i m
 obtain⟨hn,rfl⟩:=ifS h
 clear h hl
 cases b with
 | scr _=>cases hn
 | tup es =>
  refine zar (g:=wG) rfl ?_
  unfold wG
  refine zy rfl ?_
  refine xT (zaM (ds:=XX 0 es) (λi ρ=>∃ o1 o2,ρ=[.v (.int m),.v (.tup es),o1,o2]/\yb m none es=yb m (VD es i) (es.drop i)/\∀ k,i=k+1->∃ p,es[k]?=some (zj p)) rfl
   ⟨.no,.no,rfl,rfl,λk e=>by cases e⟩ ?_ ?_)
  .rintro i d ρ hd ⟨o1,o2,rfl,hp,hk⟩
   rw[Y7]at hd
   obtain⟨dx,hdx,rfl⟩:=Option.map_eq_some_iff.mp hd
   rw[Nat.zero_add]
   refine⟨_,rfl,?_⟩
   have hdrop:es.drop i=dx::es.drop (i+1):=by
    obtain⟨h1,h2⟩:=List.getElem?_eq_some_iff.mp hdx
    rw[List.drop_eq_getElem_cons h1,h2]
   have hnx:noS dx=true:=v5 hn hdx
   unfold vJ
   cases hpr:xM m dx with
   | false =>
    have e1:yk [.int m,dx]=some (.bl false):=by
     show(if noS dx=true then some (D.bl (xM m dx))else none)=_
     rw[if_pos hnx,hpr]
    refine xT (XB (c:=true) (show(((yk [.int m,dx]).bind asB).map (!·)).bind (λc=>if c=true then some true else _)=_ by rw[e1];rfl) (λ_=>Yv rfl ?_) (λz=>by cases z))
    have e:yb m none es=false:=by
     rw[hp,hdrop]
     unfold yb
     split
     .rw[hpr];rfl
     .rfl
    show D.bl false=.bl (yb m none es)
    rw[e]
   | true =>
    obtain⟨t,rfl⟩:=XQ hpr
    have e1:yk [.int m,zj t]=some (.bl true):=by
     show(if noS (zj t)=true then some (D.bl (xM m (zj t)))else none)=_
     rw[if_pos hnx,hpr]
    have step:yb m none es=(!decide (t.2 < t.1)&&VV (VD es i) t&&yb m (some t) (es.drop (i+1))):=by
     rw[hp,hdrop]
     conv=>lhs;unfold yb
     rw[vI,hpr]
     rfl
    have prevS:VD es (i+1)=some t:=by
     show(es[i]?).bind Yk=some t
     rw[hdx]
     rfl
    refine xT (XB (c:=decide (t.2 < t.1)) (show(((yk [.int m,zj t]).bind asB).map (!·)).bind (λc=>if c=true then some true else some (decide (t.2 < t.1)))=_ by rw[e1];rfl) (λc=>Yv rfl ?_) (λc=>YN rfl ?_))
    .show D.bl false=.bl (yb m none es)
     rw[step,c]
     rfl
    .cases i with
     | zero =>
      refine XB (c:=false) rfl (λz=>by cases z) (λ_=>YN rfl ?_)
      refine⟨_,_,rfl,?_,λk e=>?_⟩
      .rw[prevS,step,c]
       rfl
      .cases e
       exact⟨t,hdx⟩
     | succ j =>
      obtain⟨p,hpk⟩:=hk j rfl
      have prevK:VD es (j+1)=some p:=by
       show(es[j]?).bind Yk=some p
       rw[hpk]
       rfl
      rw[prevK]at step
      have ea:atI es ((((j+1:Nat):Int)) - 1)=some (zj p):=by
       rw[show(((j+1:Nat):Int)) - 1=(j:Nat)from Int.add_sub_cancel (j:Int) 1]
       exact zeG hpk
      have okP:VV (some p) t=!leP t p:=rfl
      refine XB (c:=leP t p) ?_ (λc2=>Yv rfl ?_) (λc2=>YN rfl ?_)
      .have z:decide ((0:Int) < ((j+1:Nat):Int))=true:=decide_eq_true (Int.natCast_pos.mpr (Nat.succ_pos j))
       show((some (decide ((0:Int) < ((j+1:Nat):Int)))).bind λc=>if c=true then (((atI es (((j+1:Nat):Int) - 1)).bind λy=>leT (zj t) y).bind asB)else some false)=_
       rw[z,ea]
       rfl
      .show D.bl false=.bl (yb m none es)
       rw[step,okP,c2,c]
       rfl
      .refine⟨_,_,rfl,?_,λk' e=>?_⟩
       .rw[prevS,step,okP,c2,c]
        rfl
       .cases e
        exact⟨t,hdx⟩
  .rintro ρ ⟨o1,o2,rfl,hp,hk⟩
   refine Yv rfl ?_
   show D.bl true=.bl (yb m none es)
   rw[hp,vS,List.drop_length]
   cases VD es es.length <;> rfl
 | _=>rfl
theorem zbi (T:Txt K mg ad):xR P w K mg base CX0 5 ad.f_are_ties ad.e_are_ties ["many","thing"] (@spD ⟨K⟩ 2 wM):=by
 letI:KK:=⟨K⟩
 have G_is_pair:=X8 (P:=P) (w:=w) (base:=base) T
 refine vy (yZ (N:=["many","thing","at","tie"]) (ps:=["many","thing"]) T.d_are_ties.fn YC (g:=wG) λcdv A outer s H E hr=>?_) zbe
 unfold wG vJ
 exact(zg (yW (xC (xo (yG .tuple rfl T.z_isinstance (za 1 (pv 1)) (wv (v:=.ty "tuple") rfl T.z_tuple yB rfl)))) (zi (zx (we wd))) zD)
  (zg (Xu PassesOwn.never rfl (zdq rfl T.z_enumerate Zy (zb (za 1 (pv 1)) zh)) (VM rfl (xw (zU (zr (i:=2) YC.nd rfl (Or.inl rfl))) (xw (zU (zr (i:=3) YC.nd rfl (Or.inl rfl))) Xx))) (zg (yW (Vk (Yh (xC (xo (zq (G_is_pair.mono (by decide)) hr rfl T.d_is_pair.at_ T.d_is_pair.kp T.d_is_pair.bd (zb (za 0 (pv 0)) (zb (za 3 (pv 3)) zh))))) (wJ (zG zel ye (zE _) (zw (za 3 (pv 3)) (zd ze) (λ_ _=>rfl)) (zw (za 3 (pv 3)) (zd ze) (λ_ _=>rfl)))))) (zi (zx (we wd))) zD)
  (zi (yW (Vk (Vo (zG zel ye (zE _) (za 2 (pv 2)) (zd ze)) (Xv (zG (zj3 hr.units0) zhL (zE _) (za 3 (pv 3)) (zw (za 1 (pv 1)) (Wa (za 2 (pv 2)) (zd ze)) (λ_ _=>rfl)))))) (zi (zx (we wd))) zD))))
  (zi (zx (we wd)))))
noncomputable def vY:SE->Ctl :=
 (zO (sIf (ZL (xz (tOf (eUn (vt .tuple) (zf 0)))) (tOf (zk neD (eFn VN (zc (zf 0) zt)) (eC (.int 2))))) (xa (eC (.bl false))) yc)
  (xa (V4 (zB 1 yg (zc (zk ixD (zf 0) (eC (.int 0))) zt)) (zB 2 wM (zc (zk ixD (zf 0) (eC (.int 0))) (zc (zk ixD (zf 0) (eC (.int 1))) zt))))))
noncomputable def ZY:List D->Option D:=fnD 1 vY
noncomputable def YU:List D->Option D
 | [d]=>if noS d=true then some (.bl (Ym d))else none
 | _=>none
theorem zdt {x y:D}:Ym (.tup [x,y])=(zY x 1 8&&match x with | .int m=>v6 m y | _=>false):=by
 cases x <;> rfl
theorem zdc:∀ ds d,ds.length=1->YU ds=some d->ZY ds=some d:=by
 intro ds d hl h
 obtain⟨a,rfl⟩:=zld hl
 obtain⟨hn,rfl⟩:=ifS h
 clear h hl
 cases a with
 | scr _=>cases hn
 | tup es =>
  by_cases hl:es.length=2
  .obtain⟨x,y,rfl⟩:=zhz hl
   have hx:noS x=true:=v5 (ds:=[x,y]) (i:=0) hn rfl
   have hy:noS y=true:=v5 (ds:=[x,y]) (i:=1) hn rfl
   have ec:yg [x]=some (.bl (zY x 1 8)):=by simp[yg,hx]
   rw[zdt]
   by_cases ix:∃ i,x=.int i
   .obtain⟨i,rfl⟩:=ix
    have et:wM [.int i,y]=some (.bl (v6 i y)):=by simp[wM,hy]
    cases hc:zY (.int i) 1 8 <;> rw[hc]at ec <;> simp[ZY,vY,fnD,zO,xa,VR,sIf,xE,zb7,sNo,yc,zg0,Vm,zac,zhw,Ve,vEv,visF,visG,Sl.f,Sl.g,zf,eC,zk,V4,eOr,zfr,eIf,eUn,zg6,wP,wc,xi,zc,zt,zB,eFn,fFn,tOf,vh,ZL,xz,asB,asI,wt,Vl,xP,xj,wV,za3,Zw,ltD,leD,gtD,geD,zcL,yM,vV,wk,vF,zbt,yP,ixD,VN,vt,isT,eSl,XR,Ys,vN,wf,iOf,WK,wb,zg5,ZB,VQ,vR,XT,fLC,yz,yS,Xt,yX,zav,vn,zbm,b1,b2,ec,et,atI,ixN]
   .have n2:zY x 1 8=false:=zic λj hj=>ix ⟨j,hj⟩
    rw[n2]at ec ⊢
    simp[ZY,vY,fnD,zO,xa,VR,sIf,xE,zb7,sNo,yc,zg0,Vm,zac,zhw,Ve,vEv,visF,visG,Sl.f,Sl.g,zf,eC,zk,V4,eOr,zfr,eIf,eUn,zg6,wP,wc,xi,zc,zt,zB,eFn,fFn,tOf,vh,ZL,xz,asB,asI,wt,Vl,xP,xj,wV,za3,Zw,ltD,leD,gtD,geD,zcL,yM,vV,wk,vF,zbt,yP,ixD,VN,vt,isT,eSl,XR,Ys,vN,wf,iOf,WK,wb,zg5,ZB,VQ,vR,XT,fLC,yz,yS,Xt,yX,zav,vn,zbm,b1,b2,ec,atI,ixN]
  .have e:Ym (.tup es)=false:=zh8 λm ties h _=>by
    unfold zF at h
    injection h with h
    rw[h]at hl
    exact hl rfl
   rw[e]
   have:¬ (es.length:Int)=2:=by omega
   simp[ZY,vY,fnD,zO,xa,VR,sIf,xE,zb7,sNo,yc,zg0,Vm,zac,zhw,Ve,vEv,visF,visG,Sl.f,Sl.g,zf,eC,zk,V4,eOr,zfr,eIf,eUn,zg6,wP,wc,xi,zc,zt,zB,eFn,fFn,tOf,vh,ZL,xz,asB,asI,wt,Vl,xP,xj,wV,za3,Zw,ltD,leD,gtD,geD,zcL,yM,vV,wk,vF,zbt,yP,ixD,VN,vt,isT,eSl,XR,Ys,vN,wf,iOf,WK,wb,zg5,ZB,VQ,vR,XT,fLC,yz,yS,Xt,yX,zav,vn,zbm,b1,b2,this]
 | _=>rfl
theorem zfc (T:Txt K mg ad):xR P w K mg base CX0 6 ad.f_is_web ad.e_is_web ["thing"] (@spD ⟨K⟩ 1 YU):=by
 letI:KK:=⟨K⟩
 have G_is_place_count:=Zp (P:=P) (w:=w) (base:=base) T
 have G_are_ties:=zbi (P:=P) (w:=w) (base:=base) T
 refine vy (yZ (N:=["thing"]) (ps:=["thing"]) T.d_is_web.fn zeC (g:=vY) λcdv A outer s H E hr=>?_) zdc
 unfold vY
 exact(zg (yW (Vk (Yh (xC (xo (yG .tuple rfl T.z_isinstance (za 0 (pv 0)) (wv (v:=.ty "tuple") rfl T.z_tuple yB rfl)))) (wJ (zG zaW Z4 (zE _) (zS yo Yx rfl T.z_len Z0 (zb (za 0 (pv 0)) zh)) (zd ze))))) (zi (zx (we wd))) zD)
  (zi (zx (ZA (zq (G_is_place_count.mono (by decide)) hr rfl T.d_is_place_count.at_ T.d_is_place_count.kp T.d_is_place_count.bd (zb (zw (za 0 (pv 0)) (zd ze) (λ_ _=>rfl)) zh)) (Xy (zq (G_are_ties.mono (by decide)) hr rfl T.d_are_ties.at_ T.d_are_ties.kp T.d_are_ties.bd (zb (zw (za 0 (pv 0)) (zd ze) (λ_ _=>rfl)) (zb (zw (za 0 (pv 0)) (zd ze) (λ_ _=>rfl)) zh))))))))
theorem zja (m:Int)(ts:List Tie):noS (zF m ts)=true:=by
 have:∀ ts:List Tie,zg2 (ts.map zj)=true:=by
  intro ts
  induction ts with
  | nil=>rfl
  | cons t ts ih=>show(noS (zj t)&&zg2 (ts.map zj))=true;rw[ih];rfl
 show(noS (.int m)&&(noS (.tup (ts.map zj))&&true))=true
 rw[show noS (.tup (ts.map zj))=zg2 (ts.map zj)from rfl,this ts]
 rfl
noncomputable def xO:SE->Ctl :=
 (sIf (xz (tOf (zB 1 YU (zc (zf 0) zt)))) sNo yc)
noncomputable def Y4:List D->Option D:=fnD 1 xO
noncomputable def y8:List D->Option D
 | [d]=>if Ym d=true then some .non else none
 | _=>none
theorem XY:∀ ds d,ds.length=1->y8 ds=some d->Y4 ds=some d:=by
 intro ds d hl h
 obtain⟨a,rfl⟩:=zld hl
 obtain⟨hw,rfl⟩:=ifS h
 obtain⟨m,ts,rfl,_⟩:=(Zg a).mp hw
 have e:YU [zF m ts]=some (.bl true):=by simp[YU,zja m ts,hw]
 simp[Y4,xO,fnD,zO,xa,VR,sIf,xE,zb7,sNo,yc,zg0,Vm,zac,zhw,Ve,vEv,visF,visG,Sl.f,Sl.g,zf,eC,zk,V4,eOr,zfr,eIf,eUn,zg6,wP,wc,xi,zc,zt,zB,eFn,fFn,tOf,vh,ZL,xz,asB,asI,wt,Vl,xP,xj,wV,za3,Zw,ltD,leD,gtD,geD,zcL,yM,vV,wk,vF,zbt,yP,ixD,VN,vt,isT,eSl,XR,Ys,vN,wf,iOf,WK,wb,zg5,ZB,VQ,vR,XT,fLC,yz,yS,Xt,yX,zav,vn,zbm,b1,b2,e]
theorem X7 (T:Txt K mg ad):xR P w K mg base CX0 7 ad.f_must_be_web ad.e_must_be_web ["thing"] (@spD ⟨K⟩ 1 y8):=by
 letI:KK:=⟨K⟩
 have G_is_web:=zfc (P:=P) (w:=w) (base:=base) T
 refine vy (yZ (N:=["thing"]) (ps:=["thing"]) T.d_must_be_web.fn X1 (g:=xO) λcdv A outer s H E hr=>?_) XY
 unfold xO
 exact(zi (yW (xC (xo (zq (G_is_web.mono (by decide)) hr rfl T.d_is_web.at_ T.d_is_web.kp T.d_is_web.bd (zb (za 0 (pv 0)) zh)))) (zi zbs) zD))
noncomputable def zil:D->Bool
 | .int i=>decide (0<=i)
 | _=>false
noncomputable def zkh (m:Int):D->Bool
 | .tup ds=>decide ((ds.length:Int)=m)&&ds.all zil
 | _=>false
theorem zbR {m:Int}{ts:List Tie}(h:yy m ts):ZB [.int m]=some (ZN 0 m.toNat):=by
 have:=h.lo
 have:=h.hi
 show(if zc2 m=true then some (ZN 0 m.toNat)else none)=_
 rw[if_pos (yr.mpr ⟨by omega,by omega⟩)]
noncomputable def Ya (a b:Int):Tie:=(if b < a then b else a,if b > a then b else a)
noncomputable def y9:SE->Ctl :=
 (sIf (xz (tOf (zB 2 yi (zc (zk ixD (zf 0) (eC (.int 0))) (zc (zf 1) zt))))) sNo yc)
noncomputable def vz:List D->Option D:=fnD 2 y9
noncomputable def yp:List D->Option D
 | [.tup [.int m,_],.int p]=>if (decide (0<=p)&&decide (p<=m - 1))=true then some .non else none
 | _=>none
theorem ZG:∀ ds d,ds.length=2->yp ds=some d->vz ds=some d:=by
 intro ds d hl h
 obtain⟨a,b,rfl⟩:=zhz hl
 unfold yp at h
 split at h
 .rename_i m t p' e
  injection e with e1 e2
  injection e2 with e2 _
  subst e1 e2
  obtain⟨hn,rfl⟩:=ifS h
  have ec:yi [.int m,.int p']=some (.bl true):=by
   show(if noS (.int p')=true then some (D.bl (zY (.int p') 0 (m - 1)))else none)=_
   rw[if_pos (show noS (.int p')=true from rfl),zaL]
   unfold inR
   rw[hn]
  simp[vz,y9,fnD,zO,xa,VR,sIf,xE,zb7,sNo,yc,zg0,Vm,zac,zhw,Ve,vEv,visF,visG,Sl.f,Sl.g,zf,eC,zk,V4,eOr,zfr,eIf,eUn,zg6,wP,wc,xi,zc,zt,zB,eFn,fFn,tOf,vh,ZL,xz,asB,asI,wt,Vl,xP,xj,wV,za3,Zw,ltD,leD,gtD,geD,zcL,yM,vV,wk,vF,zbt,yP,ixD,VN,vt,isT,eSl,XR,Ys,vN,wf,iOf,WK,wb,zg5,ZB,VQ,vR,XT,fLC,yz,yS,Xt,yX,zav,vn,zbm,b1,b2,ec,atI,ixN]
 .cases h
theorem ZE (T:Txt K mg ad):xR P w K mg base CX0 4 ad.f_must_be_place ad.e_must_be_place ["web","thing"] (@spD ⟨K⟩ 2 yp):=by
 letI:KK:=⟨K⟩
 have G_is_place:=Xo (P:=P) (w:=w) (base:=base) T
 refine vy (yZ (N:=["web","thing"]) (ps:=["web","thing"]) T.d_must_be_place.fn ZK (g:=y9) λcdv A outer s H E hr=>?_) ZG
 unfold y9
 exact(zi (yW (xC (xo (zq (G_is_place.mono (by decide)) hr rfl T.d_is_place.at_ T.d_is_place.kp T.d_is_place.bd (zb (zw (za 0 (pv 0)) (zd ze) (λ_ _=>rfl)) (zb (za 1 (pv 1)) zh))))) (zi zbs) zD))
theorem zcz {m:Int}{ts:List Tie}{p:Int}(hp:0<=p/\p < m):yp [zF m ts,.int p]=some .non:=by
 show(if (decide (0<=p)&&decide (p<=m - 1))=true then some D.non else none)=_
 rw[decide_eq_true hp.1,decide_eq_true (by omega)]
 rfl
noncomputable def vg:SE->Ctl :=
 (xa (wP (zc (eFn zkv (zc (zf 0) (zc (zf 1) zt))) (zc (eFn zjK (zc (zf 0) (zc (zf 1) zt))) zt))))
noncomputable def WX:List D->Option D:=fnD 2 vg
noncomputable def yE:List D->Option D
 | [.int a,.int b]=>some (zj (Ya a b))
 | _=>none
theorem XV:∀ ds d,ds.length=2->yE ds=some d->WX ds=some d:=by
 intro ds d hl h
 obtain⟨a,b,rfl⟩:=zhz hl
 cases a <;> try cases h
 cases b <;> try cases h
 rfl
theorem X3 (T:Txt K mg ad):xR P w K mg base CX0 1 ad.f_tie_between ad.e_tie_between ["one","other"] (@spD ⟨K⟩ 2 yE):=by
 letI:KK:=⟨K⟩
 refine vy (yZ (N:=["one","other"]) (ps:=["one","other"]) T.d_tie_between.fn XU (g:=vg) λcdv A outer s H E hr=>?_) XV
 unfold vg
 exact(zi (zx (yh (zb (zS (zd7 rfl) zgj rfl T.z_min zhA (zb (za 0 (pv 0)) (zb (za 1 (pv 1)) zh))) (zb (zS (zeu rfl) zga rfl T.z_max zbx (zb (za 0 (pv 0)) (zb (za 1 (pv 1)) zh))) zh)))))
theorem zew (ts:List Tie):(ts.map zj).all (okE 20)=true:=by
 rw[List.all_map,List.all_eq_true]
 exact λt _=>rfl
theorem zb3 (s t:Tie):eqN 20 (zj s) (zj t)=decide (s=t):=by
 have:eqN 20 (zj s) (zj t)=((s.1 == t.1)&&((s.2 == t.2)&&true)&&true):=rfl
 rw[this,Bool.and_true,Bool.and_true]
 by_cases h:s=t
 .subst h
  simp
 .rw[decide_eq_false h,Bool.and_eq_false_iff]
  by_cases h1:s.1=t.1
  .exact .inr (beq_eq_false_iff_ne.mpr λh2=>h (Prod.ext h1 h2))
  .exact .inl (beq_eq_false_iff_ne.mpr h1)
theorem zgG (t:Tie)(ts:List Tie):inD (zj t) (.tup (ts.map zj))=some (.bl (decide (t∈ts))):=by
 show(zkP (zj t) (ts.map zj)).map D.bl=_
 unfold zkP
 rw[if_pos ⟨rfl,zew ts⟩]
 show some (D.bl ((ts.map zj).any λe=>eqN 20 e (zj t)))=_
 rw[List.any_map]
 congr 2
 rw[Bool.eq_iff_iff,List.any_eq_true,decide_eq_true_eq]
 constructor
 .rintro⟨s,hs,h⟩
  have h:eqN 20 (zj s) (zj t)=true:=h
  rw[zb3,decide_eq_true_eq]at h
  subst h
  exact hs
 .exact λh=>⟨t,h,by show eqN 20 (zj t) (zj t)=true;rw[zb3];exact decide_eq_true rfl⟩
noncomputable def nbN (m:Int)(ts:List Tie)(p:Int):List Nat:=(List.range m.toNat).filter λk:Nat=>decide (Ya p k∈ts)
noncomputable def zd1 (m:Int)(ts:List Tie)(i:Nat):List Tie:=(List.range i).flatMap λk:Nat=>(nbN m ts k).map λo:Nat=>((0:Int)+(k:Int),(0:Int)+(o:Int))
noncomputable def xn (m:Int)(ts:List Tie):List Tie:=zd1 m ts m.toNat
noncomputable def vAt (ns:List Int)(i:Int):Int:=ns.getD i.toNat 0
theorem Yb {ns:List Int}{i:Int}(h0:0<=i)(h1:i < ns.length):atI (ns.map D.int) i=some (.int (vAt ns i)):=by
 unfold vAt
 obtain⟨k,hk⟩:∃ k:Nat,i=k:=⟨i.toNat,by omega⟩
 subst hk
 refine zeG ?_
 rw[Int.toNat_natCast,List.getElem?_map,List.getElem?_eq_getElem (by omega),List.getD_eq_getElem?_getD,List.getElem?_eq_getElem (by omega)]
 rfl
theorem Zt {m:Int}{ts:List Tie}{s:Tie}:s∈xn m ts↔(0<=s.1/\s.1 < m)/\(0<=s.2/\s.2 < m)/\Ya s.1 s.2∈ts:=by
 unfold xn zd1 nbN
 rw[List.mem_flatMap]
 constructor
 .rintro⟨k,hk,h⟩
  obtain⟨o,ho,rfl⟩:=List.mem_map.mp h
  rw[List.mem_filter,List.mem_range,decide_eq_true_eq]at ho
  rw[List.mem_range]at hk
  simp only[Int.zero_add]
  exact⟨⟨by(clear h ho hk;omega),by(clear h ho;omega)⟩,⟨by(clear h ho hk;omega),by omega⟩,ho.2⟩
 .rintro⟨⟨a1,a2⟩,⟨b1,b2⟩,h⟩
  refine⟨s.1.toNat,List.mem_range.mpr (by(clear b2 b1 h;omega)),List.mem_map.mpr ⟨s.2.toNat,?_,?_⟩⟩
  .rw[List.mem_filter,List.mem_range,decide_eq_true_eq]
   refine⟨by omega,?_⟩
   rw[show((s.1.toNat:Nat):Int)=s.1 by(clear b2 b1 h a2;omega),show((s.2.toNat:Nat):Int)=s.2 by omega]
   exact h
  .exact Prod.ext (by show(0:Int)+(s.1.toNat:Int)=s.1;(clear b2 b1 h a2;omega)) (by show(0:Int)+(s.2.toNat:Int)=s.2;omega)
end
theorem zf8 {m:Nat}{g:SE->Ctl}{ds:List D}{R:D->Prop}{ρ:SE}(e:ds.map .v++List.replicate (m - ds.length) .no=ρ)(q:(g ρ).w (λ_=>R .non) noP noP R):∃ d,fnD m g ds=some d/\R d:=by
 unfold fnD
 rw[e]
 cases hg:g ρ with
 | nx ρ'=>rw[hg]at q;exact⟨_,rfl,q.nxi⟩
 | rt d'=>rw[hg]at q;exact⟨_,rfl,q.rti⟩
 | bk _=>rw[hg]at q;exact q.bki.elim
 | ct _=>rw[hg]at q;exact q.cti.elim
 | no=>rw[hg]at q;exact q.noi.elim
section
variable {P:Program}{w:World}{K:PySem.W.Frag}{mg:Str->Option Value}{base:Heap}{ad:Adr}
noncomputable def wW:SE->Ctl :=
 (zO (xE false 2 (zk wV (zk xP (zk xF (zk xF (zk wV (zf 0) (eC (.int 2147483647))) (zk xP (eC (.int 977)) (zf 1))) (eC (.int 1))) (eC (.int 48271))) (eC (.int 2147483647))))
  (zO (xE false 2 (zk wV (zk xP (zf 2) (zf 2)) (eC (.int 2147483629))))
  (zO (xE false 2 (zk wV (zk xP (zk xF (zf 2) (zk xP (eC (.int 40692)) (zk xF (zf 1) (eC (.int 3))))) (eC (.int 69621))) (eC (.int 2147483647))))
  (xa (zk xj (zf 2) (eC (.int 8)))))))
noncomputable def zaX:List D->Option D:=fnD 3 wW
noncomputable def zX:List D->Option D
 | [.int c,.int k]=>some (.int (zcR c k))
 | _=>none
theorem Zs {i j:Int}(h1:-(2 ^ 64) < i)(h2:i < 2 ^ 64):Yn i j=true:=decide_eq_true (.inl ⟨h1,h2⟩)
theorem zaG {i j:Int}(h1:-(2 ^ 64) < j)(h2:j < 2 ^ 64):Yn i j=true:=decide_eq_true (.inr ⟨h1,h2⟩)
theorem vf {i j:Int}(h:Yn i j=true):xP (.int i) (.int j)=some (.int (i*j)):=by
 show(if Yn i j=true then _ else none)=_
 rw[if_pos h]
theorem y3 {i j:Int}(h:0 < j):wV (.int i) (.int j)=some (.int (i % j)):=by
 show(if decide (0 < j)=true then _ else none)=_
 rw[if_pos (decide_eq_true h)]
theorem v4 {i j:Int}(h:0 < j)(h2:j < 1606938044258990275541962092341162602522202993782792835301376):xj (.int i) (.int j)=some (.int (i / j)):=by
 show(if decide (0 < j/\j < 1606938044258990275541962092341162602522202993782792835301376)=true then _ else none)=_
 rw[if_pos (decide_eq_true ⟨h,h2⟩)]
theorem zag:∀ ds d,ds.length=2->zX ds=some d->zaX ds=some d:=by
 intro ds d hl h
 obtain⟨a,b,rfl⟩:=zhz hl
 cases a <;> try cases h
 cases b <;> try cases h
 rename_i c k
 have h1:=Int.emod_nonneg ((c % 2147483647+977*k+1)*48271) (show(2147483647:Int)≠0 by decide)
 have h2:=Int.emod_lt_of_pos ((c % 2147483647+977*k+1)*48271) (show(0:Int) < 2147483647 by decide)
 have m1:Yn 977 k=true:=Zs (by decide) (by decide)
 have m2:Yn (c % 2147483647+977*k+1) 48271=true:=zaG (by decide) (by decide)
 obtain⟨x,hx⟩:∃ x,(c % 2147483647+977*k+1)*48271 % 2147483647=x:=⟨_,rfl⟩
 rw[hx]at h1 h2
 have m3:Yn x x=true:=Zs (Int.lt_of_lt_of_le (by decide) h1) (Int.lt_trans h2 (by decide))
 have m4:Yn 40692 (k+3)=true:=Zs (by decide) (by decide)
 have m5:∀ x,Yn x 69621=true:=λx=>zaG (by decide) (by decide)
 obtain⟨y,hy⟩:∃ y,x*x % 2147483629=y:=⟨_,rfl⟩
 obtain⟨z,hz⟩:∃ z,(y+40692*(k+3))*69621 % 2147483647=z:=⟨_,rfl⟩
 have hst:zcR c k=z / 8:=by
  show((((c % 2147483647+977*k+1)*48271 % 2147483647)*((c % 2147483647+977*k+1)*48271 % 2147483647) % 2147483629+40692*(k+3))*69621 % 2147483647 / 8)=_
  rw[hx,hy,hz]
 rw[hst]
 refine zar (ρ:=[.v (.int c),.v (.int k),.no]) rfl ?_
 unfold wW
 refine zy (ρ':=[.v (.int c),.v (.int k),.v (.int x)]) (ym ?_) ?_
 .show(((((wV (.int c) (.int 2147483647)).bind λa=>(xP (.int 977) (.int k)).bind λb=>xF a b).bind λa=>xF a (.int 1)).bind λa=>xP a (.int 48271)).bind λa=>wV a (.int 2147483647))=_
  rw[y3 (by decide),vf m1]
  show((xP (.int (c % 2147483647+977*k+1)) (.int 48271)).bind λa=>wV a (.int 2147483647))=_
  rw[vf m2,<- hx]
  exact y3 (by decide)
 refine zy (ρ':=[.v (.int c),.v (.int k),.v (.int y)]) (ym ?_) ?_
 .show((xP (.int x) (.int x)).bind λa=>wV a (.int 2147483629))=_
  rw[vf m3,<- hy]
  exact y3 (by decide)
 refine zy (ρ':=[.v (.int c),.v (.int k),.v (.int z)]) (ym ?_) ?_
 .show((((xP (.int 40692) (.int (k+3))).bind λb=>xF (.int y) b).bind λa=>xP a (.int 69621)).bind λa=>wV a (.int 2147483647))=_
  rw[vf m4]
  show((xP (.int (y+40692*(k+3))) (.int 69621)).bind λa=>wV a (.int 2147483647))=_
  rw[vf (m5 _),<- hz]
  exact y3 (by decide)
 exact Yv (xq (show xj (.int z) (.int 8)=_ from v4 (by decide) (by decide))) rfl
theorem vX (T:Txt K mg ad):xR P w K mg base CX0 1 ad.f__law_stir ad.e__law_stir ["cell","k"] (@spD ⟨K⟩ 2 zX):=by
 letI:KK:=⟨K⟩
 refine vy (yZ (N:=["cell","k","number"]) (ps:=["cell","k"]) T.d__law_stir.fn wu (g:=wW) λcdv A outer s H E hr=>?_) zag
 unfold wW
 exact(zg (zL (m:=false) (i:=2) wu.nd rfl (Or.inl rfl) (wa (wo (zV (zV (wa (za 0 (pv 0)) (zd ze)) (wo (zd ze) (za 1 (pv 1)))) (zd ze)) (zd ze)) (zd ze)))
  (zg (zL (m:=false) (i:=2) wu.nd rfl (Or.inl rfl) (wa (wo (za 2 (pv 2)) (za 2 (pv 2))) (zd ze)))
  (zg (zL (m:=false) (i:=2) wu.nd rfl (Or.inl rfl) (wa (wo (zV (za 2 (pv 2)) (wo (zd ze) (zV (za 1 (pv 1)) (zd ze)))) (zd ze)) (zd ze)))
  (zi (zx (wC (za 2 (pv 2)) (zd ze)))))))
theorem zcS {i j:Int}(h1:0<=i)(h2:i<=1000)(h3:0<=j)(h4:j<=1000):VQ [.int i,.int j]=some (ZN i (j - i).toNat):=by
 show(if zc2 i=true/\zc2 j=true then some (ZN i (j - i).toNat)else none)=_
 rw[if_pos ⟨yr.mpr ⟨by(clear h4 h3 h2;omega),by(clear h4 h3;omega)⟩,yr.mpr ⟨by omega,by omega⟩⟩]
theorem Wf {j:Int}(h3:0<=j)(h4:j<=1000000):ZB [.int j]=some (ZN 0 j.toNat):=by
 show(if zc2 j=true then some (ZN 0 j.toNat)else none)=_
 rw[if_pos (yr.mpr ⟨by omega,by omega⟩)]
theorem zcX {ts:List Tie}(h:ts.length < 64):za5 [.lst (ts.map zj)]=some ((XZ ts).map zj):=by
 show(if (ts.map zj).length < 64 then _ else none)=_
 rw[if_pos (by rw[List.length_map];exact h),show ts.map zj=ts.map prD from rfl,ze4]
 rfl
theorem zjq {a k:Int}(h:0<=k):zjh (.int a) (.int k)=some (.int (a / 2 ^ k.toNat)):=by
 show(if decide (0<=k)=true then some (D.int (a / 2 ^ k.toNat))else none)=_
 rw[if_pos (decide_eq_true h)]
noncomputable def xb:SE->Ctl :=
 (zO (xE false 9 (zk wV (zk zjh (zk xj (zf 4) (eC (.int 2))) (zk xF (zk xj (zk xP (zf 6) (zk Vl (zf 6) (eC (.int 1)))) (eC (.int 2))) (zf 8))) (eC (.int 2))))
  (zO (sIf (tOf (zk WN (zk wV (zf 4) (eC (.int 2))) (eC (.int 1)))) (xE false 9 (zk xj (zk wV (zB 2 zX (zc (zf 0) (zc (zk xF (zk xP (eC (.int 8)) (zf 8)) (zf 6)) zt))) (eC (.int 3))) (eC (.int 2)))) yc)
  (sIf (ZL (tOf (zk WN (zf 9) (eC (.int 1)))) (vh (tOf (zf 2)) (tOf (zk WN (zf 8) (zf 7))))) (zac false 5 (wP (zc (zf 8) (zc (zf 6) zt)))) yc)))
noncomputable def xW:SE->Ctl :=
 (zO (xE false 7 (zk wV (zB 2 zX (zc (zf 0) (zc (zk xF (eC (.int 100)) (zf 6)) zt))) (zf 6)))
  (wb ZB (zc (zf 6) zt) (yX 8) xb))
noncomputable def xk:SE->Ctl :=
 (zO (xE false 3 (zk xF (eC (.int 1)) (zk wV (zf 0) (zf 1))))
  (zO (xE false 4 (zk xj (zf 0) (zf 1)))
  (zO (Vm 5 (xi zt))
  (zO (wb VQ (zc (eC (.int 1)) (zc (zf 3) zt)) (yX 6) xW)
  (sFz 5 (xa (wP (zc (zf 3) (zc (eFn yS (zc (wc (fFn za5 (zc (zf 5) zt))) zt)) zt)))))))))
noncomputable def wZ:List D->Option D:=fnD 10 xk
theorem zlO {c mo m lf x inn y:Int}{jo:Bool}{us:List Tie}{o9:Sl}{N B C:SE->Prop}{R:D->Prop}(hx0:0 < x)(hx8:x<=8)(hy0:0<=y)(hul:(us.map zj).length<=1000)
 (q1:¬ (jo=true/\y=inn)->∀ o9,N [.v (.int c),.v (.int mo),.v (.bl jo),.v (.int m),.v (.int lf),.o (us.map zj),.v (.int x),.v (.int inn),.v (.int y),o9])
 (q2:∀ o9,N [.v (.int c),.v (.int mo),.v (.bl jo),.v (.int m),.v (.int lf),.o ((us++[(y,x)]).map zj),.v (.int x),.v (.int inn),.v (.int y),o9]) :
 (xb [.v (.int c),.v (.int mo),.v (.bl jo),.v (.int m),.v (.int lf),.o (us.map zj),.v (.int x),.v (.int inn),.v (.int y),o9]).w N B C R:=by
 unfold xb
 rw[List.map_append]at q2
 have m1:Yn x (x - 1)=true:=Zs (Int.lt_trans (by decide) hx0) (Int.lt_of_le_of_lt hx8 (by decide))
 have m2:Yn 8 y=true:=Zs (by decide) (by decide)
 have hsh:0<=x*(x - 1) / 2+y:=Int.add_nonneg (Int.ediv_nonneg (Int.mul_nonneg (Int.le_of_lt hx0) (Int.sub_nonneg_of_le hx0)) (by decide)) hy0
 refine zy (ρ':=[.v (.int c),.v (.int mo),.v (.bl jo),.v (.int m),.v (.int lf),.o (us.map zj),.v (.int x),.v (.int inn),.v (.int y),.v (.int (lf / 2 / 2 ^ (x*(x - 1) / 2+y).toNat % 2))]) (ym ?_) ?_
 .show(((xj (.int lf) (.int 2)).bind λa=>(((xP (.int x) (.int (x - 1))).bind λp=>xj p (.int 2)).bind λq=>xF q (.int y)).bind λb=>zjh a b).bind λr=>wV r (.int 2))=_
  rw[v4 (by decide) (by decide),vf m1]
  show(((xj (.int (x*(x - 1))) (.int 2)).bind λq=>xF q (.int y)).bind λb=>zjh (.int (lf / 2)) b).bind (λr=>wV r (.int 2))=_
  rw[v4 (by decide) (by decide)]
  show(zjh (.int (lf / 2)) (.int (x*(x - 1) / 2+y))).bind (λr=>wV r (.int 2))=_
  rw[zjq hsh]
  exact y3 (by decide)
 refine zkD (fun ρ=>∃ dr:Int,ρ=[.v (.int c),.v (.int mo),.v (.bl jo),.v (.int m),.v (.int lf),.o (us.map zj),.v (.int x),.v (.int inn),.v (.int y),.v (.int dr)]) ?_ ?_
 .refine XB (c:=decide (lf % 2=1)) (show(((wV (.int lf) (.int 2)).bind λr=>WN r (.int 1)).bind asB)=_ by rw[y3 (by decide)];rfl) (λ_=>YN (ρ':=[.v (.int c),.v (.int mo),.v (.bl jo),.v (.int m),.v (.int lf),.o (us.map zj),.v (.int x),.v (.int inn),.v (.int y),.v (.int (zcR c (8*y+x) % 3 / 2))]) (ym ?_) ⟨_,rfl⟩) (λ_=>YN rfl ⟨_,rfl⟩)
  show((((((xP (.int 8) (.int y)).bind λp=>xF p (.int x)).bind λd=>(some ([]:List D)).map (d::·)).map (D.int c::·)).bind (λds=>if ds.length=2 then zX ds else none)).bind λr=>wV r (.int 3)).bind (λr=>xj r (.int 2))=_
  rw[vf m2]
  show(wV (.int (zcR c (8*y+x))) (.int 3)).bind (λr=>xj r (.int 2))=_
  rw[y3 (by decide)]
  exact v4 (by decide) (by decide)
 .rintro ρ ⟨dr,rfl⟩
  refine XB (c:=decide (dr=1)||(jo&&decide (y=inn))) ?_ (λ_=>YN (zhI (ds:=us.map zj) (d:=.tup [.int y,.int x]) rfl rfl hul) (q2 _)) (λcc=>YN rfl (q1 (λz=>by rw[z.1,decide_eq_true z.2,Bool.and_true,Bool.or_true]at cc;cases cc) _))
  show((some (decide (dr=1))).bind λc=>if c=true then some true else ((some jo).bind λc=>if c=true then some (decide (y=inn))else some false))=_
  cases decide (dr=1) <;> cases jo <;> rfl
theorem zc0 {c mo:Int}{jo:Bool}(h1:1<=mo)(h8:mo<=8):∃ ts,wZ [.int c,.int mo,.bl jo]=some (zF (1+c % mo) ts)/\yy (1+c % mo) ts/\ts.length<=28/\(jo=true->∀ b:Nat,1<=b->(b:Int) < 1+c % mo->∃ a:Int,0<=a/\a < b/\(a,(b:Int))∈ts):=by
 have g1:0<=c % mo:=Int.emod_nonneg _ (by omega)
 have g2:c % mo < mo:=Int.emod_lt_of_pos _ (by omega)
 obtain⟨n,hn⟩:∃ n:Nat,(c % mo)=(n:Int):=⟨(c % mo).toNat,by omega⟩
 obtain⟨m,hm⟩:∃ m:Int,1+c % mo=m:=⟨_,rfl⟩
 obtain⟨lf,hlf⟩:∃ lf:Int,c / mo=lf:=⟨_,rfl⟩
 rw[hm]
 have key:=zf8 (m:=10) (g:=xk) (ds:=[.int c,.int mo,.bl jo]) (R:=λd=>∃ ts:List Tie,d=zF m (XZ ts)/\ts.Sublist (Zk n)/\(jo=true->∀ b:Nat,1<=b->b<=n->∃ a:Int,0<=a/\a < b/\(a,(b:Int))∈ts)) (ρ:=[.v (.int c),.v (.int mo),.v (.bl jo),.no,.no,.no,.no,.no,.no,.no]) rfl ?_
 .obtain⟨d,e,ts,rfl,hs,hj⟩:=key
  have hlen:ts.length<=28:=Nat.le_trans hs.length_le (ZU n (by omega)).2.2
  refine⟨_,e,?_,by rw[(v7 ts).length_eq];exact hlen,λq b h1 h2=>?_⟩
  .have:=za1 (by omega) hs
   rwa[show(1:Int)+(n:Int)=m by omega]at this
  .obtain⟨a,a0,a1,a2⟩:=hj q b h1 (by omega)
   exact⟨a,a0,a1,(v7 ts).mem_iff.mpr a2⟩
 unfold xk
 have hn7:n<=7:=by omega
 have hmp:(0:Int) < mo:=by omega
 have hmq:mo < 1606938044258990275541962092341162602522202993782792835301376:=by omega
 refine zy (ρ':=[.v (.int c),.v (.int mo),.v (.bl jo),.v (.int m),.no,.no,.no,.no,.no,.no]) (ym (show((wV (.int c) (.int mo)).bind λx=>xF (.int 1) x)=some (.int m) by rw[y3 hmp,<- hm];rfl)) ?_
 refine zy (ρ':=[.v (.int c),.v (.int mo),.v (.bl jo),.v (.int m),.v (.int lf),.no,.no,.no,.no,.no]) (ym (show xj (.int c) (.int mo)=some (.int lf) by rw[v4 hmp hmq,hlf])) ?_
 refine zy (ρ':=[.v (.int c),.v (.int mo),.v (.bl jo),.v (.int m),.v (.int lf),.o [],.no,.no,.no,.no]) rfl ?_
 refine xT (Zx (lo:=1) (c:=n) (λi ρ=>∃ (ts:List Tie) (o6 o7 o8 o9:Sl),ρ=[.v (.int c),.v (.int mo),.v (.bl jo),.v (.int m),.v (.int lf),.o (ts.map zj),o6,o7,o8,o9]/\ts.Sublist (Zk i)/\(jo=true->∀ b:Nat,1<=b->b<=i->∃ a:Int,0<=a/\a < b/\(a,(b:Int))∈ts)) ?_ ⟨[],_,_,_,_,rfl,List.nil_sublist _,λ_ b h1 h2=>absurd h1 (by omega)⟩ ?_ ?_)
 .show VQ [.int 1,.int m]=_
  exact zkS (n:=n) (by omega) hn7
 .rintro i ρ hi ⟨ts,o6,o7,o8,o9,rfl,hs,hj0⟩
  obtain⟨x,hx⟩:∃ x:Int,(1:Int)+(i:Int)=x:=⟨_,rfl⟩
  rw[hx]
  refine⟨_,rfl,?_⟩
  unfold xW
  have hxn:x=((i+1:Nat):Int):=by omega
  have hi7:i<=7:=Nat.le_trans (Nat.le_of_lt hi) hn7
  have hx0:0 < x:=by rw[hxn];exact Int.natCast_pos.mpr (Nat.succ_pos i)
  have hx8:x<=8:=by omega
  have es:∀ k:Int,zX [.int c,.int k]=some (.int (zcR c k)):=λk=>rfl
  obtain⟨inn,hinn⟩:∃ inn:Int,zcR c (100+x) % x=inn:=⟨_,rfl⟩
  have hin:=ZR hx0 hinn
  refine zy (ρ':=[.v (.int c),.v (.int mo),.v (.bl jo),.v (.int m),.v (.int lf),.o (ts.map zj),.v (.int x),.v (.int inn),o8,o9]) (ym (show wV (.int (zcR c (100+x))) (.int x)=some (.int inn) by rw[y3 hx0,hinn])) ?_
  refine Zx (lo:=0) (c:=i+1) (λj ρ=>∃ (us:List Tie) (o8 o9:Sl),ρ=[.v (.int c),.v (.int mo),.v (.bl jo),.v (.int m),.v (.int lf),.o (us.map zj),.v (.int x),.v (.int inn),o8,o9]/\us.Sublist (Zk i++zcI (i+1) j)/\(jo=true->∀ b:Nat,1<=b->b<=i->∃ a:Int,0<=a/\a < b/\(a,(b:Int))∈us)/\(jo=true->inn < (j:Int)->(inn,x)∈us)) ?_ ⟨ts,_,_,rfl,by simpa [zcI]using hs,hj0,λ_ z=>absurd z (by omega)⟩ ?_ ?_
  .show ZB [.int x]=_
   exact zk7 hxn hi7
  .rintro j ρ hj ⟨us,o8,o9,rfl,hus,hj1,hj2⟩
   refine⟨_,rfl,?_⟩
   have hul:(us.map zj).length<=1000:=by
    rw[List.length_map]
    refine Nat.le_trans hus.length_le ?_
    rw[List.length_append,show(zcI (i+1) j).length=j by unfold zcI;rw[List.length_map,List.length_range]]
    exact Nat.le_trans (Nat.add_le_add (ZU i hi7).2.2 (Nat.le_trans (Nat.le_of_lt hj) (Nat.succ_le_succ hi7))) (by decide)
   have e0:((0:Int)+(j:Int),x)=((j:Int),((i+1:Nat):Int)):=by rw[hxn,Int.zero_add]
   refine zlO hx0 hx8 (Int.add_nonneg (Int.le_refl _) (Int.natCast_nonneg j)) hul (λnq o9=>⟨us,_,o9,rfl,?_,hj1,λq z=>hj2 q (by have:¬ ((0:Int)+(j:Int)=inn):=λe=>nq ⟨q,e⟩;omega)⟩) (λo9=>⟨us++[((0:Int)+(j:Int),x)],_,o9,rfl,?_,λq b h1 h2=>(hj1 q b h1 h2).imp λa h=>⟨h.1,h.2.1,List.mem_append.mpr (.inl h.2.2)⟩,λq z=>List.mem_append.mpr (if e:inn=(0:Int)+(j:Int)then .inr (by rw[e];exact .head _)else .inl (hj2 q (by omega)))⟩)
   .rw[Vt,<- List.append_assoc]
    exact hus.trans (List.sublist_append_left _ _)
   .rw[e0,Vt,<- List.append_assoc]
    exact hus.append (List.Sublist.refl _)
  .rintro ρ ⟨us,o8,o9,rfl,hus,hj1,hj2⟩
   refine⟨us,_,_,_,_,rfl,by rw[zcr];exact hus,λq b h1 h2=>?_⟩
   by_cases c:b=i+1
   .refine⟨inn,hin.1,by omega,?_⟩
    rw[c,<- hxn]
    exact hj2 q (by omega)
   .exact hj1 q b h1 (by omega)
 .rintro ρ ⟨ts,o6,o7,o8,o9,rfl,hs,hj⟩
  have hlen:ts.length<=28:=Nat.le_trans hs.length_le (ZU n (by omega)).2.2
  refine zhN (ρ':=[.v (.int c),.v (.int mo),.v (.bl jo),.v (.int m),.v (.int lf),.v (.lst (ts.map zj)),o6,o7,o8,o9]) rfl (Yv (d:=zF m (XZ ts)) ?_ ⟨ts,rfl,hs,hj⟩)
  have es:=zcX (ts:=ts) (by omega)
  refine xq ?_
  show((((((za5 [.lst (ts.map zj)]).map D.lst).bind λd=>(some ([]:List D)).map (d::·)).bind yS).bind λd=>(some ([]:List D)).map (d::·)).map (D.int m::·)).bind (λds=>if lim ds.length=true then some (D.tup ds)else none)=_
  rw[es]
  rfl
theorem X6 (T:Txt K mg ad):xR P w K mg base CX0 2 ad.f__law_web_by ad.e__law_web_by ["cell","most","joined"] (@spD ⟨K⟩ 3 wZ):=by
 letI:KK:=⟨K⟩
 have G__law_stir:=vX (P:=P) (w:=w) (base:=base) T
 refine yZ (N:=["cell","most","joined","many","left","ties","b","inner","a","drawn"]) (ps:=["cell","most","joined"]) T.d__law_web_by.fn zJ (g:=xk) λcdv A outer s H E hr=>?_
 unfold xk xW xb
 exact(zg (zL (m:=false) (i:=3) zJ.nd rfl (Or.inl rfl) (zV (zd ze) (wa (za 0 (pv 0)) (za 1 (pv 1)))))
  (zg (zL (m:=false) (i:=4) zJ.nd rfl (Or.inl rfl) (wC (za 0 (pv 0)) (za 1 (pv 1))))
  (zg (Wh (i:=5) zJ.nd rfl (Or.inl rfl) (xZ zh))
  (zg (zbv PassesOwn.never rfl rfl T.z_range (zb (zd ze) (zb (za 3 (pv 3)) zh)) (zU (zr (i:=6) zJ.nd rfl (Or.inl rfl))) (zg (zL (m:=false) (i:=7) zJ.nd rfl (Or.inl rfl) (wa (zq (G__law_stir.mono (by decide)) hr rfl T.d__law_stir.at_ T.d__law_stir.kp T.d__law_stir.bd (zb (za 0 (pv 0)) (zb (zV (zd ze) (za 6 (pv 6))) zh))) (za 6 (pv 6))))
  (zi (vZ PassesOwn.never rfl rfl T.z_range (zb (za 6 (pv 6)) zh) (zU (zr (i:=8) zJ.nd rfl (Or.inl rfl))) (zg (zL (m:=false) (i:=9) zJ.nd rfl (Or.inl rfl) (wa (zju (wC (za 4 (pv 4)) (zd ze)) (zV (wC (wo (za 6 (pv 6)) (Wa (za 6 (pv 6)) (zd ze))) (zd ze)) (za 8 (pv 8)))) (zd ze)))
  (zg (yW (zG (vw hr) xL (zE _) (wa (za 4 (pv 4)) (zd ze)) (zd ze)) (zi (zL (m:=false) (i:=9) zJ.nd rfl (Or.inl rfl) (wC (wa (zq (G__law_stir.mono (by decide)) hr rfl T.d__law_stir.at_ T.d__law_stir.kp T.d__law_stir.bd (zb (za 0 (pv 0)) (zb (zV (wo (zd ze) (za 8 (pv 8))) (za 6 (pv 6))) zh))) (zd ze)) (zd ze)))) zD)
  (zi (yW (Vk (Yh (zG (vw hr) xL (zE _) (za 9 (pv 9)) (zd ze)) (wJ (Vk (Vo (xo (za 2 (pv 2))) (Xv (zG (vw hr) xL (zE _) (za 8 (pv 8)) (za 7 (pv 7))))))))) (zi (zef (m:=false) (pv 5) (yh (zb (za 8 (pv 8)) (zb (za 6 (pv 6)) zh))) (λa b=>zh7 PySem.F.plainAttrs_list PySem.F.slot_list_append PySem.F.type_list_append XN a b))) zD))))))))
  (XI 5 (zi (zx (yh (zb (za 3 (pv 3)) (zb (x5 zZ x9 rfl T.z_tuple yB (zb (xX (zdm rfl rfl T.z_sorted (zb (za 5 (pv 5)) zh))) zh)) zh))))))))))
end
theorem Z9 {m:Int}{ts:List Tie}(h:∀ b:Nat,1<=b->(b:Int) < m->∃ a:Int,0<=a/\a < b/\(a,(b:Int))∈ts):∀ n b:Nat,b<=n->(b:Int) < m->∃ k,yJ ts 0 k (b:Int)
 | n,0,_,_=>⟨0,.zero⟩
 | 0,b+1,hb,_=>absurd hb (by omega)
 | n+1,b+1,hb,hm=>by
  obtain⟨a,a0,a1,a2⟩:=h (b+1) (by omega) hm
  obtain⟨c,hc⟩:∃ c:Nat,a=(c:Int):=⟨a.toNat,by omega⟩
  obtain⟨k,hk⟩:=Z9 h n c (by omega) (by omega)
  rw[<-hc]at hk
  exact⟨k+1,.step hk (.inl a2)⟩
section
variable {P:Program}{w:World}{K:PySem.W.Frag}{mg:Str->Option Value}{base:Heap}{ad:Adr}
noncomputable def xv:SE->Ctl :=
 (zO (sIf (tOf (zk ltD (zf 1) (eFn VN (zc (zf 0) zt)))) (xa (zk ixD (zf 0) (zf 1))) yc)
  (xa (eC (.int 0))))
noncomputable def yH:List D->Option D:=fnD 2 xv
theorem zcN (ns:List Int):∃ c:Int,yH [.scr ns,.int 0]=some (.int c):=by
 cases ns with
 | nil=>exact⟨0,rfl⟩
 | cons n ns =>
  refine⟨n,?_⟩
  have e:atI (n::ns) 0=some n:=zhb (Int.le_refl _) rfl
  simp[yH,xv,fnD,zO,xa,VR,sIf,xE,zb7,sNo,yc,zg0,Vm,zac,zhw,Ve,vEv,visF,visG,Sl.f,Sl.g,zf,eC,zk,V4,eOr,zfr,eIf,eUn,zg6,wP,wc,xi,zc,zt,zB,eFn,fFn,tOf,vh,ZL,xz,asB,asI,wt,Vl,xP,xj,wV,za3,Zw,ltD,leD,gtD,geD,zcL,yM,vV,wk,vF,zbt,yP,ixD,VN,vt,isT,eSl,XR,Ys,vN,wf,iOf,WK,wb,zg5,ZB,VQ,vR,XT,fLC,yz,yS,Xt,yX,zav,vn,zbm,b1,b2,e]
theorem Xp (T:Txt K mg ad):xR P w K mg base CX0 1 ad.f__law_cell_at ad.e__law_cell_at ["script","k"] (@spD ⟨K⟩ 2 yH):=by
 letI:KK:=⟨K⟩
 refine yZ (N:=["script","k"]) (ps:=["script","k"]) T.d__law_cell_at.fn Xg (g:=xv) λcdv A outer s H E hr=>?_
 unfold xv
 exact(zg (yW (zG zbf ye (zE _) (za 1 (pv 1)) (zS yo Yx rfl T.z_len Z0 (zb (za 0 (pv 0)) zh))) (zi (zx (zw (za 0 (pv 0)) (za 1 (pv 1)) (λ_ _=>rfl)))) zD)
  (zi (zx (zd ze))))
theorem zfB {ρ:Ev}(ns:List Int)(k:Int)(h:ns.length<=63):∃ xs:List Int,(iOf (zk xF (wc (xi (zc (zB 2 yH (zc (zf 0) (zc (eC (.int 0)) zt))) zt))) (eSl slD (zf 0) (Ys (eC (.int 1))) (Ys (eC (.int k)))))) (some (.scr ns)::ρ)=some (xs.map .int):=by
 obtain⟨c,hc⟩:=zcN ns
 refine⟨c::zc1 ns (some 1) (some k),?_⟩
 have e:=zfN (a:=[.int c]) (b:=(zc1 ns (some 1) (some k)).map .int) (by have:=zgO ns (some 1) (some k);simp;omega)
 simp[iOf,zk,wc,xi,zc,zt,zB,zf,eC,hc,wR,eSl,Ys,asI,slD,e,wf]
set_option genInjectivity false in
set_option genSizeOf false in
set_option genCtorIdx false in
structure zct (m:Int) (ts:List Tie) (p:Int) (t:Nat) (fs:List (Option Int)):Prop where
 len:fs.length=m.toNat
 sound:∀ v k,0<=v->v < m->oAt fs v=some k->∃ j:Nat,k=(j:Int)/\yJ ts p j v
 full:∀ (j:Nat) v,j<=t->yJ ts p j v->∃ j':Nat,j'<=j/\oAt fs v=some (j':Int)
theorem zct.end {m:Int}{ts:List Tie}{p:Int}{t:Nat}{fs:List (Option Int)}(ok:yy m ts)(hp:0<=p/\p < m)(h:zct m ts p t fs)(ht:m.toNat<=t):fs=zat m ts p:=by
 refine zi5 (by rw[h.len,Xk]) λv v0 v1=>?_
 have hv:v < m:=by have:=h.len;omega
 rw[zbF v0 hv]
 rcases Zu ts p v with ⟨k,e,hk⟩ | ⟨e,hk⟩
 .have:=hk.lt ok hp
  obtain⟨j,hj,e2⟩:=h.full k v (by omega) hk.1
  obtain⟨j2,e3,r⟩:=h.sound v _ v0 hv e2
  have:=hk.2 _ r
  rw[e,e2]
  congr 1
  omega
 .rw[e]
  cases e2:oAt fs v with
  | none=>rfl
  | some k =>
   obtain⟨j,_,r⟩:=h.sound v k v0 hv e2
   exact absurd r (hk j)
noncomputable def swT (t:Tie):Tie:=(t.2,t.1)
noncomputable def zff (ts:List Tie):List Tie:=ts++ts.map swT
theorem Xn {ts:List Tie}{t:Tie}:t∈zff ts↔adj ts t.1 t.2:=by
 unfold zff adj
 rw[List.mem_append,List.mem_map]
 constructor
 .rintro(h | ⟨s,hs,rfl⟩)
  .exact .inl h
  .exact .inr hs
 .rintro(h | h)
  .exact .inl h
  .exact .inr ⟨_,h,rfl⟩
theorem zct.relax {m:Int}{ts:List Tie}{p:Int}{t:Nat}{fs:List (Option Int)}{a b ka:Int}(ok:yy m ts)(hp:0<=p/\p < m)(h:zct m ts p t fs)(hab:adj ts a b)(ha:oAt fs a=some ka)(hb:oAt fs b=none\/∃ kb,oAt fs b=some kb/\ka+1 < kb) :
 zct m ts p t (fs.set b.toNat (some (ka+1)))/\∀ v k,0<=v->oAt fs v=some k->∃ k',k'<=k/\oAt (fs.set b.toNat (some (ka+1))) v=some k':=by
 obtain⟨⟨a0,a1⟩,b0,b1⟩:=hab.rng ok
 have hl:=h.len
 have mono:∀ v k,0<=v->oAt fs v=some k->∃ k',k'<=k/\oAt (fs.set b.toNat (some (ka+1))) v=some k':=λv k v0 e=>by
  rw[Zv b0 (YY b0 b1 hl) v0]
  by_cases c:v=b
  .subst c
   rw[if_pos rfl]
   rcases hb with hb | ⟨kb,hb,hlt⟩
   .rw[hb]at e;cases e
   .rw[hb]at e;cases e
    exact⟨_,by omega,rfl⟩
  .rw[if_neg c]
   exact⟨k,Int.le_refl _,e⟩
 refine⟨⟨by rw[List.length_set];exact hl,λv k v0 v1 e=>?_,λj v hj r=>?_⟩,mono⟩
 .rw[Zv b0 (YY b0 b1 hl) v0]at e
  by_cases c:v=b
  .subst c
   rw[if_pos rfl]at e
   cases e
   obtain⟨j,rfl,r⟩:=h.sound a _ a0 a1 ha
   exact⟨j+1,by omega,.step r hab⟩
  .rw[if_neg c]at e
   exact h.sound v k v0 v1 e
 .obtain⟨j',hj',e⟩:=h.full j v hj r
  have v0:=(r.rng ok hp).1
  obtain⟨k',hk',e'⟩:=mono v _ v0 e
  obtain⟨q,rfl⟩:∃ q:Nat,k'=(q:Int):=by
   rw[Zv b0 (YY b0 b1 hl) v0]at e'
   by_cases c:v=b
   .rw[if_pos c]at e'
    cases e'
    obtain⟨i,rfl,_⟩:=h.sound a _ a0 a1 ha
    exact⟨i+1,by omega⟩
   .rw[if_neg c,e]at e'
    cases e'
    exact⟨j',rfl⟩
  exact⟨q,by omega,e'⟩
theorem zct.start {m:Int}{ts:List Tie}{p:Int}(hp:0<=p/\p < m):zct m ts p 0 ((List.replicate m.toNat none).set p.toNat (some 0)):=by
 have hl:p < ((List.replicate m.toNat (none:Option Int)).length:Int):=by rw[List.length_replicate];omega
 have nn:∀ v,oAt (List.replicate m.toNat (none:Option Int)) v=none:=λv=>by
  unfold oAt
  rw[List.getElem?_replicate]
  split <;> rfl
 refine⟨by simp,λv k v0 v1 e=>?_,λj v hj r=>?_⟩
 .rw[Zv hp.1 hl v0,nn]at e
  by_cases c:v=p
  .rw[if_pos c]at e;cases e
   exact⟨0,rfl,by rw[c];exact .zero⟩
  .rw[if_neg c]at e;cases e
 .obtain rfl:j=0:=by omega
  cases r
  exact⟨0,Nat.le_refl _,by rw[Zv hp.1 hl hp.1,if_pos rfl];rfl⟩
noncomputable def vo:SE->Ctl :=
 (sIf (vh (tOf (zk yP (zk ixD (zf 2) (zf 4)) (eC .non))) (ZL (tOf (zk zbt (zk ixD (zf 2) (zf 5)) (eC .non))) (tOf (zk gtD (zk ixD (zf 2) (zf 5)) (zk xF (zk ixD (zf 2) (zf 4)) (eC (.int 1))))))) (Ve true 2 (zf 5) (zk xF (zk ixD (zf 2) (zf 4)) (eC (.int 1)))) yc)
noncomputable def wS:SE->Ctl :=
 (WK (iOf (zk xF (zk ixD (zf 0) (eC (.int 1))) (eFn yS (zc (wc (fLC (iOf (zk ixD (zf 0) (eC (.int 1)))) b2 yz (wP (zc (zf 1) (zc (zf 0) zt))))) zt)))) (zav 2 (vn (yX 4) (vn (yX 5) zbm))) vo)
noncomputable def w6:SE->Ctl :=
 (zO (Vm 2 (zlE zf4 (wc (xi (zc (eC .non) zt))) (zk ixD (zf 0) (eC (.int 0)))))
  (zO (Ve false 2 (zf 1) (eC (.int 0)))
  (zO (wb ZB (zc (zk ixD (zf 0) (eC (.int 0))) zt) (yX 3) wS)
  (sFz 2 (xa (zf 2))))))
noncomputable def YB:List D->Option D:=fnD 6 w6
theorem ziy {m:Int}{ts:List Tie}{p:Int}(ok:yy m ts)(h28:ts.length<=28)(hp:0<=p/\p < m):YB [zF m ts,.int p]=some (.lst ((zat m ts p).map Zh)):=by
 obtain⟨es,hes⟩:∃ es,zff ts=es:=⟨_,rfl⟩
 have hm1:=ok.lo
 have hm8:=ok.hi
 refine zar (ρ:=[.v (zF m ts),.v (.int p),.no,.no,.no,.no]) rfl ?_
 unfold w6
 refine zy (ρ':=[.v (zF m ts),.v (.int p),.o ((List.replicate m.toNat none).map Zh),.no,.no,.no]) ?_ ?_
 .have e:=zke (d:=.non) hm1 hm8
  refine zdK (ds:=(List.replicate m.toNat none).map Zh) ?_
  rw[List.map_replicate]
  exact e
 refine xT (zc6 _ (.int 0) p rfl rfl rfl hp.1 (by simp;omega) ?_)
 rw[show(.int 0:D)=Zh (some 0)from rfl,<- List.map_set]
 refine xT (Zx (lo:=0) (c:=m.toNat) (λi ρ=>∃ (fs:List (Option Int)) (o3 o4 o5:Sl),ρ=[.v (zF m ts),.v (.int p),.o (fs.map Zh),o3,o4,o5]/\zct m ts p i fs) ?_ ⟨_,_,_,_,rfl,zct.start hp⟩ ?_ ?_)
 .show ZB [.int m]=_
  exact zg9 hm1 hm8
 .rintro i ρ hi ⟨fs,o3,o4,o5,rfl,hf⟩
  obtain⟨x,hx⟩:∃ x:Int,(0:Int)+(i:Int)=x:=⟨_,rfl⟩
  rw[hx]
  refine⟨_,rfl,?_⟩
  unfold wS
  refine zaM (ds:=es.map zj) (λj ρ=>∃ (fs:List (Option Int)) (o4 o5:Sl),ρ=[.v (zF m ts),.v (.int p),.o (fs.map Zh),.v (.int x),o4,o5]/\zct m ts p i fs/\∀ e∈es.take j,∀ k:Nat,k<=i->yJ ts p k e.1->∃ j':Nat,j'<=k+1/\oAt fs e.2=some (j':Int)) ?_ ⟨fs,_,_,rfl,hf,λe he=>by simp at he⟩ ?_ ?_
  .have e1:fLC (iOf (zk ixD (zf 0) (eC (.int 1)))) b2 yz (wP (zc (zf 1) (zc (zf 0) zt))) [some (zF m ts),some (.int p),none,some (.int x),o4.f,o5.f]=some ((ts.map swT).map zj):=by
    unfold fLC
    show(if lim (ts.map zj).length=true then _ else none)=_
    rw[if_pos (zeF (by rw[List.length_map];exact h28)),List.map_map]
    exact wA zj (zj ∘ swT) ts λt _=>⟨[some (.int t.1),some (.int t.2)],rfl,rfl,rfl⟩
   show((((((fLC (iOf (zk ixD (zf 0) (eC (.int 1)))) b2 yz (wP (zc (zf 1) (zc (zf 0) zt))) [some (zF m ts),some (.int p),none,some (.int x),o4.f,o5.f]).map D.lst).bind λd=>(some ([]:List D)).map (d::·)).bind yS).bind λy=>xF (.tup (ts.map zj)) y).bind wf)=_
   rw[e1]
   show(if lim ((ts.map zj).length+((ts.map swT).map zj).length)=true then some (D.tup (ts.map zj++(ts.map swT).map zj))else none).bind wf=_
   rw[if_pos (wR (by simp only[List.length_map];omega)),<- hes]
   unfold zff
   rw[List.map_append]
   rfl
  .rintro j d ρ hd ⟨fs,o4,o5,rfl,hf,hE⟩
   rw[List.getElem?_map]at hd
   obtain⟨⟨a,b⟩,ht,rfl⟩:=Option.map_eq_some_iff.mp hd
   have hadj:adj ts a b:=Xn.mp (by rw[hes];exact List.mem_of_getElem? ht)
   obtain⟨⟨a0,a1⟩,b0,b1⟩:=hadj.rng ok
   have hl:=hf.len
   have htake:es.take (j+1)=es.take j++[(a,b)]:=by rw[List.take_succ,ht];rfl
   refine⟨[.v (zF m ts),.v (.int p),.o (fs.map Zh),.v (.int x),.v (.int a),.v (.int b)],rfl,?_⟩
   unfold vo
   have ea:=zhp (fs:=fs) a0 a1 hl
   have eb:=zhp (fs:=fs) b0 b1 hl
   have stay:(oAt fs a=none\/∃ ka kb,oAt fs a=some ka/\oAt fs b=some kb/\kb<=ka+1)->∀ e∈es.take (j+1),∀ k:Nat,k<=i->yJ ts p k e.1->∃ j':Nat,j'<=k+1/\oAt fs e.2=some (j':Int):=λh e he k hk r=>by
    rw[htake]at he
    rcases List.mem_append.mp he with he | he
    .exact hE e he k hk r
    .cases List.mem_singleton.mp he
     obtain⟨j',hj',e2⟩:=hf.full k a hk r
     rcases h with h | ⟨ka,kb,h1,h2,h3⟩
     .rw[h]at e2;cases e2
     .rw[h1]at e2
      cases e2
      obtain⟨q,rfl,_⟩:=hf.sound b kb b0 b1 h2
      exact⟨q,by omega,h2⟩
   have go:∀ ka,oAt fs a=some ka->(oAt fs b=none\/∃ kb,oAt fs b=some kb/\ka+1 < kb)->(Ve true 2 (zf 5) (zk xF (zk ixD (zf 2) (zf 4)) (eC (.int 1))) [.v (zF m ts),.v (.int p),.o (fs.map Zh),.v (.int x),.v (.int a),.v (.int b)]).w
    (fun ρ=>∃ (fs:List (Option Int)) (o4 o5:Sl),ρ=[.v (zF m ts),.v (.int p),.o (fs.map Zh),.v (.int x),o4,o5]/\zct m ts p i fs/\∀ e∈es.take (j+1),∀ k:Nat,k<=i->yJ ts p k e.1->∃ j':Nat,j'<=k+1/\oAt fs e.2=some (j':Int))
    (fun ρ=>∃ (fs:List (Option Int)) (o3 o4 o5:Sl),ρ=[.v (zF m ts),.v (.int p),.o (fs.map Zh),o3,o4,o5]/\zct m ts p (i+1) fs)
    (fun ρ=>∃ (fs:List (Option Int)) (o4 o5:Sl),ρ=[.v (zF m ts),.v (.int p),.o (fs.map Zh),.v (.int x),o4,o5]/\zct m ts p i fs/\∀ e∈es.take (j+1),∀ k:Nat,k<=i->yJ ts p k e.1->∃ j':Nat,j'<=k+1/\oAt fs e.2=some (j':Int))
    (λd=>d=.lst ((zat m ts p).map Zh)):=λka h1 h2=>by
    obtain⟨hf2,mono⟩:=hf.relax ok hp hadj h1 h2
    rw[h1]at ea
    refine zc6 (fs.map Zh) (.int (ka+1)) b ?_ rfl rfl b0 (zeQ b0 b1 hl) ⟨fs.set b.toNat (some (ka+1)),.v (.int a),.v (.int b),?_,hf2,?_⟩
    .show((((L2.atI (fs.map Zh) a).bind λx=>xF x (.int 1))).bind λd=>if noL d=true then some d else none)=_
     rw[ea]
     rfl
    .rw[List.map_set];rfl
    .intro e he k hk r
     rw[htake]at he
     rcases List.mem_append.mp he with he | he
     .obtain⟨j',hj',e2⟩:=hE e he k hk r
      have hin:e∈zff ts:=by rw[hes];exact List.mem_of_mem_take he
      have e20:=((Xn.mp hin).rng ok).2
      obtain⟨k',hk',e3⟩:=mono e.2 _ e20.1 e2
      obtain⟨q,rfl,_⟩:=hf2.sound e.2 k' e20.1 e20.2 e3
      exact⟨q,by omega,e3⟩
     .cases List.mem_singleton.mp he
      obtain⟨j',hj',e2⟩:=hf.full k a hk r
      rw[h1]at e2
      cases e2
      refine⟨j'+1,Nat.succ_le_succ hj',?_⟩
      show oAt _ b=_
      rw[Zv b0 (YY b0 b1 hl) b0,if_pos rfl]
      rfl
   cases ha:oAt fs a with
   | none =>
    rw[ha]at ea
    refine XB (c:=false) ?_ (λz=>by cases z) λ_=>YN rfl ⟨fs,_,_,rfl,hf,stay (.inl ha)⟩
    show((((L2.atI (fs.map Zh) a).bind λx=>yP x .non).bind asB).bind _)=_
    rw[ea]
    rfl
   | some ka =>
    rw[ha]at ea
    cases hb:oAt fs b with
    | none =>
     rw[hb]at eb
     refine XB (c:=true) ?_ (λ_=>go ka ha (.inl hb)) (λz=>by cases z)
     show((((L2.atI (fs.map Zh) a).bind λx=>yP x .non).bind asB).bind λc=>if c=true then ((((L2.atI (fs.map Zh) b).bind λx=>zbt x .non).bind asB).bind λc=>if c=true then some true else _)else some false)=_
     rw[ea,eb]
     rfl
    | some kb =>
     rw[hb]at eb
     refine XB (c:=decide (ka+1 < kb)) ?_ (λz=>go ka ha (.inr ⟨kb,hb,of_decide_eq_true z⟩)) (λz=>YN rfl ⟨fs,_,_,rfl,hf,stay (.inr ⟨ka,kb,ha,hb,Int.not_lt.mp (of_decide_eq_false z)⟩)⟩)
     show((((L2.atI (fs.map Zh) a).bind λx=>yP x .non).bind asB).bind λc=>if c=true then ((((L2.atI (fs.map Zh) b).bind λx=>zbt x .non).bind asB).bind λc=>if c=true then some true else (((L2.atI (fs.map Zh) b).bind λx=>((L2.atI (fs.map Zh) a).bind λy=>xF y (.int 1)).bind λy=>gtD x y).bind asB))else some false)=_
     rw[ea,eb]
     rfl
  .rintro ρ ⟨fs,o4,o5,rfl,hf,hE⟩
   rw[List.length_map,List.take_length]at hE
   refine⟨fs,_,_,_,rfl,hf.len,hf.sound,λj v hj r=>?_⟩
   cases j with
   | zero=>exact hf.full 0 v (Nat.zero_le _) r
   | succ j =>
    obtain⟨a,ra,had⟩:=r.inv
    exact hE (a,v) (by rw[<-hes];exact Xn.mpr had) j (Nat.le_of_lt_succ (Nat.lt_of_succ_le hj)) ra
 .rintro ρ ⟨fs,o3,o4,o5,rfl,hf⟩
  rw[hf.end ok hp (Nat.le_refl _)]
  exact zhN (ρ':=[.v (zF m ts),.v (.int p),.v (.lst ((zat m ts p).map Zh)),o3,o4,o5]) rfl (Yv rfl rfl)
theorem VJ (T:Txt K mg ad):xR P w K mg base CX0 1 ad.f__law_fars ad.e__law_fars ["web","place"] (@spD ⟨K⟩ 2 YB):=by
 letI:KK:=⟨K⟩
 refine yZ (N:=["web","place","found","turn","a","b"]) (ps:=["web","place"]) T.d__law_fars.fn xA (g:=w6) λcdv A outer s H E hr=>?_
 unfold w6 wS vo
 exact(zg (Wh (i:=2) xA.nd rfl (Or.inl rfl) (zhe (xX (xZ (zb (Xl XC) zh))) (zw (za 0 (pv 0)) (zd ze) (λ_ _=>rfl))))
  (zg (zad (m:=false) (zd ze) (pv 2) (za 1 (pv 1)))
  (zg (vZ PassesOwn.never rfl rfl T.z_range (zb (zw (za 0 (pv 0)) (zd ze) (λ_ _=>rfl)) zh) (zU (zr (i:=3) xA.nd rfl (Or.inl rfl))) (zi (Xu PassesOwn.never rfl (xB (zV (zw (za 0 (pv 0)) (zd ze) (λ_ _=>rfl)) (x5 zZ x9 rfl T.z_tuple yB (zb (xX (Xi (L:=["a","b"]) (M:=["web","place","found","turn","·a","·b"]) rfl (wQ (by rfl) (by rfl) (by rfl) (by with_unfolding_all rfl) (by rfl) (by rfl) (by kernel_rfl) xu) (xB (zw (za 0 (pv 0)) (zd ze) (λ_ _=>rfl))) gs2 rb2 (λ_ _ _ _=>(zbo rfl (ve (zr (i:=0) zjO rfl (Or.inl rfl) (.inr rfl)) (ve (zr (i:=1) zjO rfl (Or.inl rfl) (.inr rfl)) Vi)))) (λ_ _ _ _=>(yh (zb (za 1 (pv 1)) (zb (za 0 (pv 0)) zh)))))) zh)))) (VM rfl (xw (zU (zr (i:=4) xA.nd rfl (Or.inl rfl))) (xw (zU (zr (i:=5) xA.nd rfl (Or.inl rfl))) Xx))) (zi (yW (Vk (Vo (zG V1 Wd (zE _) (zw (za 2 (pv 2)) (za 4 (pv 4)) (λ_ _=>rfl)) (Xl XC)) (Xv (Vk (Yh (zG zhE zex (zE _) (zw (za 2 (pv 2)) (za 5 (pv 5)) (λ_ _=>rfl)) (Xl XC)) (wJ (zG zel ye (zE _) (zw (za 2 (pv 2)) (za 5 (pv 5)) (λ_ _=>rfl)) (zV (zw (za 2 (pv 2)) (za 4 (pv 4)) (λ_ _=>rfl)) (zd ze))))))))) (zi (zad (m:=true) (zV (zw (za 2 (pv 2)) (za 4 (pv 4)) (λ_ _=>rfl)) (zd ze)) (pv 2) (za 5 (pv 5)))) zD)))))
  (XI 2 (zi (zx (za 2 (pv 2))))))))
theorem Va:∀ (N:Nat) (l:List Nat),l.Nodup->(∀ x∈l,x < N)->l.length<=N
 | 0,l,_,h=>by
  cases l with
  | nil=>exact Nat.le_refl _
  | cons a r=>exact absurd (h a (.head _)) (Nat.not_lt_zero _)
 | N+1,l,hn,h=>by
  by_cases hm:N∈l
  .have h1:=Va N (l.erase N) (hn.erase N) λx hx=>by
    have h2:=(hn.mem_erase_iff).mp hx
    exact Nat.lt_of_le_of_ne (Nat.le_of_lt_succ (h x h2.2)) h2.1
   rw[List.length_erase_of_mem hm]at h1
   omega
  .exact Nat.le_succ_of_le (Va N l hn λx hx=>Nat.lt_of_le_of_ne (Nat.le_of_lt_succ (h x hx)) λe=>hm (e ▸ hx))
noncomputable def zc8 (B:Nat):List Int->Nat
 | []=>0
 | v::r=>v.toNat+B*zc8 B r
theorem zeN {B:Nat}:∀ {x:List Int},(∀ v∈x,0<=v/\v < (B:Int))->zc8 B x < B ^ x.length
 | [],_=>Nat.one_pos
 | v::r,h=>by
  have h1:=zeN (x:=r) λw hw=>h w (.tail _ hw)
  have h2:=h v (.head _)
  show v.toNat+B*zc8 B r < B ^ (r.length+1)
  have h3:v.toNat < B:=by omega
  have h4:B*(zc8 B r+1)<=B*B ^ r.length:=Nat.mul_le_mul_left B h1
  rw[Nat.mul_succ]at h4
  rw[Nat.pow_succ,Nat.mul_comm (B ^ r.length) B]
  exact Nat.lt_of_lt_of_le (by rw[Nat.add_comm];exact Nat.add_lt_add_left h3 _) h4
theorem zcf {B:Nat}:∀ {x y:List Int},x.length=y.length->(∀ v∈x,0<=v/\v < (B:Int))->(∀ v∈y,0<=v/\v < (B:Int))->zc8 B x=zc8 B y->x=y
 | [],[],_,_,_,_=>rfl
 | [],_::_,h,_,_,_=>by cases h
 | _::_,[],h,_,_,_=>by cases h
 | v::r,w::q,hl,hx,hy,e=>by
  have h1:=hx v (.head _)
  have h2:=hy w (.head _)
  have e:v.toNat+B*zc8 B r=w.toNat+B*zc8 B q:=e
  have hB:0 < B:=by omega
  have e1:v.toNat=w.toNat:=by
   have:=congrArg (· % B) e
   simp only[Nat.add_mul_mod_self_left]at this
   rwa[Nat.mod_eq_of_lt (by omega),Nat.mod_eq_of_lt (by omega)]at this
  have e2:zc8 B r=zc8 B q:=by
   rw[e1]at e
   exact Nat.eq_of_mul_eq_mul_left hB (Nat.add_left_cancel e)
  rw[zcf (by simpa using hl) (λz hz=>hx z (.tail _ hz)) (λz hz=>hy z (.tail _ hz)) e2]
  congr 1
  omega
theorem zgr {B m:Nat}{l:List (List Int)}(hn:l.Nodup)(h:∀ x∈l,x.length=m/\∀ v∈x,0<=v/\v < (B:Int)):l.length<=B ^ m:=by
 have h1:=Va (B ^ m) (l.map (zc8 B)) ?_ ?_
 .rwa[List.length_map]at h1
 .unfold List.Nodup at hn ⊢
  rw[List.pairwise_map]
  refine List.Pairwise.imp_of_mem (λ{a b} ha hb hab e=>hab ?_) hn
  exact zcf (by rw[(h a ha).1,(h b hb).1]) (h a ha).2 (h b hb).2 e
 .intro x hx
  obtain⟨y,hy,rfl⟩:=List.mem_map.mp hx
  have:=zeN (h y hy).2
  rwa[(h y hy).1]at this
noncomputable abbrev Hl:=List Int
noncomputable def hD (h:Hl):D:=.tup (h.map .int)
noncomputable def hK (h:Hl):List Key:=h.map Sum.inl
theorem ze1:∀ {a b:Hl},hK a=hK b->a=b
 | [],[],_=>rfl
 | [],_::_,h=>by cases h
 | _::_,[],h=>by cases h
 | a::r,b::q,h=>by
  injection h with h1 h2
  injection h1 with h1
  rw[h1,ze1 h2]
theorem Vg (h:Hl):zfs (hD h)=some (hK h):=by
 show zcp (h.map .int)=some (h.map Sum.inl)
 induction h with
 | nil=>rfl
 | cons a r ih =>
  show(some (Sum.inl a)).bind (λk=>(zcp (r.map .int)).map (k::·))=_
  rw[ih]
  rfl
noncomputable def Vd (h:Hl)(i x:Int):Hl:=h.set i.toNat x
noncomputable def moved (h:Hl)(s:Tie):Hl:=Vd (Vd h s.1 (vAt h s.1 - 2)) s.2 (vAt (Vd h s.1 (vAt h s.1 - 2)) s.2+1)
theorem Yd (h:Hl)(i x:Int):(Vd h i x).length=h.length:=by unfold Vd;exact List.length_set
theorem VZ (h:Hl)(s:Tie):(moved h s).length=h.length:=by unfold moved;rw[Yd,Yd]
theorem Y8 {h:Hl}{i j x:Int}(hi:0<=i)(hl:i < h.length)(hj:0<=j):vAt (Vd h i x) j=if j=i then x else vAt h j:=by
 unfold vAt Vd
 rw[List.getD_eq_getElem?_getD,List.getElem?_set,List.getD_eq_getElem?_getD]
 by_cases e:j=i
 .subst e
  rw[if_pos rfl,if_pos (by omega),if_pos rfl]
  rfl
 .rw[if_neg (by omega),if_neg e]
theorem WU {h:Hl}{i x:Int}(hi:0<=i)(hl:i < h.length):(Vd h i x).sum=h.sum - vAt h i+x:=by
 unfold Vd
 rw[zeP (h:=by omega)]
 unfold vAt
 rw[Dl.getD_at (by omega)]
theorem zbE {h:Hl}{i x v:Int}(hv:v∈Vd h i x):v=x\/v∈h:=by
 unfold Vd at hv
 rcases List.mem_or_eq_of_mem_set hv with e | e
 .exact .inr e
 .exact .inl e
set_option genInjectivity false in
set_option genSizeOf false in
set_option genCtorIdx false in
structure YI (n:Nat) (s:Tie):Prop where
 a0:0<=s.1
 a1:s.1 < (n:Int)
 b0:0<=s.2
 b1:s.2 < (n:Int)
 ne:s.1≠s.2
theorem zfi {h:Hl}{s:Tie}(hs:YI h.length s):(moved h s).sum=h.sum - 1:=by
 unfold moved
 rw[WU hs.b0 (by rw[Yd];exact hs.b1),WU hs.a0 hs.a1]
 omega
theorem WW {h:Hl}{i:Int}(hi:0<=i)(hl:i < h.length):vAt h i∈h:=by
 unfold vAt
 exact Dl.getD_mem (by omega)
theorem zbD {h:Hl}{s:Tie}(hs:YI h.length s)(hn:∀ v∈h,0<=v)(h2:2<=vAt h s.1):∀ v∈moved h s,0<=v:=by
 intro v hv
 unfold moved at hv
 have e:vAt (Vd h s.1 (vAt h s.1 - 2)) s.2=vAt h s.2:=by
  rw[Y8 hs.a0 hs.a1 hs.b0,if_neg (λe=>hs.ne e.symm)]
 rcases zbE hv with rfl | hv
 .rw[e]
  have:=hn _ (WW hs.b0 hs.b1)
  omega
 .rcases zbE hv with rfl | hv
  .omega
  .exact hn v hv
inductive Beh (ss:List Tie) (h0:Hl):Hl->Prop
 | zero:Beh ss h0 h0
 | step {g:Hl} {s:Tie}:Beh ss h0 g->s∈ss->2<=vAt g s.1->Beh ss h0 (moved g s)
noncomputable abbrev Fd:=List (Hl × Option (Hl × Tie))
noncomputable def zhx:Option (Hl × Tie)->D
 | none=>.non
 | some p=>.tup [hD p.1,zj p.2]
noncomputable def fdK (f:Fd):List (List Key):=f.map λe=>hK e.1
noncomputable def fdV (f:Fd):List D:=f.map λe=>zhx e.2
noncomputable def XS:Fd->Hl->Option (Option (Hl × Tie))
 | [],_=>none
 | e::f,g=>if e.1=g then some e.2 else XS f g
theorem zdB (g:Hl):∀ f:Fd,YG (fdK f) (fdV f) (hK g)=(XS f g).map zhx
 | []=>rfl
 | e::f=>by
  refine vP.trans ?_
  show(if hK e.1=hK g then some (zhx e.2)else YG (fdK f) (fdV f) (hK g))=(if e.1=g then some e.2 else XS f g).map zhx
  by_cases h:e.1=g
  .rw[if_pos h,if_pos (by rw[h])];rfl
  .rw[if_neg h,if_neg (λz=>h (ze1 z)),zdB g f]
noncomputable def InF (f:Fd)(g:Hl):Prop:=(XS f g).isSome=true
theorem xp {g:Hl}:∀ {f:Fd},InF f g↔∃ e∈f,e.1=g
 | []=>⟨λh=>(by cases h),λ⟨_,h,_⟩=>(by cases h)⟩
 | e::f=>by
  have ih:=xp (g:=g) (f:=f)
  unfold InF at ih ⊢
  show(if e.1=g then some e.2 else XS f g).isSome=true↔_
  by_cases h:e.1=g
  .rw[if_pos h]
   exact⟨λ_=>⟨e,.head _,h⟩,λ_=>rfl⟩
  .rw[if_neg h,ih]
   constructor
   .rintro⟨x,hx,he⟩
    exact⟨x,.tail _ hx,he⟩
   .rintro⟨x,hx,he⟩
    rcases List.mem_cons.mp hx with rfl | hx
    .exact absurd he h
    .exact⟨x,hx,he⟩
theorem zbW {e:Hl × Option (Hl × Tie)}{g:Hl}:∀ {f:Fd},XS (f++[e]) g=if (XS f g).isSome=true then XS f g else if e.1=g then some e.2 else none
 | []=>rfl
 | x::f=>by
  have ih:=zbW (e:=e) (g:=g) (f:=f)
  show(if x.1=g then some x.2 else XS (f++[e]) g)=if (if x.1=g then some x.2 else XS f g).isSome=true then (if x.1=g then some x.2 else XS f g)else _
  by_cases h:x.1=g
  .rw[if_pos h,if_pos h];rfl
  .rw[if_neg h,if_neg h,ih]
theorem InF.app {f:Fd}{g:Hl}(h:InF f g)(e:Hl × Option (Hl × Tie)):InF (f++[e]) g:=by
 obtain⟨x,hx,he⟩:=xp.mp h
 exact xp.mpr ⟨x,List.mem_append.mpr (.inl hx),he⟩
theorem zc4 (f:Fd)(e:Hl × Option (Hl × Tie)):InF (f++[e]) e.1:=xp.mpr ⟨e,List.mem_append.mpr (.inr (.head _)),rfl⟩
theorem zax {f:Fd}{e:Hl × Option (Hl × Tie)}{g:Hl}(h:InF (f++[e]) g):InF f g\/g=e.1:=by
 obtain⟨x,hx,he⟩:=xp.mp h
 rcases List.mem_append.mp hx with hx | hx
 .exact .inl (xp.mpr ⟨x,hx,he⟩)
 .cases List.mem_singleton.mp hx
  exact .inr he.symm
set_option genInjectivity false in
set_option genSizeOf false in
set_option genCtorIdx false in
structure zdA (ss:List Tie) (h0:Hl) (f:Fd):Prop where
 nd:(f.map (·.1)).Nodup
 beh:∀ e∈f,Beh ss h0 e.1
 prv:∀ e∈f,(e.2=none/\e.1=h0)\/∃ p s,e.2=some (p,s)/\s∈ss/\2<=vAt p s.1/\e.1=moved p s/\InF f p
 root:XS f h0=some none
theorem zdA.start (ss:List Tie)(h0:Hl):zdA ss h0 [(h0,none)]:=by
 refine⟨by simp,λe he=>?_,λe he=>?_,?_⟩
 .cases List.mem_singleton.mp he;exact .zero
 .cases List.mem_singleton.mp he;exact .inl ⟨rfl,rfl⟩
 .show(if h0=h0 then _ else _)=_
  rw[if_pos rfl]
theorem zdA.add {ss:List Tie}{h0 p:Hl}{f:Fd}{s:Tie}(h:zdA ss h0 f)(hp:InF f p)(hs:s∈ss)(h2:2<=vAt p s.1)(hn:¬ InF f (moved p s)):zdA ss h0 (f++[(moved p s,some (p,s))]):=by
 refine⟨?_,λe he=>?_,λe he=>?_,?_⟩
 .rw[List.map_append]
  refine List.nodup_append.mpr ⟨h.nd,by simp,λa ha b hb e=>?_⟩
  cases List.mem_singleton.mp hb
  obtain⟨x,hx,he⟩:=List.mem_map.mp ha
  exact hn (xp.mpr ⟨x,hx,he.trans e⟩)
 .rcases List.mem_append.mp he with he | he
  .exact h.beh e he
  .cases List.mem_singleton.mp he
   obtain⟨x,hx,rfl⟩:=xp.mp hp
   exact .step (h.beh x hx) hs h2
 .rcases List.mem_append.mp he with he | he
  .rcases h.prv e he with z | ⟨q,t,z1,z2,z3,z4,z5⟩
   .exact .inl z
   .exact .inr ⟨q,t,z1,z2,z3,z4,z5.app _⟩
  .cases List.mem_singleton.mp he
   exact .inr ⟨p,s,rfl,hs,h2,rfl,hp.app _⟩
 .rw[zbW,h.root]
  rfl
structure HOk (n:Nat) (S:Int) (g:Hl):Prop where
 len:g.length=n
 nn:∀ v∈g,0<=v
 sum:g.sum<=S
theorem Beh.ok {n:Nat}{ss:List Tie}{h0 g:Hl}(hs:∀ s∈ss,YI n s)(h:HOk n h0.sum h0)(b:Beh ss h0 g):HOk n h0.sum g:=by
 induction b with
 | zero=>exact h
 | step b hs' h2 ih =>
  have e:=hs _ hs'
  rw[<-ih.len]at e
  refine⟨by rw[VZ];exact ih.len,zbD e ih.nn h2,?_⟩
  rw[zfi e]
  have:=ih.sum
  omega
theorem zdA.count {n:Nat}{ss:List Tie}{h0:Hl}{f:Fd}(hs:∀ s∈ss,YI n s)(h:HOk n h0.sum h0)(ok:zdA ss h0 f):f.length<=(h0.sum.toNat+1) ^ n:=by
 have e:=zgr (B:=h0.sum.toNat+1) (m:=n) ok.nd λx hx=>by
  obtain⟨y,hy,rfl⟩:=List.mem_map.mp hx
  have b:=(ok.beh y hy).ok hs h
  refine⟨b.len,λv hv=>⟨b.nn v hv,?_⟩⟩
  have h1:=Wo b.nn hv
  have h2:=b.sum
  omega
 rwa[List.length_map]at e
noncomputable def ziA (ss:List Tie)(f:Fd)(g:Hl):Prop:=∀ s∈ss,2<=vAt g s.1->InF f (moved g s)
structure AllF (ss:List Tie) (h0:Hl) (f:Fd):Prop where
 ok:zdA ss h0 f
 iff:∀ g,InF f g↔Beh ss h0 g
theorem zim {m:Bool}{i:Nat}{f:Ev->Option D}{ρ ρ':SE}{ds:List D}{d:D}(h1:vEv m f ρ=some d)(h2:ρ[i]?=some (.o ds))(h3:ds.length < sizeLine)(h4:ρ.set i (.o (ds++[d]))=ρ'):zac m i f ρ=.nx ρ':=by
 unfold zac
 rw[h1,h2]
 show(match (if decide (ds.length < sizeLine)=true then some (ρ.set i (.o (ds++[d])))else none)with | some ρ'=>Ctl.nx ρ' | none=>Ctl.no)=_
 rw[if_pos (decide_eq_true h3),h4]
theorem zlp {m:Bool}{i:Nat}{fk fe:Ev->Option D}{ρ ρ':SE}{f:Fd}{g:Hl}{o:Option (Hl × Tie)}(h1:vEv m fe ρ=some (zhx o))(h2:fk (visG ρ)=some (hD g))(h3:ρ[i]?=some (.m true (fdK f) (fdV f)))(h4:(XS f g).isSome=false)(h5:f.length < sizeLine)
 (h6:ρ.set i (.m true (fdK (f++[(g,o)])) (fdV (f++[(g,o)])))=ρ'):X2 m i fk fe ρ=.nx ρ':=by
 have e:zeE ρ i (hD g) (zhx o)=some ρ':=by
  unfold zeE
  rw[h3]
  show(zfs (hD g)).bind (λk=>if decide ((fdK f).length < sizeLine)=true then some (ρ.set i (.m true (Xr (fdK f) (fdV f) k) (Xc (fdK f) (fdV f) k (zhx o))))else none)=_
  have hd:(YG (fdK f) (fdV f) (hK g)).isSome=false:=by rw[zdB,Option.isSome_map];exact h4
  rw[Vg,Option.bind_some,if_pos (decide_eq_true (by unfold fdK;rw[List.length_map];exact h5))]
  unfold Xr Xc
  rw[hd,if_neg Bool.false_ne_true,if_neg Bool.false_ne_true,<- h6]
  unfold fdK fdV
  rw[List.map_append,List.map_append]
  rfl
 unfold X2
 rw[h1,h2]
 show(match zeE ρ i (hD g) (zhx o)with | some ρ'=>Ctl.nx ρ' | none=>Ctl.no)=_
 rw[e]
theorem vM {m:Int}{ts:List Tie}(ok:yy m ts):∀ s∈xn m ts,YI m.toNat s:=λs hs=>by
 obtain⟨⟨a0,a1⟩,⟨b0,b1⟩,ht⟩:=Zt.mp hs
 refine⟨a0,by omega,b0,by omega,λe=>?_⟩
 have h3:=(ok.rng _ ht).2.1
 rw[show Ya s.1 s.2=(s.2,s.2) by unfold Ya;rw[e,if_neg (Int.lt_irrefl _)]]at h3
 exact absurd h3 (Int.lt_irrefl _)
noncomputable abbrev Row:=Int × Int × Int
noncomputable abbrev Gp:=(Int × Int) × List Row
noncomputable def wAt (rows:List Row)(x:Int):Int:=((rows.filter λr=>decide (r.1=x)).map λr=>r.2.2).sum
noncomputable def Ze (rows:List Row):Int:=(rows.map λr=>r.2.2).sum
noncomputable def zK:List Gp->Int
 | []=>1
 | g::r=>g.1.2*zK r
noncomputable def x8 (n:List Row->Int)(W:Int):List Gp->Int
 | []=>0
 | g::r=>n g.2*g.1.1*(W / g.1.2)+x8 n W r
noncomputable def shF (n:List Row->Int):List Gp->Int->Int->Int × Int
 | [],t,b=>(t,b)
 | g::r,t,b=>shF n r (t*g.1.2+b*g.1.1*n g.2) (b*g.1.2)
noncomputable def zfv (gs:List Gp):Prop:=∀ g∈gs,1<=g.1.2/\g.1.2<=7/\1<=g.1.1/\g.1.1<=5
theorem zfv.tl {g:Gp}{r:List Gp}(h:zfv (g::r)):zfv r:=λx hx=>h x (.tail _ hx)
theorem vW:∀ {gs:List Gp},zfv gs->1<=zK gs
 | [],_=>by decide
 | g::r,h=>by
  have h1:=(h g (.head _)).1
  have h2:=vW h.tl
  have:=Int.mul_le_mul h1 h2 (by decide) (by omega)
  simpa [zK]using this
theorem zb0:∀ {gs:List Gp},zfv gs->zK gs<=7 ^ gs.length
 | [],_=>by decide
 | g::r,h=>by
  have h1:=(h g (.head _)).2.1
  have h2:=zb0 h.tl
  have h3:=vW h.tl
  show g.1.2*zK r<=7 ^ (r.length+1)
  rw[Int.pow_succ,Int.mul_comm]
  exact Int.mul_le_mul h2 h1 (by have:=(h g (.head _)).1;omega) (by have:(0:Int)<=7 ^ r.length:=Int.pow_nonneg (by decide);exact this)
theorem zbn:∀ {gs:List Gp} {g:Gp},g∈gs->g.1.2 ∣ zK gs
 | _::r,g,h=>by
  rcases List.mem_cons.mp h with e | e
  .rw[e];exact⟨zK r,rfl⟩
  .exact Int.dvd_trans (zbn e) ⟨_,Int.mul_comm _ _⟩
theorem zca (n:List Row->Int)(c P:Int):∀ (gs:List Gp),(∀ g∈gs,g.1.2 ∣ P)->x8 n (c*P) gs=c*x8 n P gs
 | [],_=>by simp[x8]
 | g::r,h=>by
  have ih:=zca n c P r λx hx=>h x (.tail _ hx)
  show n g.2*g.1.1*(c*P / g.1.2)+x8 n (c*P) r=c*(n g.2*g.1.1*(P / g.1.2)+x8 n P r)
  rw[ih,Int.mul_ediv_assoc c (h g (.head _)),Int.mul_add]
  congr 1
  ac_rfl
theorem zg3 (n:List Row->Int):∀ (gs:List Gp) (t b:Int),zfv gs->shF n gs t b=(t*zK gs+b*x8 n (zK gs) gs,b*zK gs)
 | [],t,b,_=>by simp[shF,zK,x8]
 | g::r,t,b,h=>by
  have ih:=zg3 n r (t*g.1.2+b*g.1.1*n g.2) (b*g.1.2) h.tl
  have hb:=(h g (.head _)).1
  show shF n r (t*g.1.2+b*g.1.1*n g.2) (b*g.1.2)=(t*(g.1.2*zK r)+b*(n g.2*g.1.1*(g.1.2*zK r / g.1.2)+x8 n (g.1.2*zK r) r),b*(g.1.2*zK r))
  rw[ih,zca n g.1.2 (zK r) r λx hx=>zbn hx,Int.mul_ediv_cancel_left _ (by omega)]
  refine Prod.ext ?_ ?_
  .simp only[Int.add_mul,Int.mul_add]
   ac_rfl
  .simp only[Int.mul_assoc]
theorem zhQ {n:List Row->Int}{gs:List Gp}(h:zfv gs):shF n gs 0 1=(x8 n (zK gs) gs,zK gs):=by
 rw[zg3 n gs 0 1 h]
 simp
theorem zbG (n:List Row->Int)(g:Gp):∀ (gs:List Gp) (t b:Int),shF n (gs++[g]) t b=((shF n gs t b).1*g.1.2+(shF n gs t b).2*g.1.1*n g.2,(shF n gs t b).2*g.1.2)
 | [],t,b=>rfl
 | h::r,t,b=>zbG n g r _ _
theorem zdv (n:List Row->Int)(W:Int)(g:Gp):∀ (gs:List Gp),x8 n W (gs++[g])=x8 n W gs+n g.2*g.1.1*(W / g.1.2)
 | []=>by simp[x8]
 | h::r=>by
  show _+x8 n W (r++[g])=_+x8 n W r+_
  rw[zdv n W g r,Int.add_assoc]
theorem zch (rows:List Row)(r:Row)(x:Int):wAt (rows++[r]) x=wAt rows x+if r.1=x then r.2.2 else 0:=by
 unfold wAt
 rw[List.filter_append,List.map_append,List.sum_append]
 by_cases h:r.1=x <;> simp[h]
theorem zaz (x:Int):wAt [] x=0:=rfl
theorem vm (rows:List Row)(r:Row)(x:Int):wAt (r::rows) x=(if r.1=x then r.2.2 else 0)+wAt rows x:=by
 unfold wAt
 rw[List.filter_cons]
 by_cases h:r.1=x <;> simp[h]
theorem Xq {α:Type}(f g:α->Int):∀ l:List α,(l.map λx=>f x+g x).sum=(l.map f).sum+(l.map g).sum
 | []=>rfl
 | a::r=>by
  have:=Xq f g r
  simp only[List.map_cons,List.sum_cons,this]
  omega
theorem vE {α:Type}(f:α->Int)(c:Int):∀ l:List α,(l.map λx=>f x*c).sum=(l.map f).sum*c
 | []=>by simp
 | a::r=>by
  have:=vE f c r
  simp only[List.map_cons,List.sum_cons,this,Int.add_mul]
theorem za2 (w:Int)(p:Int):∀ n:Nat,((List.range n).map λx:Nat=>if p=(x:Int)then w else 0).sum=if 0<=p/\p < (n:Int)then w else 0
 | 0=>by simp;omega
 | n+1=>by
  rw[List.range_succ,List.map_append,List.sum_append,za2 w p n]
  simp only[List.map_cons,List.map_nil,List.sum_cons,List.sum_nil,Int.add_zero]
  by_cases h:p=(n:Int)
  .rw[if_pos h,if_neg (by omega),if_pos (by omega)];omega
  .rw[if_neg h]
   by_cases h2:0<=p/\p < (n:Int)
   .rw[if_pos h2,if_pos (by omega)];(clear h2 h;omega)
   .rw[if_neg h2,if_neg (by omega)];rfl
theorem xx {α:Type}:∀ l:List α,(l.map λ_=>(0:Int)).sum=0
 | []=>rfl
 | _::r=>by simp[xx r]
theorem X9 {n:Nat}:∀ {rows:List Row},(∀ r∈rows,0<=r.1/\r.1 < (n:Int))->((List.range n).map λx:Nat=>wAt rows (x:Int)).sum=Ze rows
 | [],_=>by simpa [wAt,Ze]using xx (List.range n)
 | r::rows,h=>by
  have ih:=X9 (n:=n) (rows:=rows) λx hx=>h x (.tail _ hx)
  have e:(λx:Nat=>wAt (r::rows) (x:Int))=λx:Nat=>(if r.1=(x:Int)then r.2.2 else 0)+wAt rows (x:Int):=funext λx=>vm rows r x
  rw[e,Xq,za2,ih,if_pos (h r (.head _))]
  simp[Ze]
theorem zgL {n:Nat}(W:Int):∀ {gs:List Gp},(∀ g∈gs,∀ r∈g.2,0<=r.1/\r.1 < (n:Int))->((List.range n).map λx:Nat=>x8 (λrows=>wAt rows (x:Int)) W gs).sum=x8 Ze W gs
 | [],_=>by simpa [x8]using xx (List.range n)
 | g::r,h=>by
  have ih:=zgL (n:=n) W (gs:=r) λx hx=>h x (.tail _ hx)
  show((List.range n).map λx:Nat=>wAt g.2 (x:Int)*g.1.1*(W / g.1.2)+x8 (λrows=>wAt rows (x:Int)) W r).sum=Ze g.2*g.1.1*(W / g.1.2)+x8 Ze W r
  rw[Xq,ih,vE,vE,X9 (h g (.head _))]
theorem Vw {n:List Row->Int}{W:Int}:∀ {gs:List Gp},(∀ g∈gs,n g.2=0)->x8 n W gs=0
 | [],_=>rfl
 | g::r,h=>by
  show n g.2*g.1.1*(W / g.1.2)+x8 n W r=0
  rw[h g (.head _),Vw λx hx=>h x (.tail _ hx)]
  simp
theorem zgH {rows:List Row}{x:Int}(h:∀ r∈rows,r.1≠x):wAt rows x=0:=by
 unfold wAt
 have:(rows.filter λr=>decide (r.1=x))=[]:=by
  rw[List.filter_eq_nil_iff]
  exact λr hr=>by simpa using h r hr
 rw[this]
 rfl
theorem zhd {rows:List Row}(h:∀ r∈rows,0<=r.2.2)(x:Int):0<=wAt rows x:=by
 induction rows with
 | nil=>exact Int.le_refl _
 | cons r rows ih =>
  rw[vm]
  have h1:=h r (.head _)
  have h2:=ih λy hy=>h y (.tail _ hy)
  split <;> omega
theorem zjN {rows:List Row}{A:Int}(hA:0<=A)(h:∀ r∈rows,0<=r.2.2/\r.2.2<=A)(x:Int):wAt rows x<=rows.length*A:=by
 induction rows with
 | nil=>simp[wAt]
 | cons r rows ih =>
  rw[vm,List.length_cons]
  have h1:=h r (.head _)
  have h2:=ih λy hy=>h y (.tail _ hy)
  have:((rows.length+1:Nat):Int)*A=(rows.length:Int)*A+A:=by rw[Int.natCast_add,Int.add_mul];simp
  split <;> omega
noncomputable def zW (r:Row):D:=.tup [.int r.1,.int r.2.1,.int r.2.2]
noncomputable abbrev Kn:=List (Int × Int)
noncomputable def knK (kn:Kn):List (List Key):=kn.map λp=>[.inl p.1]
noncomputable def knV (kn:Kn):List D:=kn.map λp=>.int p.2
noncomputable def vx:Kn->Int->Option Int
 | [],_=>none
 | q::r,p=>if q.1=p then some q.2 else vx r p
theorem Vh:∀ {kn:Kn} {p w:Int},vx kn p=some w->(p,w)∈kn
 | q::r,p,w,h=>by
  unfold vx at h
  split at h
  .rename_i e
   cases h
   subst e
   exact .head _
  .exact .tail _ (Vh h)
theorem zkZ {a b:Int}(h:¬ a=b):¬ ([Sum.inl a]:List Key)=[.inl b]:=λe=>h (by injection e with e;injection e)
theorem Xh (p:Int):∀ kn:Kn,YG (knK kn) (knV kn) [.inl p]=(vx kn p).map .int
 | []=>rfl
 | q::r=>by
  refine vP.trans ?_
  show(if ([Sum.inl q.1]:List Key)=[.inl p]then some (D.int q.2)else YG (knK r) (knV r) [.inl p])=(if q.1=p then some q.2 else vx r p).map .int
  by_cases h:q.1=p
  .rw[if_pos (by rw[h]),if_pos h];rfl
  .rw[if_neg (zkZ h),if_neg h];exact Xh p r
theorem zgW {kn:Kn}{p w:Int}(h:vx kn p=none):Xr (knK kn) (knV kn) [.inl p]=knK (kn++[(p,w)]):=by
 unfold Xr
 rw[Xh,h,if_neg (by decide)]
 unfold knK
 rw[List.map_append]
 rfl
theorem zgb {kn:Kn}{p w:Int}(h:vx kn p=none):Xc (knK kn) (knV kn) [.inl p] (.int w)=knV (kn++[(p,w)]):=by
 unfold Xc
 rw[Xh,h,if_neg (by decide)]
 unfold knV
 rw[List.map_append]
 rfl
theorem zht (neg:Bool)(p:Int)(kn:Kn):zft neg (.int p) (.dct false false (knK kn) (knV kn))=some (.bl (neg != (vx kn p).isSome)):=by
 show some (D.bl (neg != (YG (knK kn) (knV kn) [.inl p]).isSome))=_
 rw[Xh,Option.isSome_map]
theorem ziU (p:Int)(kn:Kn):zea (.dct false false (knK kn) (knV kn)) (.int p)=(vx kn p).map .int:=Xh p kn
theorem zh9 {m:Bool}{i:Nat}{fk fe:Ev->Option D}{ρ ρ':SE}{kn:Kn}{p w:Int}(h1:vEv m fe ρ=some (.int w))(h2:fk (visG ρ)=some (.int p))(h3:ρ[i]?=some (.m false (knK kn) (knV kn)))(h4:vx kn p=none)(h5:kn.length<=1000)
 (h6:ρ.set i (.m false (knK (kn++[(p,w)])) (knV (kn++[(p,w)])))=ρ'):X2 m i fk fe ρ=.nx ρ':=by
 have e:zeE ρ i (.int p) (.int w)=some ρ':=by
  unfold zeE
  rw[h3]
  show(if decide ((knK kn).length < sizeLine)=true then some (ρ.set i (.m false (Xr (knK kn) (knV kn) [.inl p]) (Xc (knK kn) (knV kn) [.inl p] (.int w))))else none)=_
  rw[if_pos (decide_eq_true (YV (by unfold knK;rw[List.length_map];exact h5))),zgW (w:=w) h4,zgb h4,h6]
 unfold X2
 rw[h1,Option.bind_some,h2,Option.bind_some,e]
noncomputable def wK (ts:List Tie)(root:Int)(kn:Kn)(r:Row):Bool :=
 decide (Ya r.1 r.2.1∈ts)&&decide (1<=r.2.2)&&!decide (r.1=root)&&!(vx kn r.1).isSome&&(decide (r.2.1=root)||((vx kn r.2.1).isSome&&decide (2*r.2.2<=(vx kn r.2.1).getD 0)))
noncomputable def yI (ts:List Tie)(root:Int):Kn->List Row->Bool
 | _,[]=>true
 | kn,r::rs=>wK ts root kn r&&yI ts root (kn++[(r.1,r.2.2)]) rs
noncomputable def xm (ts:List Tie)(root:Int)(rows:List Row):Bool:=!rows.isEmpty&&yI ts root [] rows
noncomputable def vB (rows:List Row):Kn:=rows.map λr=>(r.1,r.2.2)
theorem Yc {ts:List Tie}{root:Int}:∀ {rows:List Row} {kn:Kn},yI ts root kn rows=true->∀ r∈rows,Ya r.1 r.2.1∈ts/\1<=r.2.2/\r.1≠root
 | r::rs,kn,h,x,hx=>by
  unfold yI at h
  rw[Bool.and_eq_true]at h
  rcases List.mem_cons.mp hx with e | e
  .subst e
   have h:=h.1
   unfold wK at h
   simp only[Bool.and_eq_true,decide_eq_true_eq,Bool.not_eq_true',decide_eq_false_iff_not]at h
   exact⟨h.1.1.1.1,h.1.1.1.2,h.1.1.2⟩
  .exact Yc h.2 x e
theorem ZQ {m:Int}{ts:List Tie}{a b:Int}(ok:yy m ts)(h:Ya a b∈ts):(0<=a/\a < m)/\(0<=b/\b < m)/\a≠b:=by
 have:=ok.rng _ h
 unfold Ya at this
 dsimp only at this
 split at this <;> split at this <;> omega
noncomputable def YS:SE->Ctl :=
 (xa (V4 (zB 2 yk (zc (zk ixD (zf 0) (eC (.int 0))) (zc (zf 1) zt))) (zk inD (zB 2 yE (zc (zk ixD (zf 1) (eC (.int 0))) (zc (zk ixD (zf 1) (eC (.int 1))) zt))) (zk ixD (zf 0) (eC (.int 1))))))
noncomputable def Zc:List D->Option D:=fnD 2 YS
theorem zcK {m:Int}{ts:List Tie}(ok:yy m ts)(a b:Int):Zc [zF m ts,.tup [.int a,.int b]]=some (.bl (decide (Ya a b∈ts))):=by
 have ep:yk [.int m,.tup [.int a,.int b]]=some (.bl (inR m a&&inR m b&&!decide (a=b))):=rfl
 have et:yE [.int a,.int b]=some (zj (Ya a b)):=rfl
 have ei:=zgG (Ya a b) ts
 have em:ixD (zF m ts) (.int 0)=some (.int m):=rfl
 have e1:ixD (zF m ts) (.int 1)=some (.tup (ts.map zj)):=rfl
 have ea:ixD (.tup [.int a,.int b]) (.int 0)=some (.int a):=rfl
 have eb:ixD (.tup [.int a,.int b]) (.int 1)=some (.int b):=rfl
 refine zar (ρ:=[.v (zF m ts),.v (.tup [.int a,.int b])]) rfl ?_
 unfold YS
 refine Yv (xq ?_) rfl
 cases hp:inR m a&&inR m b&&!decide (a=b) with
 | true =>
  rw[hp]at ep
  show(((yk [.int m,.tup [.int a,.int b]]).bind asB).bind λc=>if c=true then ((yE [.int a,.int b]).bind λt=>inD t (.tup (ts.map zj)))else some (D.bl false))=_
  rw[ep,et]
  exact ei
 | false =>
  have:¬ Ya a b∈ts:=λh=>by
   obtain⟨h1,h2,h3⟩:=ZQ ok h
   have:(inR m a&&inR m b&&!decide (a=b))=true:=by
    unfold inR
    simp only[Bool.and_eq_true,decide_eq_true_eq,Bool.not_eq_true',decide_eq_false_iff_not]
    omega
   rw[this]at hp
   cases hp
  rw[decide_eq_false this]
  rw[hp]at ep
  show(((yk [.int m,.tup [.int a,.int b]]).bind asB).bind λc=>if c=true then ((yE [.int a,.int b]).bind λt=>inD t (.tup (ts.map zj)))else some (D.bl false))=_
  rw[ep]
  rfl
theorem zcE (T:Txt K mg ad):xR P w K mg base CX0 5 ad.f_is_step ad.e_is_step ["web","thing"] (@spD ⟨K⟩ 2 Zc):=by
 letI:KK:=⟨K⟩
 have G_is_pair:=X8 (P:=P) (w:=w) (base:=base) T
 have G_tie_between:=X3 (P:=P) (w:=w) (base:=base) T
 refine yZ (N:=["web","thing"]) (ps:=["web","thing"]) T.d_is_step.fn zcv (g:=YS) λcdv A outer s H E hr=>?_
 unfold YS
 exact(zi (zx (ZA (zq (G_is_pair.mono (by decide)) hr rfl T.d_is_pair.at_ T.d_is_pair.kp T.d_is_pair.bd (zb (zw (za 0 (pv 0)) (zd ze) (λ_ _=>rfl)) (zb (za 1 (pv 1)) zh))) (Xy (VI (zhC hr) zhv (by with_unfolding_all rfl) (zq (G_tie_between.mono (by decide)) hr rfl T.d_tie_between.at_ T.d_tie_between.kp T.d_tie_between.bd (zb (zw (za 1 (pv 1)) (zd ze) (λ_ _=>rfl)) (zb (zw (za 1 (pv 1)) (zd ze) (λ_ _=>rfl)) zh))) (zw (za 0 (pv 0)) (zd ze) (λ_ _=>rfl)))))))
noncomputable def xg:SE->Ctl :=
 (zO (sIf (ZL (xz (tOf (eUn (vt .tuple) (zf 3)))) (tOf (zk neD (eFn VN (zc (zf 3) zt)) (eC (.int 3))))) (xa (eC (.bl false))) yc)
  (zO (sIf (ZL (xz (tOf (zB 2 Zc (zc (zf 0) (zc (eSl slD (zf 3) XR (Ys (eC (.int 2)))) zt))))) (ZL (xz (tOf (zB 1 yw (zc (zk ixD (zf 3) (eC (.int 2))) zt)))) (tOf (zk ltD (zk ixD (zf 3) (eC (.int 2))) (eC (.int 1)))))) (xa (eC (.bl false))) yc)
  (zO (sIf (ZL (tOf (zk WN (zk ixD (zf 3) (eC (.int 0))) (zf 1))) (tOf (zk (zft false) (zk ixD (zf 3) (eC (.int 0))) (zf 2)))) (xa (eC (.bl false))) yc)
  (zO (sIf (tOf (zk WN (zk ixD (zf 3) (eC (.int 1))) (zf 1))) (xa (eC (.bl true))) yc)
  (xa (V4 (zk (zft false) (zk ixD (zf 3) (eC (.int 1))) (zf 2)) (zk leD (zk xP (eC (.int 2)) (zk ixD (zf 3) (eC (.int 2)))) (zk zea (zf 2) (zk ixD (zf 3) (eC (.int 1)))))))))))
noncomputable def yY:List D->Option D:=fnD 4 xg
theorem WT {m:Int}{ts:List Tie}{root:Int}(ok:yy m ts)(kn:Kn)(r:Row):yY [zF m ts,.int root,.dct false false (knK kn) (knV kn),zW r]=some (.bl (wK ts root kn r)):=by
 obtain⟨p,i,w⟩:=r
 have es:=zcK ok p i
 have ew:yw [.int w]=some (.bl true):=rfl
 have i0:ixD (zW (p,i,w)) (.int 0)=some (.int p):=rfl
 have i1:ixD (zW (p,i,w)) (.int 1)=some (.int i):=rfl
 have i2:ixD (zW (p,i,w)) (.int 2)=some (.int w):=rfl
 have sl:slD (zW (p,i,w)) none (some 2)=some (.tup [.int p,.int i]):=rfl
 have d0:=zht false p kn
 have d1:=zht false i kn
 have dg:=ziU i kn
 have m2:xP (.int 2) (.int w)=some (.int (2*w)):=zhK (by decide) (by decide)
 refine zar (ρ:=[.v (zF m ts),.v (.int root),.v (.dct false false (knK kn) (knV kn)),.v (zW (p,i,w))]) rfl ?_
 unfold xg wK
 refine zy (ρ':=[.v (zF m ts),.v (.int root),.v (.dct false false (knK kn) (knV kn)),.v (zW (p,i,w))]) rfl ?_
 refine xT (XB (c:=!(decide (Ya p i∈ts)&&decide (1<=w))) ?_ (λz=>Yv rfl ?_) λz=>YN rfl ?_)
 .show(((Zc [zF m ts,.tup [.int p,.int i]]).bind asB).map (!·)).bind (λc=>if c=true then some true else (some false).bind λc=>if c=true then some true else some (decide (w < 1)))=_
  rw[es]
  have c:decide (w < 1)=!decide (1<=w):=by
   by_cases h:1<=w
   .rw[decide_eq_true h,decide_eq_false (by omega)];rfl
   .rw[decide_eq_false h,decide_eq_true (by omega)];rfl
  rw[c]
  cases decide (Ya p i∈ts) <;> rfl
 .rw[Bool.not_eq_true']at z
  rw[z]
  rfl
 rw[Bool.not_eq_false']at z
 rw[z]
 refine xT (XB (c:=decide (p=root)||(vx kn p).isSome) ?_ (λz=>Yv rfl ?_) λz=>YN rfl ?_)
 .show((some (decide (p=root))).bind λc=>if c=true then some true else ((zft false (.int p) (.dct false false (knK kn) (knV kn))).bind asB))=_
  rw[d0]
  cases decide (p=root) <;> cases (vx kn p).isSome <;> rfl
 .revert z
  cases decide (p=root) <;> cases (vx kn p).isSome <;> intro z <;> first | rfl | cases z
 rw[Bool.or_eq_false_iff]at z
 rw[z.1,z.2]
 refine xT (XB (c:=decide (i=root)) ?_ (λz=>Yv rfl ?_) λz=>YN rfl ?_)
 .rfl
 .rw[z];rfl
 rw[z]
 refine Yv (xq ?_) rfl
 cases h:vx kn i with
 | none =>
  rw[h]at d1
  show(((zft false (.int i) (.dct false false (knK kn) (knV kn))).bind asB).bind λc=>if c=true then _ else some (D.bl false))=_
  rw[d1]
  rfl
 | some u =>
  rw[h]at d1 dg
  have dg:zea (.dct false false (knK kn) (knV kn)) (.int i)=some (.int u):=dg
  show(((zft false (.int i) (.dct false false (knK kn) (knV kn))).bind asB).bind λc=>if c=true then ((xP (.int 2) (.int w)).bind λa=>(zea (.dct false false (knK kn) (knV kn)) (.int i)).bind λb=>leD a b)else some (D.bl false))=_
  rw[d1,m2,dg]
  rfl
theorem ZI (T:Txt K mg ad):xR P w K mg base CX0 6 ad.f_is_branch_row ad.e_is_branch_row ["web","root","weights_ahead","thing"] (@spD ⟨K⟩ 4 yY):=by
 letI:KK:=⟨K⟩
 have G_is_whole:=Yw (P:=P) (w:=w) (base:=base) T
 have G_is_step:=zcE (P:=P) (w:=w) (base:=base) T
 refine yZ (N:=["web","root","weights_ahead","thing"]) (ps:=["web","root","weights_ahead","thing"]) T.d_is_branch_row.fn ZC (g:=xg) λcdv A outer s H E hr=>?_
 unfold xg
 exact(zg (yW (Vk (Yh (xC (xo (yG .tuple rfl T.z_isinstance (za 3 (pv 3)) (wv (v:=.ty "tuple") rfl T.z_tuple yB rfl)))) (wJ (zG zaW Z4 (zE _) (zS yo Yx rfl T.z_len Z0 (zb (za 3 (pv 3)) zh)) (zd ze))))) (zi (zx (we wd))) zD)
  (zg (yW (Vk (Yh (xC (xo (zq (G_is_step.mono (by decide)) hr rfl T.d_is_step.at_ T.d_is_step.kp T.d_is_step.bd (zb (za 0 (pv 0)) (zb (zbr (za 3 (pv 3)) ziY (za4 (zd ze))) zh))))) (Yh (xC (xo (zq (G_is_whole.mono (by decide)) hr rfl T.d_is_whole.at_ T.d_is_whole.kp T.d_is_whole.bd (zb (zw (za 3 (pv 3)) (zd ze) (λ_ _=>rfl)) zh)))) (wJ (zG zbf ye (zE _) (zw (za 3 (pv 3)) (zd ze) (λ_ _=>rfl)) (zd ze)))))) (zi (zx (we wd))) zD)
  (zg (yW (Vk (Yh (zG (vw hr) xL (zE _) (zw (za 3 (pv 3)) (zd ze) (λ_ _=>rfl)) (za 1 (pv 1))) (wJ (zG (zhF hr) zbb (by with_unfolding_all rfl) (zw (za 3 (pv 3)) (zd ze) (λ_ _=>rfl)) (za 2 (pv 2)))))) (zi (zx (we wd))) zD)
  (zg (yW (zG (vw hr) xL (zE _) (zw (za 3 (pv 3)) (zd ze) (λ_ _=>rfl)) (za 1 (pv 1))) (zi (zx (we wd))) zD)
  (zi (zx (ZA (VI (zhF hr) zbb (by with_unfolding_all rfl) (zw (za 3 (pv 3)) (zd ze) (λ_ _=>rfl)) (za 2 (pv 2))) (Xy (VI zeR ye (zE _) (wo (zd ze) (zw (za 3 (pv 3)) (zd ze) (λ_ _=>rfl))) (ziD hr (za 2 (pv 2)) (zw (za 3 (pv 3)) (zd ze) (λ_ _=>rfl)) (λ_ _=>rfl)))))))))))
theorem zdF {ts:List Tie}{root:Int}{rows:List Row}{i:Nat}{r:Row}(hr:rows[i]?=some r)(h:yI ts root (vB (rows.take i)) (rows.drop i)=yI ts root [] rows) :
 yI ts root [] rows=(wK ts root (vB (rows.take i)) r&&yI ts root (vB (rows.take (i+1))) (rows.drop (i+1))):=by
 have hi:i < rows.length:=(List.getElem?_eq_some_iff.mp hr).1
 have e:rows[i]=r:=(List.getElem?_eq_some_iff.mp hr).2
 rw[<-h,List.drop_eq_getElem_cons hi,e]
 show(wK ts root (vB (rows.take i)) r&&_)=_
 have:vB (rows.take (i+1))=vB (rows.take i)++[(r.1,r.2.2)]:=by
  unfold vB
  rw[List.take_succ,hr,List.map_append]
  rfl
 rw[this]
theorem ziI {rows:List Row}{i:Nat}(h:rows.length<=1000):(vB (rows.take i)).length<=1000:=by
 unfold vB
 rw[List.length_map]
 exact Nat.le_trans (List.length_take_le' ..) h
theorem zda {rows:List Row}{i:Nat}{r:Row}(hr:rows[i]?=some r):vB (rows.take i)++[(r.1,r.2.2)]=vB (rows.take (i+1)):=by
 unfold vB
 rw[List.take_succ,hr,List.map_append]
 rfl
theorem Z5 {ts:List Tie}{root:Int}{kn:Kn}{r:Row}(h:wK ts root kn r=true):vx kn r.1=none:=by
 unfold wK at h
 simp only[Bool.and_eq_true,Bool.not_eq_true']at h
 cases e:vx kn r.1 with
 | none=>rfl
 | some x =>
  rw[e]at h
  have h2:(some x).isSome=false:=h.1.2
  cases h2
theorem zcC {rows:List Row}:decide (((rows.map zW).length:Int)=0)=rows.isEmpty:=by
 cases rows with
 | nil=>rfl
 | cons r rs=>exact decide_eq_false (by rw[List.length_map,List.length_cons];omega)
noncomputable def yN:SE->Ctl :=
 (zO (sIf (xz (tOf (zB 4 yY (zc (zf 0) (zc (zf 1) (zc (zf 3) (zc (zf 4) zt))))))) (xa (eC (.bl false))) yc)
  (X2 false 3 (zk ixD (zf 4) (eC (.int 0))) (zk ixD (zf 4) (eC (.int 2)))))
noncomputable def yC:SE->Ctl :=
 (zO (sIf (ZL (xz (tOf (eUn (vt .list) (zf 2)))) (tOf (zk WN (eFn VN (zc (zf 2) zt)) (eC (.int 0))))) (xa (eC (.bl false))) yc)
  (zO (zhZ false 3)
  (zO (WK (iOf (zf 2)) (yX 4) yN)
  (sFz 3 (xa (eC (.bl true)))))))
noncomputable def yu:List D->Option D:=fnD 5 yC
theorem X0 {m:Int}{ts:List Tie}{root:Int}{rows:List Row}(ok:yy m ts)(h9:rows.length<=1000):yu [zF m ts,.int root,.lst (rows.map zW)]=some (.bl (xm ts root rows)):=by
 refine zar (ρ:=[.v (zF m ts),.v (.int root),.v (.lst (rows.map zW)),.no,.no]) rfl ?_
 unfold yC xm
 refine xT (XB (c:=rows.isEmpty) ?_ (λz=>Yv rfl ?_) λz=>YN rfl ?_)
 .rw[<-zcC]
  rfl
 .rw[z];rfl
 rw[z]
 refine zy (ρ':=[.v (zF m ts),.v (.int root),.v (.lst (rows.map zW)),.m false (knK []) (knV []),.no]) rfl ?_
 refine xT (zaM (ds:=rows.map zW) (λi ρ=>∃ o4,ρ=[.v (zF m ts),.v (.int root),.v (.lst (rows.map zW)),.m false (knK (vB (rows.take i))) (knV (vB (rows.take i))),o4]/\yI ts root (vB (rows.take i)) (rows.drop i)=yI ts root [] rows) rfl ⟨_,rfl,rfl⟩ ?_ ?_)
 .rintro i d ρ hd ⟨o4,rfl,hI⟩
  rw[List.getElem?_map]at hd
  obtain⟨r,hr,rfl⟩:=Option.map_eq_some_iff.mp hd
  have hR:=zdF hr hI
  have e1:=WT (root:=root) ok (vB (rows.take i)) r
  refine⟨[.v (zF m ts),.v (.int root),.v (.lst (rows.map zW)),.m false (knK (vB (rows.take i))) (knV (vB (rows.take i))),.v (zW r)],rfl,?_⟩
  unfold yN
  refine xT (XB (c:=!wK ts root (vB (rows.take i)) r) ?_ (λz=>Yv rfl ?_) λz=>YN rfl ?_)
  .show((yY [zF m ts,.int root,.dct false false (knK (vB (rows.take i))) (knV (vB (rows.take i))),zW r]).bind asB).map (!·)=_
   rw[e1]
   rfl
  .rw[Bool.not_eq_true']at z
   rw[hR,z]
   rfl
  .rw[Bool.not_eq_false']at z
   refine YN (zh9 (kn:=vB (rows.take i)) (p:=r.1) (w:=r.2.2) rfl rfl rfl (Z5 z) (ziI h9) rfl) ⟨.v (zW r),?_,?_⟩
   .rw[zda hr];rfl
   .rw[hR,z];rfl
 .rintro ρ ⟨o4,rfl,hI⟩
  rw[List.length_map,List.drop_length]at hI
  refine zhN rfl (Yv rfl ?_)
  rw[<-hI]
  rfl
theorem Za (T:Txt K mg ad):xR P w K mg base CX0 7 ad.f_are_branch_rows ad.e_are_branch_rows ["web","root","thing"] (@spD ⟨K⟩ 3 yu):=by
 letI:KK:=⟨K⟩
 have G_is_branch_row:=ZI (P:=P) (w:=w) (base:=base) T
 refine yZ (N:=["web","root","thing","weights_ahead","row"]) (ps:=["web","root","thing"]) T.d_are_branch_rows.fn xl (g:=yC) λcdv A outer s H E hr=>?_
 unfold yC yN
 exact(zg (yW (Vk (Yh (xC (xo (yG .list rfl T.z_isinstance (za 2 (pv 2)) (wv (v:=.ty "list") rfl T.z_list zba rfl)))) (wJ (zG (vw hr) xL (zE _) (zS yo Yx rfl T.z_len Z0 (zb (za 2 (pv 2)) zh)) (zd ze))))) (zi (zx (we wd))) zD)
  (zg (ziT (t:=false) (i:=3) xl.nd rfl (Or.inl rfl))
  (zg (Xu PassesOwn.never rfl (xB (za 2 (pv 2))) (zU (zr (i:=4) xl.nd rfl (Or.inl rfl))) (zg (yW (xC (xo (zq (G_is_branch_row.mono (by decide)) hr rfl T.d_is_branch_row.at_ T.d_is_branch_row.kp T.d_is_branch_row.bd (zb (za 0 (pv 0)) (zb (za 1 (pv 1)) (zb (za 3 (pv 3)) (zb (za 4 (pv 4)) zh))))))) (zi (zx (we wd))) zD)
  (zi (zdb (m:=false) hr (zw (za 4 (pv 4)) (zd ze) (λ_ _=>rfl)) (pv 3) (zw (za 4 (pv 4)) (zd ze) (λ_ _=>rfl))))))
  (XI 3 (zi (zx (we wd)))))))
end
noncomputable def zb9 (rows:List Row)(h:Hl):Int:=(rows.map λr=>vAt h r.1*r.2.2).sum
theorem zao (rows:List Row)(r:Row)(h:Hl):zb9 (rows++[r]) h=zb9 rows h+vAt h r.1*r.2.2:=by
 unfold zb9
 rw[List.map_append,List.sum_append]
 simp
theorem Vu (rows:List Row)(r:Row):Ze (rows++[r])=Ze rows+r.2.2:=by
 unfold Ze
 rw[List.map_append,List.sum_append]
 simp
theorem XF {h:Hl}{s:Tie}(hs:YI h.length s){x:Int}(hx:0<=x):vAt (moved h s) x=vAt h x - (if x=s.1 then 2 else 0)+(if x=s.2 then 1 else 0):=by
 obtain⟨a,b⟩:=s
 obtain⟨a0,a1,b0,b1,ne⟩:=hs
 dsimp only at a0 a1 b0 b1 ne ⊢
 unfold moved
 dsimp only
 rw[Y8 b0 (by rw[Yd];exact b1) hx,Y8 a0 a1 b0,Y8 a0 a1 hx]
 by_cases c:x=b
 .rw[if_pos c,if_neg (λe=>ne e.symm),c,if_neg (λe=>ne e.symm),if_pos rfl];omega
 .rw[if_neg c,if_neg c]
  by_cases c2:x=a
  .rw[if_pos c2,if_pos c2,c2];omega
  .rw[if_neg c2,if_neg c2];omega
theorem We {h:Hl}{s:Tie}(hs:YI h.length s):∀ {rows:List Row},(∀ r∈rows,0<=r.1)->zb9 rows (moved h s)=zb9 rows h - 2*wAt rows s.1+wAt rows s.2
 | [],_=>by simp[zb9,wAt]
 | r::rows,hr=>by
  have ih:=We hs (rows:=rows) λx hx=>hr x (.tail _ hx)
  have e:=XF hs (hr r (.head _))
  show vAt (moved h s) r.1*r.2.2+zb9 rows (moved h s)=vAt h r.1*r.2.2+zb9 rows h - 2*wAt (r::rows) s.1+wAt (r::rows) s.2
  rw[ih,e,vm,vm]
  have e2:(vAt h r.1 - (if r.1=s.1 then 2 else 0)+(if r.1=s.2 then 1 else 0))*r.2.2=vAt h r.1*r.2.2 - 2*(if r.1=s.1 then r.2.2 else 0)+(if r.1=s.2 then r.2.2 else 0):=by
   rw[Int.add_mul,Int.sub_mul]
   split <;> split <;> omega
  omega
theorem zdP {x:Int}{u:Int}:∀ {rows:List Row},(∀ r∈rows,0<=r.2.2)->(∃ r∈rows,r.1=x/\r.2.2=u)->u<=wAt rows x
 | r::rows,hn,⟨q,hq,e1,e2⟩=>by
  have h0:=zhd (λz hz=>hn z (.tail _ hz)) x (rows:=rows)
  rw[vm]
  rcases List.mem_cons.mp hq with e | e
  .subst e
   rw[if_pos e1]
   omega
  .have:=zdP (λz hz=>hn z (.tail _ hz)) ⟨q,e,e1,e2⟩
   have:=hn r (.head _)
   split <;> omega
theorem WR:∀ (a b:Kn) (p:Int),vx (a++b) p=(vx a p).or (vx b p)
 | [],b,p=>by simp[vx]
 | q::a,b,p=>by
  show(if q.1=p then some q.2 else vx (a++b) p)=(if q.1=p then some q.2 else vx a p).or (vx b p)
  rw[WR a b p]
  split <;> rfl
theorem Vn:∀ {kn:Kn} {p:Int},vx kn p=none->∀ q∈kn,q.1≠p
 | q::r,p,h,x,hx=>by
  have h:(if q.1=p then some q.2 else vx r p)=none:=h
  split at h
  .cases h
  .rename_i c
   rcases List.mem_cons.mp hx with e | e
   .rw[e];exact c
   .exact Vn h x e
theorem Yo {ts:List Tie}{root:Int}{r:Row}:∀ {rows:List Row} {kn:Kn},yI ts root kn (rows++[r])=(yI ts root kn rows&&wK ts root (kn++vB rows) r)
 | [],kn=>by
  show(wK ts root kn r&&true)=(true&&wK ts root (kn++[]) r)
  rw[List.append_nil,Bool.and_true,Bool.true_and]
 | q::rows,kn=>by
  show(wK ts root kn q&&yI ts root (kn++[(q.1,q.2.2)]) (rows++[r]))=((wK ts root kn q&&yI ts root (kn++[(q.1,q.2.2)]) rows)&&wK ts root (kn++((q.1,q.2.2)::vB rows)) r)
  rw[Yo,List.append_assoc,Bool.and_assoc]
  rfl
theorem Beh.trans {ss:List Tie}{a b c:Hl}(h:Beh ss a b)(h2:Beh ss b c):Beh ss a c:=by
 induction h2 with
 | zero=>exact h
 | step _ hs h2 ih=>exact .step ih hs h2
noncomputable def zjg (m:Int)(ts:List Tie)(root:Int)(h:Hl):Prop:=∀ g,Beh (xn m ts) h g->vAt g root<=0
theorem YZ {m:Int}{ts:List Tie}{root:Int}(ok:yy m ts)(hr:0<=root):∀ (n:Nat) (rows:List Row),rows.length=n->yI ts root [] rows=true->∀ h:Hl,(h.length:Int)=m->(∀ v∈h,0<=v)->zjg m ts root h->zb9 rows h<=Ze rows
 | 0,rows,e,_,h,_,_,_=>by
  cases rows with
  | nil=>exact Int.le_refl _
  | cons _ _=>cases e
 | n+1,rows,e,hk,h,hl,hn,hs=>by
  have hne:rows≠[]:=λz=>by rw[z]at e;cases e
  obtain⟨rs,r,rfl⟩:∃ rs r,rows=rs++[r]:=⟨rows.dropLast,rows.getLast hne,(List.dropLast_concat_getLast hne).symm⟩
  have el:rs.length=n:=by rw[List.length_append]at e;exact Nat.succ.inj e
  have hm1:=Yc hk
  rw[Yo,Bool.and_eq_true,List.nil_append]at hk
  obtain⟨k1,k2⟩:=hk
  have IH:=YZ ok hr n rs el k1
  obtain⟨v,i,u⟩:=r
  have hnew:vx (vB rs) v=none:=Z5 k2
  unfold wK at k2
  simp only[Bool.and_eq_true,decide_eq_true_eq,Bool.not_eq_true',decide_eq_false_iff_not,Bool.or_eq_true]at k2
  obtain⟨⟨⟨⟨t1,t2⟩,t3⟩,_⟩,t5⟩:=k2
  obtain⟨v1,i1,vi⟩:=ZQ ok t1
  have hst:((v,i):Tie)∈xn m ts:=Zt.mpr ⟨v1,i1,t1⟩
  have nov:∀ q∈rs,q.1≠v:=λq hq=>Vn hnew (q.1,q.2.2) (List.mem_map.mpr ⟨q,hq,rfl⟩)
  have hw0:∀ q∈rs,0<=q.2.2:=λq hq=>by have:=(hm1 q (List.mem_append.mpr (.inl hq))).2.1;omega
  have hp0:∀ q∈rs++[(v,i,u)],0<=q.1:=λq hq=>(ZQ ok (hm1 q hq).1).1.1
  have key:∀ (k:Nat) (h:Hl),(vAt h v).toNat<=k->(h.length:Int)=m->(∀ v∈h,0<=v)->zjg m ts root h->zb9 (rs++[(v,i,u)]) h<=Ze (rs++[(v,i,u)]):=by
   intro k
   induction k with
   | zero =>
    intro h hv hl hn hs
    have:=IH h hl hn hs
    rw[zao,Vu]
    have:vAt h v*u<=1*u:=Int.mul_le_mul_of_nonneg_right (by omega) (by omega)
    dsimp only
    omega
   | succ k ik =>
    intro h hv hl hn hs
    by_cases c:2<=vAt h v
    .have hin:YI h.length (v,i):=by
      have:=vM ok _ hst
      rwa[show m.toNat=h.length by omega]at this
     have hb:Beh (xn m ts) h (moved h (v,i)):=.step .zero hst c
     have hsh:zjg m ts root (moved h (v,i)):=λg hg=>hs g (hb.trans hg)
     have hlm:((moved h (v,i)).length:Int)=m:=by rw[VZ];exact hl
     have hnm:=zbD hin hn c
     have ev:=XF hin v1.1
     dsimp only at ev
     rw[if_pos rfl,if_neg vi]at ev
     have:=ik (moved h (v,i)) (by omega) hlm hnm hsh
     have e1:=We hin hp0
     have e2:wAt (rs++[(v,i,u)]) v=u:=by
      rw[zch,zgH nov]
      dsimp only
      rw[if_pos rfl];omega
     have e3:wAt (rs++[(v,i,u)]) i=wAt rs i:=by
      rw[zch]
      dsimp only
      rw[if_neg vi];omega
     dsimp only at e1
     rw[e2,e3]at e1
     rcases t5 with t5 | ⟨t5,t6⟩
     .exfalso
      subst t5
      have ei:=XF hin i1.1
      dsimp only at ei
      rw[if_neg (λz=>vi z.symm),if_pos rfl]at ei
      have h1:=hsh _ .zero
      have h2:0<=vAt h i:=by
       unfold vAt
       rw[List.getD_eq_getElem?_getD,List.getElem?_eq_getElem (by omega)]
       exact hn _ (List.getElem_mem _)
      omega
     .obtain⟨y,hy⟩:=Option.isSome_iff_exists.mp t5
      rw[hy]at t6
      have t6:2*u<=y:=t6
      obtain⟨q,hq,eq⟩:=List.mem_map.mp (Vh hy)
      injection eq with q1 q2
      have:=zdP hw0 ⟨q,hq,q1,q2⟩
      omega
    .have:=IH h hl hn hs
     rw[zao,Vu]
     have:vAt h v*u<=1*u:=Int.mul_le_mul_of_nonneg_right (by omega) (by omega)
     dsimp only
     omega
  exact key _ h (Nat.le_refl _) hl hn hs
theorem lt1 {u:Int}:decide (u < 1)=!decide (1<=u):=by
 by_cases h:1<=u
 .rw[decide_eq_true h,decide_eq_false (by omega)];rfl
 .rw[decide_eq_false h,decide_eq_true (by omega)];rfl
theorem V5 {i j:Int}(h0:0<=j)(h1:j<=1000000):xP (.int i) (.int j)=some (.int (i*j)):=vf (zaG (Int.lt_of_lt_of_le (by decide) h0) (Int.lt_of_le_of_lt h1 (by decide)))
theorem zkg {i j:Int}(h0:0<=i)(h1:i<=1000000):xP (.int i) (.int j)=some (.int (i*j)):=vf (Zs (Int.lt_of_lt_of_le (by decide) h0) (Int.lt_of_le_of_lt h1 (by decide)))
theorem zbc {i j:Int}(h0:1<=j)(h1:j<=1000000):xj (.int i) (.int j)=some (.int (i / j)):=v4 (Int.lt_of_lt_of_le (by decide) h0) (Int.lt_of_le_of_lt h1 (by decide))
theorem nn1 {x:Int}(h:1<=x):0<=x:=Int.le_trans (by decide) h
theorem le7 {x:Int}(h:x<=7):x<=1000000:=Int.le_trans h (by decide)
theorem k60 {n:Nat}(h:n<=60):n<=1000:=Nat.le_trans h (by decide)
theorem s5 {n:Nat}(h:n<=5):n<=8:=Nat.le_trans h (by decide)
noncomputable def atT (y:Int)(t:Tie):Bool:=[D.int t.1,D.int t.2].any λe=>eqN 20 e (.int y)
theorem zaS {y:Int}{t:Tie}:atT y t=true↔t.1=y\/t.2=y:=by
 show((t.1 == y)||((t.2 == y)||false))=true↔_
 simp
noncomputable def ZJ (ts:List Tie)(y:Int):List Int:=(ts.filter (atT y)).map λt=>t.1+t.2 - y
theorem zd8 {ts:List Tie}{y:Int}:(ZJ ts y).length<=ts.length:=by
 unfold ZJ
 rw[List.length_map]
 exact List.length_filter_le _ _
theorem VT {ts:List Tie}{y o:Int}(h:o∈ZJ ts y):adj ts y o:=by
 unfold ZJ at h
 obtain⟨t,ht,rfl⟩:=List.mem_map.mp h
 obtain⟨h1,h2⟩:=List.mem_filter.mp ht
 obtain⟨a,b⟩:=t
 rcases zaS.mp h2 with h | h
 .have h:a=y:=h
  subst h
  exact .inl (by rw[show(a,a+b - a)=(a,b) by rw[show a+b - a=b by omega]];exact h1)
 .have h:b=y:=h
  subst h
  exact .inr (by rw[show(a+b - b,b)=(a,b) by rw[show a+b - b=a by omega]];exact h1)
theorem zde {ts:List Tie}{y o:Int}(h:adj ts y o):o∈ZJ ts y:=by
 unfold ZJ
 rcases h with h | h
 .exact List.mem_map.mpr ⟨_,List.mem_filter.mpr ⟨h,zaS.mpr (.inl rfl)⟩,by dsimp only;omega⟩
 .exact List.mem_map.mpr ⟨_,List.mem_filter.mpr ⟨h,zaS.mpr (.inr rfl)⟩,by dsimp only;omega⟩
theorem ziH {m:Int}{ts:List Tie}{ρ:Ev}{y:Int}{k:Nat}(h28:ts.length<=28)(h0:ρ[0]?=some (some (zF m ts)))(hk:ρ[k]?=some (some (.int y))) :
 fLC (iOf (zk ixD (zf 0) (eC (.int 1)))) b2 (tOf (zk inD (zf (k+2)) (wP (zc (zf 0) (zc (zf 1) zt))))) (zk Vl (zk xF (zf 0) (zf 1)) (zf (k+2))) ρ=some ((ZJ ts y).map .int):=by
 unfold fLC
 have e0:zf 0 ρ=some (zF m ts):=by unfold zf;rw[h0];rfl
 have e1:(iOf (zk ixD (zf 0) (eC (.int 1)))) ρ=some (ts.map zj):=by
  show(((zf 0 ρ).bind λx=>ixD x (.int 1)).bind wf)=_
  rw[e0]
  rfl
 rw[e1,Option.bind_some,if_pos (zeF (by rw[List.length_map];exact h28))]
 unfold ZJ
 rw[List.map_map]
 refine wN zj (atT y) (λt=>D.int (t.1+t.2 - y)) ts λt _=>⟨[some (.int t.1),some (.int t.2)],rfl,?_,λ_=>?_⟩
 .have ek:zf (k+2) ([some (.int t.1),some (.int t.2)]++ρ)=some (.int y):=by
   show((some (D.int t.1)::some (D.int t.2)::ρ)[k+2]?).getD none=_
   rw[List.getElem?_cons_succ,List.getElem?_cons_succ,hk]
   rfl
  show(((zf (k+2) ([some (.int t.1),some (.int t.2)]++ρ)).bind λx=>inD x (.tup [.int t.1,.int t.2])).bind asB)=_
  rw[ek]
  rfl
 .have ek:zf (k+2) ([some (.int t.1),some (.int t.2)]++ρ)=some (.int y):=by
   show((some (D.int t.1)::some (D.int t.2)::ρ)[k+2]?).getD none=_
   rw[List.getElem?_cons_succ,List.getElem?_cons_succ,hk]
   rfl
  show((zf (k+2) ([some (.int t.1),some (.int t.2)]++ρ)).bind λx=>Vl (.int (t.1+t.2)) x)=_
  rw[ek]
  rfl
theorem zfR {m:Int}{ts:List Tie}{a b:Int}(ok:yy m ts)(h:adj ts a b):Ya a b∈ts:=by
 unfold Ya
 rcases h with h | h
 .have r:=ok.rng _ h
  dsimp only at r
  rw[if_neg (by omega),if_pos (by omega)]
  exact h
 .have r:=ok.rng _ h
  dsimp only at r
  rw[if_pos (by omega),if_neg (by omega)]
  exact h
theorem zfz {m:Int}{ts:List Tie}{root y q v:Int}{kn:Kn}(ok:yy m ts)(z1:decide (y=root)=false)(hn:vx kn y=none)(ha:adj ts y q)(hv:1<=v)(h:q=root\/∃ w,vx kn q=some w/\2*v<=w):wK ts root kn (y,q,v)=true:=by
 unfold wK
 dsimp only
 rw[decide_eq_true (zfR ok ha),decide_eq_true hv,z1,hn]
 rcases h with h | ⟨w,e,h⟩
 .rw[decide_eq_true h];rfl
 .rw[e]
  show(true&&true&&!false&&!false&&(decide (q=root)||(true&&decide (2*v<=w))))=true
  rw[decide_eq_true h]
  cases decide (q=root) <;> rfl
noncomputable def fdT (f:Fd):List D:=f.map λ_=>D.bl true
theorem zaT (g:Hl):∀ f:Fd,YG (fdK f) (fdT f) (hK g)=(XS f g).map λ_=>D.bl true
 | []=>rfl
 | e::f=>by
  refine vP.trans ?_
  show(if hK e.1=hK g then some (D.bl true)else YG (fdK f) (fdT f) (hK g))=(if e.1=g then some e.2 else XS f g).map λ_=>D.bl true
  by_cases h:e.1=g
  .rw[if_pos h,if_pos (by rw[h])];rfl
  .rw[if_neg h,if_neg (λz=>h (ze1 z)),zaT g f]
theorem zgm {m:Bool}{i:Nat}{fk fe:Ev->Option D}{ρ ρ':SE}{f:Fd}{g:Hl}{o:Option (Hl × Tie)}(h1:vEv m fe ρ=some (.bl true))(h2:fk (visG ρ)=some (hD g))(h3:ρ[i]?=some (.m true (fdK f) (fdT f)))(h4:(XS f g).isSome=false)(h5:f.length < sizeLine)
 (h6:ρ.set i (.m true (fdK (f++[(g,o)])) (fdT (f++[(g,o)])))=ρ'):X2 m i fk fe ρ=.nx ρ':=by
 have e:zeE ρ i (hD g) (D.bl true)=some ρ':=by
  unfold zeE
  rw[h3]
  show(zfs (hD g)).bind (λk=>if decide ((fdK f).length < sizeLine)=true then some (ρ.set i (.m true (Xr (fdK f) (fdT f) k) (Xc (fdK f) (fdT f) k (D.bl true))))else none)=_
  have hd:(YG (fdK f) (fdT f) (hK g)).isSome=false:=by rw[zaT,Option.isSome_map];exact h4
  rw[Vg,Option.bind_some,if_pos (decide_eq_true (by unfold fdK;rw[List.length_map];exact h5))]
  unfold Xr Xc
  rw[hd,if_neg Bool.false_ne_true,if_neg Bool.false_ne_true,<- h6]
  unfold fdK fdT
  rw[List.map_append,List.map_append]
  rfl
 unfold X2
 rw[h1,h2]
 show(match zeE ρ i (hD g) (D.bl true)with | some ρ'=>Ctl.nx ρ' | none=>Ctl.no)=_
 rw[e]
theorem zjW {f:Fd}{g:Hl}{z:Bool}:zft true (hD g) (.dct z true (fdK f) (fdT f))=some (.bl (!(XS f g).isSome)):=by
 show(zfs (hD g)).map (λk=>D.bl (true != (YG (fdK f) (fdT f) k).isSome))=_
 rw[Vg]
 show some (D.bl (true != (YG (fdK f) (fdT f) (hK g)).isSome))=_
 rw[zaT,Option.isSome_map]
 cases (XS f g).isSome <;> rfl
structure zds (ss:List Tie) (h0:Hl) (f:Fd) (todo:List Hl):Prop where
 ok:zdA ss h0 f
 rim:∀ g∈todo,InF f g
 all:∀ g,InF f g->ziA ss f g\/g∈todo
theorem zds.start (ss:List Tie)(h0:Hl):zds ss h0 [(h0,none)] [h0]:=by
 refine⟨zdA.start ss h0,λg hg=>?_,λg hg=>.inr ?_⟩
 .cases List.mem_singleton.mp hg
  exact xp.mpr ⟨_,.head _,rfl⟩
 .obtain⟨x,hx,rfl⟩:=xp.mp hg
  cases List.mem_singleton.mp hx
  exact .head _
theorem zds.fin {ss:List Tie}{h0:Hl}{f:Fd}(h:zds ss h0 f []):AllF ss h0 f:=by
 refine⟨h.ok,λg=>⟨λhg=>?_,λhg=>?_⟩⟩
 .obtain⟨x,hx,rfl⟩:=xp.mp hg
  exact h.ok.beh x hx
 .induction hg with
  | zero=>unfold InF;rw[h.ok.root];rfl
  | step b hs h2 ih =>
   rcases h.all _ ih with z | z
   .exact z _ hs h2
   .cases z
structure zhR (ss:List Tie) (h0 p:Hl) (f:Fd) (todo:List Hl):Prop where
 ok:zdA ss h0 f
 me:InF f p
 rim:∀ g∈todo,InF f g
 all:∀ g,InF f g->ziA ss f g\/g∈todo\/g=p
theorem zhR.add {ss:List Tie}{h0 p:Hl}{f:Fd}{todo:List Hl}{s:Tie}(h:zhR ss h0 p f todo)(hs:s∈ss)(h2:2<=vAt p s.1)(hn:¬ InF f (moved p s)):zhR ss h0 p (f++[(moved p s,some (p,s))]) (todo++[moved p s]):=by
 refine⟨h.ok.add h.me hs h2 hn,h.me.app _,λg hg=>?_,λg hg=>?_⟩
 .rcases List.mem_append.mp hg with hg | hg
  .exact(h.rim g hg).app _
  .cases List.mem_singleton.mp hg
   exact zc4 f (moved p s,some (p,s))
 .rcases zax hg with hg | rfl
  .rcases h.all g hg with z | z | z
   .exact .inl λt ht ht2=>(z t ht ht2).app _
   .exact .inr (.inl (List.mem_append.mpr (.inl z)))
   .exact .inr (.inr z)
  .exact .inr (.inl (List.mem_append.mpr (.inr (.head _))))
theorem zds.pop {ss:List Tie}{h0 p:Hl}{f:Fd}{todo:List Hl}(h:zds ss h0 f (todo++[p])):zhR ss h0 p f todo:=by
 refine⟨h.ok,h.rim p (List.mem_append.mpr (.inr (.head _))),λg hg=>h.rim g (List.mem_append.mpr (.inl hg)),λg hg=>?_⟩
 rcases h.all g hg with z | z
 .exact .inl z
 .rcases List.mem_append.mp z with z | z
  .exact .inr (.inl z)
  .exact .inr (.inr (List.mem_singleton.mp z))
theorem zhR.done {ss:List Tie}{h0 p:Hl}{f:Fd}{todo:List Hl}(h:zhR ss h0 p f todo)(hd:ziA ss f p):zds ss h0 f todo:=by
 refine⟨h.ok,h.rim,λg hg=>?_⟩
 rcases h.all g hg with z | z | rfl
 .exact .inl z
 .exact .inr z
 .exact .inl hd
theorem zbP:∀ g:Hl,zcu (hK g)=some g
 | []=>rfl
 | x::g=>by
  show(zcu (hK g)).map (x::·)=_
  rw[zbP g]
  rfl
theorem zbS:∀ f:Fd,(∀ e∈f,e.1≠[])->Vq (fdK f)=some (f.map (·.1))
 | [],_=>rfl
 | e::f,h=>by
  have ih:=zbS f λx hx=>h x (.tail _ hx)
  show(match zcu (hK e.1)with | some (i::t)=>(Vq (fdK f)).map ((i::t)::·) | _=>none)=_
  rw[zbP,ih]
  cases he:e.1 with
  | nil=>exact absurd he (h e (.head _))
  | cons i t=>show some ((i::t)::f.map (·.1))=some (e.1::f.map (·.1));rw[he]
noncomputable def y6:SE->Ctl :=
 (sIf (tOf (zk gtD (zk ixD (zf 4) (zf 5)) (eC (.int 1)))) (zO (Vm 7 (fFn Xt (zc (zf 4) zt)))
  (zO (Ve true 7 (zf 5) (zk Vl (zk ixD (zf 7) (zf 5)) (eC (.int 2))))
  (zO (Ve true 7 (zf 6) (zk xF (zk ixD (zf 7) (zf 6)) (eC (.int 1))))
  (sFz 7 (sIf (tOf (zk (zft true) (eFn yS (zc (zf 7) zt)) (zf 2))) (zO (X2 false 2 (eFn yS (zc (zf 7) zt)) (eC (.bl true)))
  (zac false 3 (eFn yS (zc (zf 7) zt)))) yc))))) yc)
noncomputable def yl:SE->Ctl :=
 (zO (zkO 3 4)
  (WK (iOf (zk xF (zk ixD (zf 0) (eC (.int 1))) (eFn yS (zc (wc (fLC (iOf (zk ixD (zf 0) (eC (.int 1)))) b2 yz (wP (zc (zf 1) (zc (zf 0) zt))))) zt)))) (zav 2 (vn (yX 5) (vn (yX 6) zbm))) y6))
noncomputable def xf:SE->Ctl :=
 (zO (zgU 2 (zf 1) (eC (.bl true)))
  (zO (Vm 3 (xi (zc (zf 1) zt)))
  (zO (vO (tOf (zk zjR (zf 3) (wc (xi zt)))) yl 10000000)
  (sFz 3 (zlU 2 (xa (wc (fFn zcc (zc (zf 2) zt)))))))))
noncomputable def xS:List D->Option D:=fnD 8 xf
theorem zfJ {m:Int}{ts:List Tie}{s:Tie}(ok:yy m ts):s∈ts++ts.map (λt:Tie=>((t.2,t.1):Tie))↔s∈xn m ts:=by
 rw[List.mem_append,Zt]
 obtain⟨a,b⟩:=s
 constructor
 .rintro(h | h)
  .have r:=ok.rng _ h
   dsimp only at r ⊢
   refine⟨by omega,by omega,?_⟩
   have:Ya a b=(a,b):=by unfold Ya;rw[if_neg (by omega),if_pos (by omega)]
   rw[this];exact h
  .obtain⟨⟨x,y⟩,ht,e⟩:=List.mem_map.mp h
   cases e
   have r:=ok.rng _ ht
   dsimp only at r ⊢
   refine⟨by omega,by omega,?_⟩
   have:Ya y x=(x,y):=by unfold Ya;rw[if_pos (by omega),if_neg (by omega)]
   rw[this];exact ht
 .rintro⟨_,_,ht⟩
  have r:=ok.rng _ ht
  by_cases c:a < b
  .have e:Ya a b=(a,b):=by unfold Ya;rw[if_neg (by omega),if_pos c]
   left
   have:Ya a b∈ts:=ht
   rw[e]at this
   exact this
  .by_cases c2:b < a
   .have e:Ya a b=(b,a):=by unfold Ya;rw[if_pos c2,if_neg (by omega)]
    right
    have:Ya a b∈ts:=ht
    rw[e]at this
    exact List.mem_map.mpr ⟨(b,a),this,rfl⟩
   .exfalso
    obtain rfl:a=b:=by omega
    have e:Ya a a=(a,a):=by unfold Ya;rw[if_neg (Int.lt_irrefl _)]
    have r':0<=(Ya a a).1/\(Ya a a).1 < (Ya a a).2/\(Ya a a).2 < m:=r
    rw[e]at r'
    exact absurd r'.2.1 (Int.lt_irrefl _)
section
variable {N B C:SE->Prop}{R:D->Prop}{W:D}{h0:Hl}
noncomputable abbrev pSt (W:D)(h0:Hl)(f:Fd)(todo:List Hl)(o4 o5 o6 o7:Sl):SE:=[.v W,.v (hD h0),.m true (fdK f) (fdT f),.o (todo.map hD),o4,o5,o6,o7]
theorem zlX {p:Hl}{s:Tie}{f:Fd}{todo:List Hl}{o7:Sl}(hs:YI p.length s)(hl:f.length < sizeLine)(ht:todo.length < sizeLine)
 (q0:¬ 2<=vAt p s.1->∀ o7,N (pSt W h0 f todo (.v (hD p)) (.v (.int s.1)) (.v (.int s.2)) o7))
 (q1:InF f (moved p s)->∀ o7,N (pSt W h0 f todo (.v (hD p)) (.v (.int s.1)) (.v (.int s.2)) o7))
 (q2:2<=vAt p s.1->¬ InF f (moved p s)->∀ o7,N (pSt W h0 (f++[(moved p s,some (p,s))]) (todo++[moved p s]) (.v (hD p)) (.v (.int s.1)) (.v (.int s.2)) o7)) :
 (y6 (pSt W h0 f todo (.v (hD p)) (.v (.int s.1)) (.v (.int s.2)) o7)).w N B C R:=by
 obtain⟨a,b⟩:=s
 obtain⟨a0,a1,b0,b1,ne⟩:=hs
 dsimp only at a0 a1 b0 b1 ne q0 q1 q2 ⊢
 have ea:=Yb (ns:=p) a0 a1
 unfold y6
 refine XB (c:=decide (1 < vAt p a)) (Xj (zI (x:=.int (vAt p a)) (y:=.int 1) (zI (x:=hD p) (y:=.int a) rfl rfl ea) rfl rfl)) (λc=>?_) (λc=>YN rfl (q0 (by have:=of_decide_eq_false c;omega) _))
 have c:=of_decide_eq_true c
 obtain⟨g,hg⟩:∃ g,Vd p a (vAt p a - 2)=g:=⟨_,rfl⟩
 have gl:g.length=p.length:=by rw[<-hg,Yd]
 have eb:=Yb (ns:=g) b0 (by rw[gl];exact b1)
 have hm:moved p (a,b)=Vd g b (vAt g b+1):=by unfold moved;rw[hg]
 refine zy (ρ':=pSt W h0 f todo (.v (hD p)) (.v (.int a)) (.v (.int b)) (.o (p.map .int))) rfl ?_
 refine xT (zc6 (p.map .int) (.int (vAt p a - 2)) a ?_ rfl rfl a0 (by rw[List.length_map];exact a1) ?_)
 .show(Option.bind ((atI (p.map D.int) a).bind λx=>Vl x (.int 2)) λd=>if noL d=true then some d else none)=_
  rw[ea]
  rfl
 rw[show(p.map D.int).set a.toNat (.int (vAt p a - 2))=g.map .int by rw[<-hg];unfold Vd;rw[List.map_set]]
 refine xT (zc6 (g.map .int) (.int (vAt g b+1)) b ?_ rfl rfl b0 (by rw[List.length_map,gl];exact b1) ?_)
 .show(Option.bind ((atI (g.map D.int) b).bind λx=>xF x (.int 1)) λd=>if noL d=true then some d else none)=_
  rw[eb]
  rfl
 rw[show(g.map D.int).set b.toNat (.int (vAt g b+1))=(moved p (a,b)).map .int by rw[hm];unfold Vd;rw[List.map_set]]
 refine zhN (ρ':=pSt W h0 f todo (.v (hD p)) (.v (.int a)) (.v (.int b)) (.v (.lst ((moved p (a,b)).map .int)))) rfl ?_
 refine XB (c:=!(XS f (moved p (a,b))).isSome) ?_ (λe=>?_) (λe=>?_)
 .show((zft true (hD (moved p (a,b))) (.dct false true (fdK f) (fdT f))).bind asB)=_
  rw[zjW]
  rfl
 .have e:(XS f (moved p (a,b))).isSome=false:=by simpa using e
  refine zy (zgm (f:=f) (g:=moved p (a,b)) (o:=some (p,(a,b))) rfl rfl rfl e hl rfl) ?_
  refine YN (zim (ds:=todo.map hD) (d:=hD (moved p (a,b))) rfl rfl (by rw[List.length_map];exact ht) rfl) ?_
  have q:=q2 (by omega) (λz=>by unfold InF at z;rw[e]at z;cases z) (.v (.lst ((moved p (a,b)).map .int)))
  rw[pSt,List.map_append]at q
  exact q
 .have e:(XS f (moved p (a,b))).isSome=true:=by simpa using e
  exact YN rfl (q1 e _)
end
section
variable {N B C:SE->Prop}{R:D->Prop}{m:Int}{ts:List Tie}{h0:Hl}
noncomputable def swB (t:Tie):Tie:=(t.2,t.1)
theorem zie {ρ:Ev}(h28:ts.length<=28)(h:zf 0 ρ=some (zF m ts)):iOf (zk xF (zk ixD (zf 0) (eC (.int 1))) (eFn yS (zc (wc (fLC (iOf (zk ixD (zf 0) (eC (.int 1)))) b2 yz (wP (zc (zf 1) (zc (zf 0) zt))))) zt))) ρ=some ((ts++ts.map swB).map zj):=by
 have e1:zk ixD (zf 0) (eC (.int 1)) ρ=some (.tup (ts.map zj)):=zI (x:=zF m ts) (y:=.int 1) h rfl rfl
 have e2:fLC (iOf (zk ixD (zf 0) (eC (.int 1)))) b2 yz (wP (zc (zf 1) (zc (zf 0) zt))) ρ=some ((ts.map swB).map zj):=by
  unfold fLC
  rw[zep e1 (show wf (.tup (ts.map zj))=some (ts.map zj)from rfl),Option.bind_some,if_pos (wR (by rw[List.length_map];omega)),List.map_map]
  exact wA zj (zj ∘ swB) ts λt _=>⟨[some (.int t.1),some (.int t.2)],rfl,rfl,rfl⟩
 refine zep (d:=.tup ((ts++ts.map swB).map zj)) (zI (x:=.tup (ts.map zj)) (y:=.tup ((ts.map swB).map zj)) e1 (zdE (ds:=[.lst ((ts.map swB).map zj)]) (zN (YK e2) Yl) rfl) ?_) rfl
 show(if lim ((ts.map zj).length+((ts.map swB).map zj).length)=true then some (D.tup (ts.map zj++(ts.map swB).map zj))else none)=_
 rw[if_pos (wR (by rw[List.length_map,List.length_map,List.length_map];omega)),<- List.map_append]
theorem zl8 {p:Hl}{f:Fd}{todo:List Hl}{o4 o5 o6 o7:Sl}{K:Nat}(ok:yy m ts)(h28:ts.length<=28)(h0k:HOk m.toNat h0.sum h0)(hc:(h0.sum.toNat+1) ^ m.toNat < 5000000)(h:zds (xn m ts) h0 f (todo++[p]))(ht:todo.length+1<=f.length) :
 (yl (pSt (zF m ts) h0 f (todo++[p]) o4 o5 o6 o7)).w (fun ρ'=>∃ f' todo' o4 o5 o6 o7,ρ'=pSt (zF m ts) h0 f' todo' o4 o5 o6 o7/\zds (xn m ts) h0 f' todo'/\todo'.length<=f'.length/\f.length<=f'.length/\todo'.length+f.length=todo.length+f'.length) B C R:=by
 unfold yl
 have hS:=vM ok
 have hm:=h.pop
 have hpl:p.length=m.toNat:=by
  obtain⟨x,hx,rfl⟩:=xp.mp hm.me
  exact((hm.ok.beh x hx).ok hS h0k).len
 refine zy (ρ':=pSt (zF m ts) h0 f todo (.v (hD p)) o5 o6 o7) (zkb (ds:=todo.map hD) (d:=hD p) (by show some (Sl.o ((todo++[p]).map hD))=_;rw[List.map_append];rfl)) ?_
 obtain⟨M,hM⟩:∃ M,ts++ts.map swB=M:=⟨_,rfl⟩
 have hmem:∀ s,s∈M↔s∈xn m ts:=λs=>by rw[<-hM];exact zfJ ok
 refine zaM (ds:=M.map zj) (λj ρ=>∃ f' todo' o5 o6 o7,ρ=pSt (zF m ts) h0 f' todo' (.v (hD p)) o5 o6 o7/\zhR (xn m ts) h0 p f' todo'/\(∀ s∈M.take j,2<=vAt p s.1->InF f' (moved p s))/\todo'.length<=f'.length/\f.length<=f'.length/\todo'.length+f.length=todo.length+f'.length) (by rw[<-hM];exact zie h28 rfl) ⟨f,todo,o5,o6,o7,rfl,hm,(λs hs=>by rw[List.take_zero]at hs;cases hs),by omega,Nat.le_refl _,rfl⟩ ?_ ?_
 .rintro i d ρ hd ⟨f',todo',o5,o6,o7,rfl,hm',ha,l1,l2,l3⟩
  rw[List.getElem?_map]at hd
  obtain⟨s,hs,rfl⟩:=Option.map_eq_some_iff.mp hd
  have hs1:=(hmem s).mp (List.mem_of_getElem? hs)
  refine⟨pSt (zF m ts) h0 f' todo' (.v (hD p)) (.v (.int s.1)) (.v (.int s.2)) o7,rfl,?_⟩
  have hi:=hS s hs1
  rw[<-hpl]at hi
  have hcnt:f'.length < sizeLine:=Nat.lt_of_le_of_lt (hm'.ok.count hS h0k) (Nat.lt_trans hc (by decide))
  have ht:∀ f2:Fd,(∀ g,InF f' g->InF f2 g)->(2<=vAt p s.1->InF f2 (moved p s))->∀ t∈M.take (i+1),2<=vAt p t.1->InF f2 (moved p t):=λf2 up hin t ht=>by
   rw[List.take_add_one,hs]at ht
   rcases List.mem_append.mp ht with ht | ht
   .exact λh2=>up _ (ha t ht h2)
   .cases List.mem_singleton.mp ht
    exact hin
  refine zlX hi hcnt (Nat.lt_of_le_of_lt l1 hcnt) (λq o7=>⟨f',todo',_,_,_,rfl,hm',ht f' (λg hg=>hg) (λh2=>absurd h2 q),l1,l2,l3⟩) (λq o7=>⟨f',todo',_,_,_,rfl,hm',ht f' (λg hg=>hg) (λ_=>q),l1,l2,l3⟩) λq2 q o7=>⟨_,_,_,_,_,rfl,hm'.add hs1 q2 q,ht _ (λg hg=>hg.app _) (λ_=>zc4 f' (moved p s,some (p,s))),?_,?_,?_⟩
  .rw[List.length_append,List.length_append];exact Nat.succ_le_succ l1
  .rw[List.length_append];exact Nat.le_succ_of_le l2
  .rw[List.length_append,List.length_append];show todo'.length+1+f.length=todo.length+(f'.length+1);omega
 .rintro ρ ⟨f',todo',o5,o6,o7,rfl,hm',ha,l1,l2,l3⟩
  rw[List.length_map,List.take_length]at ha
  exact⟨f',todo',_,o5,o6,o7,rfl,hm'.done λs hs h2=>ha s ((hmem s).mpr hs) h2,l1,l2,l3⟩
noncomputable def zjp (B:Nat):SE->Nat
 | [_,_,.m _ ks _,.o ds,_,_,_,_]=>2*(B - ks.length)+ds.length
 | _=>0
theorem W3 {W:D}{f:Fd}{todo:List Hl}{o4 o5 o6 o7:Sl}{K:Nat}:zjp K (pSt W h0 f todo o4 o5 o6 o7)=2*(K - f.length)+todo.length:=by
 show 2*(K - (fdK f).length)+(todo.map hD).length=_
 unfold fdK
 rw[List.length_map,List.length_map]
theorem zl6 (l:List Hl):zjR (.lst (l.map hD)) (.lst [])=some (.bl (!decide (l=[]))):=by
 have hk:okE 20 (.lst (l.map hD))=true:=by
  show(l.map hD).all (okE 19)=true
  rw[List.all_map,List.all_eq_true]
  intro h _
  show(h.map D.int).all (okE 18)=true
  rw[List.all_map,List.all_eq_true]
  exact λt _=>rfl
 show(if (okE 20 (.lst (l.map hD))&&true)=true then _ else none)=_
 rw[hk,if_pos (show(true&&true)=true from rfl)]
 cases l <;> rfl
theorem zlL {o4 o5 o6 o7:Sl}(ok:yy m ts)(h28:ts.length<=28)(h0k:HOk m.toNat h0.sum h0)(hc:(h0.sum.toNat+1) ^ m.toNat < 5000000) :
 (vO (tOf (zk zjR (zf 3) (wc (xi zt)))) yl 10000000 (pSt (zF m ts) h0 [(h0,none)] [h0] o4 o5 o6 o7)).w (fun ρ'=>∃ f' o4 o5 o6 o7,ρ'=pSt (zF m ts) h0 f' [] o4 o5 o6 o7/\AllF (xn m ts) h0 f') B C R:=by
 have hS:=vM ok
 obtain⟨K,hK⟩:∃ K,(h0.sum.toNat+1) ^ m.toNat=K:=⟨_,rfl⟩
 refine zaU (fun ρ=>∃ f todo o4 o5 o6 o7,ρ=pSt (zF m ts) h0 f todo o4 o5 o6 o7/\zds (xn m ts) h0 f todo/\todo.length<=f.length) (zjp K) ?_ 10000000 _ ⟨_,_,o4,o5,o6,o7,rfl,zds.start (xn m ts) h0,Nat.le_refl _⟩ ?_
 .rintro ρ ⟨f,todo,o4,o5,o6,o7,rfl,hm,hl⟩
  refine⟨!decide (todo=[]),Xj (zI (x:=.lst (todo.map hD)) (y:=.lst []) rfl rfl (zl6 todo)),λc=>?_,λc=>?_⟩
  .have hne:todo≠[]:=λe=>by rw[decide_eq_true e]at c;cases c
   obtain⟨td,p,rfl⟩:∃ td p,todo=td++[p]:=⟨todo.dropLast,todo.getLast hne,(List.dropLast_concat_getLast hne).symm⟩
   rw[List.length_append]at hl
   refine zdS (zl8 (K:=K) ok h28 h0k hc hm hl) ?_ (λ_ h=>h) (λ_ h=>h) (λ_ h=>h)
   rintro ρ ⟨f',todo',o4,o5,o6,o7,rfl,hm',l1,l2,l3⟩
   refine⟨⟨f',todo',o4,o5,o6,o7,rfl,hm',l1⟩,?_⟩
   rw[W3,W3,List.length_append]
   have hcnt:=hm'.ok.count hS h0k
   rw[hK]at hcnt
   show 2*(K - f'.length)+todo'.length < 2*(K - f.length)+(td.length+1)
   omega
  .have he:todo=[]:=by
    cases h:decide (todo=[]) with
    | true=>exact of_decide_eq_true h
    | false=>rw[h]at c;cases c
   subst he
   exact⟨f,o4,o5,o6,o7,rfl,hm.fin⟩
 .rw[W3]
  show 2*(K - 1)+1 < 10000000
  omega
end
theorem WA {m:Int}{ts:List Tie}{h0:Hl}(ok:yy m ts)(h28:ts.length<=28)(hl:(h0.length:Int)=m)(hn:∀ v∈h0,0<=v)(hc:(h0.sum.toNat+1) ^ m.toNat < 5000000) :
 ∃ E:List Hl,xS [zF m ts,hD h0]=some (.lst (E.map hD))/\(∀ g,g∈E↔Beh (xn m ts) h0 g)/\E.length < 10000000:=by
 have hm1:=ok.lo
 have hS:=vM ok
 have h0k:HOk m.toNat h0.sum h0:=⟨by omega,hn,Int.le_refl _⟩
 obtain⟨d,e,E,rfl,hE⟩:=zf8 (m:=8) (g:=xf) (ds:=[zF m ts,hD h0]) (R:=λd=>∃ E:List Hl,d=.lst (E.map hD)/\(∀ g,g∈E↔Beh (xn m ts) h0 g)/\E.length < 10000000) rfl (by
  unfold xf
  refine zy (ρ':=[.v (zF m ts),.v (hD h0),.m true (fdK [(h0,none)]) (fdT [(h0,none)]),.no,.no,.no,.no,.no]) ?_ ?_
  .unfold zgU
   show(match ((zfs (hD h0)).map λk=>Sl.m true [k] [D.bl true])with | some s=>Ctl.nx _ | none=>Ctl.no)=_
   rw[Vg]
   rfl
  refine zy (ρ':=pSt (zF m ts) h0 [(h0,none)] [h0] .no .no .no .no) rfl ?_
  refine xT (zdS (zlL ok h28 h0k hc) ?_ (λ_ h=>h) (λ_ h=>h) (λ_ h=>h))
  rintro ρ ⟨f,o4,o5,o6,o7,rfl,hf⟩
  have hcount:=hf.ok.count hS h0k
  have hne:∀ e∈f,e.1≠[]:=λe he z=>by
   have:=((hf.ok.beh e he).ok hS h0k).len
   rw[z]at this
   have h0':0=m.toNat:=this
   omega
  have es:zcc [.dct true true (fdK f) (fdT f)]=some ((vU (f.map (·.1))).map hD):=by
   show(if (fdK f).length < 10000000 then _ else none)=_
   rw[if_pos (by unfold fdK;rw[List.length_map];omega),zbS f hne]
   rfl
  refine zhN (ρ':=[.v (zF m ts),.v (hD h0),.m true (fdK f) (fdT f),.v (.lst []),o4,o5,o6,o7]) rfl ?_
  refine Yv (d:=.lst ((vU (f.map (·.1))).map hD)) ?_ ⟨_,rfl,λg=>?_,?_⟩
  .show xa _ [.v (zF m ts),.v (hD h0),.v (.dct true true (fdK f) (fdT f)),.v (.lst []),o4,o5,o6,o7]=_
   exact xq (YK (zjM (ds:=[_]) rfl es))
  .rw[(vc _).mem_iff,<- hf.iff,xp,List.mem_map]
  .rw[(vc _).length_eq,List.length_map];omega)
 exact⟨E,e,hE⟩
theorem X4 (T:Txt K mg ad):xR P w K mg base CX0 1 ad.f__law_behind ad.e__law_behind ["web","heap"] (@spD ⟨K⟩ 2 xS):=by
 letI:KK:=⟨K⟩
 refine yZ (N:=["web","heap","found","todo","here","a","b","other"]) (ps:=["web","heap"]) T.d__law_behind.fn zR (g:=xf) λcdv A outer s H E hr=>?_
 unfold xf yl y6
 exact(zg (zjd (i:=2) hr zR.nd rfl (Or.inl rfl) (za 1 (pv 1)) (we wd))
  (zg (Wh (i:=3) zR.nd rfl (Or.inl rfl) (xZ (zb (za 1 (pv 1)) zh)))
  (zg (zb2 10000000 PassesOwn.never (zG (zkw hr) zi9 (zE _) (za 3 (pv 3)) (xX (xZ zh))) (zg (zkk (i:=3) (j:=4) zR.nd rfl (Or.inl rfl) (pv 3) (λa=>zjY PySem.F.plainAttrs_list PySem.F.slot_list_pop PySem.F.type_list_pop ziB a))
  (zi (Xu PassesOwn.never rfl (xB (zV (zw (za 0 (pv 0)) (zd ze) (λ_ _=>rfl)) (x5 zZ x9 rfl T.z_tuple yB (zb (xX (Xi (L:=["a","b"]) (M:=["web","heap","found","todo","here","·a","·b","other"]) rfl (wQ (by rfl) (by rfl) (by rfl) (by with_unfolding_all rfl) (by rfl) (by rfl) (by kernel_rfl) xu) (xB (zw (za 0 (pv 0)) (zd ze) (λ_ _=>rfl))) gs2 rb2 (λ_ _ _ _=>(zbo rfl (ve (zr (i:=0) zkH rfl (Or.inl rfl) (.inr rfl)) (ve (zr (i:=1) zkH rfl (Or.inl rfl) (.inr rfl)) Vi)))) (λ_ _ _ _=>(yh (zb (za 1 (pv 1)) (zb (za 0 (pv 0)) zh)))))) zh)))) (VM rfl (xw (zU (zr (i:=5) zR.nd rfl (Or.inl rfl))) (xw (zU (zr (i:=6) zR.nd rfl (Or.inl rfl))) Xx))) (zi (yW (zG zel ye (zE _) (zw (za 4 (pv 4)) (za 5 (pv 5)) (λ_ _=>rfl)) (zd ze)) (zg (Wh (i:=7) zR.nd rfl (Or.inl rfl) (ziX rfl T.z_list (zb (za 4 (pv 4)) zh)))
  (zg (zad (m:=true) (Wa (zw (za 7 (pv 7)) (za 5 (pv 5)) (λ_ _=>rfl)) (zd ze)) (pv 7) (za 5 (pv 5)))
  (zg (zad (m:=true) (zV (zw (za 7 (pv 7)) (za 6 (pv 6)) (λ_ _=>rfl)) (zd ze)) (pv 7) (za 6 (pv 6)))
  (XI 7 (zi (yW (zG (zd2 hr) zbb (by with_unfolding_all rfl) (x5 zZ x9 rfl T.z_tuple yB (zb (za 7 (pv 7)) zh)) (za 2 (pv 2))) (zg (zdb (m:=false) hr (we wd) (pv 2) (x5 zZ x9 rfl T.z_tuple yB (zb (za 7 (pv 7)) zh)))
  (zi (zef (m:=false) (pv 3) (x5 zZ x9 rfl T.z_tuple yB (zb (za 7 (pv 7)) zh)) (λa b=>zh7 PySem.F.plainAttrs_list PySem.F.slot_list_append PySem.F.type_list_append XN a b)))) zD)))))) zD))))))
  (XI 3 (ziO 2 (zi (zx (xX (zcQ rfl rfl T.z_sorted (zb (za 2 (pv 2)) zh))))))))))
theorem WP:∀ {ns:List Int},ns≠[]->VY ns∈ns/\∀ x∈ns,x<=VY ns:=by
 intro ns h
 obtain⟨M,h1,h2⟩:∃ M∈ns,∀ x∈ns,x<=M:=by
  induction ns with
  | nil=>exact absurd rfl h
  | cons n ns ih =>
   by_cases c:ns=[]
   .subst c
    exact⟨n,List.mem_singleton.mpr rfl,λx hx=>by rw[List.mem_singleton.mp hx];exact Int.le_refl _⟩
   .obtain⟨M,h1,h2⟩:=ih c
    rcases Int.le_total n M with c2 | c2
    .exact⟨M,List.mem_cons_of_mem _ h1,λx hx=>(List.mem_cons.mp hx).elim (λe=>e ▸ c2) (h2 x)⟩
    .exact⟨n,List.mem_cons_self,λx hx=>(List.mem_cons.mp hx).elim (λe=>e ▸ Int.le_refl _) λhx=>Int.le_trans (h2 x hx) c2⟩
 rw[zhB h1 h2]
 exact⟨h1,h2⟩
theorem XE {ns:List Int}(h:ns≠[]):zdw [.lst (ns.map .int)]=some (.int (VY ns)):=by
 show(zdh (ns.map .int)).bind (λns=>if ns=[]then none else some (D.int (VY ns)))=_
 rw[WE]
 show(if ns=[]then none else some (D.int (VY ns)))=_
 rw[if_neg h]
noncomputable def yD:SE->Ctl :=
 (xa (eFn zdw (zc (wc (fLC (iOf (zB 2 xS (zc (zf 0) (zc (zf 1) zt)))) b1 yz (zk ixD (zf 0) (zf 3)))) zt)))
noncomputable def xr:List D->Option D:=fnD 3 yD
theorem Wy {m p:Int}{ts:List Tie}{h0:Hl}(ok:yy m ts)(h28:ts.length<=28)(hl:(h0.length:Int)=m)(hn:∀ v∈h0,0<=v)(hc:(h0.sum.toNat+1) ^ m.toNat < 5000000)(hp:0<=p/\p < m) :
 ∃ M,xr [zF m ts,hD h0,.int p]=some (.int M)/\(∃ g,Beh (xn m ts) h0 g/\vAt g p=M)/\∀ g,Beh (xn m ts) h0 g->vAt g p<=M:=by
 obtain⟨E,eE,hE,hEl⟩:=WA ok h28 hl hn hc
 have h0k:HOk m.toNat h0.sum h0:=⟨by omega,hn,Int.le_refl _⟩
 have hne:(E.map λg=>vAt g p)≠[]:=λz=>by
  have:=(hE h0).mpr .zero
  rw[List.map_eq_nil_iff.mp z]at this
  cases this
 obtain⟨x1,x2⟩:=WP hne
 refine⟨VY (E.map λg=>vAt g p),?_,?_,λg hg=>x2 _ (List.mem_map.mpr ⟨g,(hE g).mpr hg,rfl⟩)⟩
 .refine zar (ρ:=[.v (zF m ts),.v (hD h0),.v (.int p)]) rfl ?_
  unfold yD
  refine Yv (xq (d:=.int (VY (E.map λg=>vAt g p))) (zdE (ds:=[.lst ((E.map λg=>vAt g p).map .int)]) (zN (YK ?_) Yl) (XE hne))) rfl
  unfold fLC
  rw[show iOf (zB 2 xS (zc (zf 0) (zc (zf 1) zt))) (visG [.v (zF m ts),.v (hD h0),.v (.int p)])=some (E.map hD)from zep (d:=.lst (E.map hD)) (YE (ds:=[_,_]) rfl eE) rfl,Option.bind_some,if_pos (show lim (E.map hD).length=true from decide_eq_true (by rw[List.length_map];exact Nat.le_of_lt (Nat.lt_trans hEl (by decide)))),List.map_map]
  refine wA hD _ E λg hg=>⟨[some (hD g)],rfl,rfl,?_⟩
  have hb:=(((hE g).mp hg).ok (vM ok) h0k).len
  show atI (g.map D.int) p=_
  rw[Yb hp.1 (by omega)]
  rfl
 .obtain⟨g,hg,e⟩:=List.mem_map.mp x1
  exact⟨g,(hE g).mp hg,e⟩
theorem Y5 (T:Txt K mg ad):xR P w K mg base CX0 2 ad.f__law_most_there ad.e__law_most_there ["web","heap","place"] (@spD ⟨K⟩ 3 xr):=by
 letI:KK:=⟨K⟩
 have G__law_behind:=X4 (P:=P) (w:=w) (base:=base) T
 refine yZ (N:=["web","heap","place"]) (ps:=["web","heap","place"]) T.d__law_most_there.fn YM (g:=yD) λcdv A outer s H E hr=>?_
 unfold yD
 exact(zi (zx (zS (Xw rfl) Vb rfl T.z_max zbx (zb (xX (Xi (L:=["other"]) (M:=["web","heap","place"]) rfl (wQ (by rfl) (by rfl) (by rfl) (by with_unfolding_all rfl) (by rfl) (by rfl) (by kernel_rfl) (all_cons rfl xu)) (xB (zq (G__law_behind.mono (by decide)) hr rfl T.d__law_behind.at_ T.d__law_behind.kp T.d__law_behind.bd (zb (za 0 (pv 0)) (zb (za 1 (pv 1)) zh)))) gs1 rb1 (λ_ _ _ _=>(zr (i:=0) zlN rfl (Or.inl rfl) (.inr rfl))) (λ_ _ _ _=>(zw (za 0 (pv 0)) (za 3 (pv 3)) (λ_ _=>rfl))))) zh))))
section
variable {P:Program}{w:World}{K:PySem.W.Frag}{mg:Str->Option Value}{base:Heap}{ad:Adr}
theorem yJ.cat {ts:List Tie}{p a b:Int}{k:Nat}(h:yJ ts p k a):∀ {j:Nat},yJ ts a j b->yJ ts p (k+j) b:=by
 intro j h2
 induction h2 with
 | zero=>exact h
 | step _ had ih=>exact .step ih had
theorem yJ.back {ts:List Tie}{p v:Int}{k:Nat}(h:yJ ts p k v):yJ ts v k p:=by
 induction h with
 | zero=>exact .zero
 | @step k a b _ had ih =>
  have:=(yJ.step (ts:=ts) (p:=b) .zero had.symm).cat ih
  rwa[show 0+1+k=k+1 by omega]at this
noncomputable def zbL (m:Int)(ts:List Tie):Prop:=∀ p v,0<=p/\p < m->0<=v/\v < m->∃ k,yJ ts p k v
theorem zfQ {m:Int}{ts:List Tie}{p:Int}(hj:zbL m ts)(hp:0<=p/\p < m):∃ ks:List Int,zat m ts p=ks.map some/\(ks.length:Int)=m:=by
 refine⟨(zat m ts p).map λo=>o.getD 0,?_,by rw[List.length_map,Xk];omega⟩
 rw[List.map_map]
 symm
 have:(zat m ts p).map (some ∘ λo=>o.getD 0)=(zat m ts p).map id:=by
  refine List.map_congr_left λo ho=>?_
  unfold zat at ho
  obtain⟨v,hv,rfl⟩:=List.mem_map.mp ho
  have hv:=List.mem_range.mp hv
  rcases Zu ts p (v:Int)with ⟨k,e,_⟩ | ⟨e,hk⟩
  .rw[e];rfl
  .obtain⟨k,r⟩:=hj p v hp ⟨by omega,by omega⟩
   exact absurd r (hk k)
 rw[this,List.map_id]
theorem zgA (ks:List Int):(ks.map some).map Zh=ks.map .int:=by rw[List.map_map];rfl
theorem zcZ {m:Int}{ts:List Tie}(h:∀ b:Nat,1<=b->(b:Int) < m->∃ a:Int,0<=a/\a < b/\(a,(b:Int))∈ts):zbL m ts:=λp v hp hv=>by
 obtain⟨k,hk⟩:=Z9 h p.toNat p.toNat (Nat.le_refl _) (by omega)
 obtain⟨j,hj⟩:=Z9 h v.toNat v.toNat (Nat.le_refl _) (by omega)
 rw[show((p.toNat:Nat):Int)=p by omega]at hk
 rw[show((v.toNat:Nat):Int)=v by omega]at hj
 exact⟨_,hk.back.cat hj⟩
theorem zcg {ts:List Tie}{p v:Int}(h:Far ts p v 0):v=p:=by
 cases h.1
 rfl
theorem zbZ (ts:List Tie)(p:Int):Far ts p p 0:=⟨.zero,λ_ _=>Nat.zero_le _⟩
noncomputable def Wl:SE->Ctl :=
 (zO (xE false 4 (zk wV (zf 2) (zf 3)))
  (zO (xE false 2 (zf 3))
  (xE false 3 (zf 4))))
noncomputable def WM:SE->Ctl :=
 (zO (xE false 2 (zf 0))
  (zO (xE false 3 (zf 1))
  (zO (vO (tOf (zk gtD (zf 3) (eC (.int 0)))) Wl 20)
  (xa (wP (zc (zk xj (zf 0) (zf 2)) (zc (zk xj (zf 1) (zf 2)) zt)))))))
noncomputable def zbM:List D->Option D:=fnD 5 WM
theorem zev (T:Txt K mg ad):xR P w K mg base CX0 1 ad.f_lowest ad.e_lowest ["top","bottom"] (@spD ⟨K⟩ 2 zbM):=by
 letI:KK:=⟨K⟩
 refine yZ (N:=["top","bottom","one","other","rest"]) (ps:=["top","bottom"]) T.d_lowest.fn wO (g:=WM) λcdv A outer s H E hr=>?_
 unfold WM Wl
 exact(zg (zL (m:=false) (i:=2) wO.nd rfl (Or.inl rfl) (za 0 (pv 0)))
  (zg (zL (m:=false) (i:=3) wO.nd rfl (Or.inl rfl) (za 1 (pv 1)))
  (zg (zb2 20 PassesOwn.never (zG zel ye (zE _) (za 3 (pv 3)) (zd ze)) (zg (zL (m:=false) (i:=4) wO.nd rfl (Or.inl rfl) (wa (za 2 (pv 2)) (za 3 (pv 3))))
  (zg (zL (m:=false) (i:=2) wO.nd rfl (Or.inl rfl) (za 3 (pv 3)))
  (zi (zL (m:=false) (i:=3) wO.nd rfl (Or.inl rfl) (za 4 (pv 4)))))))
  (zi (zx (yh (zb (wC (za 0 (pv 0)) (za 2 (pv 2))) (zb (wC (za 1 (pv 1)) (za 2 (pv 2))) zh))))))))
noncomputable def Zr:SE->Ctl :=
 (zO (sIf (ZL (xz (tOf (eUn (vt .tuple) (zf 0)))) (tOf (zk neD (eFn VN (zc (zf 0) zt)) (eC (.int 2))))) (xa (eC (.bl false))) yc)
  (zO (sIf (ZL (xz (tOf (zB 1 yw (zc (zk ixD (zf 0) (eC (.int 0))) zt)))) (ZL (xz (tOf (zB 1 yw (zc (zk ixD (zf 0) (eC (.int 1))) zt)))) (ZL (tOf (zk ltD (zk ixD (zf 0) (eC (.int 0))) (eC (.int 1)))) (tOf (zk ltD (zk ixD (zf 0) (eC (.int 1))) (eC (.int 1))))))) (xa (eC (.bl false))) yc)
  (xa (zk WN (zB 2 zbM (zc (zk ixD (zf 0) (eC (.int 0))) (zc (zk ixD (zf 0) (eC (.int 1))) zt))) (zf 0)))))
noncomputable def v9:List D->Option D:=fnD 1 Zr
noncomputable def Xf:List Tie:=[(1,1),(1,2),(2,3),(1,3)]
theorem zcy {s:Tie}(h:s∈Xf):v9 [zj s]=some (.bl true):=by
 unfold Xf at h
 simp only[List.mem_cons,List.not_mem_nil,or_false]at h
 rcases h with rfl | rfl | rfl | rfl <;> rfl
theorem zaF (T:Txt K mg ad):xR P w K mg base CX0 2 ad.f_is_share ad.e_is_share ["thing"] (@spD ⟨K⟩ 1 v9):=by
 letI:KK:=⟨K⟩
 have G_is_whole:=Yw (P:=P) (w:=w) (base:=base) T
 have G_lowest:=zev (P:=P) (w:=w) (base:=base) T
 refine yZ (N:=["thing"]) (ps:=["thing"]) T.d_is_share.fn zaC (g:=Zr) λcdv A outer s H E hr=>?_
 unfold Zr
 exact(zg (yW (Vk (Yh (xC (xo (yG .tuple rfl T.z_isinstance (za 0 (pv 0)) (wv (v:=.ty "tuple") rfl T.z_tuple yB rfl)))) (wJ (zG zaW Z4 (zE _) (zS yo Yx rfl T.z_len Z0 (zb (za 0 (pv 0)) zh)) (zd ze))))) (zi (zx (we wd))) zD)
  (zg (yW (Vk (Yh (xC (xo (zq (G_is_whole.mono (by decide)) hr rfl T.d_is_whole.at_ T.d_is_whole.kp T.d_is_whole.bd (zb (zw (za 0 (pv 0)) (zd ze) (λ_ _=>rfl)) zh)))) (Yh (xC (xo (zq (G_is_whole.mono (by decide)) hr rfl T.d_is_whole.at_ T.d_is_whole.kp T.d_is_whole.bd (zb (zw (za 0 (pv 0)) (zd ze) (λ_ _=>rfl)) zh)))) (Yh (zG zbf ye (zE _) (zw (za 0 (pv 0)) (zd ze) (λ_ _=>rfl)) (zd ze)) (wJ (zG zbf ye (zE _) (zw (za 0 (pv 0)) (zd ze) (λ_ _=>rfl)) (zd ze))))))) (zi (zx (we wd))) zD)
  (zi (zx (VI (vw hr) xL (zE _) (zq (G_lowest.mono (by decide)) hr rfl T.d_lowest.at_ T.d_lowest.kp T.d_lowest.bd (zb (zw (za 0 (pv 0)) (zd ze) (λ_ _=>rfl)) (zb (zw (za 0 (pv 0)) (zd ze) (λ_ _=>rfl)) zh))) (za 0 (pv 0)))))))
inductive Pt where
 | g (s:Tie) (rows:List Row)
noncomputable def ptD:Pt->D
 | .g s rows=>.tup [zj s,.lst (rows.map zW)]
noncomputable def za8 (rows:List Row):Prop:=rows.length<=60/\∀ r∈rows,0<=r.2.2/\r.2.2<=1000
noncomputable def zjo:Pt->Prop
 | .g s rows=>s∈Xf/\za8 rows
noncomputable def Yi (ts:List Tie)(root:Int):Pt->Bool
 | .g _ rows=>xm ts root rows
noncomputable def yj:SE->Ctl :=
 (zO (sIf (ZL (xz (tOf (eUn (vt .tuple) (zf 2)))) (tOf (zk neD (eFn VN (zc (zf 2) zt)) (eC (.int 2))))) (xa (eC (.bl false))) yc)
  (xa (V4 (zB 1 v9 (zc (zk ixD (zf 2) (eC (.int 0))) zt)) (zB 3 yu (zc (zf 0) (zc (zf 1) (zc (zk ixD (zf 2) (eC (.int 1))) zt)))))))
noncomputable def zP:List D->Option D:=fnD 3 yj
theorem ZF {m:Int}{ts:List Tie}{root:Int}(ok:yy m ts){p:Pt}(hp:zjo p):zP [zF m ts,.int root,ptD p]=some (.bl (Yi ts root p)):=by
 cases p with
 | g s rows =>
  have e1:=zcy hp.1
  have e2:=X0 (root:=root) ok (rows:=rows) (Nat.le_trans hp.2.1 (by decide))
  refine zar (ρ:=[.v (zF m ts),.v (.int root),.v (.tup [zj s,.lst (rows.map zW)])]) rfl ?_
  unfold yj
  refine zy (ρ':=[.v (zF m ts),.v (.int root),.v (.tup [zj s,.lst (rows.map zW)])]) rfl ?_
  refine Yv (xq (d:=.bl (xm ts root rows)) ?_) rfl
  show(((v9 [zj s]).bind asB).bind λc=>if c=true then yu [zF m ts,.int root,.lst (rows.map zW)]else some (D.bl false))=_
  rw[e1]
  exact e2
theorem YF (T:Txt K mg ad):xR P w K mg base CX0 8 ad.f_is_shared_branch ad.e_is_shared_branch ["web","root","thing"] (@spD ⟨K⟩ 3 zP):=by
 letI:KK:=⟨K⟩
 have G_are_branch_rows:=Za (P:=P) (w:=w) (base:=base) T
 have G_is_share:=zaF (P:=P) (w:=w) (base:=base) T
 refine yZ (N:=["web","root","thing"]) (ps:=["web","root","thing"]) T.d_is_shared_branch.fn YD (g:=yj) λcdv A outer s H E hr=>?_
 unfold yj
 exact(zg (yW (Vk (Yh (xC (xo (yG .tuple rfl T.z_isinstance (za 2 (pv 2)) (wv (v:=.ty "tuple") rfl T.z_tuple yB rfl)))) (wJ (zG zaW Z4 (zE _) (zS yo Yx rfl T.z_len Z0 (zb (za 2 (pv 2)) zh)) (zd ze))))) (zi (zx (we wd))) zD)
  (zi (zx (ZA (zq (G_is_share.mono (by decide)) hr rfl T.d_is_share.at_ T.d_is_share.kp T.d_is_share.bd (zb (zw (za 2 (pv 2)) (zd ze) (λ_ _=>rfl)) zh)) (Xy (zq (G_are_branch_rows.mono (by decide)) hr rfl T.d_are_branch_rows.at_ T.d_are_branch_rows.kp T.d_are_branch_rows.bd (zb (za 0 (pv 0)) (zb (za 1 (pv 1)) (zb (zw (za 2 (pv 2)) (zd ze) (λ_ _=>rfl)) zh)))))))))
noncomputable def gpD (g:Gp):D:=.tup [zj g.1,.lst (g.2.map zW)]
noncomputable def YH (m root:Int)(gs:List Gp):D :=
 if ((List.range m.toNat).any λx:Nat=>!decide ((x:Int)=root)&&decide (x8 (λrows=>wAt rows (x:Int)) (zK gs) gs < zK gs))=true then .non else .int (x8 Ze (zK gs) gs / zK gs)
noncomputable def zg1:Pt->Gp
 | .g s rows=>(s,rows)
noncomputable def vA (m:Int)(ts:List Tie)(root:Int)(ps:List Pt):D:=if ps.all (Yi ts root)=true then YH m root (ps.map zg1)else .non
theorem zhc {ts:List Tie}{root:Int}{ps:List Pt}(h:ps.all (Yi ts root)=true):ps.map ptD=(ps.map zg1).map gpD:=by
 rw[List.map_map]
 refine List.map_congr_left λp hp=>?_
 have:=List.all_eq_true.mp h p hp
 cases p;rfl
set_option genInjectivity false in
set_option genSizeOf false in
set_option genCtorIdx false in
structure GOk (ts:List Tie) (root:Int) (gs:List Gp):Prop where
 sh:zfv gs
 len:gs.length<=5
 rb:∀ g∈gs,za8 g.2
 good:∀ g∈gs,∀ r∈g.2,Ya r.1 r.2.1∈ts/\1<=r.2.2/\r.1≠root
theorem zgZ {ts:List Tie}{root:Int}{ps:List Pt}(hl:ps.length<=5)(hp:∀ p∈ps,zjo p)(h:ps.all (Yi ts root)=true):GOk ts root (ps.map zg1):=by
 have key:∀ g∈ps.map zg1,g.1∈Xf/\za8 g.2/\xm ts root g.2=true:=λg hg=>by
  obtain⟨p,hm,rfl⟩:=List.mem_map.mp hg
  have h1:=List.all_eq_true.mp h p hm
  have h2:=hp p hm
  cases p with
  | g s rows=>exact⟨h2.1,h2.2,h1⟩
 refine⟨λg hg=>?_,by rw[List.length_map];exact hl,λg hg=>(key g hg).2.1,λg hg=>?_⟩
 .have:=(key g hg).1
  obtain⟨⟨a,b⟩,rows⟩:=g
  unfold Xf at this
  simp only[List.mem_cons,List.not_mem_nil,or_false,Prod.mk.injEq]at this
  dsimp only
  omega
 .have:=(key g hg).2.2
  unfold xm at this
  rw[Bool.and_eq_true]at this
  exact Yc this.2
noncomputable def wU:SE->Ctl :=
 (xa (eFn zji (zc (wc (fLC (iOf (zf 0)) b1 (tOf (zk WN (zk ixD (zf 0) (eC (.int 0))) (zf 2))) (zk ixD (zf 0) (eC (.int 2))))) zt)))
noncomputable def x6:List D->Option D:=fnD 2 wU
theorem zap {rows:List Row}(h:rows.length<=60)(x:Int):x6 [.lst (rows.map zW),.int x]=some (.int (wAt rows x)):=by
 have e:fLC (iOf (zf 0)) b1 (tOf (zk WN (zk ixD (zf 0) (eC (.int 0))) (zf 2))) (zk ixD (zf 0) (eC (.int 2))) [some (.lst (rows.map zW)),some (.int x)]=some (((rows.filter λr=>decide (r.1=x)).map λr=>r.2.2).map .int):=by
  unfold fLC
  show(if lim (rows.map zW).length=true then _ else none)=_
  rw[if_pos (wR (by rw[List.length_map];exact k60 h)),List.map_map]
  exact wN zW (λr=>decide (r.1=x)) (λr=>D.int r.2.2) rows λr _=>⟨[some (zW r)],rfl,rfl,λ_=>rfl⟩
 have e2:=zbY ((rows.filter λr=>decide (r.1=x)).map λr=>r.2.2)
 refine zar (ρ:=[.v (.lst (rows.map zW)),.v (.int x)]) rfl ?_
 unfold wU
 refine Yv (xq (d:=.int (wAt rows x)) ?_) rfl
 show((((fLC (iOf (zf 0)) b1 (tOf (zk WN (zk ixD (zf 0) (eC (.int 0))) (zf 2))) (zk ixD (zf 0) (eC (.int 2))) [some (.lst (rows.map zW)),some (.int x)]).map D.lst).bind λd=>(some ([]:List D)).map (d::·)).bind zji)=_
 rw[e]
 exact e2
theorem VC (T:Txt K mg ad):xR P w K mg base CX0 1 ad.f_weight_at ad.e_weight_at ["branch","place"] (@spD ⟨K⟩ 2 x6):=by
 letI:KK:=⟨K⟩
 refine yZ (N:=["branch","place"]) (ps:=["branch","place"]) T.d_weight_at.fn Vy (g:=wU) λcdv A outer s H E hr=>?_
 unfold wU
 exact(zi (zx (zS (zan rfl) zdZ rfl T.z_sum zhu (zb (xX (zg8 (L:=["row"]) (M:=["branch","place"]) rfl (wQ (by rfl) (by rfl) (by rfl) (by with_unfolding_all rfl) (by rfl) (by rfl) (by kernel_rfl) (all_cons rfl xu)) (xB (za 0 (pv 0))) gs1 rb1 (λ_ _ _ _=>(zr (i:=0) zlS rfl (Or.inl rfl) (.inr rfl))) (λ_ _ _ _=>(zG (vw hr) xL (zE _) (zw (za 0 (pv 0)) (zd ze) (λ_ _=>rfl)) (za 2 (pv 2)))) (λ_ _ _ _=>(zw (za 0 (pv 0)) (zd ze) (λ_ _=>rfl))))) zh))))
noncomputable def wj:SE->Ctl :=
 (xa (eFn zji (zc (wc (fLC (iOf (zf 0)) b1 yz (zk ixD (zf 0) (eC (.int 2))))) zt)))
noncomputable def xy:List D->Option D:=fnD 1 wj
theorem WS {rows:List Row}(h:rows.length<=60):xy [.lst (rows.map zW)]=some (.int (Ze rows)):=by
 have e:fLC (iOf (zf 0)) b1 yz (zk ixD (zf 0) (eC (.int 2))) [some (.lst (rows.map zW))]=some ((rows.map λr=>r.2.2).map .int):=by
  unfold fLC
  show(if lim (rows.map zW).length=true then _ else none)=_
  rw[if_pos (wR (by rw[List.length_map];exact k60 h)),List.map_map]
  exact wA zW (λr=>D.int r.2.2) rows λr _=>⟨[some (zW r)],rfl,rfl,rfl⟩
 have e2:=zbY (rows.map λr=>r.2.2)
 refine zar (ρ:=[.v (.lst (rows.map zW))]) rfl ?_
 unfold wj
 refine Yv (xq (d:=.int (Ze rows)) ?_) rfl
 show((((fLC (iOf (zf 0)) b1 yz (zk ixD (zf 0) (eC (.int 2))) [some (.lst (rows.map zW))]).map D.lst).bind λd=>(some ([]:List D)).map (d::·)).bind zji)=_
 rw[e]
 exact e2
theorem WY (T:Txt K mg ad):xR P w K mg base CX0 1 ad.f_branch_sum ad.e_branch_sum ["branch"] (@spD ⟨K⟩ 1 xy):=by
 letI:KK:=⟨K⟩
 refine yZ (N:=["branch"]) (ps:=["branch"]) T.d_branch_sum.fn WH (g:=wj) λcdv A outer s H E hr=>?_
 unfold wj
 exact(zi (zx (zS (zan rfl) zdZ rfl T.z_sum zhu (zb (xX (Xi (L:=["row"]) (M:=["branch"]) rfl (wQ (by rfl) (by rfl) (by rfl) (by with_unfolding_all rfl) (by rfl) (by rfl) (by kernel_rfl) xu) (xB (za 0 (pv 0))) gs1 rb1 (λ_ _ _ _=>(zr (i:=0) zme rfl (Or.inl rfl) (.inr rfl))) (λ_ _ _ _=>(zw (za 0 (pv 0)) (zd ze) (λ_ _=>rfl))))) zh))))
noncomputable def wy:SE->Ctl :=
 (zO (xE false 2 (zk xF (zk xP (zf 2) (zk ixD (zf 4) (eC (.int 1)))) (zk xP (zk xP (zf 3) (zk ixD (zf 4) (eC (.int 0)))) (zf 5))))
  (xE false 3 (zk xP (zf 3) (zk ixD (zf 4) (eC (.int 1))))))
noncomputable def wm:SE->Ctl :=
 (zO (xE false 2 (eC (.int 0)))
  (zO (xE false 3 (eC (.int 1)))
  (zO (WK (XT (zc (zf 0) (zc (zf 1) zt))) (zav 2 (vn (yX 4) (vn (yX 5) zbm))) wy)
  (xa (wP (zc (zf 2) (zc (zf 3) zt)))))))
noncomputable def yR:List D->Option D:=fnD 6 wm
theorem zha (n:List Row->Int):∀ gs:List Gp,zcT (gs.map λg=>zj g.1) (gs.map λg=>D.int (n g.2))=gs.map λg=>.tup [zj g.1,.int (n g.2)]
 | []=>rfl
 | g::r=>by
  show D.tup [zj g.1,.int (n g.2)]::zcT (r.map λg=>zj g.1) (r.map λg=>D.int (n g.2))=_
  rw[zha n r]
  rfl
theorem Y0 {gs:List Gp}{n:List Row->Int}(h:zfv gs)(hn:∀ g∈gs,0<=n g.2/\n g.2<=1000000):yR [.lst (gs.map λg=>zj g.1),.lst (gs.map λg=>.int (n g.2))]=some (.tup [.int (x8 n (zK gs) gs),.int (zK gs)]):=by
 refine zar (ρ:=[.v (.lst (gs.map λg=>zj g.1)),.v (.lst (gs.map λg=>.int (n g.2))),.no,.no,.no,.no]) rfl ?_
 unfold wm
 refine zy (ρ':=[.v (.lst (gs.map λg=>zj g.1)),.v (.lst (gs.map λg=>.int (n g.2))),.v (.int 0),.no,.no,.no]) rfl ?_
 refine zy (ρ':=[.v (.lst (gs.map λg=>zj g.1)),.v (.lst (gs.map λg=>.int (n g.2))),.v (.int 0),.v (.int 1),.no,.no]) rfl ?_
 refine xT (zaM (ds:=gs.map λg=>.tup [zj g.1,.int (n g.2)]) (λi ρ=>∃ o4 o5,ρ=[.v (.lst (gs.map λg=>zj g.1)),.v (.lst (gs.map λg=>.int (n g.2))),.v (.int (shF n (gs.take i) 0 1).1),.v (.int (shF n (gs.take i) 0 1).2),o4,o5]) ?_ ⟨_,_,rfl⟩ ?_ ?_)
 .show(if (gs.map λg=>zj g.1).length<=(gs.map λg=>D.int (n g.2)).length then some (zcT (gs.map λg=>zj g.1) (gs.map λg=>D.int (n g.2)))else none)=_
  rw[if_pos (by rw[List.length_map,List.length_map];exact Nat.le_refl _),zha]
 .rintro i d ρ hd ⟨o4,o5,rfl⟩
  rw[List.getElem?_map]at hd
  obtain⟨g,hg,rfl⟩:=Option.map_eq_some_iff.mp hd
  have hm:=List.mem_of_getElem? hg
  have hs:=h g hm
  have hnn:=hn g hm
  have htake:gs.take (i+1)=gs.take i++[g]:=by rw[List.take_succ,hg];rfl
  have hsn:=zbG n g (gs.take i) 0 1
  rw[<-htake]at hsn
  obtain⟨t,ht⟩:∃ t,(shF n (gs.take i) 0 1).1=t:=⟨_,rfl⟩
  obtain⟨b,hb⟩:∃ b,(shF n (gs.take i) 0 1).2=b:=⟨_,rfl⟩
  rw[ht,hb]at hsn
  rw[ht,hb,hsn]
  obtain⟨⟨a,c⟩,rows⟩:=g
  dsimp only at hs hnn ⊢
  have m1:xP (.int t) (.int c)=some (.int (t*c)):=V5 (nn1 hs.1) (le7 hs.2.1)
  have m2:xP (.int b) (.int a)=some (.int (b*a)):=V5 (nn1 hs.2.2.1) (Int.le_trans hs.2.2.2 (by decide))
  have m3:xP (.int (b*a)) (.int (n rows))=some (.int (b*a*n rows)):=V5 hnn.1 hnn.2
  have m4:xP (.int b) (.int c)=some (.int (b*c)):=V5 (nn1 hs.1) (le7 hs.2.1)
  refine⟨[.v (.lst (gs.map λg=>zj g.1)),.v (.lst (gs.map λg=>.int (n g.2))),.v (.int t),.v (.int b),.v (zj (a,c)),.v (.int (n rows))],rfl,?_⟩
  unfold wy
  refine zy (ρ':=[.v (.lst (gs.map λg=>zj g.1)),.v (.lst (gs.map λg=>.int (n g.2))),.v (.int (t*c+b*a*n rows)),.v (.int b),.v (zj (a,c)),.v (.int (n rows))]) (ym ?_) ?_
  .show((xP (.int t) (.int c)).bind λx=>((xP (.int b) (.int a)).bind λy=>xP y (.int (n rows))).bind λy=>xF x y)=_
   rw[m1,m2]
   show((xP (.int (b*a)) (.int (n rows))).bind λy=>xF (.int (t*c)) y)=_
   rw[m3]
   rfl
  .exact YN (ym (show xP (.int b) (.int c)=_ from m4)) ⟨_,_,rfl⟩
 .rintro ρ ⟨o4,o5,rfl⟩
  rw[List.length_map,List.take_length,zhQ h]
  exact Yv rfl rfl
theorem W2 (T:Txt K mg ad):xR P w K mg base CX0 1 ad.f_shared_sum ad.e_shared_sum ["shares","numbers"] (@spD ⟨K⟩ 2 yR):=by
 letI:KK:=⟨K⟩
 refine yZ (N:=["shares","numbers","top","bottom","share","number"]) (ps:=["shares","numbers"]) T.d_shared_sum.fn ya (g:=wm) λcdv A outer s H E hr=>?_
 unfold wm wy
 exact(zg (zL (m:=false) (i:=2) ya.nd rfl (Or.inl rfl) (zd ze))
  (zg (zL (m:=false) (i:=3) ya.nd rfl (Or.inl rfl) (zd ze))
  (zg (Xu PassesOwn.never rfl (zkN rfl T.z_zip (zb (za 0 (pv 0)) (zb (za 1 (pv 1)) zh))) (VM rfl (xw (zU (zr (i:=4) ya.nd rfl (Or.inl rfl))) (xw (zU (zr (i:=5) ya.nd rfl (Or.inl rfl))) Xx))) (zg (zL (m:=false) (i:=2) ya.nd rfl (Or.inl rfl) (zV (wo (za 2 (pv 2)) (zw (za 4 (pv 4)) (zd ze) (λ_ _=>rfl))) (wo (wo (za 3 (pv 3)) (zw (za 4 (pv 4)) (zd ze) (λ_ _=>rfl))) (za 5 (pv 5)))))
  (zi (zL (m:=false) (i:=3) ya.nd rfl (Or.inl rfl) (wo (za 3 (pv 3)) (zw (za 4 (pv 4)) (zd ze) (λ_ _=>rfl)))))))
  (zi (zx (yh (zb (za 2 (pv 2)) (zb (za 3 (pv 3)) zh))))))))
noncomputable def wD:SE->Ctl :=
 (zO (xE false 6 (zB 2 yR (zc (zf 3) (zc (wc (fLC (iOf (zf 4)) b1 yz (zB 2 x6 (zc (zf 0) (zc (zf 6) zt))))) zt))))
  (sIf (vh (tOf (zk neD (zf 5) (zf 1))) (tOf (zk ltD (zk ixD (zf 6) (eC (.int 0))) (zk ixD (zf 6) (eC (.int 1)))))) (xa (eC .non)) yc))
noncomputable def wq:SE->Ctl :=
 (zO (zb7 (zB 1 y8 (zc (zf 0) zt)))
  (zO (zb7 (zB 2 yp (zc (zf 0) (zc (zf 1) zt))))
  (zO (sIf (ZL (xz (tOf (eUn (vt .list) (zf 2)))) (xz (tOf (eFn zkJ (zc (wc (fLC (iOf (zf 2)) b1 yz (zB 3 zP (zc (zf 1) (zc (zf 2) (zc (zf 0) zt)))))) zt))))) (xa (eC .non)) yc)
  (zO (xE false 3 (wc (fLC (iOf (zf 2)) b1 yz (zk ixD (zf 0) (eC (.int 0))))))
  (zO (xE false 4 (wc (fLC (iOf (zf 2)) b1 yz (zk ixD (zf 0) (eC (.int 1))))))
  (zO (wb ZB (zc (zk ixD (zf 0) (eC (.int 0))) zt) (yX 5) wD)
  (zO (xE false 7 (zB 2 yR (zc (zf 3) (zc (wc (fLC (iOf (zf 4)) b1 yz (zB 1 xy (zc (zf 0) zt)))) zt))))
  (xa (zk xj (zk ixD (zf 7) (eC (.int 0))) (zk ixD (zf 7) (eC (.int 1))))))))))))
noncomputable def wn:List D->Option D:=fnD 8 wq
theorem pow7 {n:Nat}(h:n<=5):(7:Int) ^ n<=16807:=by
 have:∀ n:Nat,n < 6->(7:Int) ^ n<=16807:=by decide
 exact this n (by omega)
theorem zbA {rows:List Row}(h:za8 rows):0<=Ze rows/\Ze rows<=1000000:=by
 have key:∀ {rs:List Row},(∀ r∈rs,0<=r.2.2/\r.2.2<=1000)->0<=Ze rs/\Ze rs<=rs.length*1000:=λ{rs}=>by
  induction rs with
  | nil=>intro _;simp[Ze]
  | cons r rs ih =>
   intro h
   have h1:=h r (.head _)
   have h2:=ih λx hx=>h x (.tail _ hx)
   unfold Ze at *
   rw[List.map_cons,List.sum_cons,List.length_cons]
   omega
 have h1:=key h.2
 have:=h.1
 omega
theorem zje {rows:List Row}(h:za8 rows)(x:Int):0<=wAt rows x/\wAt rows x<=1000000:=by
 have h1:=zhd (λr hr=>(h.2 r hr).1) x
 have h2:=zjN (A:=1000) (by decide) h.2 x
 have:=h.1
 omega
theorem ziW (bs:List Bool):zkJ [.lst (bs.map .bl)]=some (.bl (bs.all id)):=by
 show((zjn (bs.map .bl)).bind λbs=>some (D.bl (bs.all id)))=_
 rw[zgt]
 rfl
theorem YW {m:Int}{ts:List Tie}{root:Int}{ps:List Pt}(ok:yy m ts)(hr:0<=root/\root < m)(hl:ps.length<=5)(hp:∀ p∈ps,zjo p):wn [zF m ts,.int root,.lst (ps.map ptD)]=some (vA m ts root ps):=by
 have hw:Ym (zF m ts)=true:=(Zg _).mpr ⟨_,_,rfl,ok⟩
 have e1:y8 [zF m ts]=some .non:=by simp[y8,hw]
 have e2:=zcz (ts:=ts) hr
 refine zar (ρ:=[.v (zF m ts),.v (.int root),.v (.lst (ps.map ptD)),.no,.no,.no,.no,.no]) rfl ?_
 unfold wq
 refine zy (ρ':=[.v (zF m ts),.v (.int root),.v (.lst (ps.map ptD)),.no,.no,.no,.no,.no]) (zeo e1) ?_
 refine zy (ρ':=[.v (zF m ts),.v (.int root),.v (.lst (ps.map ptD)),.no,.no,.no,.no,.no]) (zeo e2) ?_
 have lp:lim (ps.map ptD).length=true:=zkp (by rw[List.length_map];exact s5 hl)
 refine xT (XB (c:=!ps.all (Yi ts root)) ?_ (λz=>Yv rfl ?_) λz=>YN rfl ?_)
 .have e3:fLC (iOf (zf 2)) b1 yz (zB 3 zP (zc (zf 1) (zc (zf 2) (zc (zf 0) zt)))) [some (zF m ts),some (.int root),some (.lst (ps.map ptD)),none,none,none,none,none]=some ((ps.map (Yi ts root)).map .bl):=by
   unfold fLC
   show(if lim (ps.map ptD).length=true then _ else none)=_
   rw[if_pos lp,List.map_map]
   exact wA ptD (λp=>D.bl (Yi ts root p)) ps λp hm=>⟨[some (ptD p)],rfl,rfl,ZF ok (hp p hm)⟩
  have e4:=ziW (ps.map (Yi ts root))
  show((((((fLC (iOf (zf 2)) b1 yz (zB 3 zP (zc (zf 1) (zc (zf 2) (zc (zf 0) zt)))) [some (zF m ts),some (.int root),some (.lst (ps.map ptD)),none,none,none,none,none]).map D.lst).bind λd=>(some ([]:List D)).map (d::·)).bind zkJ).bind asB).map (!·))=_
  rw[e3]
  show(((zkJ [.lst ((ps.map (Yi ts root)).map .bl)]).bind asB).map (!·))=_
  rw[e4]
  show some (!(ps.map (Yi ts root)).all id)=_
  rw[List.all_map]
  rfl
 .rw[Bool.not_eq_true']at z
  unfold vA
  rw[z]
  rfl
 rw[Bool.not_eq_false']at z
 have hG:=zgZ hl hp z
 have hz:vA m ts root ps=YH m root (ps.map zg1):=by unfold vA;rw[if_pos z]
 rw[hz,zhc z]
 rw[zhc z]at lp
 generalize ps.map zg1=gs at *
 have e3:fLC (iOf (zf 2)) b1 yz (zk ixD (zf 0) (eC (.int 0))) [some (zF m ts),some (.int root),some (.lst (gs.map gpD)),none,none,none,none,none]=some (gs.map λg=>zj g.1):=by
  unfold fLC
  show(if lim (gs.map gpD).length=true then _ else none)=_
  rw[if_pos lp]
  exact wA gpD (λg=>zj g.1) gs λg hm=>⟨[some (gpD g)],rfl,rfl,rfl⟩
 have e4:fLC (iOf (zf 2)) b1 yz (zk ixD (zf 0) (eC (.int 1))) [some (zF m ts),some (.int root),some (.lst (gs.map gpD)),some (.lst (gs.map λg=>zj g.1)),none,none,none,none]=some (gs.map λg=>.lst (g.2.map zW)):=by
  unfold fLC
  show(if lim (gs.map gpD).length=true then _ else none)=_
  rw[if_pos lp]
  exact wA gpD (λg=>D.lst (g.2.map zW)) gs λg hm=>⟨[some (gpD g)],rfl,rfl,rfl⟩
 refine zy (ρ':=[.v (zF m ts),.v (.int root),.v (.lst (gs.map gpD)),.v (.lst (gs.map λg=>zj g.1)),.no,.no,.no,.no]) (ym (zhG e3)) ?_
 refine zy (ρ':=[.v (zF m ts),.v (.int root),.v (.lst (gs.map gpD)),.v (.lst (gs.map λg=>zj g.1)),.v (.lst (gs.map λg=>.lst (g.2.map zW))),.no,.no,.no]) (ym (zhG e4)) ?_
 have lg:lim (gs.map λg=>D.lst (g.2.map zW)).length=true:=zkp (by rw[List.length_map];exact s5 hG.len)
 refine xT (Zx (lo:=0) (c:=m.toNat) (λi ρ=>(∃ o5 o6 o7,ρ=[.v (zF m ts),.v (.int root),.v (.lst (gs.map gpD)),.v (.lst (gs.map λg=>zj g.1)),.v (.lst (gs.map λg=>.lst (g.2.map zW))),o5,o6,o7])/\((List.range i).any λx:Nat=>!decide ((x:Int)=root)&&decide (x8 (λrows=>wAt rows (x:Int)) (zK gs) gs < zK gs))=false) ?_ ⟨⟨_,_,_,rfl⟩,rfl⟩ ?_ ?_)
 .show ZB [.int m]=_
  exact zbR ok
 .rintro i ρ hi ⟨⟨o5,o6,o7,rfl⟩,hany⟩
  obtain⟨x,hx⟩:∃ x:Int,(0:Int)+(i:Int)=x:=⟨_,rfl⟩
  rw[hx]
  refine⟨[.v (zF m ts),.v (.int root),.v (.lst (gs.map gpD)),.v (.lst (gs.map λg=>zj g.1)),.v (.lst (gs.map λg=>.lst (g.2.map zW))),.v (.int x),o6,o7],rfl,?_⟩
  have e5:=λa b=>show fLC (iOf (zf 4)) b1 yz (zB 2 x6 (zc (zf 0) (zc (zf 6) zt))) [some (zF m ts),some (.int root),some (.lst (gs.map gpD)),some (.lst (gs.map λg=>zj g.1)),some (.lst (gs.map λg=>.lst (g.2.map zW))),some (.int x),a,b]=some (gs.map λg=>.int (wAt g.2 x)) by
   unfold fLC
   show(if lim (gs.map λg=>D.lst (g.2.map zW)).length=true then _ else none)=_
   rw[if_pos lg]
   exact wA (λg:Gp=>D.lst (g.2.map zW)) (λg=>D.int (wAt g.2 x)) gs λg hm=>⟨[some (.lst (g.2.map zW))],rfl,rfl,zap (hG.rb g hm).1 x⟩
  have e6:=Y0 (gs:=gs) (n:=λrows=>wAt rows x) hG.sh (λg hg=>zje (hG.rb g hg) x)
  obtain⟨T,hT⟩:∃ T,x8 (λrows=>wAt rows x) (zK gs) gs=T:=⟨_,rfl⟩
  obtain⟨W,hW⟩:∃ W,zK gs=W:=⟨_,rfl⟩
  rw[hT,hW]at e6
  unfold wD
  refine zy (ρ':=[.v (zF m ts),.v (.int root),.v (.lst (gs.map gpD)),.v (.lst (gs.map λg=>zj g.1)),.v (.lst (gs.map λg=>.lst (g.2.map zW))),.v (.int x),.v (.tup [.int T,.int W]),o7]) (ym ?_) ?_
  .show((((fLC (iOf (zf 4)) b1 yz (zB 2 x6 (zc (zf 0) (zc (zf 6) zt))) [some (zF m ts),some (.int root),some (.lst (gs.map gpD)),some (.lst (gs.map λg=>zj g.1)),some (.lst (gs.map λg=>.lst (g.2.map zW))),some (.int x),o6.f,o7.f]).map D.lst).bind λd=>(some ([]:List D)).map (d::·)).map (D.lst (gs.map λg=>zj g.1)::·)).bind (λds=>if ds.length=2 then yR ds else none)=_
   rw[e5]
   exact e6
  have hxi:=zk2 hx
  have hTi:decide (x8 (λrows=>wAt rows (i:Int)) (zK gs) gs < zK gs)=decide (T < W):=by rw[hxi,hT,hW]
  refine XB (c:=!decide (x=root)&&decide (T < W)) ?_ (λz=>Yv rfl ?_) λz=>YN rfl ⟨⟨_,_,_,rfl⟩,?_⟩
  .show vh _ _ [some (zF m ts),some (.int root),some (.lst (gs.map gpD)),some (.lst (gs.map λg=>zj g.1)),some (.lst (gs.map λg=>.lst (g.2.map zW))),some (.int x),some (.tup [.int T,.int W]),o7.g]=_
   show((some (!decide (x=root))).bind λc=>if c=true then some (decide (T < W))else some false)=_
   cases decide (x=root) <;> rfl
  .unfold YH
   rw[if_pos (List.any_eq_true.mpr ⟨i,List.mem_range.mpr hi,by rw[hTi,hxi];exact z⟩)]
  .rw[List.range_succ,List.any_append,hany]
   simp only[List.any_cons,List.any_nil,Bool.or_false,Bool.false_or]
   rw[hTi,hxi]
   exact z
 .rintro ρ ⟨⟨o5,o6,o7,rfl⟩,hany⟩
  have e5:=λa b c=>show fLC (iOf (zf 4)) b1 yz (zB 1 xy (zc (zf 0) zt)) [some (zF m ts),some (.int root),some (.lst (gs.map gpD)),some (.lst (gs.map λg=>zj g.1)),some (.lst (gs.map λg=>.lst (g.2.map zW))),a,b,c]=some (gs.map λg=>.int (Ze g.2)) by
   unfold fLC
   show(if lim (gs.map λg=>D.lst (g.2.map zW)).length=true then _ else none)=_
   rw[if_pos lg]
   exact wA (λg:Gp=>D.lst (g.2.map zW)) (λg=>D.int (Ze g.2)) gs λg hm=>⟨[some (.lst (g.2.map zW))],rfl,rfl,WS (hG.rb g hm).1⟩
  have e6:=Y0 (gs:=gs) (n:=Ze) hG.sh (λg hg=>zbA (hG.rb g hg))
  have hWp:=vW hG.sh
  have hWl:=zb0 hG.sh
  have h7:=pow7 hG.len
  have hb:YH m root gs=.int (x8 Ze (zK gs) gs / zK gs):=by
   unfold YH
   rw[hany]
   rfl
  rw[hb]
  obtain⟨T,hT⟩:∃ T,x8 Ze (zK gs) gs=T:=⟨_,rfl⟩
  obtain⟨W,hW⟩:∃ W,zK gs=W:=⟨_,rfl⟩
  rw[hT,hW]at e6 ⊢
  rw[hW]at hWp hWl
  refine zy (ρ':=[.v (zF m ts),.v (.int root),.v (.lst (gs.map gpD)),.v (.lst (gs.map λg=>zj g.1)),.v (.lst (gs.map λg=>.lst (g.2.map zW))),o5,o6,.v (.tup [.int T,.int W])]) (ym ?_) ?_
  .show((((fLC (iOf (zf 4)) b1 yz (zB 1 xy (zc (zf 0) zt)) [some (zF m ts),some (.int root),some (.lst (gs.map gpD)),some (.lst (gs.map λg=>zj g.1)),some (.lst (gs.map λg=>.lst (g.2.map zW))),o5.f,o6.f,o7.f]).map D.lst).bind λd=>(some ([]:List D)).map (d::·)).map (D.lst (gs.map λg=>zj g.1)::·)).bind (λds=>if ds.length=2 then yR ds else none)=_
   rw[e5]
   exact e6
  .refine Yv (xq (d:=.int (T / W)) ?_) rfl
   show xj (.int T) (.int W)=_
   exact zbc hWp (Int.le_trans hWl (Int.le_trans h7 (by decide)))
theorem WB (T:Txt K mg ad):xR P w K mg base CX0 9 ad.f_show_bound ad.e_show_bound ["web","place","thing"] (@spD ⟨K⟩ 3 wn):=by
 letI:KK:=⟨K⟩
 have G_must_be_web:=X7 (P:=P) (w:=w) (base:=base) T
 have G_must_be_place:=ZE (P:=P) (w:=w) (base:=base) T
 have G_branch_sum:=WY (P:=P) (w:=w) (base:=base) T
 have G_is_shared_branch:=YF (P:=P) (w:=w) (base:=base) T
 have G_shared_sum:=W2 (P:=P) (w:=w) (base:=base) T
 have G_weight_at:=VC (P:=P) (w:=w) (base:=base) T
 refine yZ (N:=["web","place","thing","shares","branches","other","told","total"]) (ps:=["web","place","thing"]) T.d_show_bound.fn yA (g:=wq) λcdv A outer s H E hr=>?_
 unfold wq wD
 exact(zg (zeJ (zq (G_must_be_web.mono (by decide)) hr rfl T.d_must_be_web.at_ T.d_must_be_web.kp T.d_must_be_web.bd (zb (za 0 (pv 0)) zh)))
  (zg (zeJ (zq (G_must_be_place.mono (by decide)) hr rfl T.d_must_be_place.at_ T.d_must_be_place.kp T.d_must_be_place.bd (zb (za 0 (pv 0)) (zb (za 1 (pv 1)) zh))))
  (zg (yW (Vk (Yh (xC (xo (yG .list rfl T.z_isinstance (za 2 (pv 2)) (wv (v:=.ty "list") rfl T.z_list zba rfl)))) (wJ (xC (xo (zS (zeW rfl) zi8 rfl T.z_all zkd (zb (xX (Xi (L:=["part"]) (M:=["web","place","thing","shares","branches","other","told","total"]) rfl (wQ (by rfl) (by rfl) (by rfl) (by with_unfolding_all rfl) (by rfl) (by rfl) (by kernel_rfl) (all_cons rfl (all_cons rfl xu))) (xB (za 2 (pv 2))) gs1 rb1 (λ_ _ _ _=>(zr (i:=0) zh5 rfl (Or.inl rfl) (.inr rfl))) (λ_ _ _ _=>(zq (G_is_shared_branch.mono (by decide)) hr rfl T.d_is_shared_branch.at_ T.d_is_shared_branch.kp T.d_is_shared_branch.bd (zb (za 1 (pv 1)) (zb (za 2 (pv 2)) (zb (za 0 (pv 0)) zh))))))) zh))))))) (zi (zx (Xl XC))) zD)
  (zg (W1 (m:=false) (i:=3) (zdC (L:=["part"]) (M:=["web","place","thing","shares","branches","other","told","total"]) yA.nd rfl (Or.inl rfl) rfl (wQ (by rfl) (by rfl) (by rfl) (by with_unfolding_all rfl) (by rfl) (by rfl) (by kernel_rfl) xu) (xB (za 2 (pv 2))) gs1 rb1 (λ_ _ _ _=>(zr (i:=0) zh5 rfl (Or.inl rfl) (.inr rfl))) (λ_ _ _ _=>(zw (za 0 (pv 0)) (zd ze) (λ_ _=>rfl)))))
  (zg (W1 (m:=false) (i:=4) (zdC (L:=["part"]) (M:=["web","place","thing","shares","branches","other","told","total"]) yA.nd rfl (Or.inl rfl) rfl (wQ (by rfl) (by rfl) (by rfl) (by with_unfolding_all rfl) (by rfl) (by rfl) (by kernel_rfl) xu) (xB (za 2 (pv 2))) gs1 rb1 (λ_ _ _ _=>(zr (i:=0) zh5 rfl (Or.inl rfl) (.inr rfl))) (λ_ _ _ _=>(zw (za 0 (pv 0)) (zd ze) (λ_ _=>rfl)))))
  (zg (vZ PassesOwn.never rfl rfl T.z_range (zb (zw (za 0 (pv 0)) (zd ze) (λ_ _=>rfl)) zh) (zU (zr (i:=5) yA.nd rfl (Or.inr rfl))) (zg (zL (m:=false) (i:=6) yA.nd rfl (Or.inl rfl) (zq (G_shared_sum.mono (by decide)) hr rfl T.d_shared_sum.at_ T.d_shared_sum.kp T.d_shared_sum.bd (zb (za 3 (pv 3)) (zb (xX (Xi (L:=["branch"]) (M:=["web","place","thing","shares","branches","other","told","total"]) rfl (wQ (by rfl) (by rfl) (by rfl) (by with_unfolding_all rfl) (by rfl) (by rfl) (by kernel_rfl) (all_cons rfl xu)) (xB (za 4 (pv 4))) gs1 rb1 (λ_ _ _ _=>(zr (i:=0) zkf rfl (Or.inl rfl) (.inr rfl))) (λ_ _ _ _=>(zq (G_weight_at.mono (by decide)) hr rfl T.d_weight_at.at_ T.d_weight_at.kp T.d_weight_at.bd (zb (za 0 (pv 0)) (zb (za 6 (pv 6)) zh)))))) zh))))
  (zi (yW (Vk (Vo (zG zaW Z4 (zE _) (za 5 (pv 5)) (za 1 (pv 1))) (Xv (zG zbf ye (zE _) (zw (za 6 (pv 6)) (zd ze) (λ_ _=>rfl)) (zw (za 6 (pv 6)) (zd ze) (λ_ _=>rfl)))))) (zi (zx (Xl XC))) zD))))
  (zg (zL (m:=false) (i:=7) yA.nd rfl (Or.inl rfl) (zq (G_shared_sum.mono (by decide)) hr rfl T.d_shared_sum.at_ T.d_shared_sum.kp T.d_shared_sum.bd (zb (za 3 (pv 3)) (zb (xX (Xi (L:=["branch"]) (M:=["web","place","thing","shares","branches","other","told","total"]) rfl (wQ (by rfl) (by rfl) (by rfl) (by with_unfolding_all rfl) (by rfl) (by rfl) (by kernel_rfl) xu) (xB (za 4 (pv 4))) gs1 rb1 (λ_ _ _ _=>(zr (i:=0) zkf rfl (Or.inl rfl) (.inr rfl))) (λ_ _ _ _=>(zq (G_branch_sum.mono (by decide)) hr rfl T.d_branch_sum.at_ T.d_branch_sum.kp T.d_branch_sum.bd (zb (za 0 (pv 0)) zh))))) zh))))
  (zi (zx (wC (zw (za 7 (pv 7)) (zd ze) (λ_ _=>rfl)) (zw (za 7 (pv 7)) (zd ze) (λ_ _=>rfl))))))))))))
theorem Wq {α:Type}{f g:α->Int}:∀ {l:List α},(∀ x∈l,f x<=g x)->(l.map f).sum<=(l.map g).sum
 | [],_=>Int.le_refl _
 | x::l,h=>by
  have h1:=h x (.head _)
  have h2:=Wq (l:=l) λy hy=>h y (.tail _ hy)
  rw[List.map_cons,List.map_cons,List.sum_cons,List.sum_cons]
  omega
theorem zbd (h:Hl):(List.range h.length).map (λx:Nat=>vAt h (x:Int))=h:=by
 refine List.ext_getElem (by rw[List.length_map,List.length_range]) λi h1 h2=>?_
 rw[List.getElem_map,List.getElem_range]
 unfold vAt
 rw[Int.toNat_natCast,List.getD_eq_getElem?_getD,List.getElem?_eq_getElem h2]
 rfl
theorem Z7 {n:Nat}{h:Hl}:∀ {rows:List Row},(∀ r∈rows,0<=r.1/\r.1 < (n:Int))->((List.range n).map λx:Nat=>vAt h (x:Int)*wAt rows (x:Int)).sum=zb9 rows h
 | [],_=>by
  have:(λx:Nat=>vAt h (x:Int)*wAt [] (x:Int))=λ_=>0:=funext λx=>by rw[zaz,Int.mul_zero]
  rw[this,xx]
  rfl
 | r::rows,hr=>by
  have ih:=Z7 (h:=h) (rows:=rows) λx hx=>hr x (.tail _ hx)
  have e:(λx:Nat=>vAt h (x:Int)*wAt (r::rows) (x:Int))=λx:Nat=>(if r.1=(x:Int)then vAt h r.1*r.2.2 else 0)+vAt h (x:Int)*wAt rows (x:Int):=funext λx=>by
   rw[vm,Int.mul_add]
   by_cases c:r.1=(x:Int)
   .rw[if_pos c,if_pos c,c]
   .rw[if_neg c,if_neg c,Int.mul_zero]
  rw[e,Xq,za2,ih,if_pos (hr r (.head _))]
  rfl
theorem XG {n:Nat}{h:Hl}(W:Int):∀ {gs:List Gp},(∀ g∈gs,∀ r∈g.2,0<=r.1/\r.1 < (n:Int))->((List.range n).map λx:Nat=>vAt h (x:Int)*x8 (λrows=>wAt rows (x:Int)) W gs).sum=x8 (λrows=>zb9 rows h) W gs
 | [],_=>by
  have:(λx:Nat=>vAt h (x:Int)*x8 (λrows=>wAt rows (x:Int)) W [])=λ_=>0:=funext λx=>by rw[x8,Int.mul_zero]
  rw[this,xx]
  rfl
 | g::gs,hr=>by
  have ih:=XG (h:=h) W (gs:=gs) λx hx=>hr x (.tail _ hx)
  have e:(λx:Nat=>vAt h (x:Int)*x8 (λrows=>wAt rows (x:Int)) W (g::gs))=λx:Nat=>(vAt h (x:Int)*wAt g.2 (x:Int))*(g.1.1*(W / g.1.2))+vAt h (x:Int)*x8 (λrows=>wAt rows (x:Int)) W gs:=funext λx=>by
   rw[x8,Int.mul_add,Int.mul_assoc (wAt g.2 (x:Int)),Int.mul_assoc]
  rw[e,Xq,vE,ih,Z7 (hr g (.head _)),x8,Int.mul_assoc (zb9 g.2 h)]
theorem zaw {n k:List Row->Int}{W:Int}(hW:0<=W):∀ {gs:List Gp},zfv gs->(∀ g∈gs,n g.2<=k g.2)->x8 n W gs<=x8 k W gs
 | [],_,_=>Int.le_refl _
 | g::gs,hG,h=>by
  have ih:=zaw hW (gs:=gs) hG.tl λx hx=>h x (.tail _ hx)
  obtain⟨g1,_,g3,_⟩:=hG g (.head _)
  rw[x8,x8,Int.mul_assoc,Int.mul_assoc]
  have:=Int.mul_le_mul_of_nonneg_right (h g (.head _)) (Int.mul_nonneg (show 0<=g.1.1 by omega) (Int.ediv_nonneg hW (show 0<=g.1.2 by omega)))
  omega
theorem zbj {m:Int}{ts:List Tie}{root:Int}{gs:List Gp}{h:Hl}(ok:yy m ts)(hr:0<=root)(hG:GOk ts root gs)(hgood:∀ g∈gs,yI ts root [] g.2=true)
 (hcov:∀ x:Nat,x < m.toNat->(x:Int)≠root->zK gs<=x8 (λrows=>wAt rows (x:Int)) (zK gs) gs) (hl:(h.length:Int)=m) (hn:∀ v∈h,0<=v) (h0:vAt h root=0) (hs:zjg m ts root h):h.sum<=x8 Ze (zK gs) gs / zK gs:=by
 have hW:=vW hG.sh
 have hln:h.length=m.toNat:=by omega
 have e1:h.sum*zK gs=((List.range m.toNat).map λx:Nat=>vAt h (x:Int)*zK gs).sum:=by
  rw[vE,<- hln,zbd]
 have e2:((List.range m.toNat).map λx:Nat=>vAt h (x:Int)*zK gs).sum<=((List.range m.toNat).map λx:Nat=>vAt h (x:Int)*x8 (λrows=>wAt rows (x:Int)) (zK gs) gs).sum:=by
  refine Wq λx hx=>?_
  rw[List.mem_range]at hx
  by_cases c:(x:Int)=root
  .rw[c,h0,Int.zero_mul,Int.zero_mul];exact Int.le_refl _
  .exact Int.mul_le_mul_of_nonneg_left (hcov x hx c) (hn _ (WW (by omega) (by omega)))
 have e3:=XG (h:=h) (n:=m.toNat) (zK gs) (gs:=gs) λg hg r hr=>by
  have:=(ZQ ok (hG.good g hg r hr).1).1
  omega
 have e4:=zaw (n:=λrows=>zb9 rows h) (k:=Ze) (W:=zK gs) (by omega) hG.sh λg hg=>YZ ok hr _ g.2 rfl (hgood g hg) h hl hn hs
 exact Int.le_ediv_of_mul_le (by omega) (by omega)
theorem zhJ {k:Nat}(h:k<=7):(0:Int)<=1*2 ^ k/\(1:Int)*2 ^ k<=1000:=by
 have:∀ k:Nat,k < 8->(0:Int)<=1*2 ^ k/\(1:Int)*2 ^ k<=1000:=by decide
 exact this k (by omega)
theorem zkL {j:Int}(h0:0<=j)(h1:j<=7):zl9 (.int 1) (.int j)=some (.int (1*2 ^ j.toNat)):=by
 show(if zid 1 j=true then some (D.int (1*2 ^ j.toNat))else none)=_
 have:zid 1 j=true:=decide_eq_true ⟨h0,by omega,by decide⟩
 rw[if_pos this]
theorem zdR {ns:List Int}(h:ns≠[]):ziq [.lst (ns.map .int)]=some (.int (zb8 ns)):=by
 show((zdh (ns.map .int)).bind λns=>if ns=[]then none else some (D.int (zb8 ns)))=_
 rw[WE]
 show(if ns=[]then none else some (D.int (zb8 ns)))=_
 rw[if_neg h]
noncomputable def wtK (dp:Int)(k:Nat):Int:=1*2 ^ (dp - (k:Int)).toNat
set_option genInjectivity false in
set_option genSizeOf false in
set_option genCtorIdx false in
structure Wk (m:Int) (ts:List Tie) (root dp:Int) (f j:Nat) (rows:List Row):Prop where
 ok:yI ts root [] rows=true
 iff:∀ v u,vx (vB rows) v=some u↔(0<=v/\v < m)/\∃ k:Nat,Far ts root v k/\1<=k/\(k < f\/k=f/\v < (j:Int))/\u=wtK dp k
theorem Wk.start (m:Int)(ts:List Tie)(root dp:Int):Wk m ts root dp 1 0 []:=by
 refine⟨rfl,λv u=>Iff.intro (λh=>?_) ?_⟩
 .have h:(none:Option Int)=some u:=h
  cases h
 rintro⟨h0,k,_,h1,h2,_⟩
 exfalso
 omega
theorem Wk.turn {m:Int}{ts:List Tie}{root dp:Int}{f:Nat}{rows:List Row}(h:Wk m ts root dp f m.toNat rows):Wk m ts root dp (f+1) 0 rows:=by
 refine⟨h.ok,λv u=>(h.iff v u).trans ⟨?_,?_⟩⟩
 .rintro⟨h0,k,h1,h2,h3,h4⟩
  exact⟨h0,k,h1,h2,.inl (by omega),h4⟩
 .rintro⟨h0,k,h1,h2,h3,h4⟩
  exact⟨h0,k,h1,h2,by omega,h4⟩
theorem Wk.skip {m:Int}{ts:List Tie}{root dp:Int}{f j:Nat}{rows:List Row}(h:Wk m ts root dp f j rows)(hn:¬ Far ts root (j:Int) f):Wk m ts root dp f (j+1) rows:=by
 refine⟨h.ok,λv u=>(h.iff v u).trans ⟨?_,?_⟩⟩
 .rintro⟨h0,k,h1,h2,h3,h4⟩
  exact⟨h0,k,h1,h2,by omega,h4⟩
 .rintro⟨h0,k,h1,h2,h3,h4⟩
  refine⟨h0,k,h1,h2,?_,h4⟩
  rcases h3 with h3 | ⟨h3,h5⟩
  .exact .inl h3
  .by_cases c:v=(j:Int)
   .subst c;subst h3;exact absurd h1 hn
   .exact .inr ⟨h3,by omega⟩
theorem zdD (rows:List Row)(r:Row):vB (rows++[r])=vB rows++[(r.1,r.2.2)]:=by
 unfold vB
 rw[List.map_append]
 rfl
theorem zfI {dp:Int}{f:Nat}(h:(f:Int)+1<=dp):2*wtK dp (f+1)=wtK dp f:=by
 unfold wtK
 rw[show(dp - (f:Int)).toNat=(dp - ((f+1:Nat):Int)).toNat+1 by omega,Int.pow_succ]
 omega
theorem zem (dp:Int)(k:Nat):1<=wtK dp k:=by
 unfold wtK
 have:(0:Int) < 2 ^ (dp - (k:Int)).toNat:=Int.pow_pos (by decide)
 omega
theorem Wk.add {m:Int}{ts:List Tie}{root dp:Int}{f j:Nat}{rows:List Row}{q:Int}(ok:yy m ts)(h:Wk m ts root dp (f+1) j rows)(hj:(j:Int) < m)(hF:Far ts root (j:Int) (f+1))(hd:(f:Int)+1<=dp)(ha:adj ts (j:Int) q)(hq:∃ k:Nat,Far ts root q k/\k < f+1):Wk m ts root dp (f+1) (j+1) (rows++[((j:Int),q,wtK dp (f+1))]):=by
 obtain⟨k,hk,hkf⟩:=hq
 have hkf:k=f:=by
  have:=hF.2 (k+1) (.step hk.1 ha.symm)
  omega
 subst hkf
 have hnone:vx (vB rows) (j:Int)=none:=by
  cases e:vx (vB rows) (j:Int) with
  | none=>rfl
  | some u =>
   obtain⟨_,k2,h1,_,h3,_⟩:=(h.iff _ _).mp e
   have:=h1.uniq hF
   omega
 have hroot:(j:Int)≠root:=λe=>by
  rw[e]at hF
  have:=hF.uniq (zbZ ts root)
  omega
 have hrow:wK ts root (vB rows) ((j:Int),q,wtK dp (k+1))=true:=by
  refine zfz ok (decide_eq_false hroot) hnone ha (zem _ _) ?_
  by_cases c:k=0
  .subst c
   exact .inl (zcg hk)
  .refine .inr ⟨wtK dp k,(h.iff _ _).mpr ⟨(ha.rng ok).2,k,hk,by omega,.inl (by omega),rfl⟩,?_⟩
   rw[zfI hd]
   exact Int.le_refl _
 refine⟨by rw[Yo,h.ok,List.nil_append,hrow];rfl,λv u=>?_⟩
 rw[zdD,WR]
 constructor
 .intro e
  cases e1:vx (vB rows) v with
  | some u' =>
   rw[e1]at e
   cases e
   obtain⟨h0,k2,h1,h2,h3,h4⟩:=(h.iff _ _).mp e1
   exact⟨h0,k2,h1,h2,by omega,h4⟩
  | none =>
   rw[e1]at e
   have e:(if (j:Int)=v then some (wtK dp (k+1))else none)=some u:=e
   split at e
   .rename_i c
    cases e
    subst c
    exact⟨⟨by omega,hj⟩,k+1,hF,by omega,.inr ⟨rfl,by omega⟩,rfl⟩
   .cases e
 .rintro⟨h0,k2,h1,h2,h3,h4⟩
  by_cases c:v=(j:Int)
  .subst c
   rw[hnone]
   have:=h1.uniq hF
   subst this
   rw[h4]
   show(if (j:Int)=(j:Int)then some (wtK dp (k+1))else none)=_
   rw[if_pos rfl]
  .rw[(h.iff v u).mpr ⟨h0,k2,h1,h2,by omega,h4⟩]
   rfl
theorem V6 {ts:List Tie}{root:Int}:∀ {rows:List Row} {kn:Kn},yI ts root kn rows=true->∀ r∈rows,vx (kn++vB rows) r.1=some r.2.2
 | q::rows,kn,h,r,hr=>by
  have h:(wK ts root kn q&&yI ts root (kn++[(q.1,q.2.2)]) rows)=true:=h
  rw[Bool.and_eq_true]at h
  have ih:=V6 h.2
  rw[List.append_assoc]at ih
  rcases List.mem_cons.mp hr with e | e
  .subst e
   show vx (kn++((r.1,r.2.2)::vB rows)) r.1=_
   rw[WR,Z5 h.1]
   show(if r.1=r.1 then some r.2.2 else _)=_
   rw[if_pos rfl]
  .exact ih r e
theorem Wk.low {m:Int}{ts:List Tie}{root dp:Int}{f j:Nat}{rows:List Row}(h:Wk m ts root dp f j rows)(h7:dp<=7):∀ r∈rows,0<=r.2.2/\r.2.2<=1000:=λr hr=>by
 have e:=V6 h.ok r hr
 rw[List.nil_append]at e
 obtain⟨_,k,_,_,_,e4⟩:=(h.iff _ _).mp e
 rw[e4]
 exact zhJ (by omega)
theorem Wk.cover {m:Int}{ts:List Tie}{root dp:Int}{f:Nat}{rows:List Row}(h:Wk m ts root dp f 0 rows)(hj:zbL m ts)(hr:0<=root/\root < m)(hf:∀ v k,0<=v->v < m->Far ts root v k->k < f){v:Int}(hv:0<=v/\v < m)(hne:v≠root):1<=wAt rows v:=by
 obtain⟨k0,hk0⟩:=hj root v hr hv
 obtain⟨k,hk⟩:=VS hk0
 have h1:1<=k:=by
  apply Classical.byContradiction
  intro c
  obtain rfl:k=0:=by omega
  exact hne (zcg hk)
 have e:=(h.iff v _).mpr ⟨hv,k,hk,h1,.inl (hf v k hv.1 hv.2 hk),rfl⟩
 obtain⟨r,hr2,er⟩:=List.mem_map.mp (Vh e)
 injection er with e1 e2
 have:=zdP (u:=wtK dp k) (x:=v) (λq hq=>by have:=(Yc h.ok q hq).2.1;omega) ⟨r,hr2,e1,e2⟩
 have:=zem dp k
 omega
noncomputable def vq:SE->Ctl :=
 (sIf (tOf (zk WN (zk ixD (zf 3) (zf 7)) (zf 6))) (zO (xE false 8 (wc (fLC (iOf (zk ixD (zf 0) (eC (.int 1)))) b2 (tOf (zk inD (zf 9) (wP (zc (zf 0) (zc (zf 1) zt))))) (zk Vl (zk xF (zf 0) (zf 1)) (zf 9)))))
  (zO (xE false 8 (wc (fLC (iOf (zf 8)) b1 (tOf (zk ltD (zk ixD (zf 4) (zf 0)) (zf 7))) (zf 0))))
  (zO (xE false 9 (zk ixD (wc (xi (zc (eFn ziq (zc (zf 8) zt)) (zc (eFn zdw (zc (zf 8) zt)) zt)))) (zf 2)))
  (zac false 5 (wP (zc (zf 7) (zc (zf 9) (zc (zk zl9 (eC (.int 1)) (zk Vl (zf 4) (zf 6))) zt)))))))) yc)
noncomputable def vd:SE->Ctl :=
 (wb ZB (zc (zk ixD (zf 0) (eC (.int 0))) zt) (yX 7) vq)
noncomputable def xU:SE->Ctl :=
 (zO (xE false 3 (zB 2 YB (zc (zf 0) (zc (zf 1) zt))))
  (zO (xE false 4 (eFn zdw (zc (zf 3) zt)))
  (zO (Vm 5 (xi zt))
  (zO (wb VQ (zc (eC (.int 1)) (zc (zk xF (zf 4) (eC (.int 1))) zt)) (yX 6) vd)
  (sFz 5 (xa (zf 5)))))))
noncomputable def vp:List D->Option D:=fnD 10 xU
set_option genInjectivity false in
set_option genSizeOf false in
set_option genCtorIdx false in
structure zei (m:Int) (ts:List Tie) (root:Int) (rows:List Row):Prop where
 rb:za8 rows
 ok:yI ts root [] rows=true
 cov:∀ v,0<=v/\v < m->v≠root->1<=wAt rows v
theorem zi0 {ns:List Int}(h:ns≠[]):zb8 ns∈ns:=by
 unfold zb8
 cases e:ns.min? with
 | none=>exact absurd (List.min?_eq_none_iff.mp e) h
 | some m=>exact(List.min?_eq_some_iff.mp e).1
theorem zdV {m:Int}{ts:List Tie}{root t:Int}(ok:yy m ts)(h28:ts.length<=28)(h5:m<=5)(hr:0<=root/\root < m)(hJ:zbL m ts)(ht:t=0\/t=1):∃ rows,vp [zF m ts,.int root,.int t]=some (.lst (rows.map zW))/\zei m ts root rows:=by
 have hm1:=ok.lo
 have ef:=ziy ok h28 hr
 obtain⟨ks,hks,hkl⟩:=zfQ hJ hr
 rw[hks,zgA]at ef
 have hkne:ks≠[]:=λz=>by rw[z]at hkl;have:(0:Int)=m:=hkl;omega
 have hka:∀ v,0<=v->v < m->∀ k:Nat,Far ts root v k->vAt ks v=(k:Int):=λv h0 h1 k hk=>by
  have e1:=zbF (ts:=ts) (p:=root) h0 h1
  rw[hks,zah hk]at e1
  unfold oAt at e1
  unfold vAt
  rw[List.getD_eq_getElem?_getD]
  rw[List.getElem?_map]at e1
  cases e:ks[v.toNat]? with
  | none=>rw[e]at e1;cases e1
  | some x=>rw[e]at e1;exact Option.some.inj e1
 obtain⟨x1,x2⟩:=WP hkne
 obtain⟨dp,hdp⟩:∃ dp,VY ks=dp:=⟨_,rfl⟩
 have em:=XE hkne
 rw[hdp]at em x1 x2
 have hfar:∀ v k,0<=v->v < m->Far ts root v k->(k:Int)<=dp:=λv k h0 h1 hk=>by
  have:=x2 _ (WW (h:=ks) (i:=v) h0 (by omega))
  rw[hka v h0 h1 k hk]at this
  exact this
 have hdr:0<=dp/\dp<=7:=by
  have h0:=hfar root 0 hr.1 hr.2 (zbZ ts root)
  have:some dp∈zat m ts root:=by rw[hks];exact List.mem_map.mpr ⟨dp,x1,rfl⟩
  rcases zf5 ok hr this with e | ⟨k,e,_,hk⟩
  .cases e
  .injection e with e
   omega
 have key:=zf8 (m:=10) (g:=xU) (ds:=[zF m ts,.int root,.int t]) (R:=λd=>∃ rows,d=.lst (rows.map zW)/\zei m ts root rows) (ρ:=[.v (zF m ts),.v (.int root),.v (.int t),.no,.no,.no,.no,.no,.no,.no]) rfl ?_
 .obtain⟨d,e,rows,rfl,h⟩:=key
  exact⟨rows,e,h⟩
 unfold xU
 refine zy (ρ':=[.v (zF m ts),.v (.int root),.v (.int t),.v (.lst (ks.map .int)),.no,.no,.no,.no,.no,.no]) (ym ef) ?_
 refine zy (ρ':=[.v (zF m ts),.v (.int root),.v (.int t),.v (.lst (ks.map .int)),.v (.int dp),.no,.no,.no,.no,.no]) (Vc (zdE (ds:=[.lst (ks.map .int)]) rfl em)) ?_
 refine zy (ρ':=[.v (zF m ts),.v (.int root),.v (.int t),.v (.lst (ks.map .int)),.v (.int dp),.o [],.no,.no,.no,.no]) rfl ?_
 refine xT (Zx (lo:=1) (c:=dp.toNat) (λi ρ=>∃ (rows:List Row) (o6 o7 o8 o9:Sl),ρ=[.v (zF m ts),.v (.int root),.v (.int t),.v (.lst (ks.map .int)),.v (.int dp),.o (rows.map zW),o6,o7,o8,o9]/\Wk m ts root dp (i+1) 0 rows/\rows.length<=5*i) ?_ ⟨[],_,_,_,_,rfl,Wk.start m ts root dp,Nat.le_refl _⟩ ?_ ?_)
 .have er:zc (eC (.int 1)) (zc (zk xF (zf 4) (eC (.int 1))) zt) (visG [.v (zF m ts),.v (.int root),.v (.int t),.v (.lst (ks.map .int)),.v (.int dp),.o [],.no,.no,.no,.no])=some [.int 1,.int (dp+1)]:=rfl
  rw[er,Option.bind_some]
  have e2:VQ [.int 1,.int (dp+1)]=some (ZN 1 (dp+1 - 1).toNat):=zcS (by decide) (by decide) (by omega) (by omega)
  rw[e2,show(dp+1 - 1).toNat=dp.toNat by omega]
 .rintro i ρ hi ⟨rows,o6,o7,o8,o9,rfl,hW,hrl⟩
  obtain⟨fh,hfh⟩:∃ fh:Int,(1:Int)+(i:Int)=fh:=⟨_,rfl⟩
  rw[hfh]
  refine⟨[.v (zF m ts),.v (.int root),.v (.int t),.v (.lst (ks.map .int)),.v (.int dp),.o (rows.map zW),.v (.int fh),o7,o8,o9],rfl,?_⟩
  unfold vd
  refine Zx (lo:=0) (c:=m.toNat) (λj ρ=>∃ (rows:List Row) (o7 o8 o9:Sl),ρ=[.v (zF m ts),.v (.int root),.v (.int t),.v (.lst (ks.map .int)),.v (.int dp),.o (rows.map zW),.v (.int fh),o7,o8,o9]/\Wk m ts root dp (i+1) j rows/\rows.length<=5*i+j) (show ZB [.int m]=_ from zbR ok) ⟨rows,_,_,_,rfl,hW,hrl⟩ ?_ ?_
  .rintro j ρ hj ⟨rows,o7,o8,o9,rfl,hW,hrl⟩
   obtain⟨y,hy⟩:∃ y:Int,(0:Int)+(j:Int)=y:=⟨_,rfl⟩
   rw[hy]
   have hyj:y=(j:Int):=by omega
   have hyr:0<=y/\y < m:=by omega
   refine⟨[.v (zF m ts),.v (.int root),.v (.int t),.v (.lst (ks.map .int)),.v (.int dp),.o (rows.map zW),.v (.int fh),.v (.int y),o8,o9],rfl,?_⟩
   unfold vq
   obtain⟨k0,hk0⟩:=hJ root y hr hyr
   obtain⟨k,hF⟩:=VS hk0
   have eky:=hka y hyr.1 hyr.2 k hF
   have hll:y < (ks.length:Int):=by omega
   refine XB (c:=decide ((k:Int)=fh)) (Xj (zI (x:=.int (k:Int)) (y:=.int fh) (zI (x:=.lst (ks.map .int)) (y:=.int y) rfl rfl (by rw[<-eky];exact Yb hyr.1 hll)) rfl yM)) (λz=>?_) λz=>YN rfl ⟨rows,_,_,_,rfl,hW.skip (λc=>?_),by omega⟩
   .have hkf:k=i+1:=by have:=of_decide_eq_true z;omega
    subst hkf
    have e1:=ziH (m:=m) (ts:=ts) (y:=y) (k:=7) (ρ:=visF [.v (zF m ts),.v (.int root),.v (.int t),.v (.lst (ks.map .int)),.v (.int dp),.o (rows.map zW),.v (.int fh),.v (.int y),o8,o9]) h28 rfl rfl
    refine zy (ρ':=[.v (zF m ts),.v (.int root),.v (.int t),.v (.lst (ks.map .int)),.v (.int dp),.o (rows.map zW),.v (.int fh),.v (.int y),.v (.lst ((ZJ ts y).map .int)),o9]) (Vc (YK e1)) ?_
    obtain⟨js,hjs⟩:∃ js,(ZJ ts y).filter (λo=>decide (vAt ks o < fh))=js:=⟨_,rfl⟩
    refine zy (ρ':=[.v (zF m ts),.v (.int root),.v (.int t),.v (.lst (ks.map .int)),.v (.int dp),.o (rows.map zW),.v (.int fh),.v (.int y),.v (.lst (js.map .int)),o9]) (Vc (YK ?_)) ?_
    .unfold fLC
     show(if lim ((ZJ ts y).map D.int).length=true then _ else none)=_
     rw[if_pos (zeF (by rw[List.length_map];exact Nat.le_trans zd8 h28)),<- hjs]
     refine wN D.int (λo=>decide (vAt ks o < fh)) D.int (ZJ ts y) λo ho=>⟨[some (.int o)],rfl,?_,λ_=>rfl⟩
     have hor:=((VT ho).rng ok).2
     exact Xj (zI (x:=.int (vAt ks o)) (y:=.int fh) (zI (x:=.lst (ks.map .int)) (y:=.int o) rfl rfl (Yb hor.1 (by omega))) rfl rfl)
    have hin:∀ q∈js,adj ts y q/\∃ k:Nat,Far ts root q k/\k < i+1:=λq hq=>by
     rw[<-hjs,List.mem_filter,decide_eq_true_eq]at hq
     have ha:=VT hq.1
     have hor:=(ha.rng ok).2
     obtain⟨ko,hko⟩:=hJ root q hr hor
     obtain⟨kq,hkq⟩:=VS hko
     have:=hka q hor.1 hor.2 kq hkq
     exact⟨ha,kq,hkq,by omega⟩
    have hne:js≠[]:=by
     obtain⟨a,ha,hay⟩:=hF.1.inv
     obtain⟨ka,hka2⟩:=VS ha
     have hle:=hka2.2 _ ha
     have har:=(hay.rng ok).1
     have e:=hka a har.1 har.2 ka hka2
     have:a∈js:=by
      rw[<-hjs,List.mem_filter,decide_eq_true_eq]
      exact⟨zde hay.symm,by omega⟩
     intro z
     rw[z]at this
     cases this
    have emn:=zdR hne
    have emx:=XE hne
    obtain⟨q,hq,eq⟩:∃ q,q∈js/\ixD (.lst [.int (zb8 js),.int (VY js)]) (.int t)=some (.int q):=by
     rcases ht with rfl | rfl
     .exact⟨zb8 js,zi0 hne,rfl⟩
     .exact⟨VY js,(WP hne).1,rfl⟩
    refine zy (ρ':=[.v (zF m ts),.v (.int root),.v (.int t),.v (.lst (ks.map .int)),.v (.int dp),.o (rows.map zW),.v (.int fh),.v (.int y),.v (.lst (js.map .int)),.v (.int q)]) (Vc (zI (x:=.lst [.int (zb8 js),.int (VY js)]) (y:=.int t) (YK (zbg (zN (zdE (ds:=[.lst (js.map .int)]) rfl emn) (zN (zdE (ds:=[.lst (js.map .int)]) rfl emx) Yl)) (by show 2<=1000;decide))) rfl eq)) ?_
    have hdf:=hfar y (i+1) hyr.1 hyr.2 hF
    have es:=zkL (j:=dp - fh) (by omega) (by omega)
    have hu:(1:Int)*2 ^ (dp - fh).toNat=wtK dp (i+1):=by unfold wtK;rw[show((i+1:Nat):Int)=fh by omega]
    rw[hu]at es
    obtain⟨ha,hk⟩:=hin q hq
    rw[hyj]at hF ha
    have hW2:=hW.add (q:=q) ok (by omega) hF (by omega) ha hk
    rw[<-hyj]at hW2
    refine YN (zhI (ds:=rows.map zW) (d:=zW (y,q,wtK dp (i+1))) (zhr (ds:=[.int y,.int q,.int (wtK dp (i+1))]) (zN rfl (zN rfl (zN (zI (x:=.int 1) (y:=.int (dp - fh)) rfl rfl es) Yl))) (by show 3<=1000;decide)) rfl (by rw[List.length_map];omega)) ⟨rows++[(y,q,wtK dp (i+1))],.v (.int y),.v (.lst (js.map .int)),.v (.int q),?_,hW2,by rw[List.length_append];show rows.length+1<=_;omega⟩
    rw[List.map_append]
    rfl
   .rw[<-hyj]at c
    have:=hF.uniq c
    have z:=of_decide_eq_false z
    omega
  .rintro ρ ⟨rows,o7,o8,o9,rfl,hW,hrl⟩
   exact⟨rows,_,_,_,_,rfl,hW.turn,by omega⟩
 .rintro ρ ⟨rows,o6,o7,o8,o9,rfl,hW,hrl⟩
  refine zhN rfl (Yv rfl ⟨rows,rfl,⟨by omega,hW.low hdr.2⟩,hW.ok,λv hv hne=>hW.cover hJ hr (λv k h0 h1 hk=>?_) hv hne⟩)
  have:=hfar v k h0 h1 hk
  omega
theorem Vz (T:Txt K mg ad):xR P w K mg base CX0 2 ad.f__law_walk ad.e__law_walk ["web","root","turned"] (@spD ⟨K⟩ 3 vp):=by
 letI:KK:=⟨K⟩
 have G__law_fars:=VJ (P:=P) (w:=w) (base:=base) T
 refine yZ (N:=["web","root","turned","far_ones","deep","found","far_here","place","inners","inner"]) (ps:=["web","root","turned"]) T.d__law_walk.fn zQ (g:=xU) λcdv A outer s H E hr=>?_
 unfold xU vd vq
 exact(zg (zL (m:=false) (i:=3) zQ.nd rfl (Or.inr rfl) (zq (G__law_fars.mono (by decide)) hr rfl T.d__law_fars.at_ T.d__law_fars.kp T.d__law_fars.bd (zb (za 0 (pv 0)) (zb (za 1 (pv 1)) zh))))
  (zg (zL (m:=false) (i:=4) zQ.nd rfl (Or.inl rfl) (zS (Xw rfl) Vb rfl T.z_max zbx (zb (za 3 (pv 3)) zh)))
  (zg (Wh (i:=5) zQ.nd rfl (Or.inl rfl) (xZ zh))
  (zg (zbv PassesOwn.never rfl rfl T.z_range (zb (zd ze) (zb (zV (za 4 (pv 4)) (zd ze)) zh)) (zU (zr (i:=6) zQ.nd rfl (Or.inr rfl))) (zi (vZ PassesOwn.never rfl rfl T.z_range (zb (zw (za 0 (pv 0)) (zd ze) (λ_ _=>rfl)) zh) (zU (zr (i:=7) zQ.nd rfl (Or.inr rfl))) (zi (yW (zG (vw hr) xL (zE _) (zw (za 3 (pv 3)) (za 7 (pv 7)) (λ_ _=>rfl)) (za 6 (pv 6))) (zg (W1 (m:=false) (i:=8) (zdT (L:=["a","b"]) (M:=["web","root","turned","far_ones","deep","found","far_here","place","inners","inner"]) zQ.nd rfl (Or.inl rfl) rfl (wQ (by rfl) (by rfl) (by rfl) (by with_unfolding_all rfl) (by rfl) (by rfl) (by kernel_rfl) (all_cons rfl xu)) (xB (zw (za 0 (pv 0)) (zd ze) (λ_ _=>rfl))) gs2 rb2 (λ_ _ _ _=>(zbo rfl (ve (zr (i:=0) zj6 rfl (Or.inl rfl) (.inr rfl)) (ve (zr (i:=1) zj6 rfl (Or.inl rfl) (.inr rfl)) Vi)))) (λ_ _ _ _=>(zG (zhC hr) zhv (by with_unfolding_all rfl) (za 9 (pv 9)) (yh (zb (za 0 (pv 0)) (zb (za 1 (pv 1)) zh))))) (λ_ _ _ _=>(Wa (zV (za 0 (pv 0)) (za 1 (pv 1))) (za 9 (pv 9))))))
  (zg (W1 (m:=false) (i:=8) (zdT (L:=["other"]) (M:=["web","root","turned","far_ones","deep","found","far_here","place","inners","inner"]) zQ.nd rfl (Or.inl rfl) rfl (wQ (by rfl) (by rfl) (by rfl) (by with_unfolding_all rfl) (by rfl) (by rfl) (by kernel_rfl) (all_cons rfl (all_cons rfl xu))) (xB (za 8 (pv 8))) gs1 rb1 (λ_ _ _ _=>(zr (i:=0) zlF rfl (Or.inl rfl) (.inr rfl))) (λ_ _ _ _=>(zG zbf ye (zE _) (zw (za 4 (pv 4)) (za 0 (pv 0)) (λ_ _=>rfl)) (za 7 (pv 7)))) (λ_ _ _ _=>(za 0 (pv 0)))))
  (zg (zL (m:=false) (i:=9) zQ.nd rfl (Or.inl rfl) (zw (xX (xZ (zb (zS (zeh rfl) zgc rfl T.z_min zhA (zb (za 8 (pv 8)) zh)) (zb (zS (Xw rfl) Vb rfl T.z_max zbx (zb (za 8 (pv 8)) zh)) zh)))) (za 2 (pv 2)) (λ_ _=>rfl)))
  (zi (zef (m:=false) (pv 5) (yh (zb (za 7 (pv 7)) (zb (za 9 (pv 9)) (zb (zjI (zd ze) (Wa (za 4 (pv 4)) (za 6 (pv 6)))) zh)))) (λa b=>zh7 PySem.F.plainAttrs_list PySem.F.slot_list_append PySem.F.type_list_append XN a b)))))) zD)))))
  (XI 5 (zi (zx (za 5 (pv 5)))))))))
noncomputable def xK:SE->Ctl :=
 (zO (xE false 6 (zk wV (zB 2 zX (zc (zf 3) (zc (zk xF (eC (.int 30)) (zk xj (zf 5) (zk xF (eC (.int 1)) (zk wV (zf 3) (eC (.int 4)))))) zt))) (zf 0)))
  (zO (sIf (tOf (zk WN (zf 6) (zf 2))) (xE false 6 (zk wV (zk xF (zf 2) (eC (.int 1))) (zf 0))) yc)
  (Ve true 4 (zf 6) (zk xF (zk ixD (zf 4) (zf 6)) (eC (.int 1))))))
noncomputable def yK:SE->Ctl :=
 (zO (Vm 4 (zlE zf4 (wc (xi (zc (eC (.int 0)) zt))) (zf 0)))
  (zO (wb ZB (zc (zf 1) zt) (yX 5) xK)
  (sFz 4 (xa (eFn yS (zc (zf 4) zt))))))
noncomputable def wB:List D->Option D:=fnD 7 yK
theorem zcH {m s root c:Int}(h2:2<=m)(h8:m<=8)(hs0:0<=s)(hs:s<=100)(hr:0<=root/\root < m):∃ h:Hl,wB [.int m,.int s,.int root,.int c]=some (hD h)/\(h.length:Int)=m/\(∀ x∈h,0<=x)/\h.sum=s/\vAt h root=0:=by
 have key:=zf8 (m:=7) (g:=yK) (ds:=[.int m,.int s,.int root,.int c]) (R:=λd=>∃ h:Hl,d=hD h/\(h.length:Int)=m/\(∀ x∈h,0<=x)/\h.sum=s/\vAt h root=0) (ρ:=[.v (.int m),.v (.int s),.v (.int root),.v (.int c),.no,.no,.no]) rfl ?_
 .obtain⟨d,e,ns,rfl,h⟩:=key
  exact⟨ns,e,h⟩
 unfold yK
 refine zy (ρ':=[.v (.int m),.v (.int s),.v (.int root),.v (.int c),.o ((List.replicate m.toNat (0:Int)).map .int),.no,.no]) ?_ ?_
 .have e:=zke (d:=.int 0) (show 1<=m by omega) h8
  refine zdK (ds:=(List.replicate m.toNat (0:Int)).map .int) ?_
  rw[List.map_replicate]
  exact e
 refine xT (Zx (lo:=0) (c:=s.toNat) (λi ρ=>∃ (ns:Hl) (o5 o6:Sl),ρ=[.v (.int m),.v (.int s),.v (.int root),.v (.int c),.o (ns.map .int),o5,o6]/\(ns.length:Int)=m/\(∀ x∈ns,0<=x)/\ns.sum=(i:Int)/\vAt ns root=0) ?_ ⟨_,_,_,rfl,by rw[List.length_replicate];omega,λx hx=>by rw[(List.mem_replicate.mp hx).2];exact Int.le_refl _,?_,?_⟩ ?_ ?_)
 .exact Wf hs0 (by omega)
 .rw[zeT];rfl
 .unfold vAt
  rw[List.getD_eq_getElem?_getD,List.getElem?_replicate,if_pos (by omega)]
  rfl
 .rintro i ρ hi ⟨ns,o5,o6,rfl,hl,hnn,hsm,hv0⟩
  refine⟨_,rfl,?_⟩
  unfold xK
  obtain⟨x,hx⟩:∃ x:Int,(0:Int)+(i:Int)=x:=⟨_,rfl⟩
  rw[hx]
  obtain⟨c4,hc4⟩:∃ c4:Int,c % 4=c4:=⟨_,rfl⟩
  obtain⟨c40,c41⟩:=ZR (by decide) hc4
  obtain⟨y,hy⟩:∃ y:Int,zcR c (30+x / (1+c4)) % m=y:=⟨_,rfl⟩
  obtain⟨y0,y1⟩:=ZR (by omega) hy
  refine zy (ρ':=[.v (.int m),.v (.int s),.v (.int root),.v (.int c),.o (ns.map .int),.v (.int x),.v (.int y)]) (Vc (zI (x:=.int (zcR c (30+x / (1+c4)))) (y:=.int m) (YE (ds:=[.int c,.int (30+x / (1+c4))]) (zN rfl (zN (zI (x:=.int 30) (y:=.int (x / (1+c4))) rfl (zI (x:=.int x) (y:=.int (1+c4)) rfl (zI (x:=.int 1) (y:=.int c4) rfl (zI (x:=.int c) (y:=.int 4) rfl rfl (by rw[y3 (by decide),hc4])) rfl) (zbc (by omega) (by omega))) rfl) Yl)) rfl) rfl (by rw[y3 (by omega),hy]))) ?_
  refine zkD (fun ρ=>∃ q:Int,ρ=[.v (.int m),.v (.int s),.v (.int root),.v (.int c),.o (ns.map .int),.v (.int x),.v (.int q)]/\0<=q/\q < m/\q≠root) ?_ ?_
  .refine XB (c:=decide (y=root)) (Xj (zI (x:=.int y) (y:=.int root) rfl rfl yM)) (λz=>?_) (λz=>YN rfl ⟨y,rfl,y0,y1,of_decide_eq_false z⟩)
   obtain⟨q,hq⟩:∃ q:Int,(root+1) % m=q:=⟨_,rfl⟩
   obtain⟨q0,q1⟩:=ZR (by omega) hq
   refine YN (Vc (d:=.int q) (zI (x:=.int (root+1)) (y:=.int m) rfl rfl (by rw[y3 (by omega),hq]))) ⟨q,rfl,q0,q1,λe=>?_⟩
   rw[e]at hq
   by_cases c:root+1 < m
   .rw[Int.emod_eq_of_lt (by omega) c]at hq;omega
   .rw[show root+1=m by omega,Int.emod_self]at hq;omega
  .rintro ρ ⟨q,rfl,q0,q1,qr⟩
   have hlt:q.toNat < ns.length:=by omega
   have ea:L2.atI (ns.map D.int) q=some (.int (vAt ns q)):=Yb q0 (by omega)
   refine zc6 (ns.map .int) (.int (vAt ns q+1)) q ?_ rfl rfl q0 (by rw[List.length_map];omega) ⟨Vd ns q (vAt ns q+1),.v (.int x),.v (.int q),?_,by rw[Yd];exact hl,λz hz=>?_,?_,?_⟩
   .show((((L2.atI (ns.map D.int) q).bind λa=>xF a (.int 1))).bind λd=>if noL d=true then some d else none)=_
    rw[ea]
    rfl
   .unfold Vd;rw[List.map_set];rfl
   .unfold Vd at hz
    rcases List.mem_or_eq_of_mem_set hz with h | h
    .exact hnn z h
    .have:=hnn _ (WW (h:=ns) (i:=q) q0 (by omega));omega
   .rw[WU q0 (by omega),hsm];omega
   .rw[Y8 q0 (by omega) hr.1,if_neg (λe=>qr e.symm)];exact hv0
 .rintro ρ ⟨ns,o5,o6,rfl,hl,hnn,hsm,hv0⟩
  exact zhN (ρ':=[.v (.int m),.v (.int s),.v (.int root),.v (.int c),.v (.lst (ns.map .int)),o5,o6]) rfl (Yv rfl ⟨ns,rfl,hl,hnn,by omega,hv0⟩)
theorem Xd (T:Txt K mg ad):xR P w K mg base CX0 2 ad.f__law_heap_of ad.e__law_heap_of ["many","stones","root","cell"] (@spD ⟨K⟩ 4 wB):=by
 letI:KK:=⟨K⟩
 have G__law_stir:=vX (P:=P) (w:=w) (base:=base) T
 refine yZ (N:=["many","stones","root","cell","found","k","place"]) (ps:=["many","stones","root","cell"]) T.d__law_heap_of.fn yn (g:=yK) λcdv A outer s H E hr=>?_
 unfold yK xK
 exact(zg (Wh (i:=4) yn.nd rfl (Or.inl rfl) (zhe (xX (xZ (zb (zd ze) zh))) (za 0 (pv 0))))
  (zg (vZ PassesOwn.never rfl rfl T.z_range (zb (za 1 (pv 1)) zh) (zU (zr (i:=5) yn.nd rfl (Or.inl rfl))) (zg (zL (m:=false) (i:=6) yn.nd rfl (Or.inl rfl) (wa (zq (G__law_stir.mono (by decide)) hr rfl T.d__law_stir.at_ T.d__law_stir.kp T.d__law_stir.bd (zb (za 3 (pv 3)) (zb (zV (zd ze) (wC (za 5 (pv 5)) (zV (zd ze) (wa (za 3 (pv 3)) (zd ze))))) zh))) (za 0 (pv 0))))
  (zg (yW (zG (vw hr) xL (zE _) (za 6 (pv 6)) (za 2 (pv 2))) (zi (zL (m:=false) (i:=6) yn.nd rfl (Or.inl rfl) (wa (zV (za 2 (pv 2)) (zd ze)) (za 0 (pv 0))))) zD)
  (zi (zad (m:=true) (zV (zw (za 4 (pv 4)) (za 6 (pv 6)) (λ_ _=>rfl)) (zd ze)) (pv 4) (za 6 (pv 6)))))))
  (XI 4 (zi (zx (x5 zZ x9 rfl T.z_tuple yB (zb (za 4 (pv 4)) zh)))))))
noncomputable def Wz:SE->Ctl :=
 (zO (xE false 11 (zB 4 wB (zc (zk ixD (zf 2) (eC (.int 0))) (zc (zk xF (zf 9) (eC (.int 1))) (zc (zf 3) (zc (zB 2 zX (zc (zf 1) (zc (zk xF (zk xF (eC (.int 60)) (zk xP (eC (.int 7)) (zf 7))) (zf 10)) zt))) zt))))))
  (sIf (tOf (zk WN (zB 3 xr (zc (zf 2) (zc (zf 11) (zc (zf 3) zt)))) (eC (.int 0)))) (xa (eC (.bl false))) yc))
noncomputable def Ws:SE->Ctl :=
 (zO (xE false 9 (zB 3 wn (zc (zf 2) (zc (zf 3) (zc (zf 8) zt)))))
  (sIf (vh (tOf (zk yP (zf 9) (eC .non))) (tOf (zk ltD (zf 9) (eC (.int 8))))) (wb ZB (zc (eC (.int 2)) zt) (yX 10) Wz) yc))
noncomputable def Vf:SE->Ctl :=
 (zO (xE false 2 (zB 3 wZ (zc (zk xF (zk xF (zk xP (zk xj (zf 1) (eC (.int 4))) (eC (.int 5))) (eC (.int 1))) (zk wV (zf 1) (eC (.int 4)))) (zc (eC (.int 5)) (zc (eC (.bl true)) zt)))))
  (zO (xE false 3 (zk wV (zB 2 zX (zc (zf 1) (zc (eC (.int 1)) zt))) (zk ixD (zf 2) (eC (.int 0)))))
  (zO (xE false 4 (zB 3 vp (zc (zf 2) (zc (zf 3) (zc (eC (.int 0)) zt)))))
  (zO (xE false 5 (zB 3 vp (zc (zf 2) (zc (zf 3) (zc (eC (.int 1)) zt)))))
  (zO (xE false 6 (wc (xi (zc (wc (xi (zc (wP (zc (wP (zc (eC (.int 1)) (zc (eC (.int 1)) zt))) (zc (zf 4) zt))) zt))) (zc (wc (xi (zc (wP (zc (wP (zc (eC (.int 1)) (zc (eC (.int 2)) zt))) (zc (zf 4) zt))) (zc (wP (zc (wP (zc (eC (.int 1)) (zc (eC (.int 2)) zt))) (zc (zf 5) zt))) zt)))) (zc (wc (xi (zc (wP (zc (wP (zc (eC (.int 1)) (zc (eC (.int 2)) zt))) (zc (zf 4) zt))) (zc (wP (zc (wP (zc (eC (.int 1)) (zc (eC (.int 3)) zt))) (zc (zf 5) zt))) zt)))) zt))))))
  (zO (xE false 6 (zk xF (zf 6) (wc (xi (zc (wc (xi (zc (wP (zc (wP (zc (eC (.int 2)) (zc (eC (.int 3)) zt))) (zc (zf 4) zt))) zt))) (zc (wc (xi (zc (wP (zc (wP (zc (eC (.int 1)) (zc (eC (.int 2)) zt))) (zc (zf 4) zt))) (zc (wP (zc (wP (zc (eC (.int 1)) (zc (eC (.int 2)) zt))) (zc (wc (fLC (iOf (zf 5)) b1 (tOf (zk WN (zk ixD (zf 0) (eC (.int 1))) (zf 4))) (zf 0))) zt))) zt)))) zt))))))
  (zO (sIf (tOf (zk zbt (zB 3 wn (zc (zf 2) (zc (zf 3) (zc (zk ixD (zf 6) (eC (.int 0))) zt)))) (eC .non))) (xa (eC (.bl false))) yc)
  (WK (vR (zc (zf 6) zt)) (zav 2 (vn (yX 7) (vn (yX 8) zbm))) Ws))))))))
noncomputable def zfS:SE->Ctl :=
 (zO (WK (iOf (zk xF (wc (xi (zc (zB 2 yH (zc (zf 0) (zc (eC (.int 0)) zt))) zt))) (eSl slD (zf 0) (Ys (eC (.int 1))) (Ys (eC (.int 3)))))) (yX 1) Vf)
  (xa (eC (.bl true))))
noncomputable def zjy:List D->Option D:=fnD 12 zfS
theorem zfh {t:Ev->Option Bool}{g:SE->Ctl}{ρ:SE}(e:t (visG ρ)=some false):sIf t g yc ρ=.nx ρ:=by
 unfold sIf
 rw[e]
 rfl
noncomputable def psD (ps:List Pt):D:=.lst (ps.map ptD)
theorem zeU {m:Int}{ts:List Tie}{root B:Int}{ps:List Pt}(ok:yy m ts)(hr:0<=root/\root < m)(hl:ps.length<=5)(hp:∀ p∈ps,zjo p)(e:vA m ts root ps=.int B):0<=B/\∀ h:Hl,(h.length:Int)=m->(∀ v∈h,0<=v)->vAt h root=0->zjg m ts root h->h.sum<=B:=by
 unfold vA at e
 split at e
 .rename_i ha
  have hG:=zgZ hl hp ha
  have hgood:∀ g∈ps.map zg1,yI ts root [] g.2=true:=λg hg=>by
   obtain⟨p,hm,rfl⟩:=List.mem_map.mp hg
   have h1:=List.all_eq_true.mp ha p hm
   cases p with
   | g s rows =>
    have h1:xm ts root rows=true:=h1
    unfold xm at h1
    rw[Bool.and_eq_true]at h1
    exact h1.2
  generalize ps.map zg1=gs at *
  unfold YH at e
  split at e
  .cases e
  .rename_i hany
   injection e with e
   have hcov:∀ x:Nat,x < m.toNat->(x:Int)≠root->zK gs<=x8 (λrows=>wAt rows (x:Int)) (zK gs) gs:=λx hx hne=>by
    apply Classical.byContradiction
    intro c
    apply hany
    rw[List.any_eq_true]
    exact⟨x,List.mem_range.mpr hx,by rw[decide_eq_false hne,decide_eq_true (show _ < _ by omega)];rfl⟩
   refine⟨?_,λh h1 h2 h3 h4=>by rw[<-e];exact zbj ok hr.1 hG hgood hcov h1 h2 h3 h4⟩
   have hW:=vW hG.sh
   rw[<-e]
   refine Int.ediv_nonneg ?_ (by omega)
   have:=zaw (n:=λ_=>0) (k:=Ze) (W:=zK gs) (by omega) hG.sh λg hg=>(zbA (hG.rb g hg)).1
   rw[Vw (n:=λ_=>0) λ_ _=>rfl]at this
   exact this
 .cases e
theorem zaH {m:Int}{ts:List Tie}{root:Int}{rows:List Row}(hm:2<=m)(hr:0<=root/\root < m)(h:zei m ts root rows):∃ B,vA m ts root [.g (1,1) rows]=.int B:=by
 have hne:rows.isEmpty=false:=by
  cases rows with
  | nil =>
   by_cases c:root=0
   .have:=h.cov 1 ⟨by omega,by omega⟩ (by omega);rw[zaz]at this;omega
   .have:=h.cov 0 ⟨by omega,by omega⟩ (by omega);rw[zaz]at this;omega
  | cons _ _=>rfl
 have hg:xm ts root rows=true:=by unfold xm;rw[hne,h.ok];rfl
 unfold vA
 rw[if_pos (by show(xm ts root rows&&true)=true;rw[hg];rfl)]
 show ∃ B,YH m root [((1,1),rows)]=.int B
 unfold YH
 rw[if_neg]
 .exact⟨_,rfl⟩
 .rw[List.any_eq_true]
  rintro⟨x,hx,hb⟩
  rw[Bool.and_eq_true,Bool.not_eq_true',decide_eq_false_iff_not,decide_eq_true_eq]at hb
  have hx:=List.mem_range.mp hx
  have h1:=h.cov (x:Int) ⟨by omega,by omega⟩ hb.1
  have h2:x8 (λrows=>wAt rows (x:Int)) (zK [((1,1),rows)]) [((1,1),rows)]=wAt rows (x:Int):=by
   show wAt rows (x:Int)*1*(1 / 1)+0=_
   omega
  rw[h2]at hb
  have h3:zK [((1,1),rows)]=1:=rfl
  omega
theorem zih {m p z:Int}{ts:List Tie}{B:Int}(script one other shows k show':D)(ok:yy m ts)(h28:ts.length<=28)(hm2:2<=m)(hm5:m<=5)(hp:0<=p/\p < m)(hB0:0<=B)(hB8:B < 8)(hB:∀ h:Hl,(h.length:Int)=m->(∀ v∈h,0<=v)->vAt h p=0->zjg m ts p h->h.sum<=B)(kk:Int)(hk:k=.int kk)(t:Int)(o11:Sl)(n b:SE->Prop)(r:D->Prop)(I:SE->Prop)(hI:∀ o11,I [.v script,.v (.int z),.v (zF m ts),.v (.int p),.v one,.v other,.v shows,.v k,.v show',.v (.int B),.v (.int t),o11]):(Wz [.v script,.v (.int z),.v (zF m ts),.v (.int p),.v one,.v other,.v shows,.v k,.v show',.v (.int B),.v (.int t),o11]).w I b n r:=by
 subst hk
 obtain⟨h,eh,hl,hnn,hsm,hv0⟩:=zcH (m:=m) (s:=B+1) (root:=p) (c:=zcR z (60+7*kk+t)) hm2 (by omega) (by omega) (by omega) hp
 unfold Wz
 refine zy (ρ':=[.v script,.v (.int z),.v (zF m ts),.v (.int p),.v one,.v other,.v shows,.v (.int kk),.v show',.v (.int B),.v (.int t),.v (hD h)]) (vG (ds:=[.int m,.int (B+1),.int p,.int (zcR z (60+7*kk+t))]) (zN (zI (x:=zF m ts) (y:=.int 0) rfl rfl rfl) (zN (zI (x:=.int B) (y:=.int 1) rfl rfl rfl) (zN rfl (zN (YE (ds:=[.int z,.int (60+7*kk+t)]) (zN rfl (zN (zI (x:=.int (60+7*kk)) (y:=.int t) (zI (x:=.int 60) (y:=.int (7*kk)) rfl (zI (x:=.int 7) (y:=.int kk) rfl rfl (zkg (by decide) (by decide))) rfl) rfl rfl) Yl)) rfl) Yl)))) eh) ?_
 have hpow:(h.sum.toNat+1) ^ m.toNat < 5000000:=by
  have h8:h.sum.toNat+1<=9:=by omega
  have hk':m.toNat<=5:=by omega
  exact Nat.lt_of_le_of_lt (Nat.le_trans (Nat.pow_le_pow_left h8 _) (Nat.pow_le_pow_right (by decide) hk')) (by decide)
 obtain⟨M,eM,_,hup⟩:=Wy ok h28 hl hnn hpow hp
 have hM:¬ M=0:=λe=>by
  have:=hB h hl hnn hv0 λg hg=>by have:=hup g hg;omega
  omega
 exact YN (zfh (Xj (zI (x:=.int M) (y:=.int 0) (YE (ds:=[zF m ts,hD h,.int p]) rfl eM) rfl (by rw[yM,decide_eq_false hM])))) (hI _)
theorem ziz {m p z:Int}{ts:List Tie}{ps:List Pt}(script one other shows:D)(ok:yy m ts)(h28:ts.length<=28)(hm2:2<=m)(hm5:m<=5)(hp:0<=p/\p < m)(hl:ps.length<=5)(hps:∀ q∈ps,zjo q)(kk:Int)(o9 o10 o11:Sl)(n b:SE->Prop)(r:D->Prop)(I:SE->Prop)(hI:∀ o9 o10 o11,I [.v script,.v (.int z),.v (zF m ts),.v (.int p),.v one,.v other,.v shows,.v (.int kk),.v (psD ps),o9,o10,o11]):(Ws [.v script,.v (.int z),.v (zF m ts),.v (.int p),.v one,.v other,.v shows,.v (.int kk),.v (psD ps),o9,o10,o11]).w I b n r:=by
 have e:=YW ok hp hl hps
 unfold Ws
 refine zy (ρ':=[.v script,.v (.int z),.v (zF m ts),.v (.int p),.v one,.v other,.v shows,.v (.int kk),.v (psD ps),.v (vA m ts p ps),o10,o11]) (vG (ds:=[_,_,_]) rfl e) ?_
 cases hb:vA m ts p ps with
 | int B =>
  obtain⟨hB0,hB⟩:=zeU ok hp hl hps hb
  refine XB (c:=decide (B < 8)) (zif (Xj (zI (x:=.int B) (y:=.non) rfl rfl rfl)) (Xj (zI (x:=.int B) (y:=.int 8) rfl rfl rfl))) (λc=>?_) (λ_=>YN rfl (hI _ _ _))
  refine Zx (lo:=0) (c:=2) (λ_ ρ=>∃ o10 o11:Sl,ρ=[.v script,.v (.int z),.v (zF m ts),.v (.int p),.v one,.v other,.v shows,.v (.int kk),.v (psD ps),.v (.int B),o10,o11]) (show ZB [.int 2]=some (ZN 0 2)from Wf (by decide) (by decide)) ⟨_,_,rfl⟩ ?_ ?_
  .rintro i ρ hi ⟨o10,o11,rfl⟩
   exact⟨_,rfl,zih script one other shows _ _ ok h28 hm2 hm5 hp hB0 (of_decide_eq_true c) hB kk rfl _ _ _ _ _ _ λ_=>⟨_,_,rfl⟩⟩
  .rintro ρ ⟨o10,o11,rfl⟩
   exact hI _ _ _
 | non =>
  refine XB (c:=false) (ziJ (Xj (zI (x:=.non) (y:=.non) rfl rfl rfl))) (λz=>by cases z) (λ_=>YN rfl (hI _ _ _))
 | _ =>
  exfalso
  unfold vA YH at hb
  split at hb
  .split at hb <;> cases hb
  .cases hb
theorem zj2 (a:Pt):[a].length<=5:=Nat.succ_le_succ (Nat.zero_le _)
theorem zh1 (a b:Pt):[a,b].length<=5:=Nat.succ_le_succ (Nat.succ_le_succ (Nat.zero_le _))
noncomputable def zbq (p:Int)(a b:List Row):List (List Pt):=[[.g (1,1) a],[.g (1,2) a,.g (1,2) b],[.g (1,2) a,.g (1,3) b],[.g (2,3) a],[.g (1,2) a,.g (1,2) (b.filter λr=>decide (r.2.1=p))]]
theorem ziR (script:D)(z:Int)(o2 o3 o4 o5 o6 o7 o8 o9 o10 o11:Sl)(n b:SE->Prop)(r:D->Prop)(I:SE->Prop)(hI:∀ o2 o3 o4 o5 o6 o7 o8 o9 o10 o11,I [.v script,.v (.int z),o2,o3,o4,o5,o6,o7,o8,o9,o10,o11]):(Vf [.v script,.v (.int z),o2,o3,o4,o5,o6,o7,o8,o9,o10,o11]).w I b n r:=by
 obtain⟨c,hc⟩:∃ c:Int,z / 4*5+1+z % 4=c:=⟨_,rfl⟩
 obtain⟨ts,ew,ok,h28,hj⟩:=zc0 (c:=c) (mo:=5) (jo:=true) (by decide) (by decide)
 obtain⟨m,hm⟩:∃ m:Int,1+c % 5=m:=⟨_,rfl⟩
 have hm5:m<=5:=by have:=Int.emod_lt_of_pos c (show(0:Int) < 5 by decide);omega
 have hm2:2<=m:=by omega
 rw[hm]at ew ok hj
 have hJ:=zcZ (hj rfl)
 obtain⟨p,hpp⟩:∃ p:Int,zcR z 1 % m=p:=⟨_,rfl⟩
 have hp:0<=p/\p < m:=by
  rw[<-hpp]
  exact⟨Int.emod_nonneg _ (by omega),Int.emod_lt_of_pos _ (by omega)⟩
 obtain⟨ra,ea,ha⟩:=zdV ok h28 hm5 hp hJ (t:=0) (.inl rfl)
 obtain⟨rb,eb,hb⟩:=zdV ok h28 hm5 hp hJ (t:=1) (.inr rfl)
 unfold Vf
 refine zy (ρ':=[.v script,.v (.int z),.v (zF m ts),o3,o4,o5,o6,o7,o8,o9,o10,o11]) (vG (ds:=[.int c,.int 5,.bl true]) (zN (zI (x:=.int (z / 4*5+1)) (y:=.int (z % 4)) (zI (x:=.int (z / 4*5)) (y:=.int 1) (zI (x:=.int (z / 4)) (y:=.int 5) (zI (x:=.int z) (y:=.int 4) rfl rfl (zbc (by decide) (by decide))) rfl (V5 (by decide) (by decide))) rfl rfl) (zI (x:=.int z) (y:=.int 4) rfl rfl (y3 (by decide))) (by rw[<-hc];rfl)) rfl) ew) ?_
 refine zy (ρ':=[.v script,.v (.int z),.v (zF m ts),.v (.int p),o4,o5,o6,o7,o8,o9,o10,o11]) (Vc (zI (x:=.int (zcR z 1)) (y:=.int m) (YE (ds:=[.int z,.int 1]) rfl rfl) (zI (x:=zF m ts) (y:=.int 0) rfl rfl rfl) (by rw[y3 (by omega),hpp]))) ?_
 refine zy (ρ':=[.v script,.v (.int z),.v (zF m ts),.v (.int p),.v (.lst (ra.map zW)),o5,o6,o7,o8,o9,o10,o11]) (vG (ds:=[_,_,_]) rfl ea) ?_
 refine zy (ρ':=[.v script,.v (.int z),.v (zF m ts),.v (.int p),.v (.lst (ra.map zW)),.v (.lst (rb.map zW)),o6,o7,o8,o9,o10,o11]) (vG (ds:=[_,_,_]) rfl eb) ?_
 refine zy (ρ':=[.v script,.v (.int z),.v (zF m ts),.v (.int p),.v (.lst (ra.map zW)),.v (.lst (rb.map zW)),.v (.lst [psD [.g (1,1) ra],psD [.g (1,2) ra,.g (1,2) rb],psD [.g (1,2) ra,.g (1,3) rb]]),o7,o8,o9,o10,o11]) (Vc rfl) ?_
 refine zy (ρ':=[.v script,.v (.int z),.v (zF m ts),.v (.int p),.v (.lst (ra.map zW)),.v (.lst (rb.map zW)),.v (.lst ((zbq p ra rb).map psD)),o7,o8,o9,o10,o11]) (Vc (zI (x:=.lst [psD [.g (1,1) ra],psD [.g (1,2) ra,.g (1,2) rb],psD [.g (1,2) ra,.g (1,3) rb]]) (y:=.lst [psD [.g (2,3) ra],psD [.g (1,2) ra,.g (1,2) (rb.filter λr=>decide (r.2.1=p))]]) rfl (YK (zbg (zN rfl (zN (YK (zbg (ds:=[ptD (.g (1,2) ra),ptD (.g (1,2) (rb.filter λr=>decide (r.2.1=p)))]) (zN rfl (zN (zhr (ds:=[zj (1,2),.lst ((rb.filter λr=>decide (r.2.1=p)).map zW)]) (zN rfl (zN (YK ?_) Yl)) (by show 2<=1000;decide)) Yl)) (by show 2<=1000;decide))) Yl)) (by show 2<=1000;decide))) rfl)) ?_
 .unfold fLC
  show(if lim (rb.map zW).length=true then _ else none)=_
  rw[if_pos (wR (by rw[List.length_map];exact k60 hb.rb.1))]
  exact wN zW (λr=>decide (r.2.1=p)) zW rb λr _=>⟨[some (zW r)],rfl,Xj (zI (x:=.int r.2.1) (y:=.int p) rfl rfl yM),λ_=>rfl⟩
 obtain⟨B,hB⟩:=zaH hm2 hp ha
 have e0:=YW (ps:=[.g (1,1) ra]) ok hp (Nat.succ_le_succ (Nat.zero_le _)) (λq hq=>by cases List.mem_singleton.mp hq;exact⟨by decide,ha.rb⟩)
 rw[hB]at e0
 refine zy (zfh (Xj (zI (x:=.int B) (y:=.non) (YE (ds:=[zF m ts,.int p,psD [.g (1,1) ra]]) rfl e0) rfl rfl))) ?_
 have hfl:za8 (rb.filter λr=>decide (r.2.1=p)):=⟨Nat.le_trans (List.length_filter_le _ _) hb.rb.1,λr hr=>hb.rb.2 r (List.mem_filter.mp hr).1⟩
 have hall:∀ ps∈zbq p ra rb,ps.length<=5/\∀ q∈ps,zjo q:=by
  intro ps hps
  unfold zbq at hps
  simp only[List.mem_cons,List.not_mem_nil,or_false]at hps
  rcases hps with rfl | rfl | rfl | rfl | rfl
  .exact⟨zj2 _,λq hq=>by simp only[List.mem_cons,List.not_mem_nil,or_false]at hq;subst hq;exact⟨by decide,ha.rb⟩⟩
  .exact⟨zh1 _ _,λq hq=>by simp only[List.mem_cons,List.not_mem_nil,or_false]at hq;rcases hq with rfl | rfl;exact⟨by decide,ha.rb⟩;exact⟨by decide,hb.rb⟩⟩
  .exact⟨zh1 _ _,λq hq=>by simp only[List.mem_cons,List.not_mem_nil,or_false]at hq;rcases hq with rfl | rfl;exact⟨by decide,ha.rb⟩;exact⟨by decide,hb.rb⟩⟩
  .exact⟨zj2 _,λq hq=>by simp only[List.mem_cons,List.not_mem_nil,or_false]at hq;subst hq;exact⟨by decide,ha.rb⟩⟩
  .exact⟨zh1 _ _,λq hq=>by simp only[List.mem_cons,List.not_mem_nil,or_false]at hq;rcases hq with rfl | rfl;exact⟨by decide,ha.rb⟩;exact⟨by decide,hfl⟩⟩
 obtain⟨L,hL⟩:∃ L,zbq p ra rb=L:=⟨_,rfl⟩
 have hL5:L.length=5:=by rw[<-hL];rfl
 rw[hL]at hall ⊢
 refine zaM (ds:=XX 0 (L.map psD)) (λ_ ρ=>∃ o7 o8 o9 o10 o11:Sl,ρ=[.v script,.v (.int z),.v (zF m ts),.v (.int p),.v (.lst (ra.map zW)),.v (.lst (rb.map zW)),.v (.lst (L.map psD)),o7,o8,o9,o10,o11]) rfl ⟨_,_,_,_,_,rfl⟩ ?_ ?_
 .rintro i d ρ hd ⟨o7,o8,o9,o10,o11,rfl⟩
  rw[Y7,List.getElem?_map]at hd
  obtain⟨e,he,rfl⟩:=Option.map_eq_some_iff.mp hd
  obtain⟨ps,hps,rfl⟩:=Option.map_eq_some_iff.mp he
  have hps:=List.mem_of_getElem? hps
  obtain⟨l1,l2⟩:=hall ps hps
  exact⟨_,rfl,ziz script _ _ _ ok h28 hm2 hm5 hp l1 l2 _ _ _ _ _ _ _ _ λ_ _ _=>⟨_,_,_,_,_,rfl⟩⟩
 .rintro ρ ⟨o7,o8,o9,o10,o11,rfl⟩
  exact hI _ _ _ _ _ _ _ _ _ _
theorem zfW (ns:List Int)(h:ns.length<=63):zjy [.scr ns]=some (.bl true):=by
 refine zar (ρ:=[.v (.scr ns),.no,.no,.no,.no,.no,.no,.no,.no,.no,.no,.no]) rfl ?_
 unfold zfS
 obtain⟨xs,hxs⟩:=zfB (ρ:=[none,none,none,none,none,none,none,none,none,none,none]) ns 3 h
 refine xT (zaM (ds:=xs.map .int) (λi ρ=>∃ o1 o2 o3 o4 o5 o6 o7 o8 o9 o10 o11,ρ=[.v (.scr ns),o1,o2,o3,o4,o5,o6,o7,o8,o9,o10,o11]) hxs ⟨_,_,_,_,_,_,_,_,_,_,_,rfl⟩ ?_ ?_)
 .rintro i d ρ hd ⟨o1,o2,o3,o4,o5,o6,o7,o8,o9,o10,o11,rfl⟩
  rw[List.getElem?_map]at hd
  obtain⟨z,hz,rfl⟩:=Option.map_eq_some_iff.mp hd
  exact⟨_,rfl,ziR _ _ _ _ _ _ _ _ _ _ _ _ _ _ _ _ λ_ _ _ _ _ _ _ _ _ _=>⟨_,_,_,_,_,_,_,_,_,_,_,rfl⟩⟩
 .rintro ρ ⟨o1,o2,o3,o4,o5,o6,o7,o8,o9,o10,o11,rfl⟩
  exact Yv rfl rfl
theorem zk0 (T:Txt K mg ad):xR P w K mg base CX0 20 ad.f_law ad.e_law ["script"] (zdg K):=by
 letI:KK:=⟨K⟩
 have G_show_bound:=WB (P:=P) (w:=w) (base:=base) T
 have G__law_cell_at:=Xp (P:=P) (w:=w) (base:=base) T
 have G__law_stir:=vX (P:=P) (w:=w) (base:=base) T
 have G__law_web_by:=X6 (P:=P) (w:=w) (base:=base) T
 have G__law_most_there:=Y5 (P:=P) (w:=w) (base:=base) T
 have G__law_walk:=Vz (P:=P) (w:=w) (base:=base) T
 have G__law_heap_of:=Xd (P:=P) (w:=w) (base:=base) T
 refine(zjL (p:=zjy) (yZ (N:=["script","cell","web","root","one","other","shows","k","show","bound","turn","heap"]) (ps:=["script"]) T.d_law.fn wI (g:=zfS) λcdv A outer s H E hr=>?_) zfW).mono (j:=10) (by decide)
 unfold zfS Vf Ws Wz
 exact(zg (Xu PassesOwn.never rfl (xB (zV (xX (xZ (zb (zq (G__law_cell_at.mono (by decide)) hr rfl T.d__law_cell_at.at_ T.d__law_cell_at.kp T.d__law_cell_at.bd (zb (za 0 (pv 0)) (zb (zd ze) zh))) zh))) (zbr (za 0 (pv 0)) (za4 (zd ze)) (za4 (zd ze))))) (zU (zr (i:=1) wI.nd rfl (Or.inl rfl))) (zg (zL (m:=false) (i:=2) wI.nd rfl (Or.inl rfl) (zq (G__law_web_by.mono (by decide)) hr rfl T.d__law_web_by.at_ T.d__law_web_by.kp T.d__law_web_by.bd (zb (zV (zV (wo (wC (za 1 (pv 1)) (zd ze)) (zd ze)) (zd ze)) (wa (za 1 (pv 1)) (zd ze))) (zb (zd ze) (zb (we wd) zh)))))
  (zg (zL (m:=false) (i:=3) wI.nd rfl (Or.inr rfl) (wa (zq (G__law_stir.mono (by decide)) hr rfl T.d__law_stir.at_ T.d__law_stir.kp T.d__law_stir.bd (zb (za 1 (pv 1)) (zb (zd ze) zh))) (zw (za 2 (pv 2)) (zd ze) (λ_ _=>rfl))))
  (zg (zL (m:=false) (i:=4) wI.nd rfl (Or.inl rfl) (zq (G__law_walk.mono (by decide)) hr rfl T.d__law_walk.at_ T.d__law_walk.kp T.d__law_walk.bd (zb (za 2 (pv 2)) (zb (za 3 (pv 3)) (zb (zd ze) zh)))))
  (zg (zL (m:=false) (i:=5) wI.nd rfl (Or.inl rfl) (zq (G__law_walk.mono (by decide)) hr rfl T.d__law_walk.at_ T.d__law_walk.kp T.d__law_walk.bd (zb (za 2 (pv 2)) (zb (za 3 (pv 3)) (zb (zd ze) zh)))))
  (zg (zL (m:=false) (i:=6) wI.nd rfl (Or.inl rfl) (xX (xZ (zb (xX (xZ (zb (yh (zb (yh (zb (zd ze) (zb (zd ze) zh))) (zb (za 4 (pv 4)) zh))) zh))) (zb (xX (xZ (zb (yh (zb (yh (zb (zd ze) (zb (zd ze) zh))) (zb (za 4 (pv 4)) zh))) (zb (yh (zb (yh (zb (zd ze) (zb (zd ze) zh))) (zb (za 5 (pv 5)) zh))) zh)))) (zb (xX (xZ (zb (yh (zb (yh (zb (zd ze) (zb (zd ze) zh))) (zb (za 4 (pv 4)) zh))) (zb (yh (zb (yh (zb (zd ze) (zb (zd ze) zh))) (zb (za 5 (pv 5)) zh))) zh)))) zh))))))
  (zg (zL (m:=false) (i:=6) wI.nd rfl (Or.inl rfl) (zV (za 6 (pv 6)) (xX (xZ (zb (xX (xZ (zb (yh (zb (yh (zb (zd ze) (zb (zd ze) zh))) (zb (za 4 (pv 4)) zh))) zh))) (zb (xX (xZ (zb (yh (zb (yh (zb (zd ze) (zb (zd ze) zh))) (zb (za 4 (pv 4)) zh))) (zb (yh (zb (yh (zb (zd ze) (zb (zd ze) zh))) (zb (xX (zg8 (L:=["row"]) (M:=["script","cell","web","root","one","other","shows","k","show","bound","turn","heap"]) rfl (wQ (by rfl) (by rfl) (by rfl) (by with_unfolding_all rfl) (by rfl) (by rfl) (by kernel_rfl) (all_cons rfl xu)) (xB (za 5 (pv 5))) gs1 rb1 (λ_ _ _ _=>(zr (i:=0) zlA rfl (Or.inl rfl) (.inr rfl))) (λ_ _ _ _=>(zG (vw hr) xL (zE _) (zw (za 0 (pv 0)) (zd ze) (λ_ _=>rfl)) (za 4 (pv 4)))) (λ_ _ _ _=>(za 0 (pv 0))))) zh))) zh)))) zh))))))
  (zg (yW (zG zhE zex (zE _) (zq (G_show_bound.mono (by decide)) hr rfl T.d_show_bound.at_ T.d_show_bound.kp T.d_show_bound.bd (zb (za 2 (pv 2)) (zb (za 3 (pv 3)) (zb (zw (za 6 (pv 6)) (zd ze) (λ_ _=>rfl)) zh)))) (Xl XC)) (zi (zx (we wd))) zD)
  (zi (Xu PassesOwn.never rfl (zdq rfl T.z_enumerate Zy (zb (za 6 (pv 6)) zh)) (VM rfl (xw (zU (zr (i:=7) wI.nd rfl (Or.inl rfl))) (xw (zU (zr (i:=8) wI.nd rfl (Or.inl rfl))) Xx))) (zg (zL (m:=false) (i:=9) wI.nd rfl (Or.inl rfl) (zq (G_show_bound.mono (by decide)) hr rfl T.d_show_bound.at_ T.d_show_bound.kp T.d_show_bound.bd (zb (za 2 (pv 2)) (zb (za 3 (pv 3)) (zb (za 8 (pv 8)) zh)))))
  (zi (yW (Vk (Vo (zG V1 Wd (zE _) (za 9 (pv 9)) (Xl XC)) (Xv (zG zbf ye (zE _) (za 9 (pv 9)) (zd ze))))) (zi (vZ PassesOwn.never rfl rfl T.z_range (zb (zd ze) zh) (zU (zr (i:=10) wI.nd rfl (Or.inl rfl))) (zg (zL (m:=false) (i:=11) wI.nd rfl (Or.inl rfl) (zq (G__law_heap_of.mono (by decide)) hr rfl T.d__law_heap_of.at_ T.d__law_heap_of.kp T.d__law_heap_of.bd (zb (zw (za 2 (pv 2)) (zd ze) (λ_ _=>rfl)) (zb (zV (za 9 (pv 9)) (zd ze)) (zb (za 3 (pv 3)) (zb (zq (G__law_stir.mono (by decide)) hr rfl T.d__law_stir.at_ T.d__law_stir.kp T.d__law_stir.bd (zb (za 1 (pv 1)) (zb (zV (zV (zd ze) (wo (zd ze) (za 7 (pv 7)))) (za 10 (pv 10))) zh))) zh))))))
  (zi (yW (zG (vw hr) xL (zE _) (zq (G__law_most_there.mono (by decide)) hr rfl T.d__law_most_there.at_ T.d__law_most_there.kp T.d__law_most_there.bd (zb (za 2 (pv 2)) (zb (za 11 (pv 11)) (zb (za 3 (pv 3)) zh)))) (zd ze)) (zi (zx (we wd))) zD))))) zD)))))))))))))
  (zi (zx (we wd))))
end
theorem zlC {us:List Value}(h:us.length=1):∃ x0,us=[x0]:=by
 cases us with
 | nil=>cases h
 | cons x0 us =>
  cases us with
  | nil=>exact⟨x0,rfl⟩
  | cons _ _=>cases h
theorem zl5 {us:List Value}(h:us.length=2):∃ x0 x1,us=[x0,x1]:=by
 cases us with
 | nil=>cases h
 | cons x0 us =>
  cases us with
  | nil=>cases h
  | cons x1 us =>
   cases us with
   | nil=>exact⟨x0,x1,rfl⟩
   | cons _ _=>cases h
theorem zma {us:List Value}(h:us.length=3):∃ x0 x1 x2,us=[x0,x1,x2]:=by
 cases us with
 | nil=>cases h
 | cons x0 us =>
  cases us with
  | nil=>cases h
  | cons x1 us =>
   cases us with
   | nil=>cases h
   | cons x2 us =>
    cases us with
    | nil=>exact⟨x0,x1,x2,rfl⟩
    | cons _ _=>cases h
theorem zl0 {us:List Value}(h:us.length=4):∃ x0 x1 x2 x3,us=[x0,x1,x2,x3]:=by
 cases us with
 | nil=>cases h
 | cons x0 us =>
  cases us with
  | nil=>cases h
  | cons x1 us =>
   cases us with
   | nil=>cases h
   | cons x2 us =>
    cases us with
    | nil=>cases h
    | cons x3 us =>
     cases us with
     | nil=>exact⟨x0,x1,x2,x3,rfl⟩
     | cons _ _=>cases h
noncomputable abbrev Lk (x:Str)(st:Stmt)(oc:Value)(od:Option Addr)(kV dc pm:Value)(an:Option Addr)(cd ct:Value)(sl:Array (Option Value)):Option Obj:=some ⟨oc,od,.func (PySem.W.fnOf x x (Yq st) (wX st) (zn st) .none kV dc pm an cd ct),sl⟩
theorem mkD {K:PySem.W.Frag}{h:Heap}{mg:Str->Option Value}{x:Str}{st:Stmt}{ps:List Str}{f:Addr}{oc kV dc pm cd ct:Value}{od an:Option Addr}{sl:Array (Option Value)}(X:K.In h)(G:h.Ns mainGlobals mg)(a:PySem.W.nsIn K mainGlobals x=some (some (.ref f)))(l:K.lookup f=Lk x st oc od kV dc pm an cd ct sl)(c:PySem.W.codeIn K cd x=true)(k:PySem.W.keepIn K (.ref f)=true)
 (b:∀ (kV doc pm:Value) (an:Option Addr) (cdv ct:Value) (us:List Value),us.length=ps.length->bindArgs (PySem.W.fnOf x x (Yq st) (wX st) (zn st) .none kV doc pm an cdv ct) ⟨us,[]⟩=pure (ps.zip us)):Def K mg x st ps f (PySem.W.fnOf x x (Yq st) (wX st) (zn st) .none kV dc pm an cd ct):=⟨zhl l c k,(zhl l c k).binds b,PySem.W.mg_of X G a⟩
theorem bn1 {F:Value->Value->Value->Option Addr->Value->Value->List Value->Prop}(h:∀ a b c d e f x0,F a b c d e f [x0]):∀ a b c d e f us,us.length=1->F a b c d e f us:=λa b c d e f us hl=>by obtain⟨x0,rfl⟩:=zlC hl;exact h a b c d e f x0
theorem bn2 {F:Value->Value->Value->Option Addr->Value->Value->List Value->Prop}(h:∀ a b c d e f x0 x1,F a b c d e f [x0,x1]):∀ a b c d e f us,us.length=2->F a b c d e f us:=λa b c d e f us hl=>by obtain⟨x0,x1,rfl⟩:=zl5 hl;exact h a b c d e f x0 x1
theorem bn3 {F:Value->Value->Value->Option Addr->Value->Value->List Value->Prop}(h:∀ a b c d e f x0 x1 x2,F a b c d e f [x0,x1,x2]):∀ a b c d e f us,us.length=3->F a b c d e f us:=λa b c d e f us hl=>by obtain⟨x0,x1,x2,rfl⟩:=zma hl;exact h a b c d e f x0 x1 x2
theorem bn4 {F:Value->Value->Value->Option Addr->Value->Value->List Value->Prop}(h:∀ a b c d e f x0 x1 x2 x3,F a b c d e f [x0,x1,x2,x3]):∀ a b c d e f us,us.length=4->F a b c d e f us:=λa b c d e f us hl=>by obtain⟨x0,x1,x2,x3,rfl⟩:=zl0 hl;exact h a b c d e f x0 x1 x2 x3
theorem all_mk {l:PySem.W.OpenLaw} {w:World} {K:PySem.W.Frag} {h:Heap} {mg:Str->Option Value} {fa f0 f1 f2 f3 f4 f5 f6 f7 f8 f9 f10 f11 f12 f13 f14 f15 f16 f17 f18 f19 f20 f21 f22 f23 f24 f25 f26 f27 f28:Addr} (X:K.In h) (G:h.Ns mainGlobals mg) (hfa:mg "law"=some (.ref fa))
 {od0 an0 od1 an1 od2 an2 od3 an3 od4 an4 od5 an5 od6 an6 od7 an7 od8 an8 od9 an9 od10 an10 od11 an11 od12 an12 od13 an13 od14 an14 od15 an15 od16 an16 od17 an17 od18 an18 od19 an19 od20 an20 od21 an21 od22 an22 od23 an23 od24 an24 od25 an25 od26 an26 od27 an27 od28 an28:Option Addr} {sl0 sl1 sl2 sl3 sl4 sl5 sl6 sl7 sl8 sl9 sl10 sl11 sl12 sl13 sl14 sl15 sl16 sl17 sl18 sl19 sl20 sl21 sl22 sl23 sl24 sl25 sl26 sl27 sl28:Array (Option Value)} {oc0 kV0 dc0 pm0 cd0 ct0 oc1 kV1 dc1 pm1 cd1 ct1 oc2 kV2 dc2 pm2 cd2 ct2 oc3 kV3 dc3 pm3 cd3 ct3 oc4 kV4 dc4 pm4 cd4 ct4 oc5 kV5 dc5 pm5 cd5 ct5 oc6 kV6 dc6 pm6 cd6 ct6 oc7 kV7 dc7 pm7 cd7 ct7 oc8 kV8 dc8 pm8 cd8 ct8 oc9 kV9 dc9 pm9 cd9 ct9 oc10 kV10 dc10 pm10 cd10 ct10 oc11 kV11 dc11 pm11 cd11 ct11 oc12 kV12 dc12 pm12 cd12 ct12 oc13 kV13 dc13 pm13 cd13 ct13 oc14 kV14 dc14 pm14 cd14 ct14 oc15 kV15 dc15 pm15 cd15 ct15 oc16 kV16 dc16 pm16 cd16 ct16 oc17 kV17 dc17 pm17 cd17 ct17 oc18 kV18 dc18 pm18 cd18 ct18 oc19 kV19 dc19 pm19 cd19 ct19 oc20 kV20 dc20 pm20 cd20 ct20 oc21 kV21 dc21 pm21 cd21 ct21 oc22 kV22 dc22 pm22 cd22 ct22 oc23 kV23 dc23 pm23 cd23 ct23 oc24 kV24 dc24 pm24 cd24 ct24 oc25 kV25 dc25 pm25 cd25 ct25 oc26 kV26 dc26 pm26 cd26 ct26 oc27 kV27 dc27 pm27 cd27 ct27 oc28 kV28 dc28 pm28 cd28 ct28:Value} {tk0:Tok}
 (a0:PySem.W.nsIn K mainGlobals "is_whole"=some (some (.ref f0))) (l0:K.lookup f0=Lk "is_whole" Yu oc0 od0 kV0 dc0 pm0 an0 cd0 ct0 sl0) (c0:PySem.W.codeIn K cd0 "is_whole"=true) (k0:PySem.W.keepIn K (.ref f0)=true)
 (a1:PySem.W.nsIn K mainGlobals "is_whole_within"=some (some (.ref f1))) (l1:K.lookup f1=Lk "is_whole_within" xc oc1 od1 kV1 dc1 pm1 an1 cd1 ct1 sl1) (c1:PySem.W.codeIn K cd1 "is_whole_within"=true) (k1:PySem.W.keepIn K (.ref f1)=true)
 (a2:PySem.W.nsIn K mainGlobals "is_place_count"=some (some (.ref f2))) (l2:K.lookup f2=Lk "is_place_count" xt oc2 od2 kV2 dc2 pm2 an2 cd2 ct2 sl2) (c2:PySem.W.codeIn K cd2 "is_place_count"=true) (k2:PySem.W.keepIn K (.ref f2)=true)
 (a3:PySem.W.nsIn K mainGlobals "is_place"=some (some (.ref f3))) (l3:K.lookup f3=Lk "is_place" Yz oc3 od3 kV3 dc3 pm3 an3 cd3 ct3 sl3) (c3:PySem.W.codeIn K cd3 "is_place"=true) (k3:PySem.W.keepIn K (.ref f3)=true)
 (a4:PySem.W.nsIn K mainGlobals "is_pair"=some (some (.ref f4))) (l4:K.lookup f4=Lk "is_pair" Zm oc4 od4 kV4 dc4 pm4 an4 cd4 ct4 sl4) (c4:PySem.W.codeIn K cd4 "is_pair"=true) (k4:PySem.W.keepIn K (.ref f4)=true)
 (a5:PySem.W.nsIn K mainGlobals "are_ties"=some (some (.ref f5))) (l5:K.lookup f5=Lk "are_ties" Yp oc5 od5 kV5 dc5 pm5 an5 cd5 ct5 sl5) (c5:PySem.W.codeIn K cd5 "are_ties"=true) (k5:PySem.W.keepIn K (.ref f5)=true)
 (a6:PySem.W.nsIn K mainGlobals "is_web"=some (some (.ref f6))) (l6:K.lookup f6=Lk "is_web" Xz oc6 od6 kV6 dc6 pm6 an6 cd6 ct6 sl6) (c6:PySem.W.codeIn K cd6 "is_web"=true) (k6:PySem.W.keepIn K (.ref f6)=true)
 (a7:PySem.W.nsIn K mainGlobals "must_be_web"=some (some (.ref f7))) (l7:K.lookup f7=Lk "must_be_web" ww oc7 od7 kV7 dc7 pm7 an7 cd7 ct7 sl7) (c7:PySem.W.codeIn K cd7 "must_be_web"=true) (k7:PySem.W.keepIn K (.ref f7)=true)
 (a8:PySem.W.nsIn K mainGlobals "must_be_place"=some (some (.ref f8))) (l8:K.lookup f8=Lk "must_be_place" xI oc8 od8 kV8 dc8 pm8 an8 cd8 ct8 sl8) (c8:PySem.W.codeIn K cd8 "must_be_place"=true) (k8:PySem.W.keepIn K (.ref f8)=true)
 (a9:PySem.W.nsIn K mainGlobals "tie_between"=some (some (.ref f9))) (l9:K.lookup f9=Lk "tie_between" wz oc9 od9 kV9 dc9 pm9 an9 cd9 ct9 sl9) (c9:PySem.W.codeIn K cd9 "tie_between"=true) (k9:PySem.W.keepIn K (.ref f9)=true)
 (a10:PySem.W.nsIn K mainGlobals "is_step"=some (some (.ref f10))) (l10:K.lookup f10=Lk "is_step" Zq oc10 od10 kV10 dc10 pm10 an10 cd10 ct10 sl10) (c10:PySem.W.codeIn K cd10 "is_step"=true) (k10:PySem.W.keepIn K (.ref f10)=true)
 (a11:PySem.W.nsIn K mainGlobals "lowest"=some (some (.ref f11))) (l11:K.lookup f11=Lk "lowest" Z6 oc11 od11 kV11 dc11 pm11 an11 cd11 ct11 sl11) (c11:PySem.W.codeIn K cd11 "lowest"=true) (k11:PySem.W.keepIn K (.ref f11)=true)
 (a12:PySem.W.nsIn K mainGlobals "is_branch_row"=some (some (.ref f12))) (l12:K.lookup f12=Lk "is_branch_row" xJ oc12 od12 kV12 dc12 pm12 an12 cd12 ct12 sl12) (c12:PySem.W.codeIn K cd12 "is_branch_row"=true) (k12:PySem.W.keepIn K (.ref f12)=true)
 (a13:PySem.W.nsIn K mainGlobals "are_branch_rows"=some (some (.ref f13))) (l13:K.lookup f13=Lk "are_branch_rows" y4 oc13 od13 kV13 dc13 pm13 an13 cd13 ct13 sl13) (c13:PySem.W.codeIn K cd13 "are_branch_rows"=true) (k13:PySem.W.keepIn K (.ref f13)=true)
 (a14:PySem.W.nsIn K mainGlobals "branch_sum"=some (some (.ref f14))) (l14:K.lookup f14=Lk "branch_sum" wY oc14 od14 kV14 dc14 pm14 an14 cd14 ct14 sl14) (c14:PySem.W.codeIn K cd14 "branch_sum"=true) (k14:PySem.W.keepIn K (.ref f14)=true)
 (a15:PySem.W.nsIn K mainGlobals "is_share"=some (some (.ref f15))) (l15:K.lookup f15=Lk "is_share" Yr oc15 od15 kV15 dc15 pm15 an15 cd15 ct15 sl15) (c15:PySem.W.codeIn K cd15 "is_share"=true) (k15:PySem.W.keepIn K (.ref f15)=true)
 (a16:PySem.W.nsIn K mainGlobals "is_shared_branch"=some (some (.ref f16))) (l16:K.lookup f16=Lk "is_shared_branch" yQ oc16 od16 kV16 dc16 pm16 an16 cd16 ct16 sl16) (c16:PySem.W.codeIn K cd16 "is_shared_branch"=true) (k16:PySem.W.keepIn K (.ref f16)=true)
 (a17:PySem.W.nsIn K mainGlobals "shared_sum"=some (some (.ref f17))) (l17:K.lookup f17=Lk "shared_sum" vk oc17 od17 kV17 dc17 pm17 an17 cd17 ct17 sl17) (c17:PySem.W.codeIn K cd17 "shared_sum"=true) (k17:PySem.W.keepIn K (.ref f17)=true)
 (a18:PySem.W.nsIn K mainGlobals "weight_at"=some (some (.ref f18))) (l18:K.lookup f18=Lk "weight_at" vK oc18 od18 kV18 dc18 pm18 an18 cd18 ct18 sl18) (c18:PySem.W.codeIn K cd18 "weight_at"=true) (k18:PySem.W.keepIn K (.ref f18)=true)
 (a19:PySem.W.nsIn K mainGlobals "show_bound"=some (some (.ref f19))) (l19:K.lookup f19=Lk "show_bound" vb oc19 od19 kV19 dc19 pm19 an19 cd19 ct19 sl19) (c19:PySem.W.codeIn K cd19 "show_bound"=true) (k19:PySem.W.keepIn K (.ref f19)=true)
 (a20:PySem.W.nsIn K mainGlobals "_law_cell_at"=some (some (.ref f20))) (l20:K.lookup f20=Lk "_law_cell_at" xV oc20 od20 kV20 dc20 pm20 an20 cd20 ct20 sl20) (c20:PySem.W.codeIn K cd20 "_law_cell_at"=true) (k20:PySem.W.keepIn K (.ref f20)=true)
 (a21:PySem.W.nsIn K mainGlobals "_law_stir"=some (some (.ref f21))) (l21:K.lookup f21=Lk "_law_stir" vH oc21 od21 kV21 dc21 pm21 an21 cd21 ct21 sl21) (c21:PySem.W.codeIn K cd21 "_law_stir"=true) (k21:PySem.W.keepIn K (.ref f21)=true)
 (a22:PySem.W.nsIn K mainGlobals "_law_web_by"=some (some (.ref f22))) (l22:K.lookup f22=Lk "_law_web_by" wx oc22 od22 kV22 dc22 pm22 an22 cd22 ct22 sl22) (c22:PySem.W.codeIn K cd22 "_law_web_by"=true) (k22:PySem.W.keepIn K (.ref f22)=true)
 (a23:PySem.W.nsIn K mainGlobals "_law_fars"=some (some (.ref f23))) (l23:K.lookup f23=Lk "_law_fars" vC oc23 od23 kV23 dc23 pm23 an23 cd23 ct23 sl23) (c23:PySem.W.codeIn K cd23 "_law_fars"=true) (k23:PySem.W.keepIn K (.ref f23)=true)
 (a24:PySem.W.nsIn K mainGlobals "_law_behind"=some (some (.ref f24))) (l24:K.lookup f24=Lk "_law_behind" wE oc24 od24 kV24 dc24 pm24 an24 cd24 ct24 sl24) (c24:PySem.W.codeIn K cd24 "_law_behind"=true) (k24:PySem.W.keepIn K (.ref f24)=true)
 (a25:PySem.W.nsIn K mainGlobals "_law_most_there"=some (some (.ref f25))) (l25:K.lookup f25=Lk "_law_most_there" yV oc25 od25 kV25 dc25 pm25 an25 cd25 ct25 sl25) (c25:PySem.W.codeIn K cd25 "_law_most_there"=true) (k25:PySem.W.keepIn K (.ref f25)=true)
 (a26:PySem.W.nsIn K mainGlobals "_law_walk"=some (some (.ref f26))) (l26:K.lookup f26=Lk "_law_walk" vD oc26 od26 kV26 dc26 pm26 an26 cd26 ct26 sl26) (c26:PySem.W.codeIn K cd26 "_law_walk"=true) (k26:PySem.W.keepIn K (.ref f26)=true)
 (a27:PySem.W.nsIn K mainGlobals "_law_heap_of"=some (some (.ref f27))) (l27:K.lookup f27=Lk "_law_heap_of" x4 oc27 od27 kV27 dc27 pm27 an27 cd27 ct27 sl27) (c27:PySem.W.codeIn K cd27 "_law_heap_of"=true) (k27:PySem.W.keepIn K (.ref f27)=true)
 (a28:PySem.W.nsIn K mainGlobals "law"=some (some (.ref f28))) (l28:K.lookup f28=Lk "law" zdI oc28 od28 kV28 dc28 pm28 an28 cd28 ct28 sl28) (c28:PySem.W.codeIn K cd28 "law"=true) (k28:PySem.W.keepIn K (.ref f28)=true)
 (gg0:PySem.W.nsIn K mainGlobals "MOST_PLACES"=some (some (.int 8 tk0)))
 (z0:PySem.W.nsIn K mainGlobals "all"=some none)
 (z1:PySem.W.nsIn K mainGlobals "bool"=some none)
 (z2:PySem.W.nsIn K mainGlobals "enumerate"=some none)
 (z3:PySem.W.nsIn K mainGlobals "int"=some none)
 (z4:PySem.W.nsIn K mainGlobals "isinstance"=some none)
 (z5:PySem.W.nsIn K mainGlobals "len"=some none)
 (z6:PySem.W.nsIn K mainGlobals "list"=some none)
 (z7:PySem.W.nsIn K mainGlobals "max"=some none)
 (z8:PySem.W.nsIn K mainGlobals "min"=some none)
 (z9:PySem.W.nsIn K mainGlobals "range"=some none)
 (z10:PySem.W.nsIn K mainGlobals "sorted"=some none)
 (z11:PySem.W.nsIn K mainGlobals "sum"=some none)
 (z12:PySem.W.nsIn K mainGlobals "tuple"=some none)
 (z13:PySem.W.nsIn K mainGlobals "zip"=some none)
 : ∃ fd:FuncData,(∀ (s:Shared) (v:Value),BindsTo s fd ⟨[v],[]⟩ [("script",v)])/\∀ base:Heap,K.In base->base.Ns mainGlobals mg->xR l.prog w K mg base CX0 20 fa fd ["script"] (zdg K):=by
 have e:=hfa.symm.trans (PySem.W.mg_of X G a28)
 cases e
 have T:Txt K mg ⟨_,_,_,_,_,_,_,_,_,_,_,_,_,_,_,_,_,_,_,_,_,_,_,_,_,_,_,_,_,_,_,_,_,_,_,_,_,_,_,_,_,_,_,_,_,_,_,_,_,_,_,_,_,_,_,_,_,_,tk0⟩:=⟨
  mkD X G a0 l0 c0 k0 (bn1 λ_ _ _ _ _ _ _=>rfl),
  mkD X G a1 l1 c1 k1 (bn3 λ_ _ _ _ _ _ _ _ _=>rfl),
  mkD X G a2 l2 c2 k2 (bn1 λ_ _ _ _ _ _ _=>rfl),
  mkD X G a3 l3 c3 k3 (bn2 λ_ _ _ _ _ _ _ _=>rfl),
  mkD X G a4 l4 c4 k4 (bn2 λ_ _ _ _ _ _ _ _=>rfl),
  mkD X G a5 l5 c5 k5 (bn2 λ_ _ _ _ _ _ _ _=>rfl),
  mkD X G a6 l6 c6 k6 (bn1 λ_ _ _ _ _ _ _=>rfl),
  mkD X G a7 l7 c7 k7 (bn1 λ_ _ _ _ _ _ _=>rfl),
  mkD X G a8 l8 c8 k8 (bn2 λ_ _ _ _ _ _ _ _=>rfl),
  mkD X G a9 l9 c9 k9 (bn2 λ_ _ _ _ _ _ _ _=>rfl),
  mkD X G a10 l10 c10 k10 (bn2 λ_ _ _ _ _ _ _ _=>rfl),
  mkD X G a11 l11 c11 k11 (bn2 λ_ _ _ _ _ _ _ _=>rfl),
  mkD X G a12 l12 c12 k12 (bn4 λ_ _ _ _ _ _ _ _ _ _=>rfl),
  mkD X G a13 l13 c13 k13 (bn3 λ_ _ _ _ _ _ _ _ _=>rfl),
  mkD X G a14 l14 c14 k14 (bn1 λ_ _ _ _ _ _ _=>rfl),
  mkD X G a15 l15 c15 k15 (bn1 λ_ _ _ _ _ _ _=>rfl),
  mkD X G a16 l16 c16 k16 (bn3 λ_ _ _ _ _ _ _ _ _=>rfl),
  mkD X G a17 l17 c17 k17 (bn2 λ_ _ _ _ _ _ _ _=>rfl),
  mkD X G a18 l18 c18 k18 (bn2 λ_ _ _ _ _ _ _ _=>rfl),
  mkD X G a19 l19 c19 k19 (bn3 λ_ _ _ _ _ _ _ _ _=>rfl),
  mkD X G a20 l20 c20 k20 (bn2 λ_ _ _ _ _ _ _ _=>rfl),
  mkD X G a21 l21 c21 k21 (bn2 λ_ _ _ _ _ _ _ _=>rfl),
  mkD X G a22 l22 c22 k22 (bn3 λ_ _ _ _ _ _ _ _ _=>rfl),
  mkD X G a23 l23 c23 k23 (bn2 λ_ _ _ _ _ _ _ _=>rfl),
  mkD X G a24 l24 c24 k24 (bn2 λ_ _ _ _ _ _ _ _=>rfl),
  mkD X G a25 l25 c25 k25 (bn3 λ_ _ _ _ _ _ _ _ _=>rfl),
  mkD X G a26 l26 c26 k26 (bn3 λ_ _ _ _ _ _ _ _ _=>rfl),
  mkD X G a27 l27 c27 k27 (bn4 λ_ _ _ _ _ _ _ _ _ _=>rfl),
  mkD X G a28 l28 c28 k28 (bn1 λ_ _ _ _ _ _ _=>rfl),
  PySem.W.mg_of X G gg0,
  PySem.W.mg_none_of X G z0,
  PySem.W.mg_none_of X G z1,
  PySem.W.mg_none_of X G z2,
  PySem.W.mg_none_of X G z3,
  PySem.W.mg_none_of X G z4,
  PySem.W.mg_none_of X G z5,
  PySem.W.mg_none_of X G z6,
  PySem.W.mg_none_of X G z7,
  PySem.W.mg_none_of X G z8,
  PySem.W.mg_none_of X G z9,
  PySem.W.mg_none_of X G z10,
  PySem.W.mg_none_of X G z11,
  PySem.W.mg_none_of X G z12,
  PySem.W.mg_none_of X G z13⟩
 exact⟨_,λs v=>.of_eq rfl,λbase _ _=>zk0 T⟩
theorem walk {l:PySem.W.OpenLaw}{q:Program}{loose:List Str}{XP:(Str->Option Value)->Heap->Prop}{YP:World->Heap->Prop}{d:DefRec}{K:Params->PySem.W.Frag}(hn:l.most=some 63)(hdf:d.params.defaults=[])
 (hY:∀ (w:World) (h:Heap),YP w h->(K w.params).In h)
 (F:∀ (w:World) (mg:Str->Option Value) (fa:Addr) (h:Heap),(K w.params).In h->h.Ns mainGlobals mg->mg d.name=some (.ref fa) ->
  ∃ fd:FuncData,(∀ (s:Shared) (u:Value),BindsTo s fd ⟨[u],[]⟩ [("script",u)])/\∀ base:Heap,(K w.params).In base->base.Ns mainGlobals mg->xR l.prog w (K w.params) mg base CX0 20 fa fd ["script"] (zdg (K w.params))) :
 PySem.W.WalkO q loose XP YP l.row.toRowW d [] (λf vs=>PySem.call f vs) :=
 L2.walk_of (n:=63) (k:=20) (x:="script") (CX:=λ_=>CX0) (sp:=λw=>zdg (K w.params)) hn (by decide) hdf ⟨rfl,by decide,by decide⟩ hY F (λ_ _ a ns hl _ hS=>⟨a,ns,rfl,hS,hl,λ_=>rfl⟩) λ_ _ _ _ _ z=>z
end Mz
open PySem PySem.W PyProof.Rows
theorem PySem.W.Fast.tw13231160199384571053 : True := trivial
theorem PySem.W.Fast.tw9817622116037122673 : True := trivial
theorem PySem.W.Fast.tw6014778872173180775 : True := trivial
theorem PySem.W.Fast.tw9425818470479133778 : True := trivial
theorem PySem.W.Fast.tw902399448201482144 : True := trivial
theorem PySem.W.Fast.tw16095964101390379153 : True := trivial
theorem PySem.W.Fast.tw768832632776734450 : True := trivial
theorem PySem.W.Fast.tw10372311774279551809 : True := trivial
theorem PySem.W.Fast.tw12648748514555990898 : True := trivial
theorem PySem.W.Fast.tw1109553058620235148 : True := trivial
theorem PySem.W.Fast.tw11031620333286575246 : True := trivial
theorem PySem.W.Fast.tw15135522512426627942 : True := trivial
theorem PySem.W.Fast.tw6657576079055330759 : True := trivial
theorem PySem.W.Fast.tw2955926412127007071 : True := trivial
theorem PySem.W.Fast.tw11915384627150943122 : True := trivial
theorem PySem.W.Fast.tw6225770018707269752 : True := trivial
theorem PySem.W.Fast.tw3344869892451930306 : True := trivial
theorem PySem.W.Fast.tw16917762629042000465 : True := trivial
theorem PySem.W.Fast.tw6730227973550838060 : True := trivial
set_option maxRecDepth 100000 in
set_option maxHeartbeats 0 in
theorem PySem.Challenge.cw_twoforone_k73_whole_shows_bound_holds : PySem.Challenge.rw_twoforone_k73_whole_shows_bound.Holds := by
  w_on;o_law;k_head;(case hw=>w_witness2)
  k_fill
  refine Mz.walk (l:=PySem.Challenge.rw_twoforone_k73_whole_shows_bound) rfl rfl (fun w h Y=>PySem.W.kIn_of Y) ?F
  case F =>
    intro w mg fa h KX G hmg
    refine' Mz.all_mk KX G hmg ?a0 ?l0 ?c0 ?k0 ?a1 ?l1 ?c1 ?k1 ?a2 ?l2 ?c2 ?k2 ?a3 ?l3 ?c3 ?k3 ?a4 ?l4 ?c4 ?k4 ?a5 ?l5 ?c5 ?k5 ?a6 ?l6 ?c6 ?k6 ?a7 ?l7 ?c7 ?k7 ?a8 ?l8 ?c8 ?k8 ?a9 ?l9 ?c9 ?k9 ?a10 ?l10 ?c10 ?k10 ?a11 ?l11 ?c11 ?k11 ?a12 ?l12 ?c12 ?k12 ?a13 ?l13 ?c13 ?k13 ?a14 ?l14 ?c14 ?k14 ?a15 ?l15 ?c15 ?k15 ?a16 ?l16 ?c16 ?k16 ?a17 ?l17 ?c17 ?k17 ?a18 ?l18 ?c18 ?k18 ?a19 ?l19 ?c19 ?k19 ?a20 ?l20 ?c20 ?k20 ?a21 ?l21 ?c21 ?k21 ?a22 ?l22 ?c22 ?k22 ?a23 ?l23 ?c23 ?k23 ?a24 ?l24 ?c24 ?k24 ?a25 ?l25 ?c25 ?k25 ?a26 ?l26 ?c26 ?k26 ?a27 ?l27 ?c27 ?k27 ?a28 ?l28 ?c28 ?k28 ?gg0 ?z0 ?z1 ?z2 ?z3 ?z4 ?z5 ?z6 ?z7 ?z8 ?z9 ?z10 ?z11 ?z12 ?z13
    case a0 | l0 | c0 | k0 | a1 | l1 | c1 | k1 | a2 | l2 | c2 | k2 | a3 | l3 | c3 | k3 | a4 | l4 | c4 | k4 | a5 | l5 | c5 | k5 | a6 | l6 | c6 | k6 | a7 | l7 | c7 | k7 | a8 | l8 | c8 | k8 | a9 | l9 | c9 | k9 | a10 | l10 | c10 | k10 | a11 | l11 | c11 | k11 | a12 | l12 | c12 | k12 | a13 | l13 | c13 | k13 | a14 | l14 | c14 | k14 | a15 | l15 | c15 | k15 | a16 | l16 | c16 | k16 | a17 | l17 | c17 | k17 | a18 | l18 | c18 | k18 | a19 | l19 | c19 | k19 | a20 | l20 | c20 | k20 | a21 | l21 | c21 | k21 | a22 | l22 | c22 | k22 | a23 | l23 | c23 | k23 | a24 | l24 | c24 | k24 | a25 | l25 | c25 | k25 | a26 | l26 | c26 | k26 | a27 | l27 | c27 | k27 | a28 | l28 | c28 | k28 | gg0 | z0 | z1 | z2 | z3 | z4 | z5 | z6 | z7 | z8 | z9 | z10 | z11 | z12 | z13=>k_is
