import PyProof.Rows.All
import Wide.All
import OpenK.AllK
import Wide.FinOn
import Lean
import PyProof.EqAt
import PyProof.EqKinds
import PyProof.TupleCall
import PyProof.NeKinds
import PySem.Challenge.RW_twoforone_k16_whole_rings_of_tallies
set_option Elab.async false
set_option linter.all false
set_option maxRecDepth 100000
set_option maxHeartbeats 4000000
namespace L2
open PySem PySem.Spec PyProof.Rows
noncomputable abbrev Key := Sum Int Str
noncomputable def zfr : Key → Value → Bool
  | .inl k, v => Value.isInt k v
  | .inr x, v => Value.isStrOf x v
noncomputable def keyH (w : World) : Key → Int
  | .inl k => hashInt k
  | .inr x => hashStr w x
theorem zV : ∀ {k : Key} {v : Value}, zfr k v = true → (∃ i t, k = Sum.inl i ∧ v = Value.int i t) ∨ (∃ x t, k = Sum.inr x ∧ v = Value.str x t)
  | .inl i, v, h => by
    obtain ⟨t, e⟩ := Value.isInt_shape (k := i) (v := v) h
    exact .inl ⟨i, t, rfl, e⟩
  | .inr x, v, h => by
    obtain ⟨t, e⟩ := Value.isStrOf_shape (x := x) (v := v) h
    exact .inr ⟨x, t, rfl, e⟩
theorem zfq (a b : Int) : decide ((Sum.inl a : Key) = Sum.inl b) = (a == b) := by
  by_cases e : a = b
  · subst e; simp
  · have h : ¬ (Sum.inl a : Key) = Sum.inl b := fun q => e (Sum.inl.inj q)
    rw [decide_eq_false h]
    exact (beq_eq_false_iff_ne.mpr e).symm
theorem zfU (a b : Str) : decide ((Sum.inr a : Key) = Sum.inr b) = decide (a = b) := by
  by_cases e : a = b
  · subst e; simp
  · have h : ¬ (Sum.inr a : Key) = Sum.inr b := fun q => e (Sum.inr.inj q)
    rw [decide_eq_false h, decide_eq_false e]
theorem zgH (a : Int) (b : Str) : decide ((Sum.inl a : Key) = Sum.inr b) = false := decide_eq_false (fun q => nomatch q)
theorem zgs (a : Str) (b : Int) : decide ((Sum.inr a : Key) = Sum.inl b) = false := decide_eq_false (fun q => nomatch q)
noncomputable def zbB (prog : Program) (w : World) : PySem.KeyKind prog w Key where
  is := zfr
  hash := keyH w
  inj := fun v a b ha hb => by
    rcases zV ha with ⟨i, t, rfl, rfl⟩ | ⟨x, t, rfl, rfl⟩
    · rcases zV hb with ⟨j, u, rfl, e⟩ | ⟨y, u, rfl, e⟩
      · injection e with e1 _; rw [e1]
      · exact nomatch e
    · rcases zV hb with ⟨j, u, rfl, e⟩ | ⟨y, u, rfl, e⟩
      · exact nomatch e
      · injection e with e1 _; rw [e1]
  byValue := fun k v h => by
    rcases zV h with ⟨i, t, rfl, rfl⟩ | ⟨x, t, rfl, rfl⟩ <;> rfl
  pyHash := fun hv h => by
    rcases zV hv with ⟨i, t, rfl, rfl⟩ | ⟨x, t, rfl, rfl⟩
    · exact wpAny_pyHash_int h
    · exact wpAny_pyHash_str h
  eqBool := fun hu hv h => by
    rcases zV hu with ⟨i, t, rfl, rfl⟩ | ⟨x, t, rfl, rfl⟩
    · rcases zV hv with ⟨j, u, rfl, rfl⟩ | ⟨y, u, rfl, rfl⟩
      · rw [zfq] at h; exact wpAny_eqBool_int h
      · rw [zgH] at h; exact SeqAt.EqAt.int_str i t y u _ _ _ _ h
    · rcases zV hv with ⟨j, u, rfl, rfl⟩ | ⟨y, u, rfl, rfl⟩
      · rw [zgs] at h; exact SeqAt.EqAt.str_int x t j u _ _ _ _ h
      · rw [zfU] at h; exact wpAny_eqBool_str h
  «strs» := fun k x t v h => by
    rcases zV h with ⟨i, u, rfl, e⟩ | ⟨y, u, rfl, e⟩
    · exact nomatch e
    · injection e with e1 _
      subst e1
      cases v <;> rfl
end L2
namespace L2
open PySem PySem.Spec PyProof.Rows
inductive V where
  | non | bl (b : Bool) | int (i : Int) | str (x : Str) | byt (b : Array UInt8) | flt (b : UInt64) | ref (a : Addr) | ty (n : String)
  deriving DecidableEq
noncomputable def xm : V → Value → Prop
  | .non, u => u = Value.none
  | .bl b, u => u = Value.bool b
  | .int i, u => ∃ t, u = Value.int i t
  | .str x, u => ∃ t, u = Value.str x t
  | .byt b, u => ∃ t, u = Value.bytes b t
  | .flt b, u => ∃ t, u = Value.float b t
  | .ref a, u => u = Value.ref a
  | .ty n, u => u = Value.type n
noncomputable abbrev yh : List V → List Value → Prop := Paired xm
theorem yh.length {xs : List V} {us : List Value} (r : yh xs us) : xs.length = us.length := Paired.length r
theorem yh.get : ∀ {xs : List V} {us : List Value} {i : Nat} {x : V}, yh xs us → xs[i]? = some x → ∃ u, us[i]? = some u ∧ xm x u
  | _, _, _, _, .nil, e => by simp at e
  | _, _, 0, _, .cons r _, e => by simp at e; subst e; exact ⟨_, rfl, r⟩
  | _, _, i + 1, x, .cons _ t, e => by
    obtain ⟨u, h1, h2⟩ := yh.get (i := i) (x := x) t (by simpa using e)
    exact ⟨u, by simpa using h1, h2⟩
theorem yh.append : ∀ {xs ys : List V} {us ws : List Value}, yh xs us → yh ys ws → yh (xs ++ ys) (us ++ ws) := by
  intro xs ys us ws h s
  induction h with
  | nil => exact s
  | cons r t ih => exact .cons r ih
theorem yh.take : ∀ {xs : List V} {us : List Value} (n : Nat), yh xs us → yh (xs.take n) (us.take n)
  | _, _, 0, _ => .nil
  | _, _, _ + 1, .nil => .nil
  | _, _, n + 1, .cons r t => .cons r (yh.take n t)
theorem yh.drop : ∀ {xs : List V} {us : List Value} (n : Nat), yh xs us → yh (xs.drop n) (us.drop n)
  | _, _, 0, r => r
  | _, _, _ + 1, .nil => .nil
  | _, _, n + 1, .cons _ t => yh.drop n t
noncomputable def zhD : Option V → Option Value → Prop
  | some v, some u => xm v u
  | none, none => True
  | _, _ => False
noncomputable def KV {κ : Type} : List (κ × V) → List (κ × Value) → Prop := Paired fun (p : κ × V) (q : κ × Value) => p.1 = q.1 ∧ xm p.2 q.2
noncomputable def kV : Key → V
  | .inl i => .int i
  | .inr x => .str x
inductive HO where
    | lst (xs : List V)
    | tup (xs : List V)
    | dK (kvs : List (Key × V)) | dT (kvs : List (List Key × V))
    | set (S : Int → Bool) (n : Nat)
    | ins (C dx : Addr) (fs : List (Str × V))
    | own (x : Addr)
    | xd (fs : List (Str × V))
    | met (f x : Addr)
    | rng (lo hi : Int)
    | frz (o : Obj) (u : HO)
    | tbl (ps : Array Value)
    | ext (φ : Heap → Prop)
noncomputable abbrev Hp := Addr → Option HO
noncomputable def upd (H : Hp) (a : Addr) (o : HO) : Hp := fun b => if b = a then some o else H b
theorem zp {H : Hp} {a : Addr} {o : HO} : upd H a o a = some o := by unfold upd; rw [if_pos rfl]
theorem zr {H : Hp} {a b : Addr} {o : HO} (h : b ≠ a) : upd H a o b = H b := by unfold upd; rw [if_neg h]
theorem zbv {H : Hp} {a : Addr} {o u : HO} : upd (upd H a o) a u = upd H a u := by
  funext b; unfold upd; split <;> rfl
theorem zn {H : Hp} {a b : Addr} {o : HO} (h : H a = some o) (h' : H b = none) : a ≠ b := by
  intro e; subst e; rw [h] at h'; cases h'
section
variable (P : Program) (w : World)
noncomputable def xO (H : Hp) (h : Heap) (a : Addr) : HO → Prop
  | .lst xs => xs.length ≤ sizeLine ∧ ∃ (its : List Value) (n : Nat), yh xs its ∧ h.get? a = some { cls := .type "list", data := .seq its.toArray n }
  | .tup xs => xs.length ≤ sizeLine ∧ ∃ its : List Value, yh xs its ∧ IsTup h a its.toArray
  | .dK kvs => kvs.length ≤ sizeLine ∧ (a == sysModules) = false ∧ ∃ vs, KV kvs vs ∧ h.DictOf (zbB P w) a vs
  | .dT kvs => kvs.length ≤ sizeLine ∧ (a == sysModules) = false ∧ ∃ xs : List (List Key × Addr × Value),
      Paired (fun (p : List Key × V) (q : List Key × Addr × Value) => p.1 = q.1 ∧ H q.2.1 = some (.tup (p.1.map kV)) ∧ xm p.2 q.2.2) kvs xs ∧
      ∃ o es ep, h.get? a = some o ∧ o.ExactDict ∧ o.data = .dict es ep ∧ es.toList = xs.map (entryOfKey (tupleKind (zbB P w))) ∧ (xs.map (·.1)).Nodup
  | .set S n => h.SetOf (intKind P w) a S n
  | .ins C dx fs => H dx = some (.own a) ∧ fs.length ≤ 1000 ∧ dx ≠ a ∧ h.get? a = some (PySem.W.instObj C dx) ∧
      ∃ mA, h.Ns1 dx mA ∧ (∀ f, zhD (fs.lookup f) (mA f)) ∧ PySem.Within mA (fs.map (·.1))
  | .own _ => ∃ o, h.get? a = some o
  | .xd fs => ∃ mA, h.Ns1 a mA ∧ ∀ f, zhD (fs.lookup f) (mA f)
  | .rng lo hi => ∃ t u v, h.get? a = some { cls := .type "range", data := .fields #[.int lo t, .int hi u, .int 1 v] }
  | .frz o u => h.get? a = some o ∧ xO H h a u
  | .tbl ps => h.get? a = some { cls := .none, data := .fields ps }
  | .met f x => h.get? a = some (PySem.W.methodObj (.ref f) (.ref x))
  | .ext φ => φ h ∧ (∃ o, h.get? a = some o) ∧ ∀ h1 h2 : Heap, φ h1 → (∀ o, h1.get? a = some o → h2.get? a = some o) → φ h2
noncomputable def HOk (H : Hp) (h : Heap) : Prop := ∀ a o, H a = some o → xO P w H h a o
end
section
variable {P : Program} {w : World} {H H' : Hp} {h h' : Heap} {a : Addr} {o : HO}
theorem xO.lt (x : xO P w H h a o) : a < h.objs.size := by
  cases o with
  | lst xs => obtain ⟨_, _, _, _, e⟩ := x; exact Heap.lt_size e
  | tup xs => obtain ⟨_, _, _, p⟩ := x; exact p.lt
  | dK kvs => obtain ⟨_, _, _, _, o, _, _, e, _⟩ := x; exact Heap.lt_size e
  | dT kvs => obtain ⟨_, _, _, _, o, _, _, e, _⟩ := x; exact Heap.lt_size e
  | set S n => obtain ⟨o, _, _, _, e, _⟩ := x; exact Heap.lt_size e
  | ins C dx fs => obtain ⟨_, _, _, e, _⟩ := x; exact Heap.lt_size e
  | own y => obtain ⟨_, e⟩ := x; exact Heap.lt_size e
  | xd fs => obtain ⟨_, ⟨_, _, _, e, _⟩, _⟩ := x; exact Heap.lt_size e
  | rng lo hi => obtain ⟨_, _, _, e⟩ := x; exact Heap.lt_size e
  | frz ob u => obtain ⟨e, _⟩ := x; exact Heap.lt_size e
  | tbl ps => exact Heap.lt_size (show h.get? a = some _ from x)
  | met f y => exact Heap.lt_size (show h.get? a = some _ from x)
  | ext φ => obtain ⟨_, ⟨_, e⟩, _⟩ := x; exact Heap.lt_size e
theorem Paired.mapP {α β : Type} {F G : α → β → Prop} : ∀ {l₁ : List α} {l₂ : List β}, Paired F l₁ l₂ → (∀ a b, F a b → G a b) → Paired G l₁ l₂ := by
  intro l1 l2 h f
  induction h with
  | nil => exact .nil
  | cons r t ih => exact .cons (f _ _ r) ih
theorem xO.stay (x : xO P w H h a o) (k : ∀ b u, (b = a ∨ H b = some (.own a)) → h.get? b = some u → h'.get? b = some u)
    (ho : ∀ b, H b = some (.own a) → H' b = some (.own a)) (ht : ∀ b xs, H b = some (.tup xs) → H' b = some (.tup xs)) : xO P w H' h' a o := by
  induction o with
  | lst xs => obtain ⟨z, its, n, r, e⟩ := x; exact ⟨z, its, n, r, k _ _ (.inl rfl) e⟩
  | tup xs => obtain ⟨z, its, r, ob, e, c⟩ := x; exact ⟨z, its, r, ob, k _ _ (.inl rfl) e, c⟩
  | dK kvs => obtain ⟨z, y, vs, r, ob, es, ep, e, c⟩ := x; exact ⟨z, y, vs, r, ob, es, ep, k _ _ (.inl rfl) e, c⟩
  | dT kvs =>
    obtain ⟨z, y, xs, r, ob, es, ep, e, c⟩ := x
    exact ⟨z, y, xs, Paired.mapP r fun p q z => ⟨z.1, ht _ _ z.2.1, z.2.2⟩, ob, es, ep, k _ _ (.inl rfl) e, c⟩
  | set S n => obtain ⟨ob, es, ep, t, e, c⟩ := x; exact ⟨ob, es, ep, t, k _ _ (.inl rfl) e, c⟩
  | ins C dx fs =>
    obtain ⟨d, z, ne, e, mA, ⟨od, es, ep, e2, c⟩, r⟩ := x
    exact ⟨ho _ d, z, ne, k _ _ (.inl rfl) e, mA, ⟨od, es, ep, k _ _ (.inr d) e2, c⟩, r⟩
  | own y => obtain ⟨ob, e⟩ := x; exact ⟨ob, k _ _ (.inl rfl) e⟩
  | xd fs => obtain ⟨mA, ⟨od, es, ep, e, c⟩, r⟩ := x; exact ⟨mA, ⟨od, es, ep, k _ _ (.inl rfl) e, c⟩, r⟩
  | rng lo hi => obtain ⟨t, u, v, e⟩ := x; exact ⟨t, u, v, k _ _ (.inl rfl) e⟩
  | frz ob u ih => obtain ⟨e, q⟩ := x; exact ⟨k _ _ (.inl rfl) e, ih q⟩
  | tbl ps =>
    have e : h.get? a = some { cls := .none, data := .fields ps } := x
    show h'.get? a = some { cls := .none, data := .fields ps }
    exact k a _ (.inl rfl) e
  | met f y =>
    have e : h.get? a = some (PySem.W.methodObj (.ref f) (.ref y)) := x
    show h'.get? a = some (PySem.W.methodObj (.ref f) (.ref y))
    exact k a _ (.inl rfl) e
  | ext φ => obtain ⟨p, ⟨o, e⟩, st⟩ := x; exact ⟨st _ _ p fun o q => k _ _ (.inl rfl) q, ⟨o, k _ _ (.inl rfl) e⟩, st⟩
theorem HOk.lt (x : HOk P w H h) (e : H a = some o) : a < h.objs.size := (x a o e).lt
theorem HOk.fresh (x : HOk P w H h) (e : h.objs.size ≤ a) : H a = none := by
  cases q : H a with
  | none => rfl
  | some u => exact absurd (Nat.lt_of_lt_of_le (x.lt q) e) (Nat.lt_irrefl _)
theorem HOk.kept (x : HOk P w H h) (k : ∀ b u, h.get? b = some u → h'.get? b = some u) : HOk P w H h' := fun a o e =>
  (x a o e).stay (fun b u _ q => k b u q) (fun _ q => q) fun _ _ q => q
theorem HOk.laid (x : HOk P w H h) (k : ∀ b u, h.get? b = some u → h'.get? b = some u) (hp : h.objs.size ≤ a) (new : xO P w (upd H a o) h' a o) : HOk P w (upd H a o) h' := fun b u e => by
  have hn := x.fresh hp
  by_cases hb : b = a
  · subst hb; rw [zp] at e; cases e; exact new
  · rw [zr hb] at e
    exact (x b u e).stay (fun c v _ q => k c v q) (fun c q => by rw [zr (zn q hn)]; exact q) fun c xs q => by rw [zr (zn q hn)]; exact q
end
noncomputable def Rd (H : Hp) (a : Addr) (u : HO) : Prop := H a = some u ∨ ∃ o, H a = some (.frz o u)
theorem Rd.ok {P : Program} {w : World} {H : Hp} {h : Heap} {a : Addr} {u : HO} (r : Rd H a u) (x : HOk P w H h) : xO P w H h a u := by
  rcases r with r | ⟨o, r⟩
  · exact x a u r
  · obtain ⟨_, q⟩ := x a _ r
    exact q
noncomputable def Mut : Option HO → Prop
  | some (.lst _) => True
  | some (.dK _) => True
  | some (.dT _) => True
  | some (.set _ _) => True
  | some (.ins _ _ _) => True
  | some (.ext _) => True
  | _ => False
section
variable {P : Program} {w : World} {H : Hp} {h h' : Heap} {x e : Addr} {o' : HO}
theorem HOk.write (ok : HOk P w H h) (mu : Mut (H x)) (he : e = x ∨ H e = some (.own x)) (k : ∀ b u, b ≠ e → h.get? b = some u → h'.get? b = some u) (heo : ∃ u, h'.get? e = some u)
    (new : xO P w (upd H x o') h' x o') : HOk P w (upd H x o') h' := fun b u q => by
  have nown : ∀ c y, H c = some (.own y) → c ≠ x := fun c y r z => by subst z; rw [r] at mu; exact mu
  have ntup : ∀ c xs, H c = some (.tup xs) → c ≠ x := fun c xs r z => by subst z; rw [r] at mu; exact mu
  by_cases hb : b = x
  · subst hb; rw [zp] at q; cases q; exact new
  · rw [zr hb] at q
    by_cases hbe : b = e
    · have q' : H b = some (.own x) := by
        rcases he with z | z
        · exact absurd (hbe.trans z) hb
        · rw [hbe]; exact z
      rw [q] at q'; cases q'
      obtain ⟨v, hv⟩ := heo
      exact ⟨v, by rw [hbe]; exact hv⟩
    · refine (ok b u q).stay (fun c v hc r => k c v ?_ r) (fun c r => by rw [zr (nown c b r)]; exact r) fun c xs r => by rw [zr (ntup c xs r)]; exact r
      rcases hc with rfl | hc
      · exact hbe
      · rintro rfl
        rcases he with z | z
        · exact nown c b hc z
        · rw [hc] at z; cases z; exact hb rfl
end
set_option genInjectivity false in
set_option genSizeOf false in
set_option genCtorIdx false in
structure Un (fs ex : List Addr) (H H' : Hp) (h h' : Heap) : Prop where
  keep : ∀ b o, h.get? b = some o → H b = none → b ∉ fs → b ∉ ex → h'.get? b = some o
  slot : ∀ b o, h.get? b = some o → H b = none → b ∈ fs → b ∉ ex → ∃ sl, h'.get? b = some { o with slots := sl }
  free : ∀ b o, h.get? b = some o → H b = none → b ∉ ex → H' b = none
  there : ∀ b o, h.get? b = some o → b ∉ ex → ∃ o', h'.get? b = some o'
  tups : ∀ b xs, H b = some (.tup xs) → H' b = some (.tup xs)
  frzs : ∀ b o u, H b = some (.frz o u) → H' b = some (.frz o u)
  tbls : ∀ b ps, H b = some (.tbl ps) → ∃ more, H' b = some (.tbl (ps ++ more))
section
variable {fs fs' ex ex' : List Addr} {H H1 H2 : Hp} {h h1 h2 h' : Heap} {a x e : Addr} {o : HO}
theorem Un.any (u : Un fs ex H H1 h h1) {b : Addr} {ob : Obj} (q : h.get? b = some ob) (n : H b = none) (hx : b ∉ ex) : ∃ sl, h1.get? b = some { ob with slots := sl } := by
  by_cases hb : b ∈ fs
  · exact u.slot b ob q n hb hx
  · exact ⟨ob.slots, u.keep b ob q n hb hx⟩
theorem Un.kept (k : ∀ b u, h.get? b = some u → h'.get? b = some u) : Un fs ex H H h h' :=
  ⟨fun b ob q _ _ _ => k b ob q, fun b ob q _ _ _ => ⟨ob.slots, k b ob q⟩, fun _ _ _ n _ => n, fun b ob q _ => ⟨ob, k b ob q⟩, fun _ _ q => q, fun _ _ _ q => q, fun _ ps q => ⟨#[], by rw [q]; simp⟩⟩
theorem Un.refl : Un fs ex H H h h := Un.kept fun _ _ q => q
theorem Un.laid (k : ∀ b u, h.get? b = some u → h'.get? b = some u) (hp : h.objs.size ≤ a) (hn : H a = none) : Un fs ex H (upd H a o) h h' where
  keep := fun b u q _ _ _ => k b u q
  slot := fun b u q _ _ _ => ⟨u.slots, k b u q⟩
  free := fun b u q n _ => by rw [zr (Nat.ne_of_lt (Nat.lt_of_lt_of_le (Heap.lt_size q) hp))]; exact n
  there := fun b u q _ => ⟨u, k b u q⟩
  tups := fun b xs q => by rw [zr (zn q hn)]; exact q
  frzs := fun b u xs q => by rw [zr (zn q hn)]; exact q
  tbls := fun b ps q => ⟨#[], by rw [zr (zn q hn), q]; simp⟩
theorem Un.write (mu : Mut (H x)) (he : e = x ∨ H e = some (.own x)) (k : ∀ b u, b ≠ e → h.get? b = some u → h'.get? b = some u) (heo : ∃ u, h'.get? e = some u) : Un fs ex H (upd H x o) h h' := by
  have hx : ∀ b, H b = none → b ≠ x := fun b n z => by subst z; rw [n] at mu; exact mu
  have hb : ∀ b, H b = none → b ≠ e := fun b n z => by
    subst z
    rcases he with r | r
    · exact hx b n r
    · rw [n] at r; cases r
  have hm : ∀ b u, H b = some u → ¬ Mut (some u) → b ≠ x := fun b u q nm z => by subst z; rw [q] at mu; exact nm mu
  refine ⟨fun b u q n _ _ => k b u (hb b n) q, fun b u q n _ _ => ⟨u.slots, k b u (hb b n) q⟩, fun b u q n _ => by rw [zr (hx b n)]; exact n, fun b u q _ => ?_,
    fun b xs q => by rw [zr (hm b _ q fun z => z)]; exact q, fun b u xs q => by rw [zr (hm b _ q fun z => z)]; exact q, fun b ps q => ⟨#[], by rw [zr (hm b _ q fun z => z), q]; simp⟩⟩
  by_cases hbe : b = e
  · subst hbe; exact heo
  · exact ⟨u, k b u hbe q⟩
end
noncomputable def trk (h : Heap) (H : Hp) : List Addr := (List.range h.objs.size).filter fun a => (H a).isSome
noncomputable def zcR (h : Heap) (H : Hp) : Heap := PySem.W.hideAll h (trk h H)
theorem zbP (h : Heap) (H : Hp) : (zcR h H).objs.size = h.objs.size := PySem.W.hideAll_size _ _
theorem zc0 {h : Heap} {H : Hp} {b : Addr} {o : Obj} (e : h.get? b = some o) (n : H b = none) : (zcR h H).get? b = some o :=
  PySem.W.hideAll_get _ e fun hm => by
    have q : (H b).isSome = true := (List.mem_filter.mp hm).2
    rw [n] at q; simp at q
theorem zeg {h : Heap} {H : Hp} {b : Addr} {o : Obj} (e : (zcR h H).get? b = some o) : h.get? b = some o ∧ H b = none := by
  have e' : h.get? b = some o := PySem.W.of_hideAll (trk h H) e
  refine ⟨e', ?_⟩
  cases q : H b with
  | none => rfl
  | some x =>
    have hm : b ∈ trk h H := List.mem_filter.mpr ⟨List.mem_range.mpr (Heap.lt_size e'), by simp [q]⟩
    have z : (zcR h H).get? b = none := PySem.W.hideAll_none (trk h H) hm
    rw [z] at e; cases e
noncomputable def zew (g h : Heap) (L : Addr) : List (Addr × Obj) := (List.range h.objs.size).filterMap fun a => if a = L ∨ (g.get? a).isSome = true then none else (h.get? a).map fun o => (a, o)
noncomputable def rest (g h : Heap) (L d : Addr) : List (Addr × Obj) := (zew g h L).filter fun p => decide (p.1 ≠ d)
end L2
namespace L2
open PySem PySem.Spec PyProof.Rows
structure Mod (K : PySem.W.Frag) (mg : Str → Option Value) (base : Heap) : Prop where
  kin : K.In base
  glob : base.Ns mainGlobals mg
  blt : ∃ mb, base.Ns builtinsNs mb ∧ ∀ x : Str, x ≠ "__name__" → mb x = bootBuiltins x
  nolimit : base.NoLimit
structure Cx where
  prog : Program
  w : World
  K : PySem.W.Frag
  mg : Str → Option Value
  base : Heap
  A : Around
  N : List Str
  s₀ : Shared
  H₀ : Hp
  env : Env
  outer : List Env
  stack : List Env
  ex : List Addr
  fn : Str → Bool
  calm : Bool
  pn : List (Addr × Obj)
  xe : Value → Shared → Prop
noncomputable def frs (l : List Env) : List Addr := l.filterMap (·.frame)
noncomputable abbrev Cx.fs (X : Cx) : List Addr := frs X.outer
noncomputable def Vis (sc : Scope) (x : Str) : Prop := sc.names.lookup x = some .local ∨ sc.names.lookup x = some .cell ∨ sc.names.lookup x = some .free
noncomputable def Loc (sc : Scope) (x : Str) : Prop := sc.names.lookup x = some .local ∨ sc.names.lookup x = some .cell
noncomputable def Look (env : Env) (h : Heap) (m : Str → Option Value) (x : Str) (u : Value) : Prop :=
  (env.kindOf x = some .local ∧ m x = some u) ∨ ((env.kindOf x = some .cell ∨ env.kindOf x = some .free) ∧ ∃ c, env.cells.lookup x = some c ∧ h.IsCell c (some u))
set_option genInjectivity false in
set_option genSizeOf false in
set_option genCtorIdx false in
structure Cx.Ok (X : Cx) : Prop where
  mod : Mod X.K X.mg X.base
  kind : X.env.scope.kind = .function
  glob : X.env.globals = mainGlobals
  blt : X.env.builtins = builtinsNs
  above : X.s₀.heap.objs.size ≤ X.env.locals
  inj : ∀ x y c, X.env.cells.lookup x = some c → X.env.cells.lookup y = some c → x = y
  has : ∀ x, (X.env.kindOf x = some .cell ∨ X.env.kindOf x = some .free) → ∃ c, X.env.cells.lookup x = some c
  cab : ∀ x c, X.fn x = true → X.env.cells.lookup x = some c → X.s₀.heap.objs.size ≤ c
  hd : X.calm = true → X.A.handled = none
  frames : X.A.frames = some X.stack
  stk : X.stack = X.outer ∨ (X.stack = X.env :: X.outer ∧ X.env.frame = some X.env.locals)
  exf : ∀ b ∈ X.ex, b ≠ X.env.locals ∧ ∀ x c, X.env.cells.lookup x = some c → c ≠ b
  bs : ∀ b o, X.base.get? b = some o → X.s₀.heap.get? b = some o ∧ X.H₀ b = none
  bsz : X.base.objs.size ≤ X.s₀.heap.objs.size
  noex : ∀ b o, X.base.get? b = some o → b ∉ X.ex
  exfs : ∀ b ∈ X.ex, b ∉ X.fs
  funs : X.s₀.heap.FunFrames X.base X.outer
  frf : ∀ b ∈ X.fs, X.H₀ b = none
set_option genInjectivity false in
set_option genSizeOf false in
set_option genCtorIdx false in
structure Inv (X : Cx) (pins : List (Addr × Obj)) (σ : List (Option V)) (H : Hp) (s : Shared) : Prop where
  ok : X.Ok
  os : s.os = X.s₀.os
  bare : AllBare s.gens
  base : Un X.fs X.ex X.H₀ H X.s₀.heap s.heap
  loc : ∃ m, s.heap.Ns X.env.locals m ∧ ∀ (i : Nat) (x : Str) (v : V), X.N[i]? = some x → σ[i]? = some (some v) → Vis X.env.scope x → ∃ u, xm v u ∧ Look X.env s.heap m x u
  cell : ∀ x c, X.env.cells.lookup x = some c → ∃ v, s.heap.IsCell c v
  free : H X.env.locals = none
  freeC : ∀ x c, X.env.cells.lookup x = some c → H c = none
  pin : ∀ p ∈ X.pn ++ pins, s.heap.get? p.1 = some p.2 ∧ H p.1 = none ∧ p.1 ≠ X.env.locals ∧ p.1 ∉ X.fs ∧ ∀ v, p.2.data ≠ .cell v
  hok : HOk X.prog X.w H s.heap
  len : σ.length = X.N.length
section
variable {X : Cx} {pins : List (Addr × Obj)} {σ : List (Option V)} {H H' : Hp} {s : Shared} {h' : Heap}
theorem Cx.Ok.nofr (ok : X.Ok) {b : Addr} {o : Obj} (e : X.base.get? b = some o) : b ∉ X.fs := fun hb => by
  have := (ok.funs.mem hb).1
  rw [e] at this; cases this
theorem Inv.bs (I : Inv X pins σ H s) : ∀ b o, X.base.get? b = some o → s.heap.get? b = some o ∧ H b = none := fun b o e =>
  ⟨I.base.keep b o (I.ok.bs b o e).1 (I.ok.bs b o e).2 (I.ok.nofr e) (I.ok.noex b o e), I.base.free b o (I.ok.bs b o e).1 (I.ok.bs b o e).2 (I.ok.noex b o e)⟩
theorem Inv.bk (I : Inv X pins σ H s) : ∀ b o, X.base.get? b = some o → s.heap.get? b = some o := fun b o e => (I.bs b o e).1
theorem Inv.mod (I : Inv X pins σ H s) : Mod X.K X.mg X.base := I.ok.mod
theorem Inv.kIn (I : Inv X pins σ H s) : X.K.In s.heap := I.ok.mod.kin.keeps I.bk
theorem Inv.fr (I : Inv X pins σ H s) : ∃ m, Fr X.base X.env.locals s.heap m :=
  let ⟨m, hn, _⟩ := I.loc
  ⟨m, hn, I.bk, Nat.le_trans I.ok.bsz I.ok.above⟩
theorem Inv.lt (I : Inv X pins σ H s) : X.env.locals < s.heap.objs.size := let ⟨_, hn, _⟩ := I.loc; hn.lt
theorem Inv.sz (I : Inv X pins σ H s) : X.s₀.heap.objs.size ≤ s.heap.objs.size := Nat.le_trans I.ok.above (Nat.le_of_lt I.lt)
theorem Inv.nofs (I : Inv X pins σ H s) {a : Addr} (h : s.heap.objs.size ≤ a) : a ∉ X.fs := fun hb => by
  obtain ⟨_, o, ho, _⟩ := I.ok.funs.mem hb
  exact absurd (Nat.lt_of_lt_of_le (Heap.lt_size ho) (Nat.le_trans I.sz h)) (Nat.lt_irrefl _)
theorem Inv.cne (I : Inv X pins σ H s) : ∀ x c, X.env.cells.lookup x = some c → c ≠ X.env.locals := fun x c e z => by
  obtain ⟨v, o, ho, hd⟩ := I.cell x c e
  obtain ⟨m, ⟨o', es, ep, ho', hd', _⟩, _⟩ := I.loc
  rw [z, ho'] at ho; cases ho; rw [hd'] at hd; cases hd
theorem Inv.funs (I : Inv X pins σ H s) : s.heap.FunFrames X.base X.outer := by
  have all : ∀ (l : List Env), (∀ b ∈ frs l, b ∈ X.fs) → X.s₀.heap.FunFrames X.base l → s.heap.FunFrames X.base l := by
    intro l
    induction l with
    | nil => intro _ _; trivial
    | cons env r ih =>
      intro hs hl
      obtain ⟨hk, ⟨L, o, hf, hn, ho, hd⟩, hr⟩ := hl
      have hL : L ∈ X.fs := hs L (by unfold frs; rw [List.filterMap_cons, hf]; exact List.mem_cons_self)
      obtain ⟨sl, e⟩ := I.base.slot L o ho (I.ok.frf L hL) hL fun z => I.ok.exfs L z hL
      exact ⟨hk, ⟨L, _, hf, hn, e, hd⟩, ih (fun b hb => hs b (by unfold frs; rw [List.filterMap_cons, hf]; exact List.mem_cons_of_mem _ hb)) hr⟩
  exact all X.outer (fun _ hb => hb) I.ok.funs
theorem Inv.stack (I : Inv X pins σ H s) : s.heap.FunFrames X.base X.stack := by
  rcases I.ok.stk with e | ⟨e, hf⟩
  · rw [e]; exact I.funs
  · rw [e]
    obtain ⟨m, hn, _⟩ := I.loc
    refine .cons (by rw [I.ok.kind]; decide) hf hn ?_ I.funs
    exact Heap.get?_none_of_le (Nat.le_trans I.ok.bsz I.ok.above)
theorem Inv.stkSub (I : Inv X pins σ H s) : ∀ b ∈ frs X.stack, b ∈ X.env.locals :: X.fs := fun b hb => by
  rcases I.ok.stk with e | ⟨e, hf⟩
  · rw [e] at hb; exact List.mem_cons_of_mem _ hb
  · rw [e] at hb
    unfold frs at hb
    rw [List.filterMap_cons, hf] at hb
    exact hb
theorem Inv.stkFree (I : Inv X pins σ H s) : ∀ b ∈ frs X.stack, H b = none := fun b hb => by
  rcases List.mem_cons.mp (I.stkSub b hb) with e | hb
  · rw [e]; exact I.free
  · obtain ⟨_, o, ho, _⟩ := I.ok.funs.mem hb
    exact I.base.free b o ho (I.ok.frf b hb) fun z => I.ok.exfs b z hb
theorem Inv.step {g' : Array GenState} {t' : Nat} {d' : Drawn} {ch : List Addr} (I : Inv X pins σ H s)
    (hch : ∀ b ∈ ch, (b ∈ X.ex ∨ X.s₀.heap.objs.size ≤ b) ∧ b ≠ X.env.locals ∧ (∀ x c, X.env.cells.lookup x = some c → c ≠ b) ∧ ∀ p ∈ X.pn ++ pins, p.1 ≠ b)
    (keep : ∀ b o, b ≠ X.env.locals → b ∉ X.fs → b ∉ ch → s.heap.get? b = some o → H b = none → h'.get? b = some o)
    (slot : ∀ b o, b ≠ X.env.locals → b ∈ X.fs → b ∉ ch → s.heap.get? b = some o → H b = none → ∃ sl, h'.get? b = some { o with slots := sl }) (free : ∀ b o, b ∉ ch → s.heap.get? b = some o → H b = none → H' b = none)
    (there : ∀ b o, b ∉ ch → s.heap.get? b = some o → ∃ o', h'.get? b = some o')
    (tups : ∀ b xs, H b = some (.tup xs) → H' b = some (.tup xs)) (frzs : ∀ b o u, H b = some (.frz o u) → H' b = some (.frz o u)) (tbls : ∀ b ps, H b = some (.tbl ps) → ∃ more, H' b = some (.tbl (ps ++ more)))
    (ns : ∀ m, s.heap.Ns X.env.locals m → h'.Ns X.env.locals m) (hok : HOk X.prog X.w H' h') (hg : AllBare g') :
    Inv X pins σ H' { s with heap := h', gens := g', drawn := d', toks := t' } := by
  have neL : ∀ b o, X.s₀.heap.get? b = some o → b ≠ X.env.locals := fun b o e => Nat.ne_of_lt (Nat.lt_of_lt_of_le (Heap.lt_size e) I.ok.above)
  have neC : ∀ b o, X.s₀.heap.get? b = some o → b ∉ X.ex → b ∉ ch := fun b o e hx hb => by
    rcases (hch b hb).1 with z | z
    · exact hx z
    · exact absurd (Nat.lt_of_lt_of_le (Heap.lt_size e) z) (Nat.lt_irrefl _)
  have cellK : ∀ x c, X.env.cells.lookup x = some c → ∀ v, s.heap.IsCell c v → h'.IsCell c v := fun x c e v ⟨o, ho, hd⟩ => by
    have nch : c ∉ ch := fun z => (hch c z).2.2.1 x c e rfl
    by_cases hc : c ∈ X.fs
    · obtain ⟨sl, q⟩ := slot c o (I.cne x c e) hc nch ho (I.freeC x c e)
      exact ⟨_, q, hd⟩
    · exact ⟨o, keep c o (I.cne x c e) hc nch ho (I.freeC x c e), hd⟩
  refine ⟨I.ok, I.os, hg, ⟨fun b o e n hb hx => ?_, fun b o e n hb hx => ?_, fun b o e n hx => ?_, fun b o e hx => ?_, fun b xs e => tups b xs (I.base.tups b xs e), fun b o xs e => frzs b o xs (I.base.frzs b o xs e), fun b ps e => ?_⟩, ?_, fun x c e => ?_, ?_, fun x c e => ?_, fun p hp => ?_, hok, I.len⟩
  · exact keep b o (neL b o e) hb (neC b o e hx) (I.base.keep b o e n hb hx) (I.base.free b o e n hx)
  · obtain ⟨sl, e1⟩ := I.base.slot b o e n hb hx
    obtain ⟨sl', e2⟩ := slot b _ (neL b o e) hb (neC b o e hx) e1 (I.base.free b o e n hx)
    exact ⟨sl', e2⟩
  · obtain ⟨o', e1⟩ := I.base.there b o e hx
    exact free b o' (neC b o e hx) e1 (I.base.free b o e n hx)
  · obtain ⟨o', e1⟩ := I.base.there b o e hx
    exact there b o' (neC b o e hx) e1
  · obtain ⟨m1, e1⟩ := I.base.tbls b ps e
    obtain ⟨m2, e2⟩ := tbls b _ e1
    exact ⟨m1 ++ m2, by rw [e2, Array.append_assoc]⟩
  · obtain ⟨m, hn, hl⟩ := I.loc
    refine ⟨m, ns m hn, fun i x v e1 e2 e3 => ?_⟩
    obtain ⟨u, r, l⟩ := hl i x v e1 e2 e3
    refine ⟨u, r, ?_⟩
    rcases l with l | ⟨k, c, e, z⟩
    · exact .inl l
    · exact .inr ⟨k, c, e, cellK x c e _ z⟩
  · obtain ⟨v, z⟩ := I.cell x c e
    exact ⟨v, cellK x c e v z⟩
  · obtain ⟨m, ⟨o, _, _, ho, _⟩, _⟩ := I.loc
    exact free _ o (fun z => (hch _ z).2.1 rfl) ho I.free
  · obtain ⟨v, o, ho, hd⟩ := I.cell x c e
    exact free c o (fun z => (hch c z).2.2.1 x c e rfl) ho (I.freeC x c e)
  · obtain ⟨e, n, ne, nf, d⟩ := I.pin p hp
    have nch : p.1 ∉ ch := fun z => (hch p.1 z).2.2.2 p hp rfl
    exact ⟨keep p.1 p.2 ne nf nch e n, free p.1 p.2 nch e n, ne, nf, d⟩
theorem Inv.un {t' : Nat} (I : Inv X pins σ H s) (u : Un X.fs [] H H' s.heap h') (hok : HOk X.prog X.w H' h') : Inv X pins σ H' { s with heap := h', toks := t' } := by
  obtain ⟨m, ⟨o, es, ep, ho, r⟩, _⟩ := id I.loc
  obtain ⟨sl, hL⟩ := u.any ho I.free (by simp)
  exact I.step (g' := s.gens) (d' := s.drawn) (ch := []) (fun _ z => nomatch z) (fun b o _ hb _ e n => u.keep b o e n hb (by simp)) (fun b o _ hb _ e n => u.slot b o e n hb (by simp)) (fun b o _ e n => u.free b o e n (by simp)) (fun b o _ e => u.there b o e (by simp)) u.tups u.frzs u.tbls (fun m' hm => by
    obtain ⟨o', es', ep', ho', r'⟩ := hm
    rw [ho] at ho'; cases ho'
    exact ⟨_, es', ep', hL, r'⟩) hok I.bare
theorem Inv.call {g' : Array GenState} {t' : Nat} {d' : Drawn} {ch : List Addr} (I : Inv X pins σ H s) (u : Un (frs X.stack) ch H H' s.heap h') (hok : HOk X.prog X.w H' h') (hg : AllBare g')
    (hch : ∀ b ∈ ch, (b ∈ X.ex ∨ X.s₀.heap.objs.size ≤ b) ∧ b ≠ X.env.locals ∧ (∀ x c, X.env.cells.lookup x = some c → c ≠ b) ∧ ∀ p ∈ X.pn ++ pins, p.1 ≠ b) :
    Inv X pins σ H' { s with heap := h', gens := g', drawn := d', toks := t' } := by
  obtain ⟨m, ⟨o, es, ep, ho, r⟩, _⟩ := id I.loc
  obtain ⟨sl, hL⟩ := u.any ho I.free fun z => (hch _ z).2.1 rfl
  exact I.step (ch := ch) hch (fun b o hL hb hc e n => u.keep b o e n (fun z => (List.mem_cons.mp (I.stkSub b z)).elim hL hb) hc) (fun b o _ _ hc e n => u.any e n hc) (fun b o hc e n => u.free b o e n hc) (fun b o hc e => u.there b o e hc) u.tups u.frzs u.tbls (fun m' hm => by
    obtain ⟨o', es', ep', ho', r'⟩ := hm
    rw [ho] at ho'; cases ho'
    exact ⟨_, es', ep', hL, r'⟩) hok hg
theorem Inv.turned {t' : Nat} {it : Addr} (I : Inv X pins σ H s) (k : ∀ b o, b ≠ it → s.heap.get? b = some o → h'.get? b = some o) (hn : H it = none) (hL : it ≠ X.env.locals)
    (h1 : it ∈ X.ex ∨ X.s₀.heap.objs.size ≤ it) (h2 : ∀ x c, X.env.cells.lookup x = some c → c ≠ it) (h3 : ∀ p ∈ X.pn ++ pins, p.1 ≠ it) : Inv X pins σ H { s with heap := h', toks := t' } := by
  have nit : ∀ b u, H b = some u → b ≠ it := fun b u e z => by rw [z, hn] at e; cases e
  refine I.step (g' := s.gens) (d' := s.drawn) (ch := [it]) (fun b hb => ?_) (fun b o _ _ hc e _ => k b o (fun z => hc (by simp [z])) e) (fun b o _ _ hc e _ => ⟨o.slots, k b o (fun z => hc (by simp [z])) e⟩) (fun _ _ _ _ n => n)
    (fun b o hc e => ⟨o, k b o (fun z => hc (by simp [z])) e⟩) (fun _ _ e => e) (fun _ _ _ e => e) (fun b ps e => ⟨#[], by rw [e]; simp⟩) (fun m hm => ?_) (fun b u e => ?_) I.bare
  · have e : b = it := by simpa using hb
    subst e
    exact ⟨h1, hL, h2, h3⟩
  · obtain ⟨o, es, ep, ho, r⟩ := hm
    exact ⟨o, es, ep, k _ o (Ne.symm hL) ho, r⟩
  · refine (I.hok b u e).stay (fun c v hc q => k c v ?_ q) (fun _ q => q) fun _ _ q => q
    rcases hc with z | z
    · rw [z]; exact nit b u e
    · exact nit c _ z
theorem Inv.tok (I : Inv X pins σ H s) (t : Nat) : Inv X pins σ H { s with toks := t } := I.un (h' := s.heap) (t' := t) Un.refl I.hok
theorem Inv.kept {t' : Nat} (I : Inv X pins σ H s) (k : ∀ b u, s.heap.get? b = some u → h'.get? b = some u) : Inv X pins σ H { s with heap := h', toks := t' } := I.un (Un.kept k) (I.hok.kept k)
theorem Inv.laid {a : Addr} {o : HO} {t' : Nat} (I : Inv X pins σ H s) (k : ∀ b u, s.heap.get? b = some u → h'.get? b = some u) (hp : s.heap.objs.size ≤ a) (new : xO X.prog X.w (upd H a o) h' a o) :
    Inv X pins σ (upd H a o) { s with heap := h', toks := t' } := I.un (Un.laid k hp (I.hok.fresh hp)) (I.hok.laid k hp new)
theorem Inv.write {x e : Addr} {o : HO} {t' : Nat} (I : Inv X pins σ H s) (mu : Mut (H x)) (he : e = x ∨ H e = some (.own x)) (k : ∀ b u, b ≠ e → s.heap.get? b = some u → h'.get? b = some u) (heo : ∃ u, h'.get? e = some u)
    (new : xO X.prog X.w (upd H x o) h' x o) : Inv X pins σ (upd H x o) { s with heap := h', toks := t' } := I.un (Un.write mu he k heo) (I.hok.write mu he k heo new)
theorem Inv.weak {σ' : List (Option V)} (I : Inv X pins σ H s) (hl : σ'.length = σ.length) (w : ∀ (i : Nat) v, σ'[i]? = some (some v) → σ[i]? = some (some v)) : Inv X pins σ' H s :=
  ⟨I.ok, I.os, I.bare, I.base, let ⟨m, hn, hl'⟩ := I.loc; ⟨m, hn, fun i x v e1 e2 e3 => hl' i x v e1 (w i v e2) e3⟩, I.cell, I.free, I.freeC, I.pin, I.hok, hl.trans I.len⟩
theorem Inv.pins_of {pins' : List (Addr × Obj)} (I : Inv X pins σ H s) (h : ∀ p ∈ pins', s.heap.get? p.1 = some p.2 ∧ H p.1 = none ∧ p.1 ≠ X.env.locals ∧ p.1 ∉ X.fs ∧ ∀ v, p.2.data ≠ .cell v) : Inv X pins' σ H s :=
  ⟨I.ok, I.os, I.bare, I.base, I.loc, I.cell, I.free, I.freeC, fun p hp => (List.mem_append.mp hp).elim (fun z => I.pin p (List.mem_append_left _ z)) (h p), I.hok, I.len⟩
theorem VZ {N : List Str} (hN : N.Nodup) {i j : Nat} {x : Str} (a : N[i]? = some x) (b : N[j]? = some x) : i = j := by
  obtain ⟨h1, e1⟩ := List.getElem?_eq_some_iff.mp a
  obtain ⟨h2, e2⟩ := List.getElem?_eq_some_iff.mp b
  exact (List.getElem_inj hN).mp (e1.trans e2.symm)
theorem zcD {M : Model} {A : Around} {E : Value → Shared → Prop} {i : Nat} {x : Str} {v : V} {u : Value} {Q : Unit → Shared → Prop} (I : Inv X pins σ H s) (hN : X.N.Nodup) (hi : X.N[i]? = some x) (hx : Loc X.env.scope x) (r : xm v u)
    (h : ∀ s', Inv X pins (σ.set i (some v)) H s' → (∃ a, Heap.SameBut a s.heap s'.heap ∧ (a = X.env.locals ∨ X.env.cells.lookup x = some a)) → Q () s') (hf : X.fn x = true ∨ X.env.scope.names.lookup x = some .local := by first | exact .inl rfl | exact .inr rfl | assumption) : wpAny M A (storeName X.env x u) Q E s := by
  obtain ⟨m, hn, hl⟩ := id I.loc
  have hcls : (X.env.scope.kind == .class || (X.env.scope.kind == .module && X.env.locals != X.env.globals)) = false := by rw [I.ok.kind]; rfl
  have hiσ : i < σ.length := by rw [I.len]; exact (List.getElem?_eq_some_iff.mp hi).1
  have cne := I.cne
  have tracked : ∀ {a : Addr} {h' : Heap}, (∃ o, s.heap.get? a = some o ∧ H a = none) → Heap.SameBut a s.heap h' → HOk X.prog X.w H h' := fun {a h'} ha hs b ob e => by
    obtain ⟨_, _, hfree⟩ := ha
    refine (I.hok b ob e).stay (fun c w' hc q => (hs.2 c ?_).trans q) (fun _ q => q) fun _ _ q => q
    rintro rfl
    rcases hc with rfl | hc
    · rw [hfree] at e; cases e
    · rw [hfree] at hc; cases hc
  rcases hx with hk | hk
  · refine wpAny_storeName_local hk hn (fun h' hn' hs => ?_) hcls
    obtain ⟨oL, _, _, hoL, _⟩ := id hn
    refine h _ ⟨I.ok, I.os, I.bare, ⟨fun b o e n hb hx => ?_, fun b o e n hb hx => ?_, I.base.free, fun b o e hx => ?_, I.base.tups, I.base.frzs, I.base.tbls⟩, ⟨_, hn', fun j y v' e1 e2 e3 => ?_⟩, fun y c e => ?_, I.free, I.freeC, fun p hp => ?_, tracked ⟨oL, hoL, I.free⟩ hs, by simpa using I.len⟩ ⟨_, hs, .inl rfl⟩
    · exact (hs.2 b (Nat.ne_of_lt (Nat.lt_of_lt_of_le (Heap.lt_size e) I.ok.above))).trans (I.base.keep b o e n hb hx)
    · obtain ⟨sl, e1⟩ := I.base.slot b o e n hb hx
      exact ⟨sl, (hs.2 b (Nat.ne_of_lt (Nat.lt_of_lt_of_le (Heap.lt_size e) I.ok.above))).trans e1⟩
    · obtain ⟨o', e1⟩ := I.base.there b o e hx
      exact ⟨o', (hs.2 b (Nat.ne_of_lt (Nat.lt_of_lt_of_le (Heap.lt_size e) I.ok.above))).trans e1⟩
    · by_cases hj : j = i
      · subst hj
        rw [hi] at e1; cases e1
        rw [List.getElem?_set_self hiσ] at e2
        cases e2
        exact ⟨u, r, .inl ⟨hk, by simp⟩⟩
      · rw [List.getElem?_set_ne (Ne.symm hj)] at e2
        obtain ⟨u', r', q⟩ := hl j y v' e1 e2 e3
        refine ⟨u', r', ?_⟩
        rcases q with ⟨k, e⟩ | ⟨k, c, e, z⟩
        · refine .inl ⟨k, ?_⟩
          have : y ≠ x := fun e => hj (VZ hN e1 (e ▸ hi))
          simp [this, e]
        · exact .inr ⟨k, c, e, z.sameBut hs (cne y c e)⟩
    · obtain ⟨w', z⟩ := I.cell y c e
      exact ⟨w', z.sameBut hs (cne y c e)⟩
    · obtain ⟨e, n, ne, nf, d⟩ := I.pin p hp
      exact ⟨(hs.2 p.1 ne).trans e, n, ne, nf, d⟩
  · have hfn : X.fn x = true := by
      rcases hf with z | z
      · exact z
      · rw [z] at hk; cases hk
    obtain ⟨c, hc⟩ := I.ok.has x (.inl hk)
    obtain ⟨w', z⟩ := I.cell x c hc
    refine wpAny_storeName_cell I.ok.kind hk hc z (fun h' hc' hs => ?_)
    obtain ⟨oc, hoc, hocd⟩ := id z
    refine h { s with heap := h' } ⟨I.ok, I.os, I.bare, ⟨fun b o e n hb hx => ?_, fun b o e n hb hx => ?_, I.base.free, fun b o e hx => ?_, I.base.tups, I.base.frzs, I.base.tbls⟩, ⟨m, hn.sameBut hs (Ne.symm (cne x c hc)), fun j y v' e1 e2 e3 => ?_⟩, fun y c' e => ?_, I.free, I.freeC, fun p hp => ?_, tracked ⟨oc, hoc, I.freeC x c hc⟩ hs, by simpa using I.len⟩ ⟨c, hs, .inr hc⟩
    · exact (hs.2 b (Nat.ne_of_lt (Nat.lt_of_lt_of_le (Heap.lt_size e) (I.ok.cab x c hfn hc)))).trans (I.base.keep b o e n hb hx)
    · obtain ⟨sl, e1⟩ := I.base.slot b o e n hb hx
      exact ⟨sl, (hs.2 b (Nat.ne_of_lt (Nat.lt_of_lt_of_le (Heap.lt_size e) (I.ok.cab x c hfn hc)))).trans e1⟩
    · obtain ⟨o', e1⟩ := I.base.there b o e hx
      exact ⟨o', (hs.2 b (Nat.ne_of_lt (Nat.lt_of_lt_of_le (Heap.lt_size e) (I.ok.cab x c hfn hc)))).trans e1⟩
    · by_cases hj : j = i
      · subst hj
        rw [hi] at e1; cases e1
        rw [List.getElem?_set_self hiσ] at e2
        cases e2
        exact ⟨u, r, .inr ⟨.inl hk, c, hc, hc'⟩⟩
      · rw [List.getElem?_set_ne (Ne.symm hj)] at e2
        obtain ⟨u', r', q⟩ := hl j y v' e1 e2 e3
        refine ⟨u', r', ?_⟩
        rcases q with q | ⟨k, c', e, z'⟩
        · exact .inl q
        · refine .inr ⟨k, c', e, z'.sameBut hs ?_⟩
          rintro rfl
          exact hj (VZ hN e1 (I.ok.inj _ _ _ e hc ▸ hi))
    · by_cases hcc : c' = c
      · subst hcc; exact ⟨_, hc'⟩
      · obtain ⟨w2, z2⟩ := I.cell y c' e
        exact ⟨w2, z2.sameBut hs hcc⟩
    · obtain ⟨e, n, ne, nf, d⟩ := I.pin p hp
      refine ⟨(hs.2 p.1 ?_).trans e, n, ne, nf, d⟩
      intro q
      rw [q, hoc] at e
      have q' : oc = p.2 := Option.some.inj e
      exact d w' (by rw [← q']; exact hocd)
theorem Vz {M : Model} {A : Around} {E : Value → Shared → Prop} {i : Nat} {x : Str} {v : V} {u : Value} {Q : Unit → Shared → Prop} (I : Inv X pins σ H s) (hN : X.N.Nodup) (hi : X.N[i]? = some x) (hx : Loc X.env.scope x) (r : xm v u)
    (h : ∀ s', Inv X pins (σ.set i (some v)) H s' → Q () s') (hf : X.fn x = true ∨ X.env.scope.names.lookup x = some .local := by first | exact .inl rfl | exact .inr rfl | assumption) : wpAny M A (storeName X.env x u) Q E s :=
  zcD I hN hi hx r (fun s' I' _ => h s' I') hf
theorem Inv.call' {s' : Shared} {ch : List Addr} (I : Inv X pins σ H s) (ho : s'.os = s.os) (u : Un (frs X.stack) ch H H' s.heap s'.heap) (hok : HOk X.prog X.w H' s'.heap) (hg : AllBare s'.gens)
    (hch : ∀ b ∈ ch, (b ∈ X.ex ∨ X.s₀.heap.objs.size ≤ b) ∧ b ≠ X.env.locals ∧ (∀ x c, X.env.cells.lookup x = some c → c ≠ b) ∧ ∀ p ∈ X.pn ++ pins, p.1 ≠ b) : Inv X pins σ H' s' := by
  obtain ⟨h', g', d', t', o'⟩ := s'
  have e : o' = s.os := ho
  subst e
  exact I.call (g' := g') (t' := t') (d' := d') u hok hg hch
end
noncomputable abbrev XK := Value → Option Addr → Hp → Prop
noncomputable abbrev St := List (Option V)
noncomputable abbrev VK := V → Hp → Prop
noncomputable abbrev TE := St → Hp → VK → Prop
noncomputable abbrev TT := St → Hp → (Bool → Hp → Prop) → Prop
noncomputable abbrev TA := St → Hp → (List V → Hp → Prop) → Prop
structure zd8 where
  nx : St → Hp → Prop
  rt : VK
  bk : St → Hp → Prop := fun _ _ => False
  ct : St → Hp → Prop := fun _ _ => False
noncomputable abbrev TS := zd8 → St → Hp → Prop
noncomputable def EP (X : Cx) (pins : List (Addr × Obj)) (σ : St) (Q : VK) (u : Value) (s' : Shared) : Prop := ∃ v H', Inv X pins σ H' s' ∧ xm v u ∧ Q v H'
noncomputable def TP (X : Cx) (pins : List (Addr × Obj)) (σ : St) (Q : Bool → Hp → Prop) (b : Bool) (s' : Shared) : Prop := ∃ H', Inv X pins σ H' s' ∧ Q b H'
noncomputable def AP (X : Cx) (pins : List (Addr × Obj)) (σ : St) (Q : List V → Hp → Prop) (us : List Value) (s' : Shared) : Prop := ∃ vs H', Inv X pins σ H' s' ∧ yh vs us ∧ Q vs H'
noncomputable def SP (X : Cx) (pins : List (Addr × Obj)) (D : zd8) (f : Flow) (s' : Shared) : Prop :=
  match f with
  | .next => ∃ σ' H', Inv X pins σ' H' s' ∧ D.nx σ' H'
  | .brk => ∃ σ' H', Inv X pins σ' H' s' ∧ D.bk σ' H'
  | .cont => ∃ σ' H', Inv X pins σ' H' s' ∧ D.ct σ' H'
  | .ret u => ∃ v σ' H', Inv X pins σ' H' s' ∧ xm v u ∧ D.rt v H'
noncomputable def PE (X : Cx) (e : Expr) (t : TE) : Prop :=
  ∀ (pins : List (Addr × Obj)) (s : Shared) (σ : St) (H : Hp) (Q : VK), Inv X pins σ H s → t σ H Q → wpAny (model X.prog X.w) X.A (eval e X.env) (EP X pins σ Q) X.xe s
noncomputable def PT (X : Cx) (e : Expr) (t : TT) : Prop :=
  ∀ (pins : List (Addr × Obj)) (s : Shared) (σ : St) (H : Hp) (Q : Bool → Hp → Prop), Inv X pins σ H s → t σ H Q → wpAny (model X.prog X.w) X.A (isTrue e X.env (eval e X.env)) (TP X pins σ Q) X.xe s
noncomputable def PW (X : Cx) (e : Expr) (t : TT) : Prop :=
  ∀ (whole : Sem Value) (pins : List (Addr × Obj)) (s : Shared) (σ : St) (H : Hp) (Q : Bool → Hp → Prop), Inv X pins σ H s → t σ H Q → wpAny (model X.prog X.w) X.A (isTrue e X.env whole) (TP X pins σ Q) X.xe s
theorem PW.pt {X : Cx} {e : Expr} {t : TT} (h : PW X e t) : PT X e t := h _
noncomputable def PA (X : Cx) (es : List Expr) (t : TA) : Prop :=
  ∀ (pos : Pos) (pins : List (Addr × Obj)) (s : Shared) (σ : St) (H : Hp) (Q : List V → Hp → Prop), Inv X pins σ H s → t σ H Q → wpAny (model X.prog X.w) X.A (spliced (backTo pos (starEach es X.env))) (AP X pins σ Q) X.xe s
noncomputable def PS (X : Cx) (st : Stmt) (t : TS) : Prop :=
  ∀ (pins : List (Addr × Obj)) (s : Shared) (σ : St) (H : Hp) (D : zd8), Inv X pins σ H s → t D σ H → wpAny (model X.prog X.w) X.A (exec st X.env) (SP X pins D) X.xe s
noncomputable def PSs (X : Cx) (st : List Stmt) (t : TS) : Prop :=
  ∀ (pins : List (Addr × Obj)) (s : Shared) (σ : St) (H : Hp) (D : zd8), Inv X pins σ H s → t D σ H → wpAny (model X.prog X.w) X.A (execs st X.env) (SP X pins D) X.xe s
theorem thn {α : Type} {t : Sem α} {Q Q' : α → Shared → Prop} {M : Model} {A : Around} {E : Value → Shared → Prop} {s : Shared} (h : wpAny M A t Q E s) (hQ : ∀ a s, Q a s → Q' a s) : wpAny M A t Q' E s := wpAny_mono h hQ fun _ _ x => x
end L2
namespace L2
open PySem PySem.Spec PyProof.Rows
section
variable {X : Cx}
theorem bin {a b : Expr} {ta tb : TE} (ha : PE X a ta) (hb : PE X b tb) {pins : List (Addr × Obj)} {s : Shared} {σ : St} {H : Hp} {R : V → V → Hp → Prop} (I : Inv X pins σ H s) (h : ta σ H fun x H1 => tb σ H1 fun y H2 => R x y H2)
    {α : Type} {Q : α → Shared → Prop} {f : Value → Value → Sem α}
    (hf : ∀ v u s2 x y H2, Inv X pins σ H2 s2 → xm x v → xm y u → R x y H2 → wpAny (model X.prog X.w) X.A (f v u) Q X.xe s2) :
    wpAny (model X.prog X.w) X.A (eval a X.env) (fun v s₁ => wpAny (model X.prog X.w) X.A (eval b X.env) (fun u s₂ => wpAny (model X.prog X.w) X.A (f v u) Q X.xe s₂) X.xe s₁) X.xe s := by
  refine thn (ha pins s σ H _ I h) fun v s1 hh9 => ?_
  obtain ⟨x, H1, I1, r1, q1⟩ := hh9
  refine thn (hb pins s1 σ H1 _ I1 q1) fun u s2 hh9 => ?_
  obtain ⟨y, H2, I2, r2, q2⟩ := hh9
  exact hf v u s2 x y H2 I2 r1 r2 q2
noncomputable def zgq (i : Nat) : TE := fun σ H Q => ∃ v, σ[i]? = some (some v) ∧ Q v H
noncomputable def tC (v : V) : TE := fun _ H Q => Q v H
theorem zfk {i : Nat} {x : Str} {pos : Pos} (hN : X.N[i]? = some x) (hv : Vis X.env.scope x) (hd : (x == ("__debug__" : Str)) = false := by decide) (hcd : (x == ("__classdict__" : Str)) = false := by decide) : PE X (.Name x pos) (zgq i) := by
  intro pins s σ H Q I h
  obtain ⟨v, e, h⟩ := h
  obtain ⟨m, hn, hl⟩ := I.loc
  obtain ⟨u, r, l⟩ := hl i x v hN e hv
  have fin : EP X pins σ Q u s := ⟨v, H, I, r, h⟩
  rcases l with ⟨hk, hm⟩ | ⟨hk, c, hc, hcell⟩
  · exact wpAny_Name (wpAny_loadName_local I.ok.kind hk hn hm fin) hd
  · rcases hk with hk | hk
    · exact wpAny_Name (wpAny_loadName_cell I.ok.kind hk hc hcell fin) hd
    · exact wpAny_Name (wpAny_loadName_free I.ok.kind hk hc hcell fin hcd) hd
theorem zg {i j pos} : PE X (.Constant (.int i) j pos) (tC (.int i)) := fun _ _ _ H _ I h => wpAny_Constant_int ⟨.int i, H, I.tok _, ⟨_, rfl⟩, h⟩
theorem wN {b j pos} : PE X (.Constant (.bool b) j pos) (tC (.bl b)) := fun _ _ _ H _ I h => Constant_bool ⟨.bl b, H, I, rfl, h⟩
theorem zdW {j pos} : PE X (.Constant .none j pos) (tC .non) := fun _ _ _ H _ I h => Constant_none ⟨.non, H, I, rfl, h⟩
noncomputable def Gl (X : Cx) (x : Str) : Prop := X.env.kindOf x = some .globalImplicit
theorem zbF {E : Value → Shared → Prop} {pins : List (Addr × Obj)} {s : Shared} {σ : St} {H : Hp} {x : Str} {u : Value} {pos : Pos} {Q : Value → Shared → Prop} (I : Inv X pins σ H s) (hg : Gl X x) (hm : X.mg x = some u) (h : Q u s)
    (hd : (x == ("__debug__" : Str)) = false := by decide) : wpAny (model X.prog X.w) X.A (eval (.Name x pos) X.env) Q E s :=
  Calls.Name_function_global I.ok.kind hg (Calls.loadGlobal_global (by rw [I.ok.glob]; exact I.mod.glob.keeps I.bk) hm h) hd
theorem w8 {E : Value → Shared → Prop} {pins : List (Addr × Obj)} {s : Shared} {σ : St} {H : Hp} {x : Str} {u : Value} {pos : Pos} {Q : Value → Shared → Prop} (I : Inv X pins σ H s) (hg : Gl X x) (hm : X.mg x = none) (hv : bootBuiltins x = some u) (h : Q u s)
    (hn : x ≠ "__name__" := by decide) (hd : (x == ("__debug__" : Str)) = false := by decide) : wpAny (model X.prog X.w) X.A (eval (.Name x pos) X.env) Q E s := by
  obtain ⟨mb, h1, h2⟩ := I.mod.blt
  exact Calls.Name_function_global I.ok.kind hg (Calls.loadGlobal_builtin (by rw [I.ok.glob]; exact I.mod.glob.keeps I.bk) hm (by rw [I.ok.blt]; exact h1.keeps I.bk) ((h2 x hn).trans hv) h) hd
theorem zb7 {x : Str} {v : V} {u : Value} {pos : Pos} (hg : Gl X x) (hm : X.mg x = some u) (r : xm v u) (hd : (x == ("__debug__" : Str)) = false := by decide) : PE X (.Name x pos) (tC v) :=
  fun _ _ _ H _ I h => zbF I hg hm ⟨v, H, I, r, h⟩ hd
theorem wl {x : Str} {v : V} {u : Value} {pos : Pos} (hg : Gl X x) (hm : X.mg x = none) (hv : bootBuiltins x = some u) (r : xm v u) (hn : x ≠ "__name__" := by decide) (hd : (x == ("__debug__" : Str)) = false := by decide) : PE X (.Name x pos) (tC v) :=
  fun _ _ _ H _ I h => w8 I hg hm hv ⟨v, H, I, r, h⟩ hn hd
variable {a b : Expr} {ta tb : TE} {pos : Pos}
noncomputable def PC (X : Cx) (op : CmpOp) (a b : Expr) (t : TE) : Prop :=
  ∀ (pins : List (Addr × Obj)) (s : Shared) (σ : St) (H : Hp) (Q : VK), Inv X pins σ H s → t σ H Q →
    wpAny (model X.prog X.w) X.A (eval a X.env) (fun v s₁ => wpAny (model X.prog X.w) X.A (eval b X.env) (fun u s₂ => wpAny (model X.prog X.w) X.A (compareOp op v u) (EP X pins σ Q) X.xe s₂) X.xe s₁) X.xe s
theorem zdu (b : Expr) {op : CmpOp} (h : op ≠ .In) (h2 : op ≠ .NotIn) : behindInMarks op b = false := by
  have e1 : (op == CmpOp.In) = false := by cases op <;> first | rfl | exact absurd rfl h
  have e2 : (op == CmpOp.NotIn) = false := by cases op <;> first | rfl | exact absurd rfl h2
  cases b <;> simp [behindInMarks, e1, e2]
noncomputable def tB (t : TE) : TT := fun σ H Q => t σ H fun x H1 => ∃ c, x = .bl c ∧ Q c H1
theorem pt_cmp {op : CmpOp} {t : TE} (h : PC X op a b t) (h1 : behindInMarks op b = false := by first | exact zdu _ (by decide) (by decide) | rfl) : PT X (.Compare a [op] [b] pos) (tB t) := by
  intro pins s σ H Q I hw
  refine wpAny_isTrue_Compare1 (thn (h pins s σ H _ I hw) fun v s1 h1 => thn h1 fun u s2 h2 => thn h2 fun c s3 hh9 => ?_) h1
  obtain ⟨x, H1, I1, r1, q1⟩ := hh9
  obtain ⟨d, rfl, q⟩ := q1
  cases r1
  exact wpAny_truthy_bool ⟨H1, I1, q⟩
theorem zgE {e : Expr} {t : TE} (h : PE X e t) (he : ∀ whole, isTrue e X.env whole = (do let v ← whole; standAt e.pos; holding [v] (truthy v)) := by intro _; rfl) : PT X e (tB t) := by
  intro pins s σ H Q I hw
  refine isTrue_plain (thn (h pins s σ H _ I hw) fun v s1 hh9 => ?_) (he _)
  obtain ⟨x, H1, I1, r1, q1⟩ := hh9
  obtain ⟨d, rfl, q⟩ := q1
  cases r1
  exact wpAny_truthy_bool ⟨H1, I1, q⟩
variable {tA tB' : TT} {rest : List Expr}
noncomputable def tAnd (t u : TT) : TT := fun σ H Q => t σ H fun c H1 => if c = true then u σ H1 Q else Q false H1
noncomputable def tOr (t u : TT) : TT := fun σ H Q => t σ H fun c H1 => if c = true then Q true H1 else u σ H1 Q
noncomputable def tNot (t : TT) : TT := fun σ H Q => t σ H fun c H1 => Q (!c) H1
theorem zeM (ha : PT X a tA) : PW X (.BoolOp .And [a] pos) tA := by
  intro wh pins s σ H Q I h
  refine isTrue_and (thn (ha pins s σ H Q I h) fun c s1 e => ?_)
  cases c with
  | true => exact isTrue_and_nil e
  | false => exact e
theorem zgJ (ha : PT X a tA) : PW X (.BoolOp .Or [a] pos) tA := by
  intro wh pins s σ H Q I h
  refine isTrue_or (thn (ha pins s σ H Q I h) fun c s1 e => ?_)
  cases c with
  | false => exact isTrue_or_nil e
  | true => exact e
theorem zf7 (ha : PT X a tA) (hb : PW X (.BoolOp .And (b :: rest) pos) tB') : PW X (.BoolOp .And (a :: b :: rest) pos) (tAnd tA tB') := by
  intro wh pins s σ H Q I h
  refine isTrue_and (thn (ha pins s σ H _ I h) fun c s1 hh9 => ?_)
  obtain ⟨H1, I1, q1⟩ := hh9
  cases c with
  | true => exact hb wh pins s1 σ H1 Q I1 q1
  | false => exact ⟨H1, I1, q1⟩
theorem zhy (ha : PT X a tA) (hb : PW X (.BoolOp .Or (b :: rest) pos) tB') : PW X (.BoolOp .Or (a :: b :: rest) pos) (tOr tA tB') := by
  intro wh pins s σ H Q I h
  refine isTrue_or (thn (ha pins s σ H _ I h) fun c s1 hh9 => ?_)
  obtain ⟨H1, I1, q1⟩ := hh9
  cases c with
  | true => exact ⟨H1, I1, q1⟩
  | false => exact hb wh pins s1 σ H1 Q I1 q1
theorem zfT (ha : PT X a tA) : PT X (.UnaryOp .Not a pos) (tNot tA) := by
  intro pins s σ H Q I h
  exact isTrue_not (ha pins s σ H (fun c H1 => Q (!c) H1) I h)
noncomputable def zgY (ta tb : TE) : TE := fun σ H Q => ta σ H fun x H1 => ∃ c, x = .bl c ∧ if c = true then tb σ H1 Q else Q (.bl false) H1
noncomputable def zhb (ta : TE) : TE := fun σ H Q => ta σ H fun x H1 => ∃ c, x = .bl c ∧ Q (.bl (!c)) H1
theorem zfX {op} {t : TE} (h : PE X a t) : PE X (.BoolOp op [a] pos) t := fun pins s σ H Q I hw => BoolOp_one (h pins s σ H Q I hw)
theorem zgg (ha : PE X a ta) (hb : PE X (.BoolOp .And (b :: rest) pos) tb) : PE X (.BoolOp .And (a :: b :: rest) pos) (zgY ta tb) := by
  intro pins s σ H Q I h
  refine BoolOp_and (thn (ha pins s σ H _ I h) fun v s1 hh9 => ?_)
  obtain ⟨x, H1, I1, r1, q1⟩ := hh9
  obtain ⟨c, rfl, q1⟩ := q1
  cases r1
  refine wpAny_truthy_bool ?_
  cases c with
  | true => exact hb pins s1 σ H1 Q I1 q1
  | false => exact ⟨.bl false, H1, I1, rfl, q1⟩
theorem zgy (ha : PE X a ta) : PE X (.UnaryOp .Not a pos) (zhb ta) := by
  intro pins s σ H Q I h
  refine UnaryOp_ (thn (ha pins s σ H _ I h) fun v s1 hh9 => ?_)
  obtain ⟨x, H1, I1, r1, q1⟩ := hh9
  obtain ⟨c, rfl, q1⟩ := q1
  cases r1
  exact not_of (wpAny_truthy_bool ⟨.bl (!c), H1, I1, rfl, q1⟩)
end
end L2
namespace L2
open PySem PySem.Spec PyProof.Rows
noncomputable def SqL (K : PySem.W.Frag) (H : Hp) (a : Addr) (xs : List V) : Prop :=
  Rd H a (.lst xs) ∨
    ∃ (o : Obj) (its : Array Value) (n : Nat), K.lookup a = some o ∧ o.cls = .type "list" ∧ o.dict = none ∧ o.data = .seq its n ∧ its.size ≤ sizeLine ∧ yh xs its.toList
noncomputable def SqT (K : PySem.W.Frag) (H : Hp) (a : Addr) (xs : List V) : Prop :=
  Rd H a (.tup xs) ∨
    ∃ (o : Obj) (its : Array Value) (n : Nat), K.lookup a = some o ∧ o.cls = .type "tuple" ∧ o.data = .seq its n ∧ its.size ≤ sizeLine ∧ yh xs its.toList
noncomputable def absV : Value → Option V
  | .none => some .non
  | .bool b => some (.bl b)
  | .int i _ => some (.int i)
  | .str x _ => some (.str x)
  | .bytes b _ => some (.byt b)
  | .float b _ => some (.flt b)
  | .ref a => some (.ref a)
  | .type n => some (.ty n)
  | _ => none
theorem xm.abs {x : V} {u : Value} (r : xm x u) : absV u = some x := by
  cases x with
  | non => cases r; rfl
  | bl _ => cases r; rfl
  | int _ => obtain ⟨t, rfl⟩ := r; rfl
  | str _ => obtain ⟨t, rfl⟩ := r; rfl
  | byt _ => obtain ⟨t, rfl⟩ := r; rfl
  | flt _ => obtain ⟨t, rfl⟩ := r; rfl
  | ref _ => cases r; rfl
  | ty _ => cases r; rfl
theorem xm.inj {x y : V} {u : Value} (r : xm x u) (q : xm y u) : x = y := Option.some.inj (r.abs.symm.trans q.abs)
theorem yh.inj : ∀ {xs ys : List V} {us : List Value}, yh xs us → yh ys us → xs = ys := by
  intro xs ys us h
  induction h generalizing ys with
  | nil => intro h2; cases h2; rfl
  | cons r t ih => intro h2; cases h2 with | cons r' t' => rw [r.inj r', ih t']
section
variable {X : Cx} {pins : List (Addr × Obj)} {σ : St} {H : Hp} {s : Shared} {a : Addr} {xs ys : List V}
theorem SqL.of {K : PySem.W.Frag} (h : H a = some (.lst xs)) : SqL K H a xs := .inl (.inl h)
theorem SqT.of {K : PySem.W.Frag} (h : H a = some (.tup xs)) : SqT K H a xs := .inl (.inl h)
theorem Inv.list (I : Inv X pins σ H s) (h : SqL X.K H a xs) : ∃ its : List Value, yh xs its ∧ PlainL s.heap a its.toArray ∧ xs.length ≤ sizeLine := by
  rcases h with h | ⟨o, its, n, hk, hc, hd, hs, hz, r⟩
  · obtain ⟨z, its, n, r, e⟩ := h.ok I.hok
    exact ⟨its, r, ⟨_, n, e, rfl, rfl, rfl⟩, z⟩
  · refine ⟨its.toList, r, ⟨o, n, I.kIn a o hk, hc, hd, by simpa using hs⟩, ?_⟩
    have e := r.length
    simp only [Array.length_toList] at e
    omega
theorem Inv.tuple (I : Inv X pins σ H s) (h : SqT X.K H a xs) : ∃ its : List Value, yh xs its ∧ IsTup s.heap a its.toArray ∧ xs.length ≤ sizeLine := by
  rcases h with h | ⟨o, its, n, hk, hc, hs, hz, r⟩
  · obtain ⟨z, its, r, p⟩ := h.ok I.hok
    exact ⟨its, r, p, z⟩
  · refine ⟨its.toList, r, ⟨o, I.kIn a o hk, hc, n, by simpa using hs⟩, ?_⟩
    have e := r.length
    simp only [Array.length_toList] at e
    omega
theorem Inv.list_inj (I : Inv X pins σ H s) (h : SqL X.K H a xs) (h' : SqL X.K H a ys) : xs = ys := by
  obtain ⟨its, r, ⟨o, n, e, _, _, d⟩, _⟩ := I.list h
  obtain ⟨its', r', ⟨o', n', e', _, _, d'⟩, _⟩ := I.list h'
  rw [e] at e'; cases e'
  rw [d] at d'
  injection d' with d1 _
  have : its = its' := by simpa using congrArg Array.toList d1
  subst this
  exact r.inj r'
theorem Inv.tuple_inj (I : Inv X pins σ H s) (h : SqT X.K H a xs) (h' : SqT X.K H a ys) : xs = ys := by
  obtain ⟨its, r, ⟨o, e, _, n, d⟩, _⟩ := I.tuple h
  obtain ⟨its', r', ⟨o', e', _, n', d'⟩, _⟩ := I.tuple h'
  rw [e] at e'; cases e'
  rw [d] at d'
  injection d' with d1 _
  have : its = its' := by simpa using congrArg Array.toList d1
  subst this
  exact r.inj r'
end
noncomputable abbrev Cx.wish (X : Cx) (E : Value → Shared → Prop) : Cx := { X with xe := E }
noncomputable abbrev Cx.nox (X : Cx) : Cx := X.wish fun _ _ => False
theorem Cx.Ok.wish {X : Cx} (ok : X.Ok) (E : Value → Shared → Prop) : (X.wish E).Ok :=
  ⟨ok.mod, ok.kind, ok.glob, ok.blt, ok.above, ok.inj, ok.has, ok.cab, ok.hd, ok.frames, ok.stk, ok.exf, ok.bs, ok.bsz, ok.noex, ok.exfs, ok.funs, ok.frf⟩
theorem Cx.Ok.unwish {X : Cx} {E : Value → Shared → Prop} (ok : (X.wish E).Ok) : X.Ok :=
  ⟨ok.mod, ok.kind, ok.glob, ok.blt, ok.above, ok.inj, ok.has, ok.cab, ok.hd, ok.frames, ok.stk, ok.exf, ok.bs, ok.bsz, ok.noex, ok.exfs, ok.funs, ok.frf⟩
section
variable {X : Cx} {pins : List (Addr × Obj)} {σ : St} {H : Hp} {s : Shared} {E : Value → Shared → Prop}
theorem Inv.wish (I : Inv X pins σ H s) (E : Value → Shared → Prop) : Inv (X.wish E) pins σ H s := ⟨I.ok.wish E, I.os, I.bare, I.base, I.loc, I.cell, I.free, I.freeC, I.pin, I.hok, I.len⟩
theorem Inv.unwish (I : Inv (X.wish E) pins σ H s) : Inv X pins σ H s := ⟨I.ok.unwish, I.os, I.bare, I.base, I.loc, I.cell, I.free, I.freeC, I.pin, I.hok, I.len⟩
theorem SP.unwish {D : zd8} {f : Flow} {s' : Shared} (h : SP (X.wish E) pins D f s') : SP X pins D f s' := by
  cases f with
  | next => obtain ⟨σ', H', I, q⟩ := h; exact ⟨σ', H', I.unwish, q⟩
  | brk => obtain ⟨σ', H', I, q⟩ := h; exact ⟨σ', H', I.unwish, q⟩
  | cont => obtain ⟨σ', H', I, q⟩ := h; exact ⟨σ', H', I.unwish, q⟩
  | ret u => obtain ⟨v, σ', H', I, r, q⟩ := h; exact ⟨v, σ', H', I.unwish, r, q⟩
theorem PSs.nox {st : List Stmt} {t : TS} (h : PSs X.nox st t) : PSs X st t := fun pins s σ H D I hw =>
  wpAny_mono (h pins s σ H D (I.wish _) hw) (fun _ _ q => q.unwish) fun _ _ z => False.elim z
end
section
variable {X : Cx} {st : Stmt} {rest : List Stmt} {t u : TS} {e : Expr} {te : TE} {pos : Pos}
noncomputable def zha : TS := fun D σ H => D.nx σ H
noncomputable def tSeq (t u : TS) : TS := fun D σ H => t { D with nx := u D } σ H
theorem zez : PSs X [] zha := fun _ _ σ H _ I h => wpAny_execs_nil ⟨σ, H, I, h⟩
theorem zc1 (h1 : PS X st t) (h2 : PSs X rest u) : PSs X (st :: rest) (tSeq t u) := by
  intro pins s σ H D I h
  refine wpAny_execs_cons (thn (h1 pins s σ H { D with nx := u D } I h) fun f s1 q => ?_)
  cases f with
  | next =>
    obtain ⟨σ', H', I', q⟩ := q
    exact h2 pins s1 σ' H' D I' q
  | ret v => exact q
  | brk => exact q
  | cont => exact q
theorem ze5 (h1 : PS X st t) : PSs X [st] t := by
  intro pins s σ H D I h
  refine wpAny_execs_cons (thn (h1 pins s σ H D I h) fun f s1 q => ?_)
  cases f with
  | next => exact wpAny_execs_nil q
  | ret v => exact q
  | brk => exact q
  | cont => exact q
theorem Inv.quiet {pins : List (Addr × Obj)} {σ : St} {H : Hp} {s : Shared} (I : Inv X pins σ H s) : interactive X.env = false := by simp [interactive, I.ok.kind]
noncomputable def zhe (te : TE) : TS := fun D σ H => te σ H fun _ H1 => D.nx σ H1
theorem Vs (he : PE X e te) (hs : swapsWith e none pos.line X.env = pure false := by rfl) : PS X (.Expr e pos) (zhe te) := by
  intro pins s σ H D I h
  exact wpAny_Expr_any (thn (he pins s σ H _ I h) fun v s1 ⟨x, H1, I1, r1, q1⟩ => ⟨σ, H1, I1, q1⟩) I.quiet hs
noncomputable def tRet (te : TE) : TS := fun D σ H => te σ H D.rt
theorem zgK (he : PE X e te) : PS X (.Return (some e) pos) (tRet te) := by
  intro pins s σ H D I h
  exact wpAny_Return_some (thn (he pins s σ H _ I h) fun v s1 ⟨x, H1, I1, r1, q1⟩ => ⟨x, σ, H1, I1, r1, q1⟩)
noncomputable def tIfS (c : TT) (t u : TS) : TS := fun D σ H => c σ H fun b H1 => if b = true then t D σ H1 else u D σ H1
theorem zhd {c : Expr} {a b : List Stmt} {tc : TT} (hc : PT X c tc) (ha : PSs X a t) (hb : PSs X b u) : PS X (.If c a b pos) (tIfS tc t u) := by
  intro pins s σ H D I h
  refine wpAny_If (thn (hc pins s σ H _ I h) fun d s1 hh9 => ?_)
  obtain ⟨H1, I1, q1⟩ := hh9
  cases d with
  | true => exact ha pins s1 σ H1 D I1 q1
  | false => exact hb pins s1 σ H1 D I1 q1
noncomputable def zgB : TS := fun _ _ _ => False
theorem zdl : PS X st zgB := fun _ _ _ _ _ _ h => h.elim
end
noncomputable abbrev TG := V → St → Hp → (St → Hp → Prop) → Prop
noncomputable abbrev TGs := List V → St → Hp → (St → Hp → Prop) → Prop
noncomputable def PG (X : Cx) (target : Expr) (t : TG) : Prop :=
  ∀ (pins : List (Addr × Obj)) (s : Shared) (σ : St) (H : Hp) (v : V) (u : Value) (Q : St → Hp → Prop), Inv X pins σ H s → xm v u → t v σ H Q →
    wpAny (model X.prog X.w) X.A (assign target X.env u) (fun _ s' => ∃ σ' H', Inv X pins σ' H' s' ∧ Q σ' H') X.xe s
noncomputable def PGs (X : Cx) (ts : List Expr) (t : TGs) : Prop :=
  ∀ (pins : List (Addr × Obj)) (s : Shared) (σ : St) (H : Hp) (vs : List V) (us : List Value) (Q : St → Hp → Prop), Inv X pins σ H s → yh vs us → t vs σ H Q →
    wpAny (model X.prog X.w) X.A (assignInOrder ((assignEach ts X.env).map (·.2)) us) (fun _ s' => ∃ σ' H', Inv X pins σ' H' s' ∧ Q σ' H') X.xe s
section
variable {X : Cx} {pos : Pos}
noncomputable def vP (i : Nat) : TG := fun v σ H Q => Q (σ.set i (some v)) H
theorem zt {i : Nat} {x : Str} (hN : X.N.Nodup) (hi : X.N[i]? = some x) (hx : Loc X.env.scope x) (hf : X.fn x = true ∨ X.env.scope.names.lookup x = some .local := by first | exact .inl rfl | exact .inr rfl | assumption) : PG X (.Name x pos) (vP i) := by
  intro pins s σ H v u Q I r h
  exact wpAny_assign_Name (Vz I hN hi hx r (fun s' I' => ⟨_, H, I', h⟩) hf)
noncomputable def zgX : TGs := fun vs σ H Q => vs = [] ∧ Q σ H
noncomputable def W3 (t : TG) (u : TGs) : TGs := fun vs σ H Q => ∃ v r, vs = v :: r ∧ t v σ H fun σ' H' => u r σ' H' Q
theorem Xw : PGs X [] zgX := by
  intro pins s σ H vs us Q I r h
  obtain ⟨e, h⟩ := h
  subst e
  cases r
  exact assignInOrder_nil ⟨σ, H, I, h⟩
theorem wG {e : Expr} {es : List Expr} {t : TG} {u : TGs} (h1 : PG X e t) (h2 : PGs X es u)
    (hs : (assignEach (e :: es) X.env).map (·.2) = assign e X.env :: (assignEach es X.env).map (·.2) := by rfl) : PGs X (e :: es) (W3 t u) := by
  intro pins s σ H vs us Q I r h
  obtain ⟨v, vr, e1, h⟩ := h
  subst e1
  cases r with
  | cons r rr =>
    rw [hs]
    refine assignInOrder_cons (thn (h1 pins s σ H _ _ _ I r h) fun _ s1 hh9 => ?_)
    obtain ⟨σ1, H1, I1, q1⟩ := hh9
    exact h2 pins s1 σ1 H1 _ _ Q I1 rr q1
noncomputable def zgT (K : PySem.W.Frag) (n : Nat) (t : TGs) : TG := fun v σ H Q => ∃ a xs, v = .ref a ∧ SqT K H a xs ∧ xs.length = n ∧ t xs σ H Q
theorem VM {es : List Expr} {k : Nat} {t : TGs} {n : Nat} (hc : X.calm = true) (h : PGs X es t)
    (hn : (assignEach es X.env).length = n := by rfl) (hst : (assignEach es X.env).findIdx? (·.1) = none := by rfl) : PG X (.Tuple es k pos) (zgT X.K n t) := by
  intro pins s σ H v u Q I r hw
  obtain ⟨a, xs, e1, hq, hl, hw⟩ := hw
  subst e1
  cases r
  obtain ⟨its, rv, ht, hz⟩ := I.tuple hq
  refine assign_Tuple_tuple (I.ok.hd hc) ht (by simp [hn, ← hl, rv.length]) hst fun h' hx => ?_
  have I1 : Inv X pins σ H { s with heap := h' } := I.kept (t' := s.toks) fun b o e => hx b o (Nat.ne_of_lt (Heap.lt_size e)) e
  exact h pins _ σ H xs _ Q I1 (by simpa using rv) hw
noncomputable def zgP (te : TE) (g : TG) : TS := fun D σ H => te σ H fun x H1 => g x σ H1 D.nx
theorem zd6 {i : Nat} {x : Str} {e : Expr} {te : TE} {pos' : Pos} (hN : X.N.Nodup) (hi : X.N[i]? = some x) (hx : Loc X.env.scope x) (he : PE X e te) (hs : swapsWith e (some (.Name x pos')) pos.line X.env = pure false := by rfl) (hf : X.fn x = true ∨ X.env.scope.names.lookup x = some .local := by first | exact .inl rfl | exact .inr rfl | assumption) :
    PS X (.Assign [.Name x pos'] e pos) (zgP te (vP i)) := by
  intro pins s σ H D I h
  refine wpAny_Assign_Name (thn (he pins s σ H _ I h) fun v s1 hh9 => ?_) hs
  obtain ⟨y, H1, I1, r1, q1⟩ := hh9
  exact Vz I1 hN hi hx r1 (fun s2 I2 => ⟨_, H1, I2, q1⟩) hf
end
section
variable {X : Cx} {pos : Pos}
noncomputable def zfh (c : TT) (tb : TS) : TS := fun D σ H => ∃ W : Nat → St → Hp → Prop, (∃ m, W m σ H) ∧ ∀ m σ H, W m σ H →
  c σ H fun b H1 => if b = true then ∃ N : St → Hp → Prop, (∀ σ' H', N σ' H' → ∃ m', m' < m ∧ W m' σ' H') ∧ tb { D with nx := N, ct := N, bk := D.nx } σ H1 else D.nx σ H1
theorem zdn {c : Expr} {body : List Stmt} {tc : TT} {tb : TS} (hp : PassesOwn (model X.prog X.w) X.A X.env X.xe) (hc : PT X c tc) (hb : PSs X body tb) : PS X (.While c body [] pos) (zfh tc tb) := by
  intro pins s σ H D I h
  obtain ⟨W, ⟨m0, w0⟩, turn⟩ := h
  refine wpAny_While (codeAny_whileLoop (fun n s' => ∃ σ' H', Inv X pins σ' H' s' ∧ W n σ' H') ?_ m0 ⟨σ, H, I, w0⟩)
  rintro n s1 ⟨σ1, H1, I1, w1⟩
  refine wpAny_passesOwn hp (thn (hc pins s1 σ1 H1 _ I1 (turn n σ1 H1 w1)) fun b s2 hh9 => ?_)
  obtain ⟨H2, I2, q2⟩ := hh9
  cases b with
  | true =>
    obtain ⟨N, hN, q2⟩ := q2
    rw [if_pos rfl]
    refine wpAny_passesOwn hp (thn (hb pins s2 σ1 H2 _ I2 q2) fun f s3 q3 => ?_)
    cases f with
    | next =>
      obtain ⟨σ3, H3, I3, n3⟩ := q3
      obtain ⟨m', hm, w3⟩ := hN σ3 H3 n3
      exact ⟨m', hm, σ3, H3, I3, w3⟩
    | cont =>
      obtain ⟨σ3, H3, I3, n3⟩ := q3
      obtain ⟨m', hm, w3⟩ := hN σ3 H3 n3
      exact ⟨m', hm, σ3, H3, I3, w3⟩
    | brk => exact q3
    | ret v => exact q3
  | false =>
    rw [if_neg Bool.false_ne_true]
    exact wpAny_execs_nil ⟨σ1, H2, I2, q2⟩
end
structure It where
  go : Nat → Hp → Prop
  yld : Nat → Hp → V → Hp → Prop
  stop : Nat → Hp → Prop
noncomputable def WO (X : Cx) (pins : List (Addr × Obj)) (H : Hp) (b : Addr) : Prop :=
  H b = none ∧ b ≠ X.env.locals ∧ b ∉ X.fs ∧ (b ∈ X.ex ∨ X.s₀.heap.objs.size ≤ b) ∧ (∀ x c, X.env.cells.lookup x = some c → c ≠ b) ∧ ∀ p ∈ X.pn ++ pins, p.1 ≠ b
theorem Inv.fpOk {X : Cx} {pins : List (Addr × Obj)} {σ : St} {H H' : Hp} {s : Shared} {b : Addr} (I : Inv X pins σ H s) (hb : s.heap.objs.size ≤ b) (hn : H' b = none) : WO X pins H' b := by
  refine ⟨hn, Nat.ne_of_gt (Nat.lt_of_lt_of_le I.lt hb), I.nofs hb, .inr (Nat.le_trans I.sz hb), fun x c e z => ?_, fun p hp z => ?_⟩
  · obtain ⟨v, q⟩ := I.cell x c e
    exact absurd (Nat.lt_of_lt_of_le q.lt (by rw [z]; exact hb)) (Nat.lt_irrefl _)
  · exact absurd (Nat.lt_of_lt_of_le (Heap.lt_size (I.pin p hp).1) (by rw [z]; exact hb)) (Nat.lt_irrefl _)
set_option genInjectivity false in
set_option genSizeOf false in
set_option genCtorIdx false in
structure zeI (P : Program) (w : World) (K : PySem.W.Frag) (tg : Expr) (J : It) (fp : List Addr) (it : Addr) (tn : Nat → Heap → Prop) : Prop where
  mem : it ∈ fp
  obj : ∀ i h, tn i h → ∀ b ∈ fp, ∃ o, h.get? b = some o ∧ ∀ v, o.data ≠ .cell v
  keep : ∀ i h h', tn i h → (∀ b ∈ fp, ∀ o, h.get? b = some o → h'.get? b = some o) → tn i h'
  item : ∀ (X : Cx), X.prog = P → X.w = w → X.K = K → X.calm = true → ∀ (i : Nat) (pins : List (Addr × Obj)) (s : Shared) (σ : St) (H : Hp) (E : Value → Shared → Prop), Inv X pins σ H s → (∀ b ∈ fp, WO X pins H b) → tn i s.heap → J.go i H →
    wpAny (model P w) X.A (pyNext (.ref it)) (fun r s1 => ∃ u, r = some u ∧
      wpAny (model P w) X.A (letOwnedTupleGo tg (.ref it) u) (fun _ s2 => ∃ x H', Inv X pins σ H' s2 ∧ xm x u ∧ J.yld i H x H' ∧ tn (i + 1) s2.heap ∧ ∀ b ∈ fp, H' b = none) E s1) E s
  done : ∀ (X : Cx), X.prog = P → X.w = w → X.K = K → X.calm = true → ∀ (i : Nat) (pins : List (Addr × Obj)) (s : Shared) (σ : St) (H : Hp) (E : Value → Shared → Prop), Inv X pins σ H s → (∀ b ∈ fp, WO X pins H b) → tn i s.heap → J.stop i H →
    wpAny (model P w) X.A (pyNext (.ref it)) (fun r s1 => r = none ∧ Inv X pins σ H s1) E s
  self : ∀ (A : Around) (i : Nat) (s : Shared) (Q : Value → Shared → Prop) (E : Value → Shared → Prop), tn i s.heap → Q (.ref it) s → wpAny (model P w) A (pyIter (.ref it)) Q E s
noncomputable abbrev TI := St → Hp → (It → Hp → Prop) → Prop
noncomputable def PIE (X : Cx) (pins : List (Addr × Obj)) (σ : St) (tg : Expr) (R : It → Hp → Prop) (itv : Value) (s2 : Shared) : Prop :=
  ∃ (it : Addr) (fp : List Addr) (tn : Nat → Heap → Prop) (J : It) (H' : Hp), itv = .ref it ∧ Inv X pins σ H' s2 ∧ zeI X.prog X.w X.K tg J fp it tn ∧ tn 0 s2.heap ∧ (∀ b ∈ fp, WO X pins H' b) ∧ R J H'
noncomputable def PI (X : Cx) (tg iter : Expr) (wi : TI) : Prop :=
  ∀ (pins : List (Addr × Obj)) (s : Shared) (σ : St) (H : Hp) (R : It → Hp → Prop), Inv X pins σ H s → wi σ H R →
    wpAny (model X.prog X.w) X.A (eval iter X.env) (fun v s1 => wpAny (model X.prog X.w) X.A (pyIter v) (PIE X pins σ tg R) X.xe s1) X.xe s
theorem zem {M : Model} {A : Around} {E : Value → Shared → Prop} {s : Shared} {tg : Expr} {it : Addr} {u : Value} {o : Obj} {n : String} {vs : Array Value} {Q : Unit → Shared → Prop} (ho : s.heap.get? it = some o) (hc : o.cls = .type n) (hd : o.data = .fields vs)
    (hn : ["enumerate", "zip", "dict_itemiterator", "dict_reverseitemiterator", "odict_iterator", "itertools.zip_longest", "itertools.pairwise"].contains n = false) (hQ : Q () s) : wpAny M A (letOwnedTupleGo tg (.ref it) u) Q E s := by
  unfold letOwnedTupleGo
  cases tg <;> first
    | exact wpAny_pure hQ
    | (cases u <;> first
        | exact wpAny_pure hQ
        | (refine wpAny_bind (wpAny_load ho ?_)
           rw [hc, hd]
           show wpAny M A (if (["enumerate", "zip", "dict_itemiterator", "dict_reverseitemiterator", "odict_iterator", "itertools.zip_longest", "itertools.pairwise"].contains n && vs[0]? == some (rawInt _)) = true then _ else _) Q E s
           rw [if_neg (by intro h; rw [hn, Bool.false_and] at h; cases h)]
           exact wpAny_pure hQ))
noncomputable def Itl (K : PySem.W.Frag) (a : Addr) : It :=
  ⟨fun i H => ∃ xs x, SqL K H a xs ∧ xs[i]? = some x, fun i H x H' => H' = H ∧ ∀ xs, SqL K H a xs → xs[i]? = some x, fun i H => ∃ xs, SqL K H a xs ∧ xs.length ≤ i⟩
noncomputable def Itt (K : PySem.W.Frag) (a : Addr) : It :=
  ⟨fun i H => ∃ xs x, SqT K H a xs ∧ xs[i]? = some x, fun i H x H' => H' = H ∧ ∀ xs, SqT K H a xs → xs[i]? = some x, fun i H => ∃ xs, SqT K H a xs ∧ xs.length ≤ i⟩
noncomputable def Itr (lo : Int) (n : Nat) : It := ⟨fun i _ => i < n, fun i H x H' => H' = H ∧ x = .int (lo + i), fun i _ => n ≤ i⟩
theorem zbs {P : Program} {w : World} {K : PySem.W.Frag} {tg : Expr} (a it : Addr) : zeI P w K tg (Itl K a) [it] it (fun i h => h.IsListIter it a i) where
  mem := by simp
  obj := fun i h st b hb => by
    have e : b = it := by simpa using hb
    subst e
    obtain ⟨o, e, c, d⟩ := st
    exact ⟨o, e, fun v z => by rw [d] at z; cases z⟩
  keep := fun i h h' st k => st.at fun o e => k it (by simp) o e
  item := by
    intro X hP hw hK hc i pins s σ H E I hf st hg
    subst hP hw hK
    obtain ⟨xs, x, hq, hx⟩ := hg
    obtain ⟨its, rv, p, hz⟩ := I.list hq
    obtain ⟨u, hu, ru⟩ := rv.get hx
    obtain ⟨f0, f1, f2, f3, f4, f5⟩ := hf it (by simp)
    refine wpAny_pyNext_list_item st p.isList (x := u) (by simpa using hu) fun h' st' sb => ?_
    have I1 : Inv X pins σ H { s with heap := h' } := I.turned (t' := s.toks) (fun b o hb e => (sb.2 b hb).trans e) f0 f1 f3 f4 f5
    obtain ⟨o, e, c, d⟩ := id st'
    exact ⟨u, rfl, zem (s := { s with heap := h' }) e c d (by decide) ⟨x, H, I1, ru, ⟨rfl, fun ys hy => by rw [I.list_inj hy hq]; exact hx⟩, st', fun b hb => (hf b hb).1⟩⟩
  done := by
    intro X hP hw hK hc i pins s σ H E I hf st hg
    subst hP hw hK
    obtain ⟨xs, hq, hx⟩ := hg
    obtain ⟨its, rv, p, hz⟩ := I.list hq
    obtain ⟨f0, f1, f2, f3, f4, f5⟩ := hf it (by simp)
    have hl := rv.length
    exact wpAny_pyNext_list_end (I.ok.hd hc) st p.isList (by simp; omega) fun h' eb => ⟨rfl, I.turned (t' := s.toks) (fun b o hb e => eb b o hb e) f0 f1 f3 f4 f5⟩
  self := fun _ _ _ _ _ st h => wpAny_pyIter_listiter st h
theorem V4 {P : Program} {w : World} {K : PySem.W.Frag} {tg : Expr} (a it : Addr) : zeI P w K tg (Itt K a) [it] it (fun i h => h.IsTupleIter it a i) where
  mem := by simp
  obj := fun i h st b hb => by
    have e : b = it := by simpa using hb
    subst e
    obtain ⟨o, e, c, d⟩ := st
    exact ⟨o, e, fun v z => by rw [d] at z; cases z⟩
  keep := fun i h h' st k => st.at fun o e => k it (by simp) o e
  item := by
    intro X hP hw hK hc i pins s σ H E I hf st hg
    subst hP hw hK
    obtain ⟨xs, x, hq, hx⟩ := hg
    obtain ⟨its, rv, p, hz⟩ := I.tuple hq
    obtain ⟨u, hu, ru⟩ := rv.get hx
    obtain ⟨f0, f1, f2, f3, f4, f5⟩ := hf it (by simp)
    refine wpAny_pyNext_tuple_item st (show s.heap.IsTuple a its.toArray from p) (x := u) (by simpa using hu) fun h' st' sb => ?_
    have I1 : Inv X pins σ H { s with heap := h' } := I.turned (t' := s.toks) (fun b o hb e => (sb.2 b hb).trans e) f0 f1 f3 f4 f5
    obtain ⟨o, e, c, d⟩ := id st'
    exact ⟨u, rfl, zem (s := { s with heap := h' }) e c d (by decide) ⟨x, H, I1, ru, ⟨rfl, fun ys hy => by rw [I.tuple_inj hy hq]; exact hx⟩, st', fun b hb => (hf b hb).1⟩⟩
  done := by
    intro X hP hw hK hc i pins s σ H E I hf st hg
    subst hP hw hK
    obtain ⟨xs, hq, hx⟩ := hg
    obtain ⟨its, rv, p, hz⟩ := I.tuple hq
    obtain ⟨f0, f1, f2, f3, f4, f5⟩ := hf it (by simp)
    have hl := rv.length
    exact wpAny_pyNext_tuple_end (I.ok.hd hc) st (show s.heap.IsTuple a its.toArray from p) (by simp; omega) fun h' eb => ⟨rfl, I.turned (t' := s.toks) (fun b o hb e => eb b o hb e) f0 f1 f3 f4 f5⟩
  self := fun _ _ _ _ _ st h => wpAny_pyIter_tupleiter st h
theorem zan {P : Program} {w : World} {K : PySem.W.Frag} {tg : Expr} (it : Addr) (lo : Int) (n : Nat) : zeI P w K tg (Itr lo n) [it] it (fun i h => IsRangeIter h it (lo + (i : Nat) * 1) ((n : Int) - (i : Nat)) 1) where
  mem := by simp
  obj := fun i h st b hb => by
    have e : b = it := by simpa using hb
    subst e
    exact ⟨_, st, fun v z => by
      have z' : Data.fields _ = Data.cell v := z
      cases z'⟩
  keep := fun i h h' st k => k it (by simp) _ st
  item := by
    intro X hP hw hK hc i pins s σ H E I hf st hg
    subst hP hw hK
    obtain ⟨f0, f1, f2, f3, f4, f5⟩ := hf it (by simp)
    have W := Walks.range (prog := X.prog) (w := X.w) (I.ok.hd hc) it lo 1 n
    refine W.item i s _ _ hg st fun v h' tk hv st' kk => ?_
    obtain ⟨t, rfl⟩ := hv
    have I1 : Inv X pins σ H { s with heap := h', toks := tk } := I.turned (fun b o hb e => kk b o (by simpa using hb) e) f0 f1 f3 f4 f5
    refine ⟨_, rfl, zem (s := { s with heap := h', toks := tk }) (n := "range_iterator") st' rfl rfl (by decide) ⟨.int (lo + i), H, I1, ⟨t, ?_⟩, ⟨rfl, rfl⟩, st', fun b hb => (hf b hb).1⟩⟩
    rw [Int.mul_one]
  done := by
    intro X hP hw hK hc i pins s σ H E I hf st hg
    subst hP hw hK
    obtain ⟨f0, f1, f2, f3, f4, f5⟩ := hf it (by simp)
    exact wpAny_pyNext_range_end (I.ok.hd hc) st (by have : n ≤ i := hg; omega) fun h' eb => ⟨rfl, I.turned (t' := s.toks) (fun b o hb e => eb b o hb e) f0 f1 f3 f4 f5⟩
  self := fun _ _ _ _ _ st h => wpAny_pyIter_rangeiter st h
end L2
namespace L2
open PySem PySem.Spec PyProof.Rows
section
variable {X : Cx} {tg : Expr}
theorem VF {pins : List (Addr × Obj)} {σ : St} {H : Hp} {s : Shared} {R : It → Hp → Prop} {E : Value → Shared → Prop} {lo hi : Int} {t u v : Tok} {tk : Nat} (I : Inv X pins σ H s) (h1 : -(2 ^ 62) ≤ lo) (h2 : lo < 2 ^ 62) (h3 : -(2 ^ 62) ≤ hi) (h4 : hi < 2 ^ 62)
    (q : R (Itr lo (hi - lo).toNat) H) : wpAny (model X.prog X.w) X.A (pyIter (.ref s.heap.objs.size)) (PIE X pins σ tg R) E { s with heap := s.heap.push { cls := .type "range", data := .fields #[.int lo t, .int hi u, .int 1 v] }, toks := tk } := by
  refine wpAny_pyIter_range (IsRange.new ..) (small_one h1 h2 h3 h4) ?_
  have I1 : Inv X pins σ H { s with heap := s.heap.push { cls := .type "range", data := .fields #[.int lo t, .int hi u, .int 1 v] }, toks := tk } := I.kept fun b o e => Heap.get?_push_of_some _ e
  refine ⟨(s.heap.push { cls := .type "range", data := .fields #[.int lo t, .int hi u, .int 1 v] }).objs.size, [(s.heap.push { cls := .type "range", data := .fields #[.int lo t, .int hi u, .int 1 v] }).objs.size], _, _, H, rfl,
    I1.kept (t' := tk) fun b o e => Heap.get?_push_of_some _ e, zan _ lo (hi - lo).toNat, ?_, fun b hb => ?_, q⟩
  · have e1 : lo + ((0 : Nat) : Int) * 1 = lo := by simp
    have e2 : (((hi - lo).toNat : Nat) : Int) - ((0 : Nat) : Int) = Builtin.Range.rangeSize lo hi 1 := by rw [rangeSize_one]; split <;> omega
    show IsRangeIter _ _ (lo + ((0 : Nat) : Int) * 1) ((((hi - lo).toNat : Nat) : Int) - ((0 : Nat) : Int)) 1
    rw [e1, e2]
    exact Heap.get?_push_size _ rfl
  · have e : b = (s.heap.push { cls := .type "range", data := .fields #[.int lo t, .int hi u, .int 1 v] }).objs.size := by simpa using hb
    subst e
    exact I1.fpOk (Nat.le_refl _) (I1.hok.fresh (Nat.le_refl _))
noncomputable def zg7 (ta : TA) : TI := fun σ H R => ta σ H fun vs H1 => ∃ j : Int, vs = [.int j] ∧ -(2 ^ 62) ≤ j ∧ j < 2 ^ 62 ∧ R (Itr 0 j.toNat) H1
noncomputable def zhs (ta : TA) : TI := fun σ H R => ta σ H fun vs H1 => ∃ i j : Int, vs = [.int i, .int j] ∧ (-(2 ^ 62) ≤ i ∧ i < 2 ^ 62 ∧ -(2 ^ 62) ≤ j ∧ j < 2 ^ 62) ∧ R (Itr i (j - i).toNat) H1
theorem zbn {a : Expr} {ta : TA} {p pos : Pos} (hg : Gl X "range") (hm : X.mg "range" = none) (ha : PA X [a] ta) (hs : starEach [a] X.env = [(false, eval a X.env)] := by rfl) : PI X tg (.Call (.Name "range" p) [a] [] pos) (zg7 ta) := by
  intro pins s σ H R I h
  refine Call_ (w8 I hg hm boot_range (PyProof.Rows.callWith_type1 (thn (ha pos pins s σ H _ I h) fun us s1 hh9 => ?_) hs rfl))
  obtain ⟨vs, H1, I1, r1, q1⟩ := hh9
  obtain ⟨j, e, q1, q2, q⟩ := q1
  subst e
  cases r1 with
  | cons r rr =>
    cases rr
    obtain ⟨t, rfl⟩ := r
    exact call_range_1 (VF I1 (by omega) (by omega) q1 q2 (by simpa using q))
theorem Wr {a b : Expr} {ta : TA} {p pos : Pos} (hg : Gl X "range") (hm : X.mg "range" = none) (ha : PA X [a, b] ta) (hs : starEach [a, b] X.env = [(false, eval a X.env), (false, eval b X.env)] := by rfl) (hs2 : starEach [b] X.env = [(false, eval b X.env)] := by rfl) :
    PI X tg (.Call (.Name "range" p) [a, b] [] pos) (zhs ta) := by
  intro pins s σ H R I h
  refine Call_ (w8 I hg hm boot_range (PyProof.Rows.callWith_type1 (thn (ha pos pins s σ H _ I h) fun us s1 hh9 => ?_) (by rw [hs, hs2]) (by rw [hs2]; rfl)))
  obtain ⟨vs, H1, I1, r1, q1⟩ := hh9
  obtain ⟨i, j, e, ⟨q1, q2, q3, q4⟩, q⟩ := q1
  subst e
  cases r1 with
  | cons r rr =>
    cases rr with
    | cons r' rr =>
      cases rr
      obtain ⟨t, rfl⟩ := r
      obtain ⟨t', rfl⟩ := r'
      exact call_range_2 (VF I1 q1 q2 q3 q4 q)
noncomputable def tFor (wi : TI) (g : TG) (tb : TS) : TS := fun D σ H => wi σ H fun J H1 => ∃ W : Nat → Nat → St → Hp → Prop, (∃ m, W 0 m σ H1) ∧ ∀ i m σ H, W i m σ H →
  (J.stop i H ∧ D.nx σ H) ∨ (J.go i H ∧ ∃ N : St → Hp → Prop, (∀ σ' H', N σ' H' → ∃ m', m' < m ∧ W (i + 1) m' σ' H') ∧ ∀ x H', J.yld i H x H' → g x σ H' fun σ2 H2 => tb { D with nx := N, ct := N, bk := D.nx } σ2 H2)
noncomputable def YM (fp : List Addr) (h : Heap) : List (Addr × Obj) := fp.filterMap fun b => (h.get? b).map fun o => (b, o)
theorem xf {fp : List Addr} {h : Heap} {b : Addr} {o : Obj} (hb : b ∈ fp) (e : h.get? b = some o) : (b, o) ∈ YM fp h := List.mem_filterMap.mpr ⟨b, hb, by rw [e]; rfl⟩
theorem zca {fp : List Addr} {h : Heap} {p : Addr × Obj} (hp : p ∈ YM fp h) : p.1 ∈ fp ∧ h.get? p.1 = some p.2 := by
  obtain ⟨b, hb, e⟩ := List.mem_filterMap.mp hp
  cases q : h.get? b with
  | none => rw [q] at e; cases e
  | some o =>
    rw [q] at e
    have e' : (b, o) = p := Option.some.inj e
    subst e'
    exact ⟨hb, q⟩
theorem Inv.pinned {pins : List (Addr × Obj)} {σ : St} {H : Hp} {s : Shared} {fp : List Addr} (I : Inv X pins σ H s) (hf : ∀ b ∈ fp, WO X pins H b) (ho : ∀ b ∈ fp, ∃ o, s.heap.get? b = some o ∧ ∀ v, o.data ≠ .cell v) : Inv X (pins ++ YM fp s.heap) σ H s :=
  I.pins_of fun p hp => (List.mem_append.mp hp).elim (fun z => I.pin p (List.mem_append_right _ z)) fun z => by
    obtain ⟨hb, e⟩ := zca z
    obtain ⟨f0, f1, f2, _⟩ := hf p.1 hb
    obtain ⟨o, e', d⟩ := ho p.1 hb
    rw [e] at e'; cases e'
    exact ⟨e, f0, f1, f2, d⟩
theorem Inv.unpinned {pins pl : List (Addr × Obj)} {σ : St} {H : Hp} {s : Shared} (I : Inv X (pins ++ pl) σ H s) : Inv X pins σ H s := I.pins_of fun p hp => I.pin p (List.mem_append_right _ (List.mem_append_left _ hp))
theorem zbh {iter : Expr} {body : List Stmt} {wi : TI} {g : TG} {tb : TS} {pos : Pos} (hp : PassesOwn (model X.prog X.w) X.A X.env X.xe) (hc : X.calm = true) (hi : PI X tg iter wi) (hg : PG X tg g) (hb : PSs X body tb)
    (hs : ∀ x, foldedSetIterable iter X.env x = pure x := by intro _; rfl) : PS X (.For tg iter body [] pos) (tFor wi g tb) := by
  intro pins s σ H D I h
  refine wpAny_For (thn (hi pins s σ H _ I h) fun v s1 h1 => thn h1 fun itv s2 h2 => ?_) hs
  obtain ⟨it, fp, tn, J, H2, e, I2, T, st2, f2, W, ⟨m0, w0⟩, turn⟩ := h2
  subst e
  -- what stays true of the iterator's objects through the loop
  have stat : ∀ {H' : Hp}, (∀ b ∈ fp, H' b = none) → ∀ b ∈ fp, WO X pins H' b := fun hn b hb => ⟨hn b hb, (f2 b hb).2⟩
  refine codeAny_forLoop_any (fun n s' => ∃ i σ' H', Inv X pins σ' H' s' ∧ tn i s'.heap ∧ (∀ b ∈ fp, H' b = none) ∧ W i n σ' H') ?_ m0 ⟨0, σ, H2, I2, st2, fun b hb => (f2 b hb).1, w0⟩
  rintro n s3 ⟨i, σ3, H3, I3, st3, fr3, w3⟩
  rcases turn i n σ3 H3 w3 with ⟨stop, qn⟩ | ⟨go, N, hN, step⟩
  · refine wpAny_passesOwn hp (thn (T.done X rfl rfl rfl hc i pins s3 σ3 H3 X.xe I3 (stat fr3) st3 stop) fun r s4 hh9 => ?_)
    obtain ⟨hr, I4⟩ := hh9
    subst hr
    exact wpAny_execs_nil ⟨σ3, H3, I4, qn⟩
  · refine wpAny_passesOwn hp (thn (T.item X rfl rfl rfl hc i pins s3 σ3 H3 X.xe I3 (stat fr3) st3 go) fun r s4 hh9 => ?_)
    obtain ⟨u, hr, h4⟩ := hh9
    subst hr
    refine wpAny_passesOwn hp (thn h4 fun _ s5 hh9 => ?_)
    obtain ⟨x, H5, I5, r5, y5, st5, fr5⟩ := hh9
    have I5' := I5.pinned (stat fr5) (T.obj _ _ st5)
    refine wpAny_passesOwn hp (thn (hg _ s5 σ3 H5 x u _ I5' r5 (step x H5 y5)) fun _ s6 hh9 => ?_)
    obtain ⟨σ6, H6, I6, q6⟩ := hh9
    refine wpAny_passesOwn hp (thn (hb _ s6 σ6 H6 _ I6 q6) fun f s7 q7 => ?_)
    have again : ∀ {σ7 : St} {H7 : Hp}, Inv X (pins ++ YM fp s5.heap) σ7 H7 s7 → N σ7 H7 → ∃ m, m < n ∧ ∃ i σ' H', Inv X pins σ' H' s7 ∧ tn i s7.heap ∧ (∀ b ∈ fp, H' b = none) ∧ W i m σ' H' := fun {σ7 H7} I7 n7 => by
      obtain ⟨m', hm, w7⟩ := hN σ7 H7 n7
      refine ⟨m', hm, i + 1, σ7, H7, I7.unpinned, T.keep _ _ _ st5 fun b hb o e => (I7.pin (b, o) (List.mem_append_right _ (List.mem_append_right _ (xf hb e)))).1, fun b hb => ?_, w7⟩
      obtain ⟨o, e, d⟩ := T.obj _ _ st5 b hb
      exact (I7.pin (b, o) (List.mem_append_right _ (List.mem_append_right _ (xf hb e)))).2.1
    cases f with
    | next => obtain ⟨σ7, H7, I7, n7⟩ := q7; exact again I7 n7
    | cont => obtain ⟨σ7, H7, I7, n7⟩ := q7; exact again I7 n7
    | brk => obtain ⟨σ7, H7, I7, q7⟩ := q7; exact ⟨σ7, H7, I7.unpinned, q7⟩
    | ret v => obtain ⟨x7, σ7, H7, I7, r7, q7⟩ := q7; exact ⟨x7, σ7, H7, I7.unpinned, r7, q7⟩
end
end L2
namespace L2
open PySem PySem.Spec PyProof.Rows
noncomputable abbrev R2 := V → V → Hp → VK → Prop
noncomputable def OpR (X : Cx) (f : Value → Value → Sem Value) (r : R2) : Prop :=
  ∀ (pins : List (Addr × Obj)) (s : Shared) (σ : St) (H : Hp) (x y : V) (v u : Value) (Q : VK), Inv X pins σ H s → xm x v → xm y u → r x y H Q →
    wpAny (model X.prog X.w) X.A (f v u) (EP X pins σ Q) X.xe s
noncomputable def UnR (X : Cx) (f : Value → Sem Value) (r : V → Hp → VK → Prop) : Prop :=
  ∀ (pins : List (Addr × Obj)) (s : Shared) (σ : St) (H : Hp) (x : V) (v : Value) (Q : VK), Inv X pins σ H s → xm x v → r x H Q →
    wpAny (model X.prog X.w) X.A (f v) (EP X pins σ Q) X.xe s
noncomputable def Yw (X : Cx) (f : Value) (r : List V → Hp → VK → Prop) : Prop :=
  ∀ (pins : List (Addr × Obj)) (s : Shared) (σ : St) (H : Hp) (xs : List V) (us : List Value) (Q : VK), Inv X pins σ H s → yh xs us → r xs H Q →
    wpAny (model X.prog X.w) X.A (call f us) (EP X pins σ Q) X.xe s
noncomputable def tOp (r : R2) (ta tb : TE) : TE := fun σ H Q => ta σ H fun x H1 => tb σ H1 fun y H2 => r x y H2 Q
noncomputable def tUn (r : V → Hp → VK → Prop) (ta : TE) : TE := fun σ H Q => ta σ H fun x H1 => r x H1 Q
noncomputable def rI (C : Int → Int → Prop) (g : Int → Int → V) : R2 := fun x y H Q => ∃ i j, x = .int i ∧ y = .int j ∧ C i j ∧ Q (g i j) H
noncomputable def rI0 (g : Int → Int → V) : R2 := fun x y H Q => ∃ i j, x = .int i ∧ y = .int j ∧ Q (g i j) H
noncomputable def rU (g : Int → V) : V → Hp → VK → Prop := fun x H Q => ∃ i, x = .int i ∧ Q (g i) H
section
variable {X : Cx} {a b c : Expr} {ta tb tc : TE} {pos : Pos}
theorem zhB (ha : PE X a ta) (hb : PE X b tb) {pins : List (Addr × Obj)} {s : Shared} {σ : St} {H : Hp} {R : V → V → Hp → Prop} (I : Inv X pins σ H s)
    (h : ta σ H fun x H1 => tb σ H1 fun y H2 => R x y H2) {Q : Value → Shared → Prop} {f : Value → Value → Sem Value}
    (hf : ∀ v u s2 x y H2, Inv X pins σ H2 s2 → xm x v → xm y u → R x y H2 → wpAny (model X.prog X.w) X.A (f v u) Q X.xe s2) :
    wpAny (model X.prog X.w) X.A (eval a X.env) (fun v s₁ => wpAny (model X.prog X.w) X.A (eval b X.env) (fun u s₂ => wpAny (model X.prog X.w) X.A (f v u) Q X.xe s₂) X.xe s₁) X.xe s := by
  refine thn (ha pins s σ H _ I h) fun v s1 hh9 => ?_
  obtain ⟨x, H1, I1, r1, q1⟩ := hh9
  refine thn (hb pins s1 σ H1 _ I1 q1) fun u s2 hh9 => ?_
  obtain ⟨y, H2, I2, r2, q2⟩ := hh9
  exact hf v u s2 x y H2 I2 r1 r2 q2
theorem zhp {op : Operator} {r : R2} (ho : OpR X (binaryOp op) r) (ha : PE X a ta) (hb : PE X b tb) : PE X (.BinOp a op b pos) (tOp r ta tb) := by
  intro pins s σ H Q I h
  exact wpAny_BinOp (zhB ha hb I h fun v u s2 x y H2 I2 rx ry q => ho pins s2 σ H2 x y v u Q I2 rx ry q)
theorem zfY {op : UnaryOp} {r : V → Hp → VK → Prop} (ho : UnR X (unaryOp op) r) (ha : PE X a ta) : PE X (.UnaryOp op a pos) (tUn r ta) := by
  intro pins s σ H Q I h
  exact UnaryOp_ (thn (ha pins s σ H _ I h) fun v s1 ⟨x, H1, I1, r1, q1⟩ => ho pins s1 σ H1 x v Q I1 r1 q1)
theorem opI {f : Value → Value → Sem Value} {C : Int → Int → Prop} {g : Int → Int → Int}
    (rule : ∀ (i j : Int) (t u : Tok) (s : Shared) (Q : Value → Shared → Prop) (E : Value → Shared → Prop), C i j → Q (.int (g i j) s.toks) { s with toks := s.toks + 1 } → wpAny (model X.prog X.w) X.A (f (.int i t) (.int j u)) Q E s) :
    OpR X f (rI C fun i j => .int (g i j)) := by
  intro pins s σ H x y v u Q I rx ry h
  obtain ⟨i, j, rfl, rfl, hc, q⟩ := h
  obtain ⟨t, rfl⟩ := rx
  obtain ⟨t', rfl⟩ := ry
  exact rule i j t t' s _ _ hc ⟨.int (g i j), H, I.tok _, ⟨_, rfl⟩, q⟩
theorem opI0 {f : Value → Value → Sem Value} {g : Int → Int → Int}
    (rule : ∀ (i j : Int) (t u : Tok) (s : Shared) (Q : Value → Shared → Prop) (E : Value → Shared → Prop), Q (.int (g i j) s.toks) { s with toks := s.toks + 1 } → wpAny (model X.prog X.w) X.A (f (.int i t) (.int j u)) Q E s) :
    OpR X f (rI0 fun i j => .int (g i j)) := by
  intro pins s σ H x y v u Q I rx ry h
  obtain ⟨i, j, rfl, rfl, q⟩ := h
  obtain ⟨t, rfl⟩ := rx
  obtain ⟨t', rfl⟩ := ry
  exact rule i j t t' s _ _ ⟨.int (g i j), H, I.tok _, ⟨_, rfl⟩, q⟩
theorem zhn {f : Value → Value → Sem Value} {g : Int → Int → Bool}
    (rule : ∀ (i j : Int) (t u : Tok) (s : Shared) (Q : Value → Shared → Prop) (E : Value → Shared → Prop), Q (.bool (g i j)) s → wpAny (model X.prog X.w) X.A (f (.int i t) (.int j u)) Q E s) :
    OpR X f (rI0 fun i j => .bl (g i j)) := by
  intro pins s σ H x y v u Q I rx ry h
  obtain ⟨i, j, rfl, rfl, q⟩ := h
  obtain ⟨t, rfl⟩ := rx
  obtain ⟨t', rfl⟩ := ry
  exact rule i j t t' s _ _ ⟨.bl (g i j), H, I, rfl, q⟩
noncomputable def zhu (i j : Int) : Prop := (-(2 ^ 64) < i ∧ i < 2 ^ 64) ∨ (-(2 ^ 64) < j ∧ j < 2 ^ 64)
theorem zhu.ok {i j : Int} (h : zhu i j) : IntMulOk i j := by
  rcases h with ⟨h1, h2⟩ | ⟨h1, h2⟩
  · exact .of_left (intBits_le_64 h1 h2)
  · exact .of_right (intBits_le_64 h1 h2)
theorem zaM (k : Nat) : (0 : Int) ≤ 2 ^ k := by
  rw [two_pow_cast]
  exact Int.natCast_nonneg _
theorem zfW : OpR X (binaryOp .Add) (rI0 fun i j => .int (i + j)) := opI0 fun _ _ _ _ _ _ _ q => add_int q
theorem zfm : OpR X (binaryOp .Sub) (rI0 fun i j => .int (i - j)) := opI0 fun _ _ _ _ _ _ _ q => sub_int q
theorem zfw : OpR X (binaryOp .Mult) (rI zhu fun i j => .int (i * j)) := opI fun _ _ _ _ _ _ _ hc q => mul_int q hc.ok
theorem zgj : OpR X (binaryOp .Mod) (rI (fun _ j => 0 < j) fun i j => .int (i % j)) := opI fun i j _ _ _ _ _ hc q => by
  have h1 : (0 : Int) < j := hc
  exact mod_int' (by omega) (by rw [Int.fmod_eq_emod_of_nonneg i (by omega)]; exact q)
theorem zfO : OpR X (binaryOp .RShift) (rI (fun _ j => 0 ≤ j) fun i j => .int (i / 2 ^ j.toNat)) := opI fun i j _ _ _ _ _ hc q =>
  rshift_int hc (by rw [Int.fdiv_eq_ediv_of_nonneg i (zaM _)]; exact q)
theorem unI {f : Value → Sem Value} {g : Int → Int}
    (rule : ∀ (i : Int) (t : Tok) (s : Shared) (Q : Value → Shared → Prop) (E : Value → Shared → Prop), Q (.int (g i) s.toks) { s with toks := s.toks + 1 } → wpAny (model X.prog X.w) X.A (f (.int i t)) Q E s) :
    UnR X f (rU fun i => .int (g i)) := by
  intro pins s σ H x v Q I rx h
  obtain ⟨i, rfl, q⟩ := h
  obtain ⟨t, rfl⟩ := rx
  exact rule i t s _ _ ⟨.int (g i), H, I.tok _, ⟨_, rfl⟩, q⟩
theorem zeb : UnR X (unaryOp .USub) (rU fun i => .int (-i)) := unI fun _ _ _ _ _ q => neg_int q
end
noncomputable def scal : V → V → Bool
  | .non, .non => true | .non, .int _ => true | .int _, .non => true | .non, .bl _ => true | .bl _, .non => true | .non, .str _ => true | .str _, .non => true
  | .int _, .int _ => true | .bl _, .bl _ => true | .str _, .str _ => true | .byt _, .byt _ => true
  | .int _, .str _ => true | .str _, .int _ => true | .bl _, .str _ => true | .str _, .bl _ => true
  | _, _ => false
noncomputable def rEq : R2 := fun x y H Q => scal x y = true ∧ Q (.bl (decide (x = y))) H
noncomputable def rNe : R2 := fun x y H Q => scal x y = true ∧ Q (.bl (!decide (x = y))) H
theorem zbQ {i j : Int} : decide (V.int i = V.int j) = (i == j) := by
  rw [Bool.eq_iff_iff]
  simp
theorem zdY {i j : Bool} : decide (V.bl i = V.bl j) = (i == j) := by
  rw [Bool.eq_iff_iff]
  simp
theorem za6 {i j : Str} : decide (V.str i = V.str j) = (i == j) := by
  rw [Bool.eq_iff_iff]
  simp
theorem zbp {i j : Array UInt8} : decide (V.byt i = V.byt j) = (i.toList == j.toList) := by
  rw [Bool.eq_iff_iff]
  cases i
  cases j
  simp
section
variable {X : Cx} {a b c : Expr} {ta tb tc : TE} {pos : Pos}
theorem zF {pins : List (Addr × Obj)} {σ : St} {H : Hp} {s : Shared} {Q : VK} {k k' : Bool} (I : Inv X pins σ H s) (q : Q (.bl k) H) (e : k = k') : EP X pins σ Q (.bool k') s := by
  subst e
  exact ⟨.bl k, H, I, rfl, q⟩
theorem zhA : OpR X (compareOp .Eq) rEq := by
  intro pins s σ H x y v u Q I rx ry h
  obtain ⟨hs, q⟩ := h
  cases x with
  | non =>
    cases rx
    cases y with
    | non => cases ry; exact PySem.EqNone.eq_none_none (zF I q (by simp))
    | bl j => cases ry; exact PySem.EqNone.eq_none_bool (zF I q (by simp))
    | int j => obtain ⟨t', rfl⟩ := ry; exact PySem.EqNone.eq_none_int (zF I q (by simp))
    | str j => obtain ⟨t', rfl⟩ := ry; exact PySem.EqNone.eq_none_str (zF I q (by simp))
    | _ => exact absurd (show false = true from hs) Bool.false_ne_true
  | bl i =>
    cases rx
    cases y with
    | non => cases ry; exact PySem.EqNone.eq_bool_none (zF I q (by simp))
    | bl j => cases ry; exact eq_bool (zF I q zdY)
    | str j => obtain ⟨t', rfl⟩ := ry; exact PySem.EqMixed.eq_bool_str (zF I q (by simp))
    | _ => exact absurd (show false = true from hs) Bool.false_ne_true
  | int i =>
    obtain ⟨t, rfl⟩ := rx
    cases y with
    | non => cases ry; exact PySem.EqNone.eq_int_none (zF I q (by simp))
    | int j => obtain ⟨t', rfl⟩ := ry; exact eq_int (zF I q zbQ)
    | str j => obtain ⟨t', rfl⟩ := ry; exact PySem.EqMixed.eq_int_str (zF I q (by simp))
    | _ => exact absurd (show false = true from hs) Bool.false_ne_true
  | str i =>
    obtain ⟨t, rfl⟩ := rx
    cases y with
    | non => cases ry; exact PySem.EqNone.eq_str_none (zF I q (by simp))
    | bl j => cases ry; exact PySem.EqMixed.eq_str_bool (zF I q (by simp))
    | int j => obtain ⟨t', rfl⟩ := ry; exact PySem.EqMixed.eq_str_int (zF I q (by simp))
    | str j => obtain ⟨t', rfl⟩ := ry; exact eq_str (zF I q za6)
    | _ => exact absurd (show false = true from hs) Bool.false_ne_true
  | byt i =>
    obtain ⟨t, rfl⟩ := rx
    cases y with
    | byt j => obtain ⟨t', rfl⟩ := ry; exact PySem.W.eq_bytes (zF I q zbp)
    | _ => exact absurd (show false = true from hs) Bool.false_ne_true
  | _ => cases y <;> exact absurd (show false = true from hs) Bool.false_ne_true
theorem zbR : OpR X (compareOp .NotEq) rNe := by
  intro pins s σ H x y v u Q I rx ry h
  obtain ⟨hs, q⟩ := h
  cases x with
  | non =>
    cases rx
    cases y with
    | non => cases ry; exact PySem.EqNone.ne_none_none (zF I q (by simp))
    | bl j => cases ry; exact PySem.EqNone.ne_none_bool (zF I q (by simp))
    | int j => obtain ⟨t', rfl⟩ := ry; exact PySem.EqNone.ne_none_int (zF I q (by simp))
    | str j => obtain ⟨t', rfl⟩ := ry; exact PySem.EqNone.ne_none_str (zF I q (by simp))
    | _ => exact absurd (show false = true from hs) Bool.false_ne_true
  | bl i =>
    cases rx
    cases y with
    | non => cases ry; exact PySem.EqNone.ne_bool_none (zF I q (by simp))
    | bl j => cases ry; exact ne_bool (zF I q (congrArg not zdY))
    | str j => obtain ⟨t', rfl⟩ := ry; exact PySem.EqMixed.ne_bool_str (zF I q (by simp))
    | _ => exact absurd (show false = true from hs) Bool.false_ne_true
  | int i =>
    obtain ⟨t, rfl⟩ := rx
    cases y with
    | non => cases ry; exact PySem.EqNone.ne_int_none (zF I q (by simp))
    | int j => obtain ⟨t', rfl⟩ := ry; exact ne_int (zF I q (congrArg not zbQ))
    | str j => obtain ⟨t', rfl⟩ := ry; exact PySem.EqMixed.ne_int_str (zF I q (by simp))
    | _ => exact absurd (show false = true from hs) Bool.false_ne_true
  | str i =>
    obtain ⟨t, rfl⟩ := rx
    cases y with
    | non => cases ry; exact PySem.EqNone.ne_str_none (zF I q (by simp))
    | bl j => cases ry; exact PySem.EqMixed.ne_str_bool (zF I q (by simp))
    | int j => obtain ⟨t', rfl⟩ := ry; exact PySem.EqMixed.ne_str_int (zF I q (by simp))
    | str j => obtain ⟨t', rfl⟩ := ry; exact ne_str (zF I q (congrArg not za6))
    | _ => exact absurd (show false = true from hs) Bool.false_ne_true
  | byt i =>
    obtain ⟨t, rfl⟩ := rx
    cases y with
    | byt j => obtain ⟨t', rfl⟩ := ry; exact PySem.W.ne_bytes (zF I q (congrArg not zbp))
    | _ => exact absurd (show false = true from hs) Bool.false_ne_true
  | _ => cases y <;> exact absurd (show false = true from hs) Bool.false_ne_true
theorem zeZ : OpR X (compareOp .Lt) (rI0 fun i j => .bl (decide (i < j))) := zhn fun _ _ _ _ _ _ _ q => lt_int q
theorem zdP : OpR X (compareOp .LtE) (rI0 fun i j => .bl (decide (i ≤ j))) := zhn fun _ _ _ _ _ _ _ q => le_int q
theorem zeW : OpR X (compareOp .Gt) (rI0 fun i j => .bl (decide (j < i))) := zhn fun _ _ _ _ _ _ _ q => gt_int q
theorem zeu : OpR X (compareOp .IsNot) (fun x y H Q => y = .non ∧ Q (.bl (!decide (x = .non))) H) := by
  intro pins s σ H x y v u Q I rx ry h
  obtain ⟨rfl, q⟩ := h
  cases ry
  refine isnot_none_gen (zF I q ?_)
  cases x <;> first
    | (cases rx; rfl)
    | (obtain ⟨t, rfl⟩ := rx; rfl)
theorem OpR.or {f : Value → Value → Sem Value} {r r' : R2} (h : OpR X f r) (h' : OpR X f r') : OpR X f (fun x y H Q => r x y H Q ∨ r' x y H Q) := by
  intro pins s σ H x y v u Q I rx ry q
  rcases q with q | q
  · exact h pins s σ H x y v u Q I rx ry q
  · exact h' pins s σ H x y v u Q I rx ry q
theorem zX (b : Expr) {op : CmpOp} (h : op ≠ .In := by decide) (h2 : op ≠ .NotIn := by decide) : behindInMarks op b = false := by
  have e1 : (op == CmpOp.In) = false := by cases op <;> first | rfl | exact absurd rfl h
  have e2 : (op == CmpOp.NotIn) = false := by cases op <;> first | rfl | exact absurd rfl h2
  cases b <;> simp [behindInMarks, e1, e2]
theorem zei {op : CmpOp} {r : R2} (ho : OpR X (compareOp op) r) (ha : PE X a ta) (hb : PE X b tb) (hm : behindInMarks op b = false) : PE X (.Compare a [op] [b] pos) (tOp r ta tb) := by
  intro pins s σ H Q I h
  exact wpAny_Compare1 (zhB ha hb I h fun v u s2 x y H2 I2 rx ry q => ho pins s2 σ H2 x y v u Q I2 rx ry q) hm
noncomputable def zf2 (t : TE) : TT := fun σ H Q => t σ H fun x H' => ∃ k, x = .bl k ∧ Q k H'
theorem zeD {op : CmpOp} {r : R2} (ho : OpR X (compareOp op) r) (ha : PE X a ta) (hb : PE X b tb) (hm : behindInMarks op b = false) : PT X (.Compare a [op] [b] pos) (zf2 (tOp r ta tb)) := by
  intro pins s σ H Q I h
  refine wpAny_isTrue_Compare1 (thn (ha pins s σ H _ I h) fun v s1 ⟨x, H1, I1, r1, q1⟩ => thn (hb pins s1 σ H1 _ I1 q1) fun u s2 ⟨y, H2, I2, r2, q2⟩ =>
    thn (ho pins s2 σ H2 x y v u _ I2 r1 r2 q2) fun c s3 ⟨z, H3, I3, r3, k, e, q3⟩ => ?_) hm
  subst e
  cases r3
  exact wpAny_truthy_bool ⟨H3, I3, q3⟩
noncomputable def zcy (r r' : R2) (ta tb tc : TE) : TE := fun σ H Q => ta σ H fun x H1 => tb σ H1 fun y H2 => r x y H2 fun z H3 => ∃ k, z = .bl k ∧
  (if k = true then tc σ H3 fun w' H4 => r' y w' H4 Q else Q (.bl false) H3)
theorem zdq {op op' : CmpOp} {r r' : R2} (ho : OpR X (compareOp op) r) (ho' : OpR X (compareOp op') r') (ha : PE X a ta) (hb : PE X b tb) (hc : PE X c tc)
    (hm : lastMarks [op, op'] [b, c] = false := by with_unfolding_all rfl) : PE X (.Compare a [op, op'] [b, c] pos) (zcy r r' ta tb tc) := by
  intro pins s σ H Q I h
  refine Compare_chain (thn (ha pins s σ H _ I h) fun v s1 ⟨x, H1, I1, r1, q1⟩ => chain_link (thn (hb pins s1 σ H1 _ I1 q1) fun u s2 ⟨y, H2, I2, r2, q2⟩ =>
    thn (ho pins s2 σ H2 x y v u _ I2 r1 r2 q2) fun d s3 ⟨z, H3, I3, r3, k, e, q3⟩ => ?_)) hm
  subst e
  cases r3
  refine wpAny_truthy_bool ?_
  cases k with
  | false => exact ite_ff ⟨.bl false, H3, I3, rfl, q3⟩
  | true => exact ite_tt (chain_last (thn (hc pins s3 σ H3 _ I3 q3) fun w' s4 ⟨z', H4, I4, r4, q4⟩ => ho' pins s4 σ H4 y z' u w' Q I4 r2 r4 q4))
theorem VV : (sizeLine : Nat) < 2 ^ 63 := by rw [sizeLine_eq]; decide
theorem zac : OpR X (binaryOp .Add) (fun x y H Q => ∃ i j, x = .str i ∧ y = .str j ∧ i.length + j.length ≤ sizeLine ∧ Q (.str (i ++ j)) H) := by
  intro pins s σ H x y v u Q I rx ry h
  obtain ⟨i, j, rfl, rfl, hz, q⟩ := h
  obtain ⟨t, rfl⟩ := rx
  obtain ⟨t', rfl⟩ := ry
  exact add_str (fun t' tk => ⟨.str (i ++ j), H, I.tok _, ⟨_, rfl⟩, q⟩) hz
theorem zaA {x : V} {us : List Value} (r : yh [x] us) : ∃ u, us = [u] ∧ xm x u := by
  cases r with
  | cons r1 r2 => cases r2; exact ⟨_, rfl, r1⟩
theorem Vp {x y : V} {us : List Value} (r : yh [x, y] us) : ∃ u w', us = [u, w'] ∧ xm x u ∧ xm y w' := by
  cases r with
  | cons r1 r2 =>
    cases r2 with
    | cons r3 r4 => cases r4; exact ⟨_, _, rfl, r1, r3⟩
theorem za2 (hc : X.calm = true) : Yw X (.builtin "max") (fun xs H Q => ∃ i j, xs = [.int i, .int j] ∧ Q (.int (if j > i then j else i)) H) := by
  intro pins s σ H xs us Q I r h
  obtain ⟨i, j, rfl, q⟩ := h
  obtain ⟨u, w', rfl, ⟨t, rfl⟩, ⟨t', rfl⟩⟩ := Vp r
  refine max_two_ints (I.ok.hd hc) fun h' tk k => ⟨_, H, I.kept k, ?_, q⟩
  by_cases hj : j > i
  · rw [if_pos hj, if_pos hj]; exact ⟨_, rfl⟩
  · rw [if_neg hj, if_neg hj]; exact ⟨_, rfl⟩
theorem zbO (hc : X.calm = true) : Yw X (.builtin "min") (fun xs H Q => ∃ i j, xs = [.int i, .int j] ∧ Q (.int (if j < i then j else i)) H) := by
  intro pins s σ H xs us Q I r h
  obtain ⟨i, j, rfl, q⟩ := h
  obtain ⟨u, w', rfl, ⟨t, rfl⟩, ⟨t', rfl⟩⟩ := Vp r
  refine min_two_ints (I.ok.hd hc) fun h' tk k => ⟨_, H, I.kept k, ?_, q⟩
  by_cases hj : j < i
  · rw [if_pos hj, if_pos hj]; exact ⟨_, rfl⟩
  · rw [if_neg hj, if_neg hj]; exact ⟨_, rfl⟩
end
end L2
namespace L2
open PySem PySem.Spec PyProof.Rows
set_option genInjectivity false in
set_option genSizeOf false in
set_option genCtorIdx false in
structure zhv (h : Heap) (x dx C : Addr) (mA : Str → Option Value) : Prop where
  obj : h.get? x = some (PySem.W.instObj C dx)
  ns : h.Ns1 dx mA
  ne : dx ≠ x
theorem zcj {h : Heap} {dx : Addr} {mA : Str → Option Value} (n : h.Ns1 dx mA) : ∃ od, h.get? dx = some od ∧ ∀ name, PySem.W.lookIn name od = some (mA name) := by
  obtain ⟨o, es, ep, ho, hd, hk, _, hm⟩ := n
  refine ⟨o, ho, fun name => ?_⟩
  have e := hm name
  unfold nsFind findBy at e
  rw [← Array.find?_toList] at e
  unfold PySem.W.lookIn
  rw [hd]
  dsimp only
  split
  · rename_i y q
    rw [q] at e
    exact congrArg some e
  · rename_i q
    rw [q] at e
    have a : es.toList.any (·.refKey) = false := by
      rw [List.any_eq_false]
      intro y hy
      obtain ⟨z, t, hkey⟩ := hk y (Array.mem_toList_iff.mp hy)
      simp [DictEntry.refKey, hkey]
    have a' : ¬ es.toList.any (·.refKey) = true := by rw [a]; exact Bool.false_ne_true
    rw [if_neg a']
    exact congrArg some e
theorem zhv.look {h : Heap} {x dx C : Addr} {mA : Str → Option Value} (I : zhv h x dx C mA) : ∃ od, PySem.W.InstAt h x (PySem.W.instObj C dx) C (some od) ∧ ∀ name, PySem.W.lookIn name od = some (mA name) :=
  let ⟨od, ho, hl⟩ := zcj I.ns
  ⟨od, ⟨I.obj, rfl, rfl, ho⟩, hl⟩
section
variable {prog : Program} {w : World} {A : Around} {E : Value → Shared → Prop} {s : Shared} {K : PySem.W.Frag} {x dx C f : Addr} {mA : Str → Option Value} {name : Str} {v : Value}
end
section
variable {P : Program} {w : World} {H H' : Hp} {h h' : Heap} {a C dx : Addr} {fs fs' : List (Str × V)}
theorem ze8 (hok : HOk P w H h) (e : H a = some (.ins C dx fs)) : ∃ mA, zhv h a dx C mA ∧ (∀ f, zhD (fs.lookup f) (mA f)) ∧ PySem.Within mA (fs.map (·.1)) ∧ fs.length ≤ 1000 ∧ H dx = some (.own a) := by
  obtain ⟨d, z, ne, ob, mA, n, r, q⟩ := (show xO P w H h a (.ins C dx fs) from hok a _ e)
  exact ⟨mA, ⟨ob, n, ne⟩, r, q, z, d⟩
end
set_option genInjectivity false in
set_option genSizeOf false in
set_option genCtorIdx false in
structure Cls (K : PySem.W.Frag) (C : Addr) : Prop where
  pg : PySem.W.plainGet K C Str.empty = true
  hd : PySem.W.hasDictIn K C = true
  po : PySem.W.plainOver K C = true
  sa : PySem.W.findIn K (.ref C) "__setattr__" = some (some (.builtin "object.__setattr__"))
theorem Cls.get {K : PySem.W.Frag} {C : Addr} (c : Cls K C) (f : Str) : PySem.W.plainGet K C f = true := c.pg
section
variable {X : Cx} {pins : List (Addr × Obj)} {σ : St} {H : Hp} {s : Shared} {a C dx : Addr} {fs : List (Str × V)} {f : Str} {v : V} {A : Around} {E : Value → Shared → Prop}
end
section
variable {X : Cx} {o e value : Expr} {f : Str} {pos pos' tpos : Pos} {ta tv : TE}
end
section
variable {X : Cx} {pins : List (Addr × Obj)} {σ : St} {H : Hp} {s : Shared} {A : Around} {E : Value → Shared → Prop} {Q : Value → Shared → Prop} {c : Value} {b : Bool}
inductive VU (K : PySem.W.Frag) (H : Hp) : V → Value → Prop where
  | non : VU K H .non (.type "NoneType")
  | bl (x : Bool) : VU K H (.bl x) (.type "bool")
  | int (i : Int) : VU K H (.int i) (.type "int")
  | str (x : Str) : VU K H (.str x) (.type "str")
  | flt (x : UInt64) : VU K H (.flt x) (.type "float")
  | lst {a : Addr} {xs : List V} (e : H a = some (.lst xs)) : VU K H (.ref a) (.type "list")
  | frz {a : Addr} {o : Obj} {xs : List V} (e : H a = some (.frz o (.lst xs))) : VU K H (.ref a) (.type "list")
  | tup {a : Addr} {xs : List V} (e : H a = some (.tup xs)) : VU K H (.ref a) (.type "tuple")
  | dK {a : Addr} {kvs : List (Key × V)} (e : H a = some (.dK kvs)) : VU K H (.ref a) (.type "dict")
  | dT {a : Addr} {kvs : List (List Key × V)} (e : H a = some (.dT kvs)) : VU K H (.ref a) (.type "dict")
  | ins {a C dx : Addr} {fs : List (Str × V)} (e : H a = some (.ins C dx fs)) (cl : Cls K C) (ha : PySem.W.findIn K (.ref C) "__class__" = some (some (.builtin "object.__class__")))
      (hn : PySem.W.specialIn K (.builtin "object.__class__") "__get__" = some (some (.builtin "getset_descriptor.__get__"))) (htk : PySem.W.takesIn K (.builtin "object.__class__") = some true)
      (hm : PySem.W.mroIn K C (.type "object") = some true) : VU K H (.ref a) (.ref C)
theorem zcd {x : V} {u t : Value} (I : Inv X pins σ H s) (rx : xm x u) (ty : VU X.K H x t) (e : PySem.W.kitOne X.K t c = some b) (h : ∀ tk, Q (.bool b) { s with toks := tk }) :
    wpAny (model X.prog X.w) A (call (.builtin "isinstance") [u, c]) Q E s := by
  cases ty with
  | non => cases (show u = Value.none from rx); exact PySem.W.kia_one PySem.W.kitx_none I.kIn True.intro e (fun z => nomatch z) h
  | bl y => cases (show u = Value.bool y from rx); exact PySem.W.kia_one PySem.W.kitx_bool I.kIn True.intro e (fun z => nomatch z) h
  | int i => obtain ⟨t, q⟩ := (show ∃ t, u = Value.int i t from rx); cases q; exact PySem.W.kia_one PySem.W.kitx_int I.kIn True.intro e (fun z => nomatch z) h
  | str y => obtain ⟨t, q⟩ := (show ∃ t, u = Value.str y t from rx); cases q; exact PySem.W.kia_one PySem.W.kitx_str I.kIn True.intro e (fun z => nomatch z) h
  | flt y => obtain ⟨t, q⟩ := (show ∃ t, u = Value.float y t from rx); cases q; exact PySem.W.kia_one PySem.W.kitx_float I.kIn True.intro e (fun z => nomatch z) h
  | @lst a xs ea =>
    cases (show u = Value.ref a from rx)
    obtain ⟨_, _, n, _, h1⟩ := (show xO X.prog X.w H s.heap a (.lst xs) from I.hok a _ ea)
    exact PySem.W.kia_one PySem.W.kitx_list I.kIn ⟨_, h1, rfl⟩ e (fun z => nomatch z) h
  | @frz a ob xs ea =>
    cases (show u = Value.ref a from rx)
    obtain ⟨_, _, _, n, _, h1⟩ := (show xO X.prog X.w H s.heap a (.frz ob (.lst xs)) from I.hok a _ ea)
    exact PySem.W.kia_one PySem.W.kitx_list I.kIn ⟨_, h1, rfl⟩ e (fun z => nomatch z) h
  | @tup a xs ea =>
    cases (show u = Value.ref a from rx)
    obtain ⟨_, _, _, p⟩ := (show xO X.prog X.w H s.heap a (.tup xs) from I.hok a _ ea)
    obtain ⟨o, h1, h2, _⟩ := p
    exact PySem.W.kia_one PySem.W.kitx_tuple I.kIn ⟨o, h1, h2⟩ e (fun z => nomatch z) h
  | @dK a kvs ea =>
    cases (show u = Value.ref a from rx)
    obtain ⟨_, _, vs, _, p⟩ := (show xO X.prog X.w H s.heap a (.dK kvs) from I.hok a _ ea)
    obtain ⟨o, es, ep, h1, h2, _⟩ := p
    exact PySem.W.kia_one PySem.W.kitx_dict I.kIn ⟨o, h1, h2.1⟩ e (fun z => nomatch z) h
  | @dT a kvs ea =>
    cases (show u = Value.ref a from rx)
    obtain ⟨_, _, xs, _, o, es, ep, h1, h2, _⟩ := (show xO X.prog X.w H s.heap a (.dT kvs) from I.hok a _ ea)
    exact PySem.W.kia_one PySem.W.kitx_dict I.kIn ⟨o, h1, h2.1⟩ e (fun z => nomatch z) h
  | @ins a C dx fs ea cl ha hn htk hm =>
    cases (show u = Value.ref a from rx)
    obtain ⟨mA, O, _⟩ := ze8 I.hok ea
    obtain ⟨od, J, _⟩ := O.look
    exact PySem.W.kia_one (PySem.W.kitx_own (cl.get _) cl.hd ha hn htk hm) I.kIn J e (fun z => nomatch z) h
end
end L2
namespace L2
open PySem PySem.Spec PyProof.Rows
set_option genInjectivity false in
set_option genSizeOf false in
set_option genCtorIdx false in
structure YN (k : Nat) (A : Around) : Prop where
  hd : A.handled = none
  dp : A.depth + 3 * k + 5 < recursionLimit
  un : A.units + 16 * k + 200 < cLine
theorem YN.mono {j k : Nat} {A : Around} (r : YN k A) (h : j ≤ k) : YN j A := ⟨r.hd, by have := r.dp; omega, by have := r.un; omega⟩
theorem YN.deeper {k : Nat} {A : Around} (r : YN (k + 1) A) (env : Env) : YN k (A.deeper env) :=
  ⟨r.hd, by have := r.dp; show A.depth + 1 + 3 * k + 5 < _; omega, by have := r.un; show A.units + 3 + 16 * k + 200 < _; omega⟩
theorem YN.depth {k : Nat} {A : Around} (r : YN k A) : A.depth < recursionLimit := by have := r.dp; omega
theorem YN.units0 {k : Nat} {A : Around} (r : YN k A) : A.units < cLine := by have := r.un; omega
noncomputable def tNil : TA := fun _ H Q => Q [] H
noncomputable def zhr (ta : TE) (tr : TA) : TA := fun σ H Q => ta σ H fun x H1 => tr σ H1 fun xs H2 => Q (x :: xs) H2
section
variable {X : Cx} {e : Expr} {es : List Expr} {te : TE} {t : TA} {pos : Pos}
theorem VA : PA X [] tNil := fun _ _ _ _ H Q I h => Calls.spliced_nil ⟨[], H, I, .nil, h⟩
theorem Ys (ha : PE X e te) (hr : PA X es t) (hs : starEach (e :: es) X.env = (false, eval e X.env) :: starEach es X.env := by rfl) : PA X (e :: es) (zhr te t) := by
  intro pos pins s σ H Q I h
  rw [hs]
  show wpAny _ _ (spliced ((false, eval e X.env) :: backTo pos (starEach es X.env))) _ _ s
  refine Calls.spliced_cons (thn (ha pins s σ H _ I h) fun u s1 hh9 => ?_)
  obtain ⟨x, H1, I1, r1, q1⟩ := hh9
  exact thn (hr pos pins s1 σ H1 _ I1 q1) fun us s2 ⟨xs, H2, I2, r2, q2⟩ => ⟨x :: xs, H2, I2, .cons r1 r2, q2⟩
noncomputable def tTup (t : TA) : TE := fun σ H Q => t σ H fun xs H1 => xs.length ≤ sizeLine ∧ ∀ p, H1 p = none → Q (.ref p) (upd H1 p (.tup xs))
noncomputable def tLst (t : TA) : TE := fun σ H Q => t σ H fun xs H1 => xs.length ≤ sizeLine ∧ ∀ p, H1 p = none → Q (.ref p) (upd H1 p (.lst xs))
theorem zfB {x1} (h : PA X es t) : PE X (.Tuple es x1 pos) (tTup t) := by
  intro pins s σ H Q I hq
  refine wpAny_Tuple_spliced (thn (h pos pins s σ H _ I hq) fun us s1 ⟨xs, H1, I1, r, z, q⟩ => ⟨by rw [← r.length]; exact z, ?_⟩)
  have hf : H1 s1.heap.objs.size = none := I1.hok.fresh (Nat.le_refl _)
  refine ⟨.ref s1.heap.objs.size, upd H1 s1.heap.objs.size (.tup xs), I1.laid (t' := s1.toks) (fun b u e => Heap.get?_push_of_some _ e) (Nat.le_refl _) ?_, rfl, q _ hf⟩
  exact ⟨z, us, r, ⟨_, Heap.get?_push_size _ rfl, rfl, _, rfl⟩⟩
theorem zfz (h : PA X es t) : PE X (.List es pos) (tLst t) := by
  intro pins s σ H Q I hq
  refine wpAny_List_spliced (thn (h pos pins s σ H _ I hq) fun us s1 ⟨xs, H1, I1, r, z, q⟩ => ⟨by rw [← r.length]; exact z, ?_⟩)
  have hf : H1 s1.heap.objs.size = none := I1.hok.fresh (Nat.le_refl _)
  refine ⟨.ref s1.heap.objs.size, upd H1 s1.heap.objs.size (.lst xs), I1.laid (t' := s1.toks) (fun b u e => Heap.get?_push_of_some _ e) (Nat.le_refl _) ?_, rfl, q _ hf⟩
  exact ⟨z, us, 0, r, Heap.get?_push_size _ rfl⟩
end
noncomputable abbrev Sp := List V → Hp → VK → XK → Prop
noncomputable abbrev CXT := List Env → Hp → Shared → XK → Value → Shared → Prop
structure zgR (P : Program) (w : World) (K : PySem.W.Frag) (mg : Str → Option Value) (base : Heap) (A : Around) (outer : List Env) (s : Shared) (H : Hp) : Prop where
  frames : A.frames = some outer
  mod : Mod K mg base
  bs : ∀ b o, base.get? b = some o → s.heap.get? b = some o ∧ H b = none
  bsz : base.objs.size ≤ s.heap.objs.size
  funs : s.heap.FunFrames base outer
  frf : ∀ b ∈ frs outer, H b = none
  hok : HOk P w H s.heap
  bare : AllBare s.gens
noncomputable def CE (outer : List Env) (P : Program) (w : World) (H : Hp) (s : Shared) (Q : VK) (u : Value) (s' : Shared) : Prop :=
  ∃ v H', s'.os = s.os ∧ AllBare s'.gens ∧ Un (frs outer) [] H H' s.heap s'.heap ∧ HOk P w H' s'.heap ∧ xm v u ∧ Q v H'
noncomputable def CR (CX : CXT) (outer : List Env) (P : Program) (w : World) (H : Hp) (s : Shared) (Q : VK) (E : XK) (r : Result) (s' : Shared) : Prop :=
  match r with
  | .ok (.ret u) => CE outer P w H s Q u s'
  | .ok _ => False
  | .error e => CX outer H s E e s'
set_option genInjectivity false in
set_option genSizeOf false in
set_option genCtorIdx false in
structure x6 (P : Program) (w : World) (K : PySem.W.Frag) (mg : Str → Option Value) (base : Heap) (CX : CXT) (k : Nat) (f : Addr) (fd : FuncData) (ps : List Str) (sp : Sp) : Prop where
  len : ∀ vs H Q E, sp vs H Q E → vs.length = ps.length
  run : ∀ (A : Around) (outer : List Env) (s : Shared) (H : Hp) (args : Args) (us : List Value) (vs : List V) (Q : VK) (E : XK), YN k A → zgR P w K mg base A outer s H → BindsTo s fd args (ps.zip us) → yh vs us → sp vs H Q E →
    codeAny (model P w) A (.call (.ref f) args) (CR CX outer P w H s Q E) s
theorem x6.mono {P : Program} {w : World} {K : PySem.W.Frag} {mg : Str → Option Value} {base : Heap} {CX : CXT} {j k : Nat} {f : Addr} {fd : FuncData} {ps : List Str} {sp : Sp} (F : x6 P w K mg base CX j f fd ps sp) (h : j ≤ k) :
    x6 P w K mg base CX k f fd ps sp := ⟨F.len, fun A outer s H args us vs Q E hr => F.run A outer s H args us vs Q E (hr.mono h)⟩
theorem x6.imp {P : Program} {w : World} {K : PySem.W.Frag} {mg : Str → Option Value} {base : Heap} {CX : CXT} {k : Nat} {f : Addr} {fd : FuncData} {ps : List Str} {sp sp' : Sp} (F : x6 P w K mg base CX k f fd ps sp)
    (h : ∀ vs H Q E, sp' vs H Q E → sp vs H Q E) : x6 P w K mg base CX k f fd ps sp' :=
  ⟨fun vs H Q E q => F.len vs H Q E (h _ _ _ _ q), fun A outer s H args us vs Q E hr he hb hv hs => F.run A outer s H args us vs Q E hr he hb hv (h _ _ _ _ hs)⟩
section
variable {X : Cx} {pins : List (Addr × Obj)} {σ : St} {H : Hp} {s s' : Shared}
theorem Inv.env0 (I : Inv X pins σ H s) : zgR X.prog X.w X.K X.mg X.base X.A X.stack s H :=
  ⟨I.ok.frames, I.ok.mod, I.bs, Nat.le_trans I.ok.bsz I.sz, I.stack, I.stkFree, I.hok, I.bare⟩
theorem Inv.after {Q : VK} {u : Value} (I : Inv X pins σ H s) (h : CE X.stack X.prog X.w H s Q u s') : EP X pins σ Q u s' := by
  obtain ⟨v, H', os, bare, un, hok, r, q⟩ := h
  obtain ⟨hh, g, d, t, os'⟩ := s'
  obtain rfl : os' = s.os := os
  exact ⟨v, H', I.call (h' := hh) (g' := g) (d' := d) (t' := t) (ch := []) un hok bare (fun b z => absurd z (by simp)), r, q⟩
end
noncomputable def zht (sp : Sp) (dvs : List V) (E : XK) (t : TA) : TE := fun σ H Q => t σ H fun vs H1 => sp (vs ++ dvs) H1 Q E
noncomputable def Vl (K : PySem.W.Frag) (fd : FuncData) (ps : List Str) (ds : List Value) : Prop :=
  ∀ (s : Shared) (us : List Value), K.In s.heap → (us ++ ds).length = ps.length → BindsTo s fd ⟨us, []⟩ (ps.zip (us ++ ds))
theorem Vl.all {K : PySem.W.Frag} {fd : FuncData} {ps : List Str} (h : ∀ us : List Value, us.length = ps.length → bindArgs fd ⟨us, []⟩ = pure (ps.zip us)) : Vl K fd ps [] := fun s us _ hl => by
  rw [List.append_nil] at hl ⊢
  exact .of_eq (h us hl)
noncomputable def zbJ (CX : CXT) (X : Cx) (E : XK) : Prop := ∀ (pins : List (Addr × Obj)) (σ : St) (H : Hp) (s : Shared) (e : Value) (s' : Shared), Inv X pins σ H s → CX X.stack H s E e s' → X.xe e s'
section
variable {X : Cx} {CX : CXT} {k : Nat} {f C : Addr} {fd : FuncData} {ps : List Str} {sp : Sp} {dvs : List V} {ds : List Value} {E : XK} {x m : Str} {p pos apos : Pos} {e o : Expr} {es : List Expr} {ta : TE} {t : TA}
theorem zft {pins : List (Addr × Obj)} {σ : St} {H : Hp} {s : Shared} {Q : VK} {us : List Value} {vs : List V} (F : x6 X.prog X.w X.K X.mg X.base CX k f fd ps sp) (hr : YN k X.A) (hb : Vl X.K fd ps ds) (hd : yh dvs ds) (hx : zbJ CX X E)
    (I : Inv X pins σ H s) (r : yh vs us) (h : sp (vs ++ dvs) H Q E) : wpAny (model X.prog X.w) X.A (call (.ref f) us) (EP X pins σ Q) X.xe s := by
  have r2 : yh (vs ++ dvs) (us ++ ds) := r.append hd
  have hl : (us ++ ds).length = ps.length := by rw [← r2.length]; exact F.len _ _ _ _ h
  refine wpAny_call (codeAny_mono (F.run X.A X.stack s H ⟨us, []⟩ (us ++ ds) (vs ++ dvs) Q E hr I.env0 (hb s us I.kIn hl) r2 h) fun r s' hq => ?_)
  cases r with
  | error e => exact hx pins σ H s e s' I hq
  | ok fl =>
    cases fl with
    | ret u => exact I.after hq
    | next => exact False.elim hq
    | brk => exact False.elim hq
    | cont => exact False.elim hq
theorem zeB (F : x6 X.prog X.w X.K X.mg X.base CX k f fd ps sp) (hr : YN k X.A) (hg : Gl X x) (hm : X.mg x = some (.ref f)) (hk : PySem.W.keepIn X.K (.ref f) = true) (hb : Vl X.K fd ps ds) (hd : yh dvs ds) (hx : zbJ CX X E)
    (ha : PA X (e :: es) t) (hdb : (x == ("__debug__" : Str)) = false := by decide) (he : starEach (e :: es) X.env = (false, eval e X.env) :: starEach es X.env := by rfl) (hpl : (backTo pos (starEach es X.env)).any (·.1) = false := by rfl) :
    PE X (.Call (.Name x p) (e :: es) [] pos) (zht sp dvs E t) := by
  intro pins s σ H Q I h
  refine wpAny_Call_Name_kw (zbF I hg hm ?_ hdb)
  refine PySem.W.callWith_K (h₀ := X.base) I.ok.mod.kin hk (thn (ha pos pins s σ H _ I h) fun us s1 ⟨vs, H1, I1, r, q⟩ => ⟨I1.kIn, ?_⟩) he hpl
  exact zft F hr hb hd hx I1 r q
end
section
variable {X : Cx} {CX : CXT} {k : Nat} {f C : Addr} {fd : FuncData} {ps ks : List Str} {sp : Sp} {E : XK} {x m : Str} {p pos apos kpos : Pos} {e o : Expr} {es : List Expr} {kws : List Keyword} {te ta : TE} {t tk : TA} {nm : Option Str}
variable {g : List Value → List Value → List Value} {gV : List V → List V → List V}
end
structure zw (N P : List Str) (sc : Scope) : Prop where
  kind : sc.kind = .function
  co : sc.isCoroutine = false
  gen : sc.isGenerator = false
  nd : N.Nodup
  pre : N.take P.length = P
  par : ∀ x ∈ P, sc.names.lookup x = some .local ∨ sc.names.lookup x = some .cell
  nofree : ∀ y ∈ sc.names, y.2 ≠ .free
theorem Wm {kindOf : Str → Option NameKind} {x : Str} : ∀ {binds : List (Str × Value)} {m : Str → Option Value}, (∀ v, (x, v) ∉ binds) → bindL kindOf binds m x = m x
  | [], _, _ => rfl
  | (n, v) :: r, m, h => by
    unfold bindL
    rw [Wm fun w hw => h w (List.mem_cons_of_mem _ hw)]
    split
    · have : x ≠ n := by rintro rfl; exact h v List.mem_cons_self
      simp [this]
    · rfl
theorem X1 {kindOf : Str → Option NameKind} {x : Str} : ∀ {binds : List (Str × Value)} {m : Str → Option Value}, (∀ v, (x, v) ∉ binds) → bindC kindOf binds m x = m x
  | [], _, _ => rfl
  | (n, v) :: r, m, h => by
    unfold bindC
    rw [X1 fun w hw => h w (List.mem_cons_of_mem _ hw)]
    split
    · rfl
    · have : x ≠ n := by rintro rfl; exact h v List.mem_cons_self
      simp [this]
theorem Wz {kindOf : Str → Option NameKind} {x : Str} {v : Value} : ∀ {P : List Str} {vs : List Value} {i : Nat} {m : Str → Option Value}, P.Nodup → P[i]? = some x → vs[i]? = some v → kindOf x = some .local →
    bindL kindOf (P.zip vs) m x = some v
  | [], _, _, _, _, h, _, _ => by simp at h
  | _ :: _, [], _, _, _, _, h, _ => by simp at h
  | p :: P, w :: vs, 0, m, nd, h1, h2, hk => by
    simp at h1 h2; subst h1; subst h2
    show bindL kindOf ((p, w) :: P.zip vs) m p = _
    unfold bindL
    rw [Wm fun v hv => (List.nodup_cons.mp nd).1 (List.of_mem_zip hv).1, if_pos hk]
    simp
  | p :: P, w :: vs, i + 1, m, nd, h1, h2, hk => by
    show bindL kindOf ((p, w) :: P.zip vs) m x = _
    unfold bindL
    exact Wz (i := i) (List.nodup_cons.mp nd).2 (by simpa using h1) (by simpa using h2) hk
theorem WC {kindOf : Str → Option NameKind} {x : Str} {v : Value} : ∀ {P : List Str} {vs : List Value} {i : Nat} {m : Str → Option Value}, P.Nodup → P[i]? = some x → vs[i]? = some v → kindOf x ≠ some .local →
    bindC kindOf (P.zip vs) m x = some v
  | [], _, _, _, _, h, _, _ => by simp at h
  | _ :: _, [], _, _, _, _, h, _ => by simp at h
  | p :: P, w :: vs, 0, m, nd, h1, h2, hk => by
    simp at h1 h2; subst h1; subst h2
    show bindC kindOf ((p, w) :: P.zip vs) m p = _
    unfold bindC
    rw [X1 fun v hv => (List.nodup_cons.mp nd).1 (List.of_mem_zip hv).1, if_neg hk]
    simp
  | p :: P, w :: vs, i + 1, m, nd, h1, h2, hk => by
    show bindC kindOf ((p, w) :: P.zip vs) m x = _
    unfold bindC
    exact WC (i := i) (List.nodup_cons.mp nd).2 (by simpa using h1) (by simpa using h2) hk
noncomputable def start (N : List Str) (vs : List V) : St := vs.map some ++ List.replicate (N.length - vs.length) none
noncomputable def zel (CX : CXT) (P : Program) (w : World) (K : PySem.W.Frag) (mg : Str → Option Value) (base : Heap) (N : List Str) (qual : Str) (scope : Scope) (f : Addr) (cd : Value) (A : Around) (outer : List Env) (s : Shared) (H : Hp) (E : XK) : Cx where
  prog := P
  w := w
  K := K
  mg := mg
  base := base
  A := A.deeper (envOfC qual scope s.heap.objs.size f cd)
  N := N
  s₀ := s
  H₀ := H
  env := envOfC qual scope s.heap.objs.size f cd
  outer := outer
  stack := envOfC qual scope s.heap.objs.size f cd :: outer
  ex := []
  calm := true
  fn := fun _ => true
  pn := []
  xe := fun e s' => wpAny (model P w) (A.deeper (envOfC qual scope s.heap.objs.size f cd)) (leaving (envOfC qual scope s.heap.objs.size f cd) e) (fun _ s'' => CX outer H s E e s'') (fun e' s'' => CX outer H s E e' s'') s'
theorem VD {sc : Scope} {n : Nat} {x : Str} (h : sc.names.lookup x = some .cell) : ∃ c, (cellsFrom n sc.names []).lookup x = some c := by
  have q := PySem.W.cellsFrom_some sc.names n [] (.inl h)
  exact Option.isSome_iff_exists.mp q
theorem zcr {CX : CXT} {P : Program} {w : World} {K : PySem.W.Frag} {mg : Str → Option Value} {base : Heap} {N ps : List Str} {qual : Str} {scope : Scope} {f : Addr} {cd : Value} {A : Around} {outer : List Env} {s s1 : Shared} {H : Hp} {E : XK} {us : List Value} {vs : List V}
    (S : zw N ps scope) (hd : A.handled = none) (e0 : zgR P w K mg base A outer s H) (hl : vs.length = ps.length) (r : yh vs us)
    (x : InCallC s s.heap.objs.size (bindL (envOfC qual scope s.heap.objs.size f cd).kindOf (ps.zip us) fun _ => none) (cellsFrom (s.heap.objs.size + 1) scope.names []) (bindC (envOfC qual scope s.heap.objs.size f cd).kindOf (ps.zip us) fun _ => none) s1) :
    Inv (zel CX P w K mg base N qual scope f cd A outer s H E) [] (start N vs) H s1 := by
  have hpl : ps.length ≤ N.length := by have := congrArg List.length S.pre; rw [List.length_take] at this; omega
  obtain ⟨h1, tk, rfl, hk⟩ := x.done
  have noA : ∀ b : Addr, b ∉ (zel CX P w K mg base N qual scope f cd A outer s H E).ex := fun b z => absurd (show b ∈ ([] : List Addr) from z) (by simp)
  refine ⟨⟨e0.mod, S.kind, rfl, rfl, Nat.le_refl _, fun y z c h1 h2 => ?_, fun y hy => ?_, fun y c _ h => ?_, fun _ => hd, Around.frames_deeper e0.frames, .inr ⟨rfl, rfl⟩, fun b z => absurd z (noA b), e0.bs, e0.bsz, fun b _ _ => noA b, fun b z => absurd z (noA b), e0.funs, e0.frf⟩,
    rfl, e0.bare, Un.kept hk, ⟨_, x.toInCall.ns, fun i y v h1 h2 h3 => ?_⟩, fun y c h => ⟨_, x.cell y c h⟩, e0.hok.fresh (Nat.le_refl _), fun y c h => ?_, fun p hp => absurd (show p ∈ ([] : List (Addr × Obj)) from hp) (by simp), e0.hok.kept hk, ?_⟩
  · exact name_of_addr x.apart (PySem.mem_of_lookup h1) (PySem.mem_of_lookup h2)
  · have hy : scope.names.lookup y = some .cell ∨ scope.names.lookup y = some .free := hy
    rcases hy with hy | hy
    · exact VD hy
    · exact absurd rfl (S.nofree _ (PySem.mem_of_lookup hy))
  · exact Nat.le_of_lt (x.above y c (PySem.mem_of_lookup h))
  · have hi : i < vs.length := by
      unfold start at h2
      by_cases hi : i < vs.length
      · exact hi
      · rw [List.getElem?_append_right (by simpa using hi)] at h2
        rw [List.getElem?_replicate] at h2
        split at h2 <;> cases h2
    have ha : vs[i]? = some v := by
      unfold start at h2
      rw [List.getElem?_append_left (by simpa using hi), List.getElem?_map] at h2
      cases e : vs[i]? with
      | none => rw [e] at h2; cases h2
      | some a => rw [e] at h2; cases h2; rfl
    obtain ⟨u, hu, rv⟩ := r.get ha
    have hp : ps[i]? = some y := by
      rw [← S.pre, List.getElem?_take_of_lt (by omega)]; exact h1
    have ndP : ps.Nodup := by rw [← S.pre]; exact S.nd.sublist (List.take_sublist _ _)
    refine ⟨u, rv, ?_⟩
    rcases S.par y (List.mem_of_getElem? hp) with k | k
    · exact .inl ⟨k, Wz ndP hp hu k⟩
    · obtain ⟨c, e⟩ := VD (n := s.heap.objs.size + 1) k
      refine .inr ⟨.inl k, c, e, ?_⟩
      have q := x.cell y c e
      rw [WC ndP hp hu (by show scope.names.lookup y ≠ _; rw [k]; decide)] at q
      exact q
  · exact e0.hok.fresh (Nat.le_of_lt (x.above y c (PySem.mem_of_lookup h)))
  · unfold start
    show _ = N.length
    rw [List.length_append, List.length_map, List.length_replicate]
    omega
theorem zg8 {CX : CXT} {P : Program} {w : World} {K : PySem.W.Frag} {mg : Str → Option Value} {base : Heap} {k : Nat} {f : Addr} {name qual : Str} {params : Arguments} {body : List Stmt} {scope : Scope} {dV kV doc pm cdv ct oc : Value} {an od : Option Addr}
    {osl : Array (Option Value)} {N ps : List Str} {sp : Sp} (lk : K.lookup f = some ⟨oc, od, .func (PySem.W.fnOf name qual params body scope dV kV doc pm an cdv ct), osl⟩) (hcd : PySem.W.codeIn K cdv qual = true) (S : zw N ps scope)
    (len : ∀ vs H Q E, sp vs H Q E → vs.length = ps.length)
    (hbody : ∀ (A : Around) (outer : List Env) (s : Shared) (H : Hp) (vs : List V) (Q : VK) (E : XK), YN k (A.deeper (envOfC qual scope s.heap.objs.size f cdv)) → sp vs H Q E →
      ∃ t, PSs (zel CX P w K mg base N qual scope f cdv A outer s H E) body t ∧ t { nx := fun _ H' => Q .non H', rt := Q } (start N vs) H) :
    x6 P w K mg base CX (k + 1) f (PySem.W.fnOf name qual params body scope dV kV doc pm an cdv ct) ps sp := by
  refine ⟨len, fun A outer s H args us vs Q E hr e0 hb r hsp => ?_⟩
  have hl := len _ _ _ _ hsp
  have KX : K.In s.heap := e0.mod.kin.keeps fun b o e => (e0.bs b o e).1
  have lim : s.heap.NoLimit := e0.mod.nolimit.keeps fun b o e => (e0.bs b o e).1
  have hkind : ∀ y ∈ ps.zip us, scope.names.lookup y.1 = some .local ∨ (scope.names.lookup y.1 = some .cell ∧ ((cellsFrom (s.heap.objs.size + 1) scope.names []).lookup y.1).isSome = true) := fun ⟨n, v⟩ hy => by
    rcases S.par n (List.of_mem_zip hy).1 with q | q
    · exact .inl q
    · exact .inr ⟨q, PySem.W.cellsFrom_some _ _ _ (.inl q)⟩
  refine codeAny_call_function hr.depth (KX _ _ lk) rfl S.co S.gen rfl (PySem.W.codeRec_of KX hcd) (hb _ _ _ _ ?_)
  refine wpAny_newFunctionEnv_cells S.kind hkind fun env he s1 x => ?_
  subst he
  refine ⟨lim.keeps x.toInCall.keep, codeAny_func ?_⟩
  obtain ⟨t, ht, hq⟩ := hbody A outer s H vs Q E (hr.deeper _) hsp
  have I : Inv (zel CX P w K mg base N qual scope f cdv A outer s H E) [] (start N vs) H s1 := zcr S hr.hd e0 hl r x
  refine wpAny_mono (ht [] s1 (start N vs) H _ I hq) (fun fl s' hs => ?_) fun e s' hs => hs
  have fin : ∀ {σ' : St} {H' : Hp} {v : V} {u : Value}, Inv (zel CX P w K mg base N qual scope f cdv A outer s H E) [] σ' H' s' → xm v u → Q v H' → CE outer P w H s Q u s' :=
    fun {σ' H' v u} J rv q => ⟨v, H', J.os, J.bare, J.base, J.hok, rv, q⟩
  cases fl with
  | ret u =>
    obtain ⟨v, σ', H', J, rv, q⟩ := hs
    exact fin J rv q
  | next =>
    obtain ⟨σ', H', J, q⟩ := hs
    exact fin (v := V.non) (u := Value.none) J rfl q
  | brk =>
    obtain ⟨_, _, _, q⟩ := hs
    exact False.elim q
  | cont =>
    obtain ⟨_, _, _, q⟩ := hs
    exact False.elim q
end L2
namespace L2
open PySem PySem.Spec PyProof.Rows
section
variable {X : Cx} {x : Str} {p pos : Pos} {e : Expr} {es : List Expr} {t : TA} {id T : String} {r : List V → Hp → VK → Prop}
noncomputable def tCB (r : List V → Hp → VK → Prop) (t : TA) : TE := fun σ H Q => t σ H fun vs H1 => r vs H1 Q
theorem Xx (hc : Yw X (.builtin id) r) (hg : Gl X x) (hm : X.mg x = none) (hv : bootBuiltins x = some (.builtin id)) (ha : PA X (e :: es) t) (hn : x ≠ "__name__" := by decide) (hdb : (x == ("__debug__" : Str)) = false := by decide)
    (he : starEach (e :: es) X.env = (false, eval e X.env) :: starEach es X.env := by rfl) (hpl : (backTo pos (starEach es X.env)).any (·.1) = false := by rfl) : PE X (.Call (.Name x p) (e :: es) [] pos) (tCB r t) := by
  intro pins s σ H Q I h
  refine wpAny_Call_Name_kw (w8 I hg hm hv ?_ hn hdb)
  exact PyProof.Rows.callWith_builtin1 (thn (ha pos pins s σ H _ I h) fun us s1 ⟨vs, H1, I1, r1, q1⟩ => hc pins s1 σ H1 vs us Q I1 r1 q1) he hpl
theorem Ws (hc : Yw X (.type T) r) (hg : Gl X x) (hm : X.mg x = none) (hv : bootBuiltins x = some (.type T)) (ha : PA X (e :: es) t) (hn : x ≠ "__name__" := by decide) (hdb : (x == ("__debug__" : Str)) = false := by decide)
    (he : starEach (e :: es) X.env = (false, eval e X.env) :: starEach es X.env := by rfl) (hpl : (backTo pos (starEach es X.env)).any (·.1) = false := by rfl) : PE X (.Call (.Name x p) (e :: es) [] pos) (tCB r t) := by
  intro pins s σ H Q I h
  refine wpAny_Call_Name_kw (w8 I hg hm hv ?_ hn hdb)
  exact PyProof.Rows.callWith_type1 (thn (ha pos pins s σ H _ I h) fun us s1 ⟨vs, H1, I1, r1, q1⟩ => hc pins s1 σ H1 vs us Q I1 r1 q1) he hpl
end
end L2
namespace HT
open PySem PyProof.Rows
theorem zcO (A : Around) (s : Shared) (a : Int) (t : Tok) (c : Int) (u : Tok) : ∃ e, SeqAt.EqAt A s (.int a t) (.int c u) e ∧ (e = true ↔ a = c) :=
  ⟨(a == c), SeqAt.EqAt.int_int a t c u, by simp⟩
section
open PySem.SeqAt
open PySem.AutoSeq1 (wpAny_loadPart')
open PySem.MeetsSeq PySem.MeetsSeq2 PySem.MeetsSeq3
end
section
variable {prog : Program} {w : World} {A : Around} {E : Value → Shared → Prop} {s : Shared}
theorem cat_tup {t b : Addr} {vs ws : List Value} {Q : Value → Shared → Prop} (ht : IsTup s.heap t vs.toArray) (hb : IsTup s.heap b ws.toArray) (hv : vs ≠ [])
    (h1 : ws = [] → Q (.ref t) s) (h2 : ws ≠ [] → Q (.ref s.heap.objs.size) { s with heap := s.heap.push { cls := .type "tuple", data := .seq (vs ++ ws).toArray } })
    (hsz : vs.length + ws.length ≤ sizeLine) : wpAny (model prog w) A (binaryOp .Add (.ref t) (.ref b)) Q E s := by
  obtain ⟨⟨cls, dd, data, sl⟩, ho, hc, n, hd⟩ := id ht
  obtain ⟨⟨cls2, dd2, data2, sl2⟩, ho2, hc2, n2, hd2⟩ := id hb
  simp only at hc hd hc2 hd2
  subst hc hd hc2 hd2
  have e : vs.toArray ++ ws.toArray = (vs ++ ws).toArray := by simp
  by_cases hw : ws = []
  · exact concat_meets ⟨_, ho, rfl⟩ ⟨_, ho2, rfl⟩ noFill_tuple_add seq_tuple_add PySem.F.slot_tuple_add PySem.F.entry_tuple_add (PySem.F.args_tuple_add_2 _ _)
      (tuple_addW1 t b vs.toArray ws.toArray n n2 dd dd2 sl sl2 (by simpa using hv) (by simp [hw])) ⟨ho, ho2, h1 hw⟩
  · refine concat_meets ⟨_, ho, rfl⟩ ⟨_, ho2, rfl⟩ noFill_tuple_add seq_tuple_add PySem.F.slot_tuple_add PySem.F.entry_tuple_add (PySem.F.args_tuple_add_2 _ _)
      (tuple_addW2 t b vs.toArray ws.toArray n n2 dd dd2 sl sl2 (by simpa using hv) (by simpa using hw) (by rw [List.size_toArray, List.size_toArray]; exact hsz)) ⟨ho, ho2, ?_⟩
    rw [e]
    exact h2 hw
noncomputable def sIx (n d : Nat) : Option Int → Nat
  | none => d
  | some v => if v < 0 then (v + (n : Int)).toNat else min v.toNat n
theorem sIx_none (n d : Nat) : sIx n d none = d := rfl
theorem sIx_nat (n d k : Nat) : sIx n d (some (k : Int)) = min k n := by
  show (if (k : Int) < 0 then ((k : Int) + (n : Int)).toNat else min (k : Int).toNat n) = min k n
  rw [if_neg (by omega), Int.toNat_natCast]
theorem zgA (n d : Nat) (hd : d ≤ n) (o : Option Int) : sIx n d o ≤ n := by
  cases o with
  | none => exact hd
  | some v =>
    show (if v < 0 then (v + (n : Int)).toNat else min v.toNat n) ≤ n
    by_cases hv : v < 0
    · rw [if_pos hv]; omega
    · rw [if_neg hv]; exact Nat.min_le_right _ _
theorem zcJ (v : Int) (n d : Nat) : (if v < 0 then max (v + (n : Int)) 0 else min v (n : Int)) = ((sIx n d (some v) : Nat) : Int) := by
  show (if v < 0 then max (v + (n : Int)) 0 else min v (n : Int)) = (((if v < 0 then (v + (n : Int)).toNat else min v.toNat n) : Nat) : Int)
  by_cases hv : v < 0
  · simp only [if_pos hv]; omega
  · simp only [if_neg hv]; omega
theorem zax (lo hi : Option Int) (n : Nat) : Builtin.Slice.sliceAdjust lo hi 1 (n : Int) = (((sIx n 0 lo : Nat) : Int), ((sIx n n hi : Nat) : Int)) := by
  have h1 : ¬ ((1 : Int) < 0) := by omega
  unfold Builtin.Slice.sliceAdjust
  simp only [h1, if_false]
  refine Prod.ext ?_ ?_
  · cases lo with
    | none => rfl
    | some v => exact zcJ v n 0
  · cases hi with
    | none => rfl
    | some v => exact zcJ v n n
theorem zav (i j : Nat) : Builtin.Slice.slicePlaces (i : Int) (j : Int) 1 = j - i := by
  unfold Builtin.Slice.slicePlaces
  have h1 : (1 : Int) > 0 := by omega
  simp only [h1, if_true, Int.ediv_one]
  split <;> omega
theorem Xg {v : Value} {o : Option Int} {Q : Option Int → Shared → Prop} (p : IsPart v o) (h : Q o s) : wpAny (model prog w) A (Builtin.Slice.slicePartIndex v) Q E s := by
  cases p with
  | none => exact slicePart_none h
  | int i t => exact slicePart_int h
theorem wV {sl : Addr} {vl vu : Value} {lo hi : Option Int} {n : Nat} {Q : Int × Int × Nat → Shared → Prop} (hs : s.heap.IsSliceOf sl vl vu .none) (pl : IsPart vl lo) (pu : IsPart vu hi)
    (h : Q (((sIx n 0 lo : Nat) : Int), 1, sIx n n hi - sIx n 0 lo) s) : wpAny (model prog w) A (Builtin.Slice.sliceApplied (.ref sl) (pure (n : Int))) Q E s := by
  obtain ⟨os, hos, hcs, hds⟩ := id hs
  unfold Builtin.Slice.sliceApplied Builtin.Slice.sliceFields
  refine wpAny_bind (wpAny_bind (wpAny_field hos hds (x := vl) rfl (wpAny_bind (wpAny_field hos hds (x := vu) rfl (wpAny_bind (wpAny_field hos hds (x := .none) rfl (wpAny_pure ?_)))))))
  refine wpAny_bind (slicePart_none ?_)
  show wpAny _ _ (if ((1 : Int) == 0) = true then _ else _) _ _ s
  rw [if_neg (by decide)]
  refine wpAny_bind (Xg pl (wpAny_bind (Xg pu (wpAny_bind (wpAny_pure ?_)))))
  show wpAny _ _ (match Builtin.Slice.sliceAdjust lo hi 1 (n : Int) with | (lo, hi) => pure (lo, (1 : Int), Builtin.Slice.slicePlaces lo hi 1)) _ _ s
  rw [zax lo hi n]
  show wpAny _ _ (pure (((sIx n 0 lo : Nat) : Int), (1 : Int), Builtin.Slice.slicePlaces ((sIx n 0 lo : Nat) : Int) ((sIx n n hi : Nat) : Int) 1)) _ _ s
  rw [zav]
  exact wpAny_pure h
theorem zc4 (xs : Array Value) (i k : Nat) : ((List.range k).filterMap fun (m : Nat) => xs[((i : Int) + (m : Int) * 1).toNat]?).toArray = ((xs.toList.drop i).take k).toArray := by
  have e : (fun (m : Nat) => xs[((i : Int) + (m : Int) * 1).toNat]?) = fun m => xs[i + m]? := by
    funext m
    have : ((i : Int) + (m : Int) * 1).toNat = i + m := by omega
    rw [this]
  rw [e]
  have := pick_run xs i k
  rw [List.filterMap_map] at this
  have e2 : ((fun x => xs[x]?) ∘ fun x => i + x) = fun m => xs[i + m]? := rfl
  rw [e2] at this
  rw [this]
theorem getItem_tuple_cut {t sl : Addr} {items : Array Value} {vl vu : Value} {lo hi : Option Int} {Q : Value → Shared → Prop} (ht : IsTup s.heap t items) (hs : s.heap.IsSliceOf sl vl vu .none) (pl : IsPart vl lo) (pu : IsPart vu hi)
    (hw : ¬ (sIx items.size 0 lo = 0 ∧ sIx items.size items.size hi = items.size))
    (h : Q (.ref s.heap.objs.size) { s with heap := s.heap.push { cls := .type "tuple", data := .seq ((items.toList.drop (sIx items.size 0 lo)).take (sIx items.size items.size hi - sIx items.size 0 lo)).toArray } })
    (hsz : items.size ≤ sizeLine) : wpAny (model prog w) A (getItem (.ref t) (.ref sl)) Q E s := by
  have htake : sizeOk (.seq ((items.toList.drop (sIx items.size 0 lo)).take (sIx items.size items.size hi - sIx items.size 0 lo)).toArray) := by
    show ((items.toList.drop (sIx items.size 0 lo)).take (sIx items.size items.size hi - sIx items.size 0 lo)).toArray.size ≤ sizeLine
    rw [List.size_toArray, List.length_take, List.length_drop, Array.length_toList]
    omega
  have hj : sIx items.size items.size hi ≤ items.size := zgA _ _ (Nat.le_refl _) hi
  obtain ⟨os, hos, hcs, hds⟩ := id hs
  have hTs : s.TypeIs (.ref sl) "slice" := ⟨os, hos, hcs⟩
  unfold getItem
  try with_reducible refine wpAny_holding ?_
  first | refine wpAny_bind (wpAny_pure ?_) | skip
  refine wpAny_bind (wpAny_sequenceKey ht.typeIs (by decide) ?_)
  refine wpAny_bind (wpAny_callSpecial?_slot (name := Str.ofString "__getitem__") ht.typeIs PyProof.Rows.slot_tuple_getitem
    (wpAny_call_entry PyProof.Rows.slot_tuple_getitem ht.typeIs entry_tuple_getitem ?_ (args_tuple_getitem _ _)))
  show wpAny _ _ (Builtin.Tuple.tupleItemsOf (.ref t) >>= _) _ _ s
  refine wpAny_bind (tupleItemsOf_ ht ?_)
  refine wpAny_bind (wpAny_typeOf hTs ?_)
  rw [if_pos (by decide)]
  refine wpAny_bind (wV hs pl pu ?_)
  have hno : ¬ ((((sIx items.size 0 lo : Nat) : Int) == 0 && (1 : Int) == 1 && (sIx items.size items.size hi - sIx items.size 0 lo) == items.size) = true) := by
    intro q
    rw [Bool.and_eq_true, Bool.and_eq_true] at q
    have q1 : ((sIx items.size 0 lo : Nat) : Int) = 0 := eq_of_beq q.1.1
    have q2 : sIx items.size items.size hi - sIx items.size 0 lo = items.size := eq_of_beq q.2
    exact hw ⟨by omega, by omega⟩
  show wpAny _ _ (if (((sIx items.size 0 lo : Nat) : Int) == 0 && (1 : Int) == 1 && (sIx items.size items.size hi - sIx items.size 0 lo) == items.size) = true then _ else _) _ _ s
  rw [if_neg hno, zc4]
  first
    | exact wpAny_bind (m := Builtin.Tuple.tupleExact _) (wpAny_newObj_type (wpAny_pure ⟨_, rfl, wpAny_pure h⟩) htake)
    | exact wpAny_bind (m := Builtin.Tuple.tupleExact _) (wpAny_newObj_type (wpAny_bind (wpAny_pure (wpAny_pure ⟨_, rfl, wpAny_pure h⟩))) htake)
    | exact wpAny_bind (wpAny_bind (m := Builtin.Tuple.tupleExact _) (wpAny_newObj_type (wpAny_pure (wpAny_pure ⟨_, rfl, wpAny_pure h⟩)) htake))
    | exact wpAny_bind (wpAny_bind (m := Builtin.Tuple.tupleExact _) (wpAny_newObj_type (wpAny_pure ⟨_, rfl, wpAny_pure h⟩) htake))
end
end HT
namespace L2
open PySem PySem.Spec PyProof.Rows
noncomputable abbrev TO := St → Hp → (Option Int → Hp → Prop) → Prop
noncomputable def PO (X : Cx) (e : Option Expr) (t : TO) : Prop :=
  ∀ (pins : List (Addr × Obj)) (s : Shared) (σ : St) (H : Hp) (Q : Option Int → Hp → Prop), Inv X pins σ H s → t σ H Q →
    wpAny (model X.prog X.w) X.A (evalPart e X.env) (fun u s' => ∃ o H', Inv X pins σ H' s' ∧ IsPart u o ∧ Q o H') X.xe s
noncomputable def zeC : TO := fun _ H Q => Q none H
noncomputable def zhj (t : TE) : TO := fun σ H Q => t σ H fun x H1 => ∃ i, x = .int i ∧ Q (some i) H1
theorem Yo {ns : List Int} : ∀ {us : List Value}, yh (ns.map V.int) us → IntsAre us ns := by
  induction ns with
  | nil => intro us r; rw [List.map_nil] at r; cases r; exact .nil
  | cons n ns ih =>
    intro us r
    rw [List.map_cons] at r
    cases r with
    | cons r1 r2 =>
      obtain ⟨t, e⟩ := r1
      subst e
      exact .cons n t (ih r2)
section
variable {X : Cx} {e : Expr} {te : TE} {lo hi : Option Expr} {tl th : TO} {pos p2 : Pos}
theorem zeY : PO X none zeC := by
  intro pins s σ H Q I h
  rw [evalPart_none]
  exact wpAny_pure ⟨none, H, I, .none, h⟩
theorem zcw (h : PE X e te) : PO X (some e) (zhj te) := by
  intro pins s σ H Q I hw
  rw [evalPart_some]
  refine thn (h pins s σ H _ I hw) fun u s1 hh9 => ?_
  obtain ⟨x, H1, I1, r1, q1⟩ := hh9
  obtain ⟨i, rfl, q⟩ := q1
  obtain ⟨t, rfl⟩ := r1
  exact ⟨some i, H1, I1, .int i t, q⟩
noncomputable def SlR (X : Cx) (r : V → Option Int → Option Int → Hp → VK → Prop) : Prop :=
  ∀ (pins : List (Addr × Obj)) (s : Shared) (σ : St) (H : Hp) (x : V) (v vl vu : Value) (lo hi : Option Int) (sl : Addr) (Q : VK), Inv X pins σ H s → xm x v → s.heap.IsSliceOf sl vl vu .none → IsPart vl lo → IsPart vu hi → r x lo hi H Q →
    ∃ T id, typeLookup (.type T) "__getitem__" = pure (some (.builtin id)) ∧ s.TypeIs v T ∧ wpAny (model X.prog X.w) X.A (getItem v (.ref sl)) (EP X pins σ Q) X.xe s
theorem SlR.or {r r' : V → Option Int → Option Int → Hp → VK → Prop} (h : SlR X r) (h' : SlR X r') : SlR X (fun x lo hi H Q => r x lo hi H Q ∨ r' x lo hi H Q) := by
  intro pins s σ H x v vl vu lo hi sl Q I rx hs pl pu q
  rcases q with q | q
  · exact h pins s σ H x v vl vu lo hi sl Q I rx hs pl pu q
  · exact h' pins s σ H x v vl vu lo hi sl Q I rx hs pl pu q
noncomputable def tSl (r : V → Option Int → Option Int → Hp → VK → Prop) (te : TE) (tl th : TO) : TE := fun σ H Q => te σ H fun x H1 => tl σ H1 fun l H2 => th σ H2 fun u H3 => r x l u H3 Q
theorem zdw {r : V → Option Int → Option Int → Hp → VK → Prop} (hr : SlR X r) (he : PE X e te) (hl : PO X lo tl) (hu : PO X hi th) : PE X (.Subscript e (.Slice lo hi none p2) pos) (tSl r te tl th) := by
  intro pins s σ H Q I h
  refine Subscript_ (thn (he pins s σ H _ I h) fun v s1 hh9 => ?_)
  obtain ⟨x, H1, I1, r1, q1⟩ := hh9
  refine wpAny_Slice (thn (hl pins s1 σ H1 _ I1 q1) fun vl s2 ⟨l, H2, I2, pl, q2⟩ => thn (hu pins s2 σ H2 _ I2 q2) fun vu s3 hh9 => ?_)
  obtain ⟨u, H3, I3, pu, q3⟩ := hh9
  rw [evalPart_none]
  refine wpAny_pure ?_
  have I4 : Inv X pins σ H3 { s3 with heap := s3.heap.push { cls := .type "slice", data := .fields #[vl, vu, .none] } } := I3.kept (t' := s3.toks) fun b ob q => Heap.get?_push_of_some _ q
  obtain ⟨T, id, hT, ht, hg⟩ := hr pins { s3 with heap := s3.heap.push { cls := .type "slice", data := .fields #[vl, vu, .none] } } σ H3 x v vl vu l u s3.heap.objs.size Q I4 r1 (Heap.IsSliceOf.new ..) pl pu q3
  show wpAny (model X.prog X.w) X.A (subscriptTail e (.Slice lo hi none p2) v (.ref s3.heap.objs.size)) (EP X pins σ Q) X.xe { s3 with heap := s3.heap.push { cls := .type "slice", data := .fields #[vl, vu, .none] } }
  exact tail_any (ops := [.ref s3.heap.objs.size, v]) ht hT hg (by with_unfolding_all rfl)
noncomputable def W5 (xs : List V) (lo hi : Option Int) : List V := (xs.drop (HT.sIx xs.length 0 lo)).take (HT.sIx xs.length xs.length hi - HT.sIx xs.length 0 lo)
theorem ZB (xs : List V) (lo hi : Option Int) : (W5 xs lo hi).length ≤ xs.length := by
  unfold W5
  rw [List.length_take, List.length_drop]
  omega
noncomputable def rSlT (K : PySem.W.Frag) : V → Option Int → Option Int → Hp → VK → Prop := fun x lo hi H Q => ∃ a xs, x = .ref a ∧ SqT K H a xs ∧
  ¬ (HT.sIx xs.length 0 lo = 0 ∧ HT.sIx xs.length xs.length hi = xs.length) ∧ ∀ p, H p = none → Q (.ref p) (upd H p (.tup (W5 xs lo hi)))
theorem zgv : SlR X (rSlT X.K) := by
  intro pins s σ H x v vl vu lo hi sl Q I rx hs pl pu h
  obtain ⟨a, xs, rfl, hx, hw, q⟩ := h
  cases rx
  obtain ⟨its, r, ht, hz⟩ := I.tuple hx
  have hlen : its.toArray.size = xs.length := by rw [List.size_toArray]; exact r.length.symm
  refine ⟨"tuple", _, PyProof.Rows.slot_tuple_getitem.lookup, ht.typeIs, ?_⟩
  refine HT.getItem_tuple_cut ht hs pl pu (by rw [hlen]; exact hw) ?_ (by rw [hlen]; exact hz)
  rw [hlen]
  refine ⟨.ref s.heap.objs.size, _, I.laid (t' := s.toks) (o := .tup (W5 xs lo hi)) (fun b ob q => Heap.get?_push_of_some _ q) (Nat.le_refl _) ?_, rfl, q _ (I.hok.fresh (Nat.le_refl _))⟩
  exact ⟨Nat.le_trans (ZB xs lo hi) hz, _, (r.drop (HT.sIx xs.length 0 lo)).take (HT.sIx xs.length xs.length hi - HT.sIx xs.length 0 lo), IsTup.new _ _⟩
noncomputable def zg6 (K : PySem.W.Frag) : R2 := fun x y H Q => ∃ a b xs ys, x = .ref a ∧ y = .ref b ∧ SqT K H a xs ∧ SqT K H b ys ∧ xs ≠ [] ∧ xs.length + ys.length ≤ sizeLine ∧
  (ys = [] → Q (.ref a) H) ∧ (ys ≠ [] → ∀ p, H p = none → Q (.ref p) (upd H p (.tup (xs ++ ys))))
theorem yh.nil_iff {xs : List V} {us : List Value} (r : yh xs us) : us = [] ↔ xs = [] := by
  cases r with
  | nil => simp
  | cons _ _ => simp
theorem zeL : OpR X (binaryOp .Add) (zg6 X.K) := by
  intro pins s σ H x y v u Q I rx ry h
  obtain ⟨a, b, xs, ys, rfl, rfl, ha, hb, hx, hz, q1, q2⟩ := h
  cases rx
  cases ry
  obtain ⟨its, r1, p1, _⟩ := I.tuple ha
  obtain ⟨its2, r2, p2, _⟩ := I.tuple hb
  refine HT.cat_tup p1 p2 (fun z => hx (r1.nil_iff.mp z)) (fun z => ⟨.ref a, H, I, rfl, q1 (r2.nil_iff.mp z)⟩) (fun z => ?_) (by rw [← r1.length, ← r2.length]; exact hz)
  refine ⟨.ref s.heap.objs.size, _, I.laid (t' := s.toks) (o := .tup (xs ++ ys)) (fun b ob q => Heap.get?_push_of_some _ q) (Nat.le_refl _) ?_, rfl, q2 (fun w => z (r2.nil_iff.mpr w)) _ (I.hok.fresh (Nat.le_refl _))⟩
  exact ⟨by rw [List.length_append]; exact hz, _, r1.append r2, IsTup.new _ _⟩
end
end L2
namespace L2
open PySem PySem.Spec PyProof.Rows
noncomputable def ixN (n : Nat) (i : Int) : Option Nat := if 0 ≤ i then (if i < n then some i.toNat else none) else if -(n : Int) ≤ i then some (i + n).toNat else none
noncomputable def atI {α : Type} (xs : List α) (i : Int) : Option α := (ixN xs.length i).bind fun j => xs[j]?
theorem zeh {n : Nat} {i : Int} {j : Nat} (h : ixN n i = some j) : seqIndex? i n = some j ∧ j < n ∧ -(n : Int) ≤ i ∧ i < n := by
  unfold ixN at h
  by_cases h0 : 0 ≤ i
  · rw [if_pos h0] at h
    by_cases h1 : i < n
    · rw [if_pos h1] at h
      have e : i.toNat = j := Option.some.inj h
      exact ⟨by rw [seqIndex_of h0 h1, e], by omega, by omega, h1⟩
    · rw [if_neg h1] at h; cases h
  · rw [if_neg h0] at h
    by_cases h1 : -(n : Int) ≤ i
    · rw [if_pos h1] at h
      have e : (i + n).toNat = j := Option.some.inj h
      exact ⟨by rw [seqIndex_neg (by omega) h1, e], by omega, h1, by omega⟩
    · rw [if_neg h1] at h; cases h
theorem Va {α : Type} {xs : List α} {i : Int} {v : α} (h : atI xs i = some v) : ∃ j, seqIndex? i xs.length = some j ∧ xs[j]? = some v ∧ j < xs.length ∧ -(xs.length : Int) ≤ i ∧ i < xs.length := by
  unfold atI at h
  cases e : ixN xs.length i with
  | none => rw [e] at h; cases h
  | some j =>
    rw [e] at h
    obtain ⟨h1, h2, h3, h4⟩ := zeh e
    exact ⟨j, h1, h, h2, h3, h4⟩
theorem ze3 {α : Type} {xs : List α} {j : Nat} {v : α} (h : xs[j]? = some v) : atI xs (j : Int) = some v := by
  have hj : j < xs.length := (List.getElem?_eq_some_iff.mp h).1
  have e : ixN xs.length (j : Int) = some j := by
    unfold ixN
    rw [if_pos (by omega), if_pos (by omega)]; simp
  unfold atI; rw [e]; exact h
noncomputable def zbL (b : Expr) : Prop := ∀ o i, subscripted b false o i = operate [o, i] (getItem o i)
noncomputable def IxR (X : Cx) (r : R2) : Prop :=
  ∀ (value slice : Expr) (pins : List (Addr × Obj)) (s : Shared) (σ : St) (H : Hp) (x y : V) (v u : Value) (Q : VK), Inv X pins σ H s → xm x v → xm y u → r x y H Q →
    subscripted slice false v u = operate [v, u] (getItem v u) → wpAny (model X.prog X.w) X.A (subscriptTail value slice v u) (EP X pins σ Q) X.xe s
noncomputable def MtR (X : Cx) (id : String) (r : V → List V → Hp → VK → Prop) : Prop :=
  ∀ (pins : List (Addr × Obj)) (s : Shared) (σ : St) (H : Hp) (x : V) (xs : List V) (v : Value) (us : List Value) (Q : VK), Inv X pins σ H s → xm x v → yh xs us → r x xs H Q →
    wpAny (model X.prog X.w) X.A (call (.builtin id) (v :: us)) (EP X pins σ Q) X.xe s
section
variable {X : Cx} {a b : Expr} {ta tb : TE} {pos : Pos}
theorem IxR.or {r r' : R2} (h : IxR X r) (h' : IxR X r') : IxR X (fun x y H Q => r x y H Q ∨ r' x y H Q) := by
  intro value slice pins s σ H x y v u Q I rx ry q hs
  rcases q with q | q
  · exact h value slice pins s σ H x y v u Q I rx ry q hs
  · exact h' value slice pins s σ H x y v u Q I rx ry q hs
theorem zhm {r : R2} (hr : IxR X r) (ha : PE X a ta) (hb : PE X b tb) (hs : zbL b) : PE X (.Subscript a b pos) (tOp r ta tb) := by
  intro pins s σ H Q I h
  exact Subscript_ (zhB ha hb I h fun v u s2 x y H2 I2 rx ry q => hr a b pins s2 σ H2 x y v u Q I2 rx ry q (hs _ _))
noncomputable def rIxL (K : PySem.W.Frag) : R2 := fun x y H Q => ∃ p xs i v, x = .ref p ∧ y = .int i ∧ SqL K H p xs ∧ atI xs i = some v ∧ Q v H
noncomputable def rIxT (K : PySem.W.Frag) : R2 := fun x y H Q => ∃ p xs i v, x = .ref p ∧ y = .int i ∧ SqT K H p xs ∧ atI xs i = some v ∧ Q v H
noncomputable def rIxS : R2 := fun x y H Q => ∃ z i c, x = .str z ∧ y = .int i ∧ z.length ≤ sizeLine ∧ atI z.cps.toList i = some c ∧ Q (.str ⟨#[c]⟩) H
theorem zek : IxR X (rIxL X.K) := by
  intro value slice pins s σ H x y v u Q I rx ry h hs
  obtain ⟨p, xs, i, z, rfl, rfl, hq, he, q⟩ := h
  cases rx
  obtain ⟨t, rfl⟩ := ry
  obtain ⟨its, r, pl, hz⟩ := I.list hq
  obtain ⟨j, h1, h2, h3, h4, h5⟩ := Va he
  obtain ⟨w, ew, rw'⟩ := r.get h2
  have hl := r.length
  have hn := VV
  have fin : EP X pins σ Q w s := ⟨z, H, I, rw', q⟩
  by_cases h0 : 0 ≤ i
  · have hj : i.toNat = j := by
      rw [seqIndex_of h0 h5] at h1
      exact Option.some.inj h1
    exact item_listR pl.isList h0 (by omega) (by rw [hj]; simpa using ew) fin hs
  · have hj : (i + (its.toArray.size : Int)).toNat = j := by
      rw [seqIndex_neg (by omega) h4] at h1
      rw [List.size_toArray, ← hl]
      exact Option.some.inj h1
    exact subscriptTail_builtinR (x := w) pl.isList.typeIs slot_list_getitem.lookup
      (wpAny_getItem_list_neg (Q := fun r s' => r = w ∧ EP X pins σ Q r s') pl.isList (by omega) (by rw [List.size_toArray] <;> omega) (by omega) (by rw [hj]; simpa using ew) ⟨rfl, fin⟩) hs
theorem zgG : IxR X (rIxT X.K) := by
  intro value slice pins s σ H x y v u Q I rx ry h hs
  obtain ⟨p, xs, i, z, rfl, rfl, hq, he, q⟩ := h
  cases rx
  obtain ⟨t, rfl⟩ := ry
  obtain ⟨its, r, pl, hz⟩ := I.tuple hq
  obtain ⟨j, h1, h2, h3, h4, h5⟩ := Va he
  obtain ⟨w, ew, rw'⟩ := r.get h2
  have hl := r.length
  have hn := VV
  have fin : EP X pins σ Q w s := ⟨z, H, I, rw', q⟩
  exact subscriptTail_builtinR (x := w) pl.typeIs slot_tuple_getitem.lookup
    (getItem_tuple (j := j) (Q := fun r s' => r = w ∧ EP X pins σ Q r s') pl (by omega) (by omega) (by rw [List.size_toArray, ← hl]; exact h1) (by simpa using ew) ⟨rfl, fin⟩) hs
theorem zfs : IxR X rIxS := by
  intro value slice pins s σ H x y v u Q I rx ry h hs
  obtain ⟨z, i, c, rfl, rfl, hz, he, q⟩ := h
  obtain ⟨t, rfl⟩ := rx
  obtain ⟨t', rfl⟩ := ry
  obtain ⟨j, h1, h2, h3, h4, h5⟩ := Va he
  have hl : z.cps.toList.length = z.length := by simp [Str.length]
  rw [hl] at h1 h4 h5
  have hn := VV
  exact tail_any (typeIs_str s z t) slot_str_getitem.lookup (getItem_str (c := c) (by
    have e1 : decide (i < -(2 ^ 63 : Int)) = false := decide_eq_false (by omega)
    have e2 : decide (i ≥ 2 ^ 63) = false := decide_eq_false (by omega)
    rw [e1, e2, Bool.or_false]) (by rw [h1]; simpa using h2) ⟨.str ⟨#[c]⟩, H, I.tok _, ⟨_, rfl⟩, q⟩) hs
noncomputable def rIx (K : PySem.W.Frag) : R2 := fun x y H Q => rIxL K x y H Q ∨ rIxT K x y H Q ∨ rIxS x y H Q
theorem zfQ : IxR X (rIx X.K) := zek.or (zgG.or zfs)
theorem WH (lo hi : Option Int) (n : Nat) : (sliceBounds lo hi none n).1 = ((HT.sIx n 0 lo : Nat) : Int) ∧ (sliceBounds lo hi none n).2.1 = ((HT.sIx n n hi : Nat) : Int) ∧ (sliceBounds lo hi none n).2.2 = 1 := by
  refine ⟨?_, ?_, rfl⟩
  · cases lo with
    | none => simp [sliceBounds, HT.sIx]
    | some i =>
      simp only [sliceBounds, HT.sIx, Option.getD_none, show (1 : Int) > 0 by decide, if_true]
      by_cases h : i < 0
      · simp only [h, if_true] <;> omega
      · simp only [h, if_false] <;> omega
  · cases hi with
    | none => simp [sliceBounds, HT.sIx]
    | some i =>
      simp only [sliceBounds, HT.sIx, Option.getD_none, show (1 : Int) > 0 by decide, if_true]
      by_cases h : i < 0
      · simp only [h, if_true] <;> omega
      · simp only [h, if_false] <;> omega
theorem XL (its : List Value) (lo hi : Option Int) : slicePick its.toArray lo hi none = ((its.drop (HT.sIx its.length 0 lo)).take (HT.sIx its.length its.length hi - HT.sIx its.length 0 lo)).toArray := by
  obtain ⟨h1, h2, h3⟩ := WH lo hi its.toArray.size
  unfold slicePick
  rw [h1, h2, h3]
  simp only [sliceRange_one, pick_run, List.size_toArray] <;> rfl
noncomputable def rSlL (K : PySem.W.Frag) : V → Option Int → Option Int → Hp → VK → Prop := fun x lo hi H Q => ∃ a xs, x = .ref a ∧ SqL K H a xs ∧ ∀ p, H p = none → Q (.ref p) (upd H p (.lst (W5 xs lo hi)))
theorem zep : SlR X (rSlL X.K) := by
  intro pins s σ H x v vl vu lo hi sl Q I rx hs pl pu h
  obtain ⟨a, xs, rfl, hx, q⟩ := h
  cases rx
  obtain ⟨its, r, ht, hz⟩ := I.list hx
  have hlen := r.length
  refine ⟨"list", _, slot_list_getitem.lookup, ht.isList.typeIs, ?_⟩
  refine wpAny_getItem_list_slice ht.isList hs pl pu .none (by simp) ?_ (by rw [List.size_toArray] <;> omega)
  rw [XL, ← hlen]
  refine ⟨.ref s.heap.objs.size, _, I.laid (t' := s.toks) (o := .lst (W5 xs lo hi)) (fun b ob q => Heap.get?_push_of_some _ q) (Nat.le_refl _) ?_, rfl, q _ (I.hok.fresh (Nat.le_refl _))⟩
  exact ⟨Nat.le_trans (ZB xs lo hi) hz, _, 0, (r.drop (HT.sIx xs.length 0 lo)).take (HT.sIx xs.length xs.length hi - HT.sIx xs.length 0 lo), Heap.get?_push_size _ rfl⟩
noncomputable def zat : V → Bool
  | .non => true
  | .bl _ => true
  | .int _ => true
  | .str _ => true
  | _ => false
noncomputable def eqV : V → V → Bool
  | .non, .non => true
  | .bl a, .bl b => a == b
  | .bl a, .int b => (if a then 1 else 0) == b
  | .int a, .bl b => a == (if b then 1 else 0)
  | .int a, .int b => a == b
  | .str a, .str b => a == b
  | _, _ => false
theorem za3 {A : Around} {s : Shared} {y x : V} {u v : Value} (ry : xm y u) (rx : xm x v) (fy : zat y = true) (fx : zat x = true) : SeqAt.EqAt A s u v (eqV y x) := by
  cases y with
  | non =>
    cases ry
    cases x with
    | non => cases rx; exact SeqAt.EqAt.same _
    | bl b => cases rx; exact SeqAt.EqAt.none_bool b
    | int b => obtain ⟨t, rfl⟩ := rx; exact SeqAt.EqAt.none_int b t
    | str b => obtain ⟨t, rfl⟩ := rx; exact SeqAt.EqAt.none_str b t
    | _ => exact absurd (show false = true from fx) Bool.false_ne_true
  | bl a =>
    cases ry
    cases x with
    | non => cases rx; exact SeqAt.EqAt.bool_none a
    | bl b => cases rx; exact SeqAt.EqAt.bool_bool a b
    | int b => obtain ⟨t, rfl⟩ := rx; exact SeqAt.EqAt.bool_int a b t
    | str b => obtain ⟨t, rfl⟩ := rx; exact SeqAt.EqAt.bool_str a b t
    | _ => exact absurd (show false = true from fx) Bool.false_ne_true
  | int a =>
    obtain ⟨t', rfl⟩ := ry
    cases x with
    | non => cases rx; exact SeqAt.EqAt.int_none a t'
    | bl b => cases rx; exact SeqAt.EqAt.int_bool a t' b
    | int b => obtain ⟨t, rfl⟩ := rx; exact SeqAt.EqAt.int_int a t' b t
    | str b => obtain ⟨t, rfl⟩ := rx; exact SeqAt.EqAt.int_str a t' b t
    | _ => exact absurd (show false = true from fx) Bool.false_ne_true
  | str a =>
    obtain ⟨t', rfl⟩ := ry
    cases x with
    | non => cases rx; exact SeqAt.EqAt.str_none a t'
    | bl b => cases rx; exact SeqAt.EqAt.str_bool a t' b
    | int b => obtain ⟨t, rfl⟩ := rx; exact SeqAt.EqAt.str_int a t' b t
    | str b => obtain ⟨t, rfl⟩ := rx; exact SeqAt.EqAt.str_str a t' b t
    | _ => exact absurd (show false = true from fx) Bool.false_ne_true
  | _ => exact absurd (show false = true from fy) Bool.false_ne_true
noncomputable def eqU (x : V) (u : Value) : Bool := match u with
  | .none => eqV .non x
  | .bool b => eqV (.bl b) x
  | .int i _ => eqV (.int i) x
  | .str z _ => eqV (.str z) x
  | _ => false
theorem zfF {x y : V} {u : Value} (r : xm y u) (f : zat y = true) : eqU x u = eqV y x := by
  cases y with
  | non => cases r; rfl
  | bl b => cases r; rfl
  | int i => obtain ⟨t, rfl⟩ := r; rfl
  | str z => obtain ⟨t, rfl⟩ := r; rfl
  | _ => exact absurd (show false = true from f) Bool.false_ne_true
theorem XH {A : Around} {s : Shared} {x : V} {v : Value} (rx : xm x v) (fx : zat x = true) : ∀ {xs : List V} {us : List Value}, yh xs us → xs.all zat = true → ∀ u ∈ us, SeqAt.EqAt A s u v (eqU x u)
  | _, _, .nil, _ => fun u hu => by cases hu
  | y :: xs, u :: us, .cons r t, f => fun u' hu => by
    rw [List.all_cons, Bool.and_eq_true] at f
    rcases List.mem_cons.mp hu with rfl | hu
    · rw [zfF r f.1]; exact za3 r rx f.1 fx
    · exact XH rx fx t f.2 u' hu
theorem ym : Yw X (.builtin "len") (fun xs H Q => ∃ p ys, xs = [.ref p] ∧ (SqL X.K H p ys ∨ SqT X.K H p ys) ∧ Q (.int ys.length) H) := by
  intro pins s σ H xs us Q I r h
  obtain ⟨p, ys, rfl, hq, q⟩ := h
  obtain ⟨u, rfl, rx⟩ := zaA r
  cases rx
  have hn := VV
  rcases hq with hq | hq
  · obtain ⟨its, r', pl, hz⟩ := I.list hq
    have hlen := r'.length
    exact Calls.call_len_list pl.isList (by simp only [List.size_toArray] <;> omega) ⟨.int ys.length, H, I.tok _, ⟨s.toks + 1, by rw [List.size_toArray, hlen]⟩, q⟩
  · obtain ⟨its, r', pl, hz⟩ := I.tuple hq
    have hlen := r'.length
    exact len_tuple pl (by simp only [List.size_toArray] <;> omega) ⟨.int ys.length, H, I.tok _, ⟨s.toks + 1, by rw [List.size_toArray, hlen]⟩, q⟩
theorem Wi : Yw X (.type "list") (fun xs H Q => ∃ p ys, xs = [.ref p] ∧ (SqL X.K H p ys ∨ SqT X.K H p ys) ∧ ∀ l, H l = none → Q (.ref l) (upd H l (.lst ys))) := by
  intro pins s σ H xs us Q I r h
  obtain ⟨p, ys, rfl, hq, q⟩ := h
  obtain ⟨u, rfl, rx⟩ := zaA r
  cases rx
  have fin : ∀ (its : List Value), yh ys its → ys.length ≤ sizeLine → ∀ (h' : Heap) (c' : Nat), (∀ b o', s.heap.get? b = some o' → h'.get? b = some o') →
      h'.get? s.heap.objs.size = some { cls := .type "list", dict := none, data := .seq its.toArray c', slots := #[] } → EP X pins σ Q (.ref s.heap.objs.size) { s with heap := h' } := fun its r' hz h' c' kp e =>
    ⟨.ref s.heap.objs.size, _, I.laid (t' := s.toks) kp (Nat.le_refl _) (show xO X.prog X.w _ h' _ (.lst ys) from ⟨hz, its, c', r', e⟩), rfl, q _ (I.hok.fresh (Nat.le_refl _))⟩
  rcases hq with hq | hq
  · obtain ⟨its, r', pl, hz⟩ := I.list hq
    have hlen := r'.length
    obtain ⟨o, ho, hc, n, hd⟩ := pl.isList
    exact call_list_seq p (.inl rfl) ho hc hd (fun h' c' kp e => fin its r' hz h' c' kp e) (by simp only [List.size_toArray] <;> omega)
  · obtain ⟨its, r', pl, hz⟩ := I.tuple hq
    have hlen := r'.length
    obtain ⟨o, ho, hc, n, hd⟩ := pl
    exact call_list_seq p (.inr rfl) ho hc hd (fun h' c' kp e => fin its r' hz h' c' kp e) (by simp only [List.size_toArray] <;> omega)
theorem yp : Yw X (.type "tuple") (fun xs H Q => ∃ p ys, xs = [.ref p] ∧ ((SqL X.K H p ys ∧ ∀ l, H l = none → Q (.ref l) (upd H l (.tup ys))) ∨ (SqT X.K H p ys ∧ Q (.ref p) H))) := by
  intro pins s σ H xs us Q I r h
  obtain ⟨p, ys, rfl, h⟩ := h
  obtain ⟨u, rfl, rx⟩ := zaA r
  cases rx
  rcases h with ⟨hq, q⟩ | ⟨hq, q⟩
  · obtain ⟨its, r', pl, hz⟩ := I.list hq
    have hlen := r'.length
    refine call_tuple_list pl.isList (fun h' kp => ?_) (by simp only [List.size_toArray] <;> omega)
    have I1 : Inv X pins σ H { s with heap := h' } := I.kept (t' := s.toks) kp
    have I2 : Inv X pins σ (upd H h'.objs.size (.tup ys)) { s with heap := h'.push { cls := .type "tuple", data := .seq its.toArray } } :=
      I1.laid (t' := s.toks) (fun b o e => Heap.get?_push_of_some _ e) (Nat.le_refl _) (show xO X.prog X.w _ _ _ (.tup ys) from ⟨hz, its, r', IsTup.new _ _⟩)
    exact ⟨.ref h'.objs.size, _, I2, rfl, q _ (I1.hok.fresh (Nat.le_refl _))⟩
  · obtain ⟨its, r', pl, hz⟩ := I.tuple hq
    exact call_tuple_same pl ⟨.ref p, H, I, rfl, q⟩
noncomputable def tyV (K : PySem.W.Frag) (T : String) (x : V) (H : Hp) : Prop := match x with
  | .str _ => T = "str"
  | .int _ => T = "int"
  | .ref p => (T = "list" ∧ ∃ xs, SqL K H p xs) ∨ (T = "tuple" ∧ ∃ o, K.lookup p = some o ∧ o.cls = .type "tuple" ∧ o.dict = none) ∨
      (T = "dict" ∧ ((∃ kvs, H p = some (.dK kvs)) ∨ ∃ kvs, H p = some (.dT kvs))) ∨ (T = "set" ∧ ∃ S n, H p = some (.set S n))
  | _ => False
theorem zgC {pins : List (Addr × Obj)} {σ : St} {H : Hp} {s : Shared} {T : String} {x : V} {v : Value} (I : Inv X pins σ H s) (r : xm x v) (ty : tyV X.K T x H) :
    s.TypeIs v T ∧ ∀ a, v = .ref a → ∃ ob, s.heap.get? a = some ob ∧ ob.dict = none := by
  cases x with
  | str z =>
    obtain ⟨t, rfl⟩ := r
    cases (show T = "str" from ty)
    exact ⟨typeIs_str s z t, fun _ e => nomatch e⟩
  | int i =>
    obtain ⟨t, rfl⟩ := r
    cases (show T = "int" from ty)
    exact ⟨typeIs_int s i t, fun _ e => nomatch e⟩
  | ref p =>
    cases r
    rcases ty with ⟨rfl, xs, hq⟩ | ⟨rfl, o, hk, hc, hd⟩ | ⟨rfl, hk⟩ | ⟨rfl, S, n, hk⟩
    · obtain ⟨its, _, pl, _⟩ := I.list hq
      refine ⟨pl.isList.typeIs, fun a e => ?_⟩
      cases e
      obtain ⟨o, n, e, c, hd, _⟩ := pl
      exact ⟨o, e, hd⟩
    · refine ⟨⟨o, I.kIn p o hk, hc⟩, fun a e => ?_⟩
      cases e
      exact ⟨o, I.kIn _ o hk, hd⟩
    · have z : ∃ o, s.heap.get? p = some o ∧ o.ExactDict := by
        rcases hk with ⟨kvs, hk⟩ | ⟨kvs, hk⟩
        · obtain ⟨_, _, _, _, o, _, _, e, ex, _⟩ := I.hok p _ hk
          exact ⟨o, e, ex⟩
        · obtain ⟨_, _, _, _, o, _, _, e, ex, _⟩ := I.hok p _ hk
          exact ⟨o, e, ex⟩
      obtain ⟨o, e, ex⟩ := z
      refine ⟨⟨o, e, ex.1⟩, fun a e2 => ?_⟩
      cases e2
      exact ⟨o, e, ex.2.1⟩
    · obtain ⟨o, _, _, _, e, ex, _⟩ := I.hok p _ hk
      refine ⟨⟨o, e, ex.1⟩, fun a e2 => ?_⟩
      cases e2
      exact ⟨o, e, ex.2.1⟩
  | _ => exact False.elim ty
noncomputable def tBM (K : PySem.W.Frag) (T : String) (r : V → List V → Hp → VK → Prop) (to : TE) (t : TA) : TE := fun σ H Q => to σ H fun x H1 => tyV K T x H1 ∧ t σ H1 fun xs H2 => r x xs H2 Q
variable {o e : Expr} {es : List Expr} {to : TE} {t : TA} {name : Str} {apos cpos : Pos} {T id : String} {r : V → List V → Hp → VK → Prop}
theorem Xi (pa : PlainAttrs T) (slot : Slot T name id) (hty : typeOf (.builtin id) = pure (.type "method_descriptor")) (hm : MtR X id r) (ho : PE X o to) (ha : PA X (e :: es) t)
    (hbase : attributeBase o name X.env (eval o X.env) = eval o X.env := by rfl)
    (hfew : ((backTo cpos (starEach (e :: es) X.env)).all (fun x => !x.1) && (backToKw cpos (keywordEach [] X.env)).all (fun x => x.1.isSome)
      && decide ((e :: es).length + ([] : List Keyword).length + (if ([] : List Keyword).isEmpty then 0 else 1) < 30)) = true := by rfl)
    (hline : (apos.endLine == cpos.line) = true := by rfl) (hs : starEach (e :: es) X.env = (false, eval e X.env) :: starEach es X.env := by rfl) (hplain : (backTo cpos (starEach es X.env)).any (·.1) = false := by rfl) :
    PE X (.Call (.Attribute o name apos) (e :: es) [] cpos) (tBM X.K T r to t) := by
  intro pins s σ H Q I h
  refine wpAny_Call_method_late hbase hfew hline rfl (thn (ho pins s σ H _ I h) fun v s1 hh9 => ?_)
  obtain ⟨x, H1, I1, r1, ty, q1⟩ := hh9
  obtain ⟨h1, h2⟩ := zgC I1 r1 ty
  refine ⟨T, id, pa, slot, hty, h1, h2, ?_⟩
  have hA := ha cpos pins s1 σ H1 _ I1 q1
  rw [hs] at hA ⊢
  refine Calls.callWith_builtin (by show (false || (backTo cpos (starEach es X.env)).any (·.1)) = false; rw [hplain] <;> rfl) (Calls.evalArgs_plain ?_)
  exact thn hA fun us s2 ⟨vs, H2, I2, r2, q2⟩ => hm pins s2 σ H2 x vs v us Q I2 r1 r2 q2
/- xs.append(e), list.index on a module's tuple .. are MtR facts of 06m -/
end
end L2
namespace L2
open PySem PySem.Spec PyProof.Rows
noncomputable def MtM (X : Cx) (id : String) (r : V → List V → Hp → VK → Prop) : Prop :=
  ∀ (pins : List (Addr × Obj)) (s : Shared) (σ : St) (H : Hp) (x : V) (xs : List V) (v : Value) (us : List Value) (Q : VK), Inv X pins σ H s → xm x v → yh xs us → r x xs H Q →
    wpAny (model X.prog X.w) X.A (call (.builtin id) (v :: us)) (EP X pins σ Q) X.xe s
theorem yh.one : ∀ {x : V} {us : List Value}, yh [x] us → ∃ u, us = [u] ∧ xm x u := by
  intro x us h
  cases h with | cons r t => cases t; exact ⟨_, rfl, r⟩
theorem yh.two : ∀ {x y : V} {us : List Value}, yh [x, y] us → ∃ u v, us = [u, v] ∧ xm x u ∧ xm y v := by
  intro x y us h
  cases h with | cons r t => cases t with | cons q t => cases t; exact ⟨_, _, rfl, r, q⟩
theorem yh.rep {xs : List V} {us : List Value} (h : yh xs us) : ∀ k : Nat, yh (List.replicate k xs).flatten (List.replicate k us).flatten
  | 0 => .nil
  | k + 1 => by
    rw [List.replicate_succ, List.replicate_succ, List.flatten_cons, List.flatten_cons]
    exact yh.append h (yh.rep h k)
theorem X7 (its : List Value) : ∀ (k : Nat) (acc : List Value),
    List.foldl (fun x1 x2 => x1 ++ x2) acc.toArray (List.replicate k its.toArray) = (acc ++ (List.replicate k its).flatten).toArray
  | 0, acc => by simp
  | k + 1, acc => by
    have e : acc.toArray ++ its.toArray = (acc ++ its).toArray := by simp
    have e2 : (acc ++ its) ++ (List.replicate k its).flatten = acc ++ (List.replicate (k + 1) its).flatten := by
      rw [List.replicate_succ, List.flatten_cons, List.append_assoc]
    rw [← e2, ← X7 its k (acc ++ its), ← e, List.replicate_succ, List.foldl_cons]
section
variable {X : Cx} {pins : List (Addr × Obj)} {σ : St} {H : Hp} {s : Shared} {l b : Addr} {xs ys zs : List V}
theorem Inv.lset {its its' : List Value} {n : Nat} {f : Array Value → Array Value} {t' : Nat} (I : Inv X pins σ H s) (hH : H l = some (.lst xs))
    (e : s.heap.get? l = some { cls := .type "list", data := .seq its.toArray n }) (hf : f its.toArray = its'.toArray) (hv : yh ys its') (hz : ys.length ≤ sizeLine) :
    Inv X pins σ (upd H l (.lst ys)) { s with heap := s.heap.update l (Obj.mapSeq f), toks := t' } := by
  have q := PySem.IsL.update e f
  rw [hf] at q
  refine I.write (x := l) (e := l) (by rw [hH]; exact trivial) (.inl rfl) (fun b' u hb hu => (Heap.get?_update_other s.heap (Obj.mapSeq f) (Ne.symm hb)).trans hu) ⟨_, q⟩ ?_
  exact ⟨hz, its', _, hv, q⟩
theorem Inv.lnew {its : List Value} {t' : Nat} (I : Inv X pins σ H s) (hv : yh ys its) (hz : ys.length ≤ sizeLine) :
    Inv X pins σ (upd H s.heap.objs.size (.lst ys)) { s with heap := s.heap.push { cls := .type "list", data := .seq its.toArray }, toks := t' } :=
  I.laid (fun _ _ q => Heap.get?_push_of_some _ q) (Nat.le_refl _) ⟨hz, its, 0, hv, Heap.get?_push_size _ rfl⟩
theorem Inv.fresh (I : Inv X pins σ H s) : H s.heap.objs.size = none := I.hok.fresh (Nat.le_refl _)
theorem Inv.lstM (I : Inv X pins σ H s) (hH : H l = some (.lst xs)) : xs.length ≤ sizeLine ∧ ∃ (its : List Value) (n : Nat), yh xs its ∧ xs.length = its.length ∧ s.heap.get? l = some { cls := .type "list", data := .seq its.toArray n } := by
  obtain ⟨z, its, n, r, e⟩ := I.hok l _ hH
  exact ⟨z, its, n, r, r.length, e⟩
theorem VP {n : Nat} (h : n ≤ sizeLine) : Builtin.List.listTooLong n = false := by
  unfold Builtin.List.listTooLong
  exact decide_eq_false (by omega)
end
section
variable {X : Cx}
noncomputable def zbw : V → List V → Hp → VK → Prop := fun x vs H Q => ∃ l xs y, x = .ref l ∧ vs = [y] ∧ H l = some (.lst xs) ∧ xs.length < sizeLine ∧ Q .non (upd H l (.lst (xs ++ [y])))
theorem w6 : MtM X "list.append" zbw := by
  intro pins s σ H x vs v us Q I rx rv h
  obtain ⟨l, xs, y, rfl, rfl, hH, hz, q⟩ := h
  cases rx
  obtain ⟨u, rfl, ru⟩ := rv.one
  obtain ⟨z, its, n, r, hl, e⟩ := I.lstM hH
  refine call_meets F.slot_list_append ⟨_, e, rfl⟩ F.entry_list_append (F.args_list_append_2 _ _) (PySem.list_append l its.toArray n u (by rw [List.size_toArray]; omega)) ⟨e, ?_⟩
  refine ⟨.non, _, I.lset (its' := its ++ [u]) hH e (by simp) (r.append (.cons ru .nil)) ?_, rfl, q⟩
  rw [List.length_append, List.length_singleton]
  omega
noncomputable def zeE : V → List V → Hp → VK → Prop := fun x vs H Q => ∃ l b xs zs, x = .ref l ∧ vs = [.ref b] ∧ H l = some (.lst xs) ∧ H b = some (.lst zs) ∧ xs.length + zs.length ≤ sizeLine ∧ Q .non (upd H l (.lst (xs ++ zs)))
theorem zfu : MtM X "list.extend" zeE := by
  intro pins s σ H x vs v us Q I rx rv h
  obtain ⟨l, b, xs, zs, rfl, rfl, hH, hB, hz, q⟩ := h
  cases rx
  obtain ⟨u, rfl, ru⟩ := rv.one
  cases ru
  obtain ⟨z, its, n, r, hl, e⟩ := I.lstM hH
  obtain ⟨z2, its2, n2, r2, hl2, e2⟩ := I.lstM hB
  have hsz : its.toArray.size + its2.toArray.size ≤ sizeLine := by rw [List.size_toArray, List.size_toArray]; omega
  have hlong : ¬ (!its.toArray.isEmpty && Builtin.List.listTooLong (its.toArray.size + its2.toArray.size)) = true := by
    rw [VP hsz, Bool.and_false]
    exact Bool.false_ne_true
  refine call_meets F.slot_list_extend ⟨_, e, rfl⟩ F.entry_list_extend (F.args_list_extend_2 _ _)
    (AutoSeq1.list_extend_list_list_0 l its.toArray n b its2.toArray n2 hlong (by rw [List.size_toArray]; omega) (by omega)) ⟨e, e2, ?_⟩
  refine ⟨.non, _, I.lset (its' := its ++ its2) hH e (by simp) (r.append r2) ?_, rfl, q⟩
  rw [List.length_append]
  omega
noncomputable def rCat : R2 := fun x y H Q => ∃ l b xs zs, x = .ref l ∧ y = .ref b ∧ H l = some (.lst xs) ∧ H b = some (.lst zs) ∧ xs.length + zs.length ≤ sizeLine ∧ ∀ p, H p = none → Q (.ref p) (upd H p (.lst (xs ++ zs)))
theorem zgn : OpR X (binaryOp .Add) rCat := by
  intro pins s σ H x y v u Q I rx ry h
  obtain ⟨l, b, xs, zs, rfl, rfl, hH, hB, hz, q⟩ := h
  cases rx
  cases ry
  obtain ⟨z, its, n, r, hl, e⟩ := I.lstM hH
  obtain ⟨z2, its2, n2, r2, hl2, e2⟩ := I.lstM hB
  refine PySem.P.add_list e e2 ?_ (by rw [List.size_toArray, List.size_toArray]; omega)
  have ea : its.toArray ++ its2.toArray = (its ++ its2).toArray := by simp
  rw [ea]
  exact ⟨.ref _, _, I.lnew (t' := s.toks) (r.append r2) (by rw [List.length_append]; omega), rfl, q _ I.fresh⟩
noncomputable def rRep : R2 := fun x y H Q => ∃ l k xs, x = .ref l ∧ y = .int k ∧ H l = some (.lst xs) ∧ -(2 ^ 63) ≤ k ∧ k < 2 ^ 63 ∧ xs.length * k.toNat ≤ sizeLine ∧
  ∀ p, H p = none → Q (.ref p) (upd H p (.lst (List.replicate k.toNat xs).flatten))
theorem zeq {α : Type} (xs : List α) (k : Nat) : (List.replicate k xs).flatten.length = k * xs.length := by
  induction k with
  | zero => simp
  | succ k ih => rw [List.replicate_succ, List.flatten_cons, List.length_append, ih, Nat.succ_mul, Nat.add_comm]
theorem zfv : OpR X (binaryOp .Mult) rRep := by
  intro pins s σ H x y v u Q I rx ry h
  obtain ⟨l, k, xs, rfl, rfl, hH, h1, h2, hz, q⟩ := h
  cases rx
  obtain ⟨t, rfl⟩ := ry
  obtain ⟨z, its, n, r, hl, e⟩ := I.lstM hH
  have hlen : its.toArray.size * k.toNat ≤ sizeLine := by rw [List.size_toArray, ← hl]; exact hz
  have hcap : ¬ its.toArray.size * k.toNat > (2 ^ 63 - 1) / 8 := by
    have : (sizeLine : Nat) ≤ (2 ^ 63 - 1) / 8 := by decide
    omega
  have hfit : ¬ (!Builtin.List.listFitsIndex k) = true := by
    rw [fitsIndex_both h1 h2]
    exact Bool.false_ne_true
  have hlong : ¬ Builtin.List.listTooLong (its.toArray.size * k.toNat) = true := by
    rw [VP hlen]
    exact Bool.false_ne_true
  have hnew : List.foldl (fun x1 x2 => x1 ++ x2) #[] (List.replicate (if its.toArray.isEmpty = true then 0 else k.toNat) its.toArray) = (List.replicate k.toNat its).flatten.toArray := by
    have f0 : ∀ m : Nat, List.foldl (fun x1 x2 => x1 ++ x2) #[] (List.replicate m its.toArray) = (List.replicate m its).flatten.toArray := fun m => by
      have := X7 its m []
      rw [List.nil_append] at this
      exact this
    rw [f0]
    cases its with
    | nil => simp
    | cons a r' => rw [if_neg (by simp)]
  refine wpAny_binaryOp_repeat_ref (T := "list") (U := "int") (by decide) ⟨_, e, rfl⟩ (fun s' => typeIs_int s' k t) noFill_list_mul F.fills_int_mul F.slot_int_rmul repeat_list F.slot_int_index.lookup
    (call_meets F.slot_int_rmul (typeIs_int s k t) F.entry_int_rmul (F.args_int_rmul_2 _ _) (int___rmul___int_list k t l its.toArray n)
      ⟨e, rfl, ⟨_, e, rfl⟩, call_meets F.slot_list_mul ⟨_, e, rfl⟩ F.entry_list_mul (F.args_list_mul_2 _ _) (AutoListH.list___mul___list_int_3 l its.toArray n k t hfit hcap hlong) ⟨e, ?_⟩⟩)
  rw [hnew]
  exact ⟨.ref _, _, I.lnew (t' := s.toks) (r.rep k.toNat) (by rw [zeq, Nat.mul_comm]; exact hz), rfl, q _ I.fresh⟩
end
section
variable {prog : Program} {w : World} {A : Around} {E : Value → Shared → Prop} {s : Shared}
end
section
variable {X : Cx}
end
end L2
namespace Att
open PySem PySem.W PySem.Calls PyProof.Rows
theorem Ze {P : Params} {h : Heap} : ∀ (ns : List Int) (vs : List Value), WellAll P h vs (ns.map WData.int) → IntsAre vs ns := by
  intro ns
  induction ns with
  | nil =>
    intro vs w
    rw [List.map_nil] at w
    cases w
    exact .nil
  | cons n ns ih =>
    intro vs w
    rw [List.map_cons] at w
    cases w with
    | cons a b =>
      cases a
      exact .cons _ _ (ih _ b)
theorem za1 {l : OpenLaw} {n : Nat} (hn : l.most = some n) {P : Params} {h : Heap} {args : List WData} {vals : List Value}
    (hpre : l.row.toRowW.claim.pre args = true) (hwl : WellAll P h vals args) :
    ∃ a vs ns, vals = [Value.ref a] ∧ args = [WData.list (ns.map WData.int)] ∧ h.get? a = some { cls := .type "list", data := .seq vs.toArray } ∧ IntsAre vs ns ∧ ns.length ≤ n := by
  have hsh : WShape.hasAll [] args [.list .int] = true := (pre_splitW hpre).1
  have hc : l.pre.holds [] { args := args } = true := (pre_splitW hpre).2
  obtain ⟨d, r, rfl, h1, h2⟩ := hasAllW_cons hsh
  obtain rfl := hasAllW_nil h2
  obtain ⟨xs, rfl, h3⟩ := hasW_list h1
  obtain ⟨ns, rfl⟩ := items_int h3
  have hlen : ns.length ≤ n := by
    unfold OpenLaw.pre at hc
    have h4 : (WTm.not (.lt (.lit (.int (n : Int))) (.len (.arg 0)))).holds [] { args := [.list (ns.map .int)] } = true := by
      have h4 := (holds_andW hc).1
      rw [hn] at h4
      exact h4
    have h5 := condW_of h4 (w_not (w_lt w_lit (w_len_list (w_arg rfl))))
    rw [List.length_map] at h5
    refine Nat.le_of_not_lt fun q => ?_
    have q' : (n : Int) < ((ns.length : Nat) : Int) := by omega
    first
      | (rw [decide_eq_true q'] at h5; exact absurd h5 (by decide))
      | (simp at h5; omega)
  cases hwl with
  | cons w1 w2 =>
    cases w2
    cases w1 with
    | list ho hall => exact ⟨_, _, ns, rfl, rfl, ho, Ze ns _ hall, hlen⟩
theorem zb4 (l : OpenLaw) (args : List WData) : l.row.toRowW.claim.post args (.bool true) args = true :=
  postW_of (r := l.row.toRowW) (X := (true == true))
    (show WShape.has [] (.bool true) .bool = true by first | rfl | decide | simp [WShape.has, WShape.arms, WShape.armsAll])
    (show (WTm.eq .res (.lit (.bool true))).value [] { args := args, res := some (.bool true), after := args } = some (.bool (true == true)) from w_eq_bool (w_res rfl) w_lit) rfl
theorem attach_call {l : OpenLaw} {n : Nat} {q : Program} {loose : List Str} {XP : (Str → Option Value) → Heap → Prop} {YP : World → Heap → Prop} {d : DefRec}
    (hn : l.most = some n) (hdf : d.params.defaults = [])
    (call : ∀ (w : World) (s₀ s₁ : Shared) (mg mb : Str → Option Value) (fa : Addr) (o : Obj) (pm cd doc : Value) (a : Addr) (vs : List Value) (ns : List Int),
      Ground q loose [] XP w s₀ mg mb s₁.heap → YP w s₁.heap →
      s₁.heap.get? fa = some o → o.data = .func (docDef d.name d.params d.body d.scope pm cd doc) → s₁.heap.CodeRec cd d.name → mg d.name = some (.ref fa) →
      s₁.heap.get? a = some { cls := .type "list", data := .seq vs.toArray } → IntsAre vs ns → ns.length ≤ n → s₁.gens = #[] →
      codeAny (model l.prog w) callerA (.call (.ref fa) ⟨[.ref a], []⟩) (fun r s' => r = .ok (.ret (.bool true)) ∧ OldK s₁.heap s'.heap ∧ s'.os = s₁.os ∧ AllBare s'.gens) s₁) :
    WalkO q loose XP YP l.row.toRowW d [] (fun f vs => PySem.call f vs) := by
  intro w s₀ s₁ mg mb G Y fa o pm cd doc dV kV ho hd hcd hD hmg hg args vals as hpre hlay hrd hwl hlo
  obtain rfl : dV = .none := Dflts.none hD hdf
  obtain rfl : kV = .none := Dflts.noKw hD
  obtain ⟨a, vs, ns, rfl, rfl, hobj, hints, hlen⟩ := za1 hn hpre hwl
  refine enter_call (codeAny_mono (call w s₀ s₁ mg mb fa o pm cd doc a vs ns G Y ho (fd_plain hd) hcd hmg hobj hints hlen hg) fun r s' hq => ?_)
  obtain ⟨rfl, h2, h3, h4⟩ := hq
  exact ⟨.inl ⟨.bool true, .bool true, [], rfl, fun _ => rfl, .bool true, zb4 l _, fun _ => ⟨List.Pairwise.nil, fun _ hm => (nomatch hm)⟩⟩, h2, h3, h4⟩
section
variable {prog : Program} {w : World} {A : Around} {E : Value → Shared → Prop} {s : Shared} {K : Frag}
noncomputable def ledger (h : Heap) (L d : Addr) : List (Addr × Obj) := (List.range h.objs.size).filterMap fun a => if a = L ∨ a = d then none else (h.get? a).map fun o => (a, o)
end
end Att
namespace L2
open PySem PySem.Spec PyProof.Rows
theorem Zk : ∀ {vs : List Value} {ns : List Int}, IntsAre vs ns → yh (ns.map V.int) vs := by
  intro vs ns h
  induction h with
  | nil => exact .nil
  | cons n t h ih => exact .cons ⟨t, rfl⟩ ih
noncomputable def zg9 (H : Hp) : Prop := ∀ b, H b = none ∨ ∃ o xs, H b = some (.frz o (.lst xs))
theorem zdC {P : Program} {w : World} {K : PySem.W.Frag} {mg mb : Str → Option Value} {CX : CXT} {k : Nat} {fa a : Addr} {fd : FuncData} {x : Str} {sp : Sp} {s₁ : Shared} {vs : List Value} {ns : List Int}
    (KX : K.In s₁.heap) (hns : s₁.heap.Ns mainGlobals mg) (hb : s₁.heap.Ns builtinsNs mb) (hbb : ∀ x : Str, x ≠ "__name__" → mb x = bootBuiltins x) (hlim : s₁.heap.NoLimit) (hg : s₁.gens = #[])
    (ha : s₁.heap.get? a = some { cls := .type "list", data := .seq vs.toArray }) (hi : IntsAre vs ns) (hl : ns.length ≤ sizeLine) (hr : YN k callerA)
    (F : ∀ base : Heap, K.In base → base.Ns mainGlobals mg → x6 P w K mg base CX k fa fd [x] sp) (hbind : ∀ (s : Shared) (u : Value), BindsTo s fd ⟨[u], []⟩ [(x, u)])
    (hsp : ∀ H : Hp, zg9 H → SqL K H a (ns.map V.int) → sp [.ref a] H (fun v _ => v = .bl true) fun _ _ _ => False)
    (hCX : ∀ H e s', CX [] H s₁ (fun _ _ _ => False) e s' → False) :
    codeAny (model P w) callerA (.call (.ref fa) ⟨[.ref a], []⟩) (fun r s' => r = .ok (.ret (.bool true)) ∧ OldK s₁.heap s'.heap ∧ s'.os = s₁.os ∧ AllBare s'.gens) s₁ := by
  have rv := Zk hi
  have lenV := hi.length
  -- from an abstract heap in which nothing but the script may be tracked
  have core : ∀ H : Hp, zg9 H → SqL K H a (ns.map V.int) → HOk P w H s₁.heap → (∀ b, H b ≠ none → b = a) → (H a ≠ none → K.lookup a = none) →
      codeAny (model P w) callerA (.call (.ref fa) ⟨[.ref a], []⟩) (fun r s' => r = .ok (.ret (.bool true)) ∧ OldK s₁.heap s'.heap ∧ s'.os = s₁.os ∧ AllBare s'.gens) s₁ := by
    intro H hO hS hok hA hK
    have base_of : ∀ {b : Addr} {o : Obj}, s₁.heap.get? b = some o → H b = none → (zcR s₁.heap H).get? b = some o := fun e n => zc0 e n
    have noA : ∀ {b : Addr} {o : Obj} {es : Array DictEntry} {ep : Nat}, s₁.heap.get? b = some o → o.data = .dict es ep → H b = none := fun {b o es ep} e d => by
      cases q : H b with
      | none => rfl
      | some u =>
        have e' : b = a := hA b (by rw [q]; simp)
        subst e'
        rw [ha] at e; cases e
        have d' : Data.seq vs.toArray _ = Data.dict es ep := d
        cases d'
    have nsK : ∀ {b : Addr} {m : Str → Option Value}, s₁.heap.Ns b m → (zcR s₁.heap H).Ns b m := fun {b m} ⟨o, es, ep, e, d, r⟩ => ⟨o, es, ep, base_of e (noA e d), d, r⟩
    have hKb : K.In (zcR s₁.heap H) := fun b o e => base_of (KX b o e) (by
      cases q : H b with
      | none => rfl
      | some u =>
        have e' : b = a := hA b (by rw [q]; simp)
        subst e'
        rw [hK (by rw [q]; simp)] at e; cases e)
    have hM : Mod K mg (zcR s₁.heap H) := ⟨hKb, nsK hns, ⟨mb, nsK hb, hbb⟩, let ⟨mc, h1, h2⟩ := hlim; ⟨mc, nsK h1, h2⟩⟩
    have e0 : zgR P w K mg (zcR s₁.heap H) callerA [] s₁ H := ⟨rfl, hM, fun b o e => zeg e, Nat.le_of_eq (zbP _ _), trivial, fun b hb => absurd (show b ∈ ([] : List Addr) from hb) (by simp), hok, .of_eq hg⟩
    refine codeAny_mono ((F _ hKb (nsK hns)).run callerA [] s₁ H ⟨[.ref a], []⟩ [.ref a] [.ref a] _ _ hr e0 (hbind s₁ (.ref a)) (.cons rfl .nil) (hsp H hO hS)) fun r s' h => ?_
    cases r with
    | error e => exact (hCX H e s' h).elim
    | ok fl =>
      cases fl with
      | next => exact False.elim h
      | brk => exact False.elim h
      | cont => exact False.elim h
      | ret u =>
        obtain ⟨v, H', os, bare, un, hok', r', q⟩ := h
        have q' : v = .bl true := q
        subst q'
        obtain rfl : u = Value.bool true := r'
        refine ⟨rfl, OldK.of_keep fun b o e => ?_, os, bare⟩
        cases q : H b with
        | none => exact un.keep b o e q (by intro z; exact absurd (show b ∈ ([] : List Addr) from z) (by simp)) (by simp)
        | some u =>
          rcases hO b with z | ⟨ob, xs, z⟩
          · rw [q] at z; cases z
          · have z2 := un.frzs b ob _ z
            obtain ⟨e1, _⟩ := hok b _ z
            obtain ⟨e2, _⟩ := hok' b _ z2
            rw [e] at e1; cases e1
            exact e2
  cases hk : K.lookup a with
  | some o =>
    -- the script is one of the module's own objects
    have e := KX a o hk
    rw [ha] at e
    cases e
    refine core (fun _ => none) (fun _ => .inl rfl) (.inr ⟨_, vs.toArray, _, hk, rfl, rfl, rfl, by rw [List.size_toArray, lenV]; exact hl, by simpa using rv⟩) (fun b u z => by have z' : (none : Option HO) = some u := z; cases z') (fun b z => absurd rfl z) fun z => absurd rfl z
  | none =>
    refine core (fun b => if b = a then some (.frz { cls := .type "list", data := .seq vs.toArray } (.lst (ns.map V.int))) else none) (fun b => ?_) (.inl (.inr ⟨{ cls := .type "list", data := .seq vs.toArray }, if_pos rfl⟩)) (fun b u z => ?_) (fun b z => ?_) fun _ => hk
    · by_cases hb : b = a
      · exact .inr ⟨_, _, if_pos hb⟩
      · exact .inl (if_neg hb)
    · by_cases hb : b = a
      · have z' := (if_pos hb).symm.trans z
        cases z'
        subst hb
        exact ⟨ha, by rw [List.length_map]; exact hl, vs, _, rv, ha⟩
      · have z' := (if_neg hb).symm.trans z
        cases z'
    · by_cases hb : b = a
      · exact hb
      · exact absurd (if_neg hb) z
end L2
namespace L2
open PySem PySem.Spec PyProof.Rows
theorem walk_of {l : PySem.W.OpenLaw} {n k : Nat} {q : Program} {loose : List Str} {XP : (Str → Option Value) → Heap → Prop} {YP : World → Heap → Prop} {d : DefRec} {K : Params → PySem.W.Frag} {CX : World → CXT} {sp : World → Sp} {x : Str}
    (hn : l.most = some n) (hn2 : n ≤ sizeLine) (hdf : d.params.defaults = []) (hr : YN k callerA)
    (hY : ∀ (w : World) (h : Heap), YP w h → (K w.params).In h)
    (F : ∀ (w : World) (mg : Str → Option Value) (fa : Addr) (h : Heap), (K w.params).In h → h.Ns mainGlobals mg → mg d.name = some (.ref fa) →
      ∃ fd : FuncData, (∀ (s : Shared) (u : Value), BindsTo s fd ⟨[u], []⟩ [(x, u)]) ∧
        ∀ base : Heap, (K w.params).In base → base.Ns mainGlobals mg → x6 l.prog w (K w.params) mg base (CX w) k fa fd [x] (sp w))
    (hsp : ∀ (w : World) (H : Hp) (a : Addr) (ns : List Int), ns.length ≤ n → zg9 H → SqL (K w.params) H a (ns.map V.int) → sp w [.ref a] H (fun v _ => v = .bl true) fun _ _ _ => False)
    (hCX : ∀ (w : World) (H : Hp) (s : Shared) (e : Value) (s' : Shared), CX w [] H s (fun _ _ _ => False) e s' → False) :
    PySem.W.WalkO q loose XP YP l.row.toRowW d [] (fun f vs => PySem.call f vs) := by
  refine Att.attach_call hn hdf fun w s₀ s₁ mg mb fa o pm cd doc a vs ns G Y ho hd hcd hmg hobj hints hlen hg => ?_
  have KX := hY w _ Y
  obtain ⟨fd, hb, hF⟩ := F w mg fa _ KX G.T.g hmg
  exact zdC KX G.T.g G.T.b G.T.builtins G.T.nolimit hg hobj hints (Nat.le_trans hlen hn2) hr hF hb (fun H hO hS => hsp w H a ns hlen hO hS) fun H e s' => hCX w H s₁ e s'
end L2
namespace L2
open PySem PySem.Spec PyProof.Rows
noncomputable def zv (s : Stmt) : Arguments := match s with
  | .FunctionDef _ a _ _ _ _ _ _ _ _ => a
  | _ => { posonlyargs := [], args := [], vararg := none, kwonlyargs := [], kw_defaults := [], kwarg := none, defaults := [] }
noncomputable def zu (s : Stmt) : List Stmt := match s with
  | .FunctionDef _ _ b _ _ _ _ _ _ _ => b
  | _ => []
noncomputable def zh (s : Stmt) : Scope := match s with
  | .FunctionDef _ _ _ _ _ _ sc _ _ _ => sc
  | _ => { kind := .function, names := [], isGenerator := false, isCoroutine := false }
noncomputable abbrev CX0 : CXT := fun _ _ _ _ _ _ => False
noncomputable abbrev E0 : XK := fun _ _ _ => False
theorem zg3 {X : Cx} : zbJ CX0 X E0 := fun _ _ _ _ _ _ _ h => h.elim
set_option genInjectivity false in
set_option genSizeOf false in
set_option genCtorIdx false in
structure Fun (K : PySem.W.Frag) (x qual : Str) (st : Stmt) (f : Addr) (fd : FuncData) : Prop where
  ex : ∃ (oc : Value) (od : Option Addr) (kV doc pm : Value) (an : Option Addr) (cdv ct : Value) (osl : Array (Option Value)),
    fd = PySem.W.fnOf x qual (zv st) (zu st) (zh st) .none kV doc pm an cdv ct ∧ K.lookup f = some ⟨oc, od, .func fd, osl⟩ ∧ PySem.W.codeIn K cdv qual = true
  kp : PySem.W.keepIn K (.ref f) = true
section
variable {P : Program} {w : World} {K : PySem.W.Frag} {mg : Str → Option Value} {base : Heap}
theorem Fun.ok {x qual : Str} {st : Stmt} {f : Addr} {fd : FuncData} {N ps : List Str} {k : Nat} {sp : Sp} (F : Fun K x qual st f fd) (S : zw N ps (zh st)) (len : ∀ vs H Q E, sp vs H Q E → vs.length = ps.length)
    (hbody : ∀ (cdv : Value) (A : Around) (outer : List Env) (s : Shared) (H : Hp) (vs : List V) (Q : VK) (E : XK), YN k (A.deeper (envOfC qual (zh st) s.heap.objs.size f cdv)) → sp vs H Q E →
      ∃ t, PSs (zel CX0 P w K mg base N qual (zh st) f cdv A outer s H E).nox (zu st) t ∧ t { nx := fun _ H' => Q .non H', rt := Q } (start N vs) H) : x6 P w K mg base CX0 (k + 1) f fd ps sp := by
  obtain ⟨oc, od, kV, doc, pm, an, cdv, ct, osl, rfl, lk, hcd⟩ := F.ex
  refine zg8 lk hcd S len fun A outer s H vs Q E hr hsp => ?_
  obtain ⟨t, h, q⟩ := hbody cdv A outer s H vs Q E hr hsp
  exact ⟨t, h.nox, q⟩
theorem Fun.binds {x qual : Str} {st : Stmt} {f : Addr} {fd : FuncData} {ps : List Str} (F : Fun K x qual st f fd)
    (h : ∀ (kV doc pm : Value) (an : Option Addr) (cdv ct : Value) (us : List Value), us.length = ps.length → bindArgs (PySem.W.fnOf x qual (zv st) (zu st) (zh st) .none kV doc pm an cdv ct) ⟨us, []⟩ = pure (ps.zip us)) : Vl K fd ps [] := by
  obtain ⟨oc, od, kV, doc, pm, an, cdv, ct, osl, rfl, lk, hcd⟩ := F.ex
  exact .all (h kV doc pm an cdv ct)
theorem zS {x qual : Str} {st : Stmt} {f : Addr} {oc : Value} {od an : Option Addr} {osl : Array (Option Value)} {kV doc pm cdv ct : Value} (l : K.lookup f = some ⟨oc, od, .func (PySem.W.fnOf x qual (zv st) (zu st) (zh st) .none kV doc pm an cdv ct), osl⟩)
    (c : PySem.W.codeIn K cdv qual = true) (k : PySem.W.keepIn K (.ref f) = true) : Fun K x qual st f (PySem.W.fnOf x qual (zv st) (zu st) (zh st) .none kV doc pm an cdv ct) := ⟨⟨oc, od, kV, doc, pm, an, cdv, ct, osl, rfl, l, c⟩, k⟩
end
theorem Yj {n : Nat} (h : n ≤ 1000) : n < sizeLine := Nat.lt_of_le_of_lt h (by decide)
section
variable {X : Cx}
theorem pv (i : Nat) {x : Str} {pos : Pos} (hN : X.N[i]? = some x := by rfl) (hv : Vis X.env.scope x := by first | exact Or.inl rfl | exact Or.inr (Or.inl rfl) | exact Or.inr (Or.inr rfl)) (hd : (x == ("__debug__" : Str)) = false := by decide)
    (hcd : (x == ("__classdict__" : Str)) = false := by decide) : PE X (.Name x pos) (zgq i) := zfk hN hv hd hcd
end
noncomputable def yB (H H' : Hp) : Prop := ∀ b o, H b = some o → H' b = some o
theorem yB.refl (H : Hp) : yB H H := fun _ _ h => h
theorem yB.trans {H H1 H2 : Hp} (a : yB H H1) (b : yB H1 H2) : yB H H2 := fun c o h => b c o (a c o h)
theorem yB.free {H H' : Hp} (e : yB H H') {l : Addr} (h : H' l = Option.none) : H l = Option.none := by
  cases q : H l with
  | none => rfl
  | some o =>
    rw [e l o q] at h
    cases h
theorem yB.seq {K : PySem.W.Frag} {H H' : Hp} {a : Addr} {xs : List V} (e : yB H H') (h : SqL K H a xs) : SqL K H' a xs := by
  rcases h with (h | ⟨o, h⟩) | h
  · exact .inl (.inl (e _ _ h))
  · exact .inl (.inr ⟨o, e _ _ h⟩)
  · exact .inr h
end L2
namespace L2
open PySem PySem.Spec PyProof.Rows
end L2
namespace L2
open PySem PySem.Spec PyProof.Rows
section
variable (P : Program) (w : World)
end
section
variable {P : Program} {w : World} {H H' : Hp} {h h' : Heap} {a : Addr} {o : HO}
end
section
variable {P : Program} {w : World} {H : Hp} {h h' : Heap} {x e : Addr} {o' : HO}
end
section
variable {fs fs' ex ex' : List Addr} {H H1 H2 : Hp} {h h1 h2 h' : Heap} {a x e : Addr} {o : HO}
end
end L2
namespace L2
open PySem PySem.Spec PyProof.Rows
section
variable {X : Cx} {pins : List (Addr × Obj)} {σ : List (Option V)} {H H' : Hp} {s : Shared} {h' : Heap}
end
end L2
namespace L2
open PySem PySem.Spec PyProof.Rows
section
variable {X : Cx}
variable {a b : Expr} {ta tb : TE} {pos : Pos}
variable {tA tB' : TT} {rest : List Expr}
end
end L2
namespace L2
open PySem PySem.Spec PyProof.Rows
section
variable {X : Cx} {pins : List (Addr × Obj)} {σ : St} {H : Hp} {s : Shared} {a : Addr} {xs ys : List V}
end
section
variable {X : Cx} {pins : List (Addr × Obj)} {σ : St} {H : Hp} {s : Shared} {E : Value → Shared → Prop}
end
section
variable {X : Cx} {st : Stmt} {rest : List Stmt} {t u : TS} {e : Expr} {te : TE} {pos : Pos}
end
section
variable {X : Cx} {pos : Pos}
end
section
variable {X : Cx} {pos : Pos}
end
end L2
namespace L2
open PySem PySem.Spec PyProof.Rows
section
variable {X : Cx} {tg : Expr}
end
end L2
namespace L2
open PySem PySem.Spec PyProof.Rows
section
variable {X : Cx} {a b c : Expr} {ta tb tc : TE} {pos : Pos}
end
section
variable {X : Cx} {a b c : Expr} {ta tb tc : TE} {pos : Pos}
end
end L2
namespace L2
open PySem PySem.Spec PyProof.Rows
section
variable {prog : Program} {w : World} {A : Around} {E : Value → Shared → Prop} {s : Shared} {K : PySem.W.Frag} {x dx C f : Addr} {mA : Str → Option Value} {name : Str} {v : Value}
end
section
variable {P : Program} {w : World} {H H' : Hp} {h h' : Heap} {a C dx : Addr} {fs fs' : List (Str × V)}
end
section
variable {X : Cx} {pins : List (Addr × Obj)} {σ : St} {H : Hp} {s : Shared} {a C dx : Addr} {fs : List (Str × V)} {f : Str} {v : V} {A : Around} {E : Value → Shared → Prop}
end
section
variable {X : Cx} {o e value : Expr} {f : Str} {pos pos' tpos : Pos} {ta tv : TE}
end
section
variable {X : Cx} {pins : List (Addr × Obj)} {σ : St} {H : Hp} {s : Shared} {A : Around} {E : Value → Shared → Prop} {Q : Value → Shared → Prop} {c : Value} {b : Bool}
end
end L2
namespace L2
open PySem PySem.Spec PyProof.Rows
section
variable {X : Cx} {e : Expr} {es : List Expr} {te : TE} {t : TA} {pos : Pos}
end
section
variable {X : Cx} {pins : List (Addr × Obj)} {σ : St} {H : Hp} {s s' : Shared}
end
section
variable {X : Cx} {CX : CXT} {k : Nat} {f C : Addr} {fd : FuncData} {ps : List Str} {sp : Sp} {dvs : List V} {ds : List Value} {E : XK} {x m : Str} {p pos apos : Pos} {e o : Expr} {es : List Expr} {ta : TE} {t : TA}
end
section
variable {X : Cx} {CX : CXT} {k : Nat} {f C : Addr} {fd : FuncData} {ps ks : List Str} {sp : Sp} {E : XK} {x m : Str} {p pos apos kpos : Pos} {e o : Expr} {es : List Expr} {kws : List Keyword} {te ta : TE} {t tk : TA} {nm : Option Str}
variable {g : List Value → List Value → List Value} {gV : List V → List V → List V}
end
end L2
namespace L2
open PySem PySem.Spec PyProof.Rows
section
variable {X : Cx} {x : Str} {p pos : Pos} {e : Expr} {es : List Expr} {t : TA} {id T : String} {r : List V → Hp → VK → Prop}
end
end L2
namespace L2
open PySem PySem.Spec PyProof.Rows
section
variable {κ : Type} [DecidableEq κ]
end
section
variable {P : Program} {w : World} {H : Hp} {h : Heap} {a : Addr}
end
section
variable {X : Cx} {pins : List (Addr × Obj)} {σ : St} {H : Hp} {s : Shared} {a : Addr} {y v : V} {u r : Value} {o : Option V} {A : Around} {E : Value → Shared → Prop}
end
section
variable {X : Cx} {pins : List (Addr × Obj)} {σ : St} {H : Hp} {s : Shared} {a : Addr} {kvs : List (Key × V)} {k : Key} {u : Value} {A : Around} {E : Value → Shared → Prop}
end
section
variable {X : Cx} {o i e value : Expr} {pos pos' tpos : Pos} {td ty tv : TE}
end
section
variable {X : Cx} {pos : Pos}
end
section
variable {X : Cx} {pins : List (Addr × Obj)} {σ : St} {H : Hp} {s : Shared} {a : Addr} {y d : V} {u r : Value} {o : Option V} {A : Around} {E : Value → Shared → Prop}
end
section
variable {X : Cx} {o e f : Expr} {apos cpos : Pos} {td ty tx : TE}
end
section
variable {X : Cx} {pins : List (Addr × Obj)} {σ : St} {H : Hp} {s : Shared} {a : Addr} {kvs : List (Key × V)} {A : Around} {E : Value → Shared → Prop}
end
section
variable {X : Cx} {pins : List (Addr × Obj)} {σ : St} {H : Hp} {s : Shared} {a : Addr} {y : V} {u : Value} {A : Around} {E : Value → Shared → Prop}
end
end L2
namespace Att
open PySem PySem.W PySem.Calls PyProof.Rows
section
variable {prog : Program} {w : World} {A : Around} {E : Value → Shared → Prop} {s : Shared} {K : Frag}
end
end Att
namespace L2
open PySem PySem.Spec PyProof.Rows
end L2
namespace L2
open PySem PySem.Spec PyProof.Rows
end L2
namespace L2
open PySem PySem.Spec PyProof.Rows
section
variable {P : Program} {w : World} {K : PySem.W.Frag} {mg : Str → Option Value} {base : Heap}
end
section
variable {X : Cx}
end
section
variable {κ : Type} [DecidableEq κ]
end
end L2
namespace L2
open PySem PySem.Spec PyProof.Rows
theorem WX {X : Cx} : Yw X (.builtin "isinstance") (fun xs H Q => ∃ x n t b, xs = [x, .ty n] ∧ VU X.K H x t ∧ PySem.W.kitOne X.K t (.type n) = some b ∧ Q (.bl b) H) := by
  intro pins s σ H xs us Q I r h
  obtain ⟨x, n, t, b, rfl, ty, e, q⟩ := h
  obtain ⟨u, w', rfl, rx, rt⟩ := Vp r
  cases (show w' = Value.type n from rt)
  exact zcd I rx ty e fun tk => ⟨.bl b, H, I.tok _, rfl, q⟩
theorem Vc {X : Cx} : OpR X (compareOp .IsNot) (fun x y H Q => ∃ i j, x = .bl i ∧ y = .bl j ∧ Q (.bl (!(i == j))) H) := by
  intro pins s σ H x y v u Q I rx ry h
  obtain ⟨i, j, rfl, rfl, q⟩ := h
  cases rx
  cases ry
  refine wpAny_isNot_plain (by rfl) ⟨.bl (!(i == j)), H, I, ?_, q⟩
  cases i <;> cases j <;> rfl
noncomputable def zdQ (K : PySem.W.Frag) : R2 := fun x y H Q => ∃ a b xs ys, x = .ref a ∧ y = .ref b ∧ SqT K H a xs ∧ SqT K H b ys ∧ xs.length + ys.length ≤ sizeLine ∧
  (xs = [] → Q (.ref b) H) ∧ (xs ≠ [] → ys = [] → Q (.ref a) H) ∧ (xs ≠ [] → ys ≠ [] → ∀ p, H p = none → Q (.ref p) (upd H p (.tup (xs ++ ys))))
theorem zcX {X : Cx} : OpR X (binaryOp .Add) (zdQ X.K) := by
  intro pins s σ H x y v u Q I rx ry h
  obtain ⟨a, b, xs, ys, rfl, rfl, ha, hb, hz, q0, q1, q2⟩ := h
  by_cases hx : xs = []
  · subst hx
    cases rx
    cases ry
    obtain ⟨its, r, p, _⟩ := I.tuple ha
    obtain ⟨its', r', p', _⟩ := I.tuple hb
    cases r
    obtain ⟨⟨cls, dd, data, sl⟩, ho, hc, n, hd⟩ := id p
    obtain ⟨⟨cls2, dd2, data2, sl2⟩, ho2, hc2, n2, hd2⟩ := id p'
    simp only at hc hd hc2 hd2
    subst hc hd hc2 hd2
    exact concat_meets ⟨_, ho, rfl⟩ ⟨_, ho2, rfl⟩ noFill_tuple_add seq_tuple_add PySem.F.slot_tuple_add PySem.F.entry_tuple_add (PySem.F.args_tuple_add_2 _ _)
      (tuple_addW0 a b #[] its'.toArray n n2 dd dd2 sl sl2 rfl) ⟨ho, ho2, ⟨.ref b, H, I, rfl, q0 rfl⟩⟩
  · refine zeL pins s σ H (.ref a) (.ref b) v u Q I rx ry ⟨a, b, xs, ys, rfl, rfl, ha, hb, hx, hz, ?_⟩
    exact ⟨fun e => q1 hx e, fun e => q2 hx e⟩
end L2
namespace L2
open PySem PySem.Spec PyProof.Rows
inductive vM : St → St → Prop where
  | nil : vM [] []
  | non {a : Option V} {s t : St} : vM s t → vM (none :: s) (a :: t)
  | same {a : Option V} {s t : St} : vM s t → vM (a :: s) (a :: t)
theorem vM.refl : ∀ s : St, vM s s
  | [] => .nil
  | _ :: r => .same (vM.refl r)
theorem vM.length {s t : St} (h : vM s t) : s.length = t.length := by
  induction h with
  | nil => rfl
  | non _ ih => simp [ih]
  | same _ ih => simp [ih]
theorem vM.get {s t : St} (h : vM s t) : ∀ (i : Nat) (v : V), s[i]? = some (some v) → t[i]? = some (some v) := by
  induction h with
  | nil => intro i v e; exact e
  | non _ ih =>
    intro i v e
    cases i with
    | zero => simp at e
    | succ i => simpa using ih i v (by simpa using e)
  | same _ ih =>
    intro i v e
    cases i with
    | zero => simpa using e
    | succ i => simpa using ih i v (by simpa using e)
theorem vM.set {n : Nat} {v : V} : ∀ {s t : St}, vM s t → s[n]? = some none → vM s (t.set n (some v))
  | _, _, .nil, _ => .nil
  | _, _, .non (a := a) h, e => by
    cases n with
    | zero => exact .non h
    | succ n => exact .non (vM.set h (by simpa using e))
  | _, _, .same (a := a) h, e => by
    cases n with
    | zero =>
      have e' : a = none := by simpa using e
      subst e'
      exact .non h
    | succ n => exact .same (vM.set h (by simpa using e))
theorem Inv.sub {X : Cx} {pins : List (Addr × Obj)} {σ σ' : St} {H : Hp} {s : Shared} (I : Inv X pins σ H s) (h : vM σ' σ) : Inv X pins σ' H s := I.weak h.length h.get
noncomputable def PIf (X : Cx) (ifs : List Expr) (t : TT) : Prop :=
  ∀ (pins : List (Addr × Obj)) (s : Shared) (σ : St) (H : Hp) (Q : Bool → Hp → Prop), Inv X pins σ H s → t σ H Q →
    wpAny (model X.prog X.w) X.A (forIn ifs true fun c r => if r = true then do let ok ← isTrue c X.env (eval c X.env); pure (ForInStep.yield ok) else pure (ForInStep.yield r)) (TP X pins σ Q) X.xe s
noncomputable def tYes : TT := fun _ H Q => Q true H
theorem zb5 {X : Cx} : PIf X [] tYes := by
  intro pins s σ H Q I h
  rw [List.forIn_nil]
  exact wpAny_pure ⟨H, I, h⟩
theorem Vd {X : Cx} {c : Expr} {t : TT} (hc : PT X c t) : PIf X [c] t := by
  intro pins s σ H Q I h
  rw [List.forIn_cons]
  refine wpAny_bind ?_
  rw [if_pos rfl]
  refine wpAny_bind (thn (hc pins s σ H Q I h) fun b s1 q => wpAny_pure ?_)
  show wpAny _ _ (forIn [] b _) _ _ _
  rw [List.forIn_nil]
  exact wpAny_pure q
section
variable {prog : Program} {w : World} {A : Around} {R : Result → Shared → Prop} {s : Shared}
theorem xH {elt target iter : Expr} {ifs : List Expr} {scope : Scope} {pos : Pos} {it acc : Value} {env : Env} (I : Nat → Shared → Prop)
    (turn : ∀ n s, I n s → wpAny (model prog w) A (pyNext it) (fun r s₁ => match r with
      | none => R (.ok .next) s₁
      | some v => wpAny (model prog w) A (letOwnedTupleGo target it v) (fun _ s₁' => wpAny (model prog w) A (assign target env v) (fun _ s₂ =>
          wpAny (model prog w) A (forIn ifs true fun c r => if r = true then do let ok ← isTrue c env (eval c env); pure (ForInStep.yield ok) else pure (ForInStep.yield r)) (fun ok s₃ =>
            if ok = true then wpAny (model prog w) A (eval elt env) (fun x s₄ =>
              wpAny (model prog w) A (call (.builtin "list.append") [acc, x]) (fun _ s₅ => ∃ m, m < n ∧ I m s₅) (fun _ _ => False) s₄) (fun _ _ => False) s₃
            else ∃ m, m < n ∧ I m s₃) (fun _ _ => False) s₂) (fun _ _ => False) s₁') (fun _ _ => False) s₁) (fun _ _ => False) s)
    (n : Nat) (h : I n s) :
    codeAny (model prog w) A (.compLoop (.ListComp elt [⟨target, iter, ifs, 0⟩] scope pos) 0 it acc env) R s := by
  refine codeAny_loop rfl I (fun n s hI => ?_) n h
  show wpAny _ A ((compTurn (.ListComp elt [⟨target, iter, ifs, 0⟩] scope pos) 0 it acc env).onRaise (fun x => do noteFrame x env; theTreesLotGoes x)) _ _ s
  refine wpAny_noted ?_
  rw [compTurn_list]
  refine wpAny_bind (wpAny_standAt (wpAny_bind (wpAny_mono (turn n s hI) (fun r s₁ h₁ => ?_) fun _ _ h' => h'.elim)))
  cases r with
  | none => exact wpAny_pure h₁
  | some v =>
    refine wpAny_bind (wpAny_mono h₁ (fun _ s₁' h₁' => ?_) fun _ _ h' => h'.elim)
    refine wpAny_bind (wpAny_mono h₁' (fun _ s₂ h₂ => wpAny_bind (wpAny_mono h₂ (fun ok s₃ h₃ => ?_) fun _ _ h' => h'.elim)) fun _ _ h' => h'.elim)
    cases ok with
    | false => exact wpAny_pure ⟨rfl, h₃⟩
    | true =>
      exact wpAny_bind (wpAny_bind (wpAny_mono h₃ (fun x s₄ h₄ => wpAny_bind (wpAny_mono h₄ (fun _ s₅ h₅ => wpAny_pure (wpAny_pure ⟨rfl, h₅⟩)) fun _ _ h' => h'.elim)) fun _ _ h' => h'.elim))
end
noncomputable def tLC (wi : TI) (n : Nat) (g : TG) (tt : TT) (te : TE) : TE := fun σ H Q => wi σ H fun J H1 => ∀ D, H1 D = none → ∃ W : Nat → Nat → List V → Hp → Prop, (∃ m, W 0 m [] (upd H1 D (.lst []))) ∧
  ∀ i m ys H2, W i m ys H2 → (J.stop i H2 ∧ Q (.ref D) H2) ∨ (J.go i H2 ∧ ys.length < sizeLine ∧ ∀ x H3, J.yld i H2 x H3 → g x (List.replicate n none ++ σ) H3 fun σ2 H4 => tt σ2 H4 fun b H5 =>
    if b = true then te σ2 H5 fun y H6 => H6 D = some (.lst ys) ∧ ∃ m', m' < m ∧ W (i + 1) m' (ys ++ [y]) (upd H6 D (.lst (ys ++ [y]))) else ∃ m', m' < m ∧ W (i + 1) m' ys H5)
theorem wo {α : Type} : ∀ {l : List (Str × α)} {y : Str}, y ∈ l.map Prod.fst → ∃ c, l.lookup y = some c
  | [], _, h => by simp at h
  | (k, v) :: r, y, h => by
    by_cases e : y = k
    · exact ⟨v, by simp [List.lookup, e]⟩
    · obtain ⟨c, hc⟩ := wo (l := r) (y := y) (by simpa [e] using h)
      have hb : (y == k) = false := beq_eq_false_iff_ne.mpr e
      exact ⟨c, by simp only [List.lookup, hb]; exact hc⟩
theorem yI {α : Type} {P : α → Prop} : ∀ p ∈ ([] : List α), P p := fun _ h => nomatch h
theorem all_cons {α : Type} {P : α → Prop} {a : α} {l : List α} (h : P a) (t : ∀ p ∈ l, P p) : ∀ p ∈ a :: l, P p := fun p hp => by
  rcases List.mem_cons.mp hp with e | hp
  · rw [e]; exact h
  · exact t p hp
theorem gs1 (σ : St) (v : V) (H : Hp) (Q : St → Hp → Prop) (h : vP 0 v (List.replicate 1 none ++ σ) H Q) : vP 0 v (List.replicate 1 none ++ σ) H (fun σ2 H2 => vM (List.replicate 1 none ++ σ) σ2 ∧ Q σ2 H2) := ⟨.set (.refl _) rfl, h⟩
theorem gs2 {K : PySem.W.Frag} (σ : St) (v : V) (H : Hp) (Q : St → Hp → Prop) (h : zgT K 2 (W3 (vP 0) (W3 (vP 1) zgX)) v (List.replicate 2 none ++ σ) H Q) :
    zgT K 2 (W3 (vP 0) (W3 (vP 1) zgX)) v (List.replicate 2 none ++ σ) H (fun σ2 H2 => vM (List.replicate 2 none ++ σ) σ2 ∧ Q σ2 H2) := by
  obtain ⟨a, xs, e, hq, hl, x, r, e1, y, r2, e2, e3, q⟩ := h
  exact ⟨a, xs, e, hq, hl, x, r, e1, y, r2, e2, e3, .set (.set (.refl _) rfl) rfl, q⟩
end L2
namespace L2
open PySem PySem.Spec PyProof.Rows
noncomputable def Xh (X : Cx) (L M : List Str) (scope : Scope) (cl : List (Str × Addr)) (s₀ : Shared) (H₀ : Hp) (ex : List Addr) (pn : List (Addr × Obj)) : Cx :=
  { X with N := L ++ M, s₀ := s₀, H₀ := H₀, env := compEnvC scope cl s₀.heap.objs.size X.env, outer := X.stack, stack := X.stack, ex := ex, fn := fun _ => false, pn := pn, xe := fun _ _ => False }
structure yM (X : Cx) (L M : List Str) (scope : Scope) (cl : List (Str × Addr)) : Prop where
  clos : closureFor scope X.env = pure cl
  cell : ∀ y ∈ scope.names, y.2 ≠ .cell
  kind : scope.kind = .function
  names : ∀ y ∈ scope.names, y.2 = .local → scope.names.lookup y.1 = some .local
  sub : ∀ y c, cl.lookup y = some c → X.env.cells.lookup y = some c
  has : ∀ y, ((relabel scope X.env).names.lookup y = some .cell ∨ (relabel scope X.env).names.lookup y = some .free) → ∃ c, cl.lookup y = some c
  mlen : M.length = X.N.length
  msk : ∀ (i : Nat) y, M[i]? = some y → Vis (relabel scope X.env) y → X.N[i]? = some y
  vis : ∀ (i : Nat) y, M[i]? = some y → Vis (relabel scope X.env) y → ((relabel scope X.env).names.lookup y = some .cell ∨ (relabel scope X.env).names.lookup y = some .free)
  out : ∀ (i : Nat) y, M[i]? = some y → Vis (relabel scope X.env) y → Vis X.env.scope y ∧ X.env.kindOf y ≠ some .local
theorem Inv.letGo {X : Cx} {pins : List (Addr × Obj)} {σ : St} {H : Hp} {s : Shared} {C : Addr} {h' : Heap} (I : Inv X pins σ H s) (f : WO X pins H C) (sb : Heap.SameBut C s.heap h') : Inv X pins σ H { s with heap := h' } := by
  obtain ⟨f0, f1, f2, f3, f4, f5⟩ := f
  have ne : ∀ b, b ∉ [C] → b ≠ C := fun b hb z => hb (by rw [z]; exact List.mem_singleton.mpr rfl)
  refine I.call' (s' := { s with heap := h' }) (ch := [C]) rfl ⟨fun b o e _ _ hx => (sb.2 b (ne b hx)).trans e, fun b o e _ _ hx => ⟨o.slots, (sb.2 b (ne b hx)).trans e⟩, fun _ _ _ n _ => n, fun b o e hx => ⟨o, (sb.2 b (ne b hx)).trans e⟩, fun _ _ q => q, fun _ _ _ q => q, fun _ ps q => ⟨#[], by rw [q]; simp⟩⟩ ?_ I.bare fun b hb => ?_
  · intro b ob e
    refine (I.hok b ob e).stay (fun c v hc q => (sb.2 c ?_).trans q) (fun _ q => q) fun _ _ q => q
    rintro rfl
    rcases hc with z | z
    · rw [← z, f0] at e; cases e
    · rw [f0] at z; cases z
  · rw [List.mem_singleton.mp hb]
    exact ⟨f3, f1, f4, f5⟩
theorem zbg {use : Option (Value → Sem Unit)} {Qf : Value → Shared → Prop} {X : Cx} {elt tg iter : Expr} {ifs : List Expr} {L M : List Str} {scope : Scope} {cl : List (Str × Addr)} {pos : Pos} {wi : TI} {g : TG} {tt : TT} {te : TE}
    (hc : X.calm = true) (S : yM X L M scope cl) (hi : PI X tg iter wi)
    (hgS : ∀ (σ : St) (v : V) (H : Hp) (Q : St → Hp → Prop), g v (List.replicate L.length none ++ σ) H Q → g v (List.replicate L.length none ++ σ) H (fun σ2 H2 => vM (List.replicate L.length none ++ σ) σ2 ∧ Q σ2 H2))
    (hg : ∀ s₀ H₀ ex pn, PG (Xh X L M scope cl s₀ H₀ ex pn) tg g) (ht : ∀ s₀ H₀ ex pn, PIf (Xh X L M scope cl s₀ H₀ ex pn) ifs tt) (he : ∀ s₀ H₀ ex pn, PE (Xh X L M scope cl s₀ H₀ ex pn) elt te)
    (hs : ∀ x, foldedSetIterable iter X.env x = pure x := by intro _; rfl) :
    ∀ (pos' : Pos) (pins : List (Addr × Obj)) (s : Shared) (σ : St) (H : Hp) (Q : VK), Inv X pins σ H s → tLC wi L.length g tt te σ H Q →
      (∀ (D C : Addr) (H' : Hp) (s' : Shared), Inv X pins σ H' s' → (∃ m, s'.heap.Ns C m) → WO X pins H' C → Q (.ref D) H' → compPost (model X.prog X.w) X.A X.xe use Qf (.ref D) C (.ok .next) s') →
      wpAny (model X.prog X.w) X.A (comprehension (.ListComp elt [⟨tg, iter, ifs, 0⟩] scope pos) scope X.env pos' (newList []) false (eval iter X.env) use) Qf X.xe s := by
  intro pos' pins s σ H Q I h fin
  refine wpAny_comprehension_free (use := use) rfl hs S.clos S.kind S.names (thn (hi pins s σ H _ I h) fun v s1 h1 => thn h1 fun itv s2 h2 => ?_)
  obtain ⟨it, fp, tn, J, H2, e, I2, T, st2, f2, q⟩ := h2
  subst e
  have hD : H2 s2.heap.objs.size = none := I2.hok.fresh (Nat.le_refl _)
  obtain ⟨W, ⟨m0, w0⟩, turn⟩ := q _ hD
  refine wpAny_newObj_type (wpAny_newFunctionEnv S.cell (by intro y hy; simp at hy) (fun h₁ hns₁ hsb₁ => ?_) S.kind)
  have I3 : Inv X pins σ (upd H2 s2.heap.objs.size (.lst [])) { s2 with heap := s2.heap.push { cls := .type "list", data := .seq ([] : List Value).toArray } } := by
    refine I2.laid (t' := s2.toks) (fun b u e => Heap.get?_push_of_some _ e) (Nat.le_refl _) ?_
    exact ⟨Nat.zero_le _, [], 0, .nil, Heap.get?_push_size _ rfl⟩
  generalize hs3 : ({ s2 with heap := s2.heap.push { cls := .type "list", data := .seq ([] : List Value).toArray } } : Shared) = s3 at I3 hns₁ hsb₁ ⊢
  have hobj : ∀ b ∈ fp, b < s2.heap.objs.size := fun b hb => by
    obtain ⟨o, ho, _⟩ := T.obj _ _ st2 b hb
    exact Heap.lt_size ho
  have hz3 : s3.heap.objs.size = s2.heap.objs.size + 1 := by rw [← hs3]; exact Heap.size_push ..
  have k23 : ∀ b o, s2.heap.get? b = some o → s3.heap.get? b = some o := fun b o e => by rw [← hs3]; exact Heap.get?_push_of_some _ e
  have k34 : ∀ b o, s3.heap.get? b = some o → h₁.get? b = some o := fun b o e => (hsb₁.2 b (Nat.ne_of_lt (Heap.lt_size e))).trans (Heap.get?_push_of_some _ e)
  generalize hH3 : upd H2 s2.heap.objs.size (.lst []) = H3 at I3 w0
  have hfp3 : ∀ b ∈ fp, H3 b = none := fun b hb => by
    rw [← hH3, zr (Nat.ne_of_lt (hobj b hb))]
    exact (f2 b hb).1
  have nfs : ∀ b ∈ fp, b ∉ frs X.stack := fun b hb z => by
    obtain ⟨_, n1, n2, _⟩ := f2 b hb
    rcases List.mem_cons.mp (I3.stkSub b z) with e | e
    · exact n1 e
    · exact n2 e
  let Y : Cx := Xh X L M scope cl s3 H3 fp (X.pn ++ pins)
  have OkY : Y.Ok := by
    refine ⟨I.ok.mod, S.kind, I.ok.glob, I.ok.blt, Nat.le_refl _, fun x y c h1 h2 => I.ok.inj x y c (S.sub x c h1) (S.sub y c h2), fun x hx => S.has x hx, (fun x c h _ => absurd h Bool.false_ne_true), I.ok.hd, I.ok.frames, .inl rfl, fun b hb => ⟨?_, fun x c e z => ?_⟩,
      fun b o e => I3.bs b o e, Nat.le_trans I.ok.bsz I3.sz, fun b o e hb => ?_, nfs, I3.stack, I3.stkFree⟩
    · show b ≠ s3.heap.objs.size
      exact Nat.ne_of_lt (Nat.lt_of_lt_of_le (hobj b hb) (by rw [hz3]; exact Nat.le_succ _))
    · exact (f2 b hb).2.2.2.2.1 x c (S.sub x c e) z
    · rcases (f2 b hb).2.2.2.1 with z | z
      · exact I.ok.noex b o e z
      · have h1 := Heap.lt_size e
        have h2 := I.ok.bsz
        exact absurd (Nat.lt_of_lt_of_le h1 (Nat.le_trans h2 z)) (Nat.lt_irrefl _)
  have I4 : Inv Y [] (List.replicate L.length none ++ σ) H3 { s3 with heap := h₁, toks := s3.toks + ([] : List (Str × Value)).length } := by
    refine ⟨OkY, rfl, I3.bare, Un.kept k34, ⟨_, hns₁, fun i y v e1 e2 e3 => ?_⟩, fun x c e => ?_, I3.hok.fresh (Nat.le_refl _), fun x c e => I3.freeC x c (S.sub x c e), fun p hp => ?_, I3.hok.kept k34, ?_⟩
    · have hi : ¬ i < L.length := fun hlt => by
        rw [List.getElem?_append_left (by simpa using hlt), List.getElem?_replicate] at e2
        split at e2 <;> cases e2
      have e0' : M[i - L.length]? = some y := by
        have e1 : (L ++ M)[i]? = some y := e1
        rw [List.getElem?_append_right (by omega)] at e1
        exact e1
      have e2' : σ[i - L.length]? = some (some v) := by rw [List.getElem?_append_right (by simpa using Nat.le_of_not_lt hi)] at e2; simpa using e2
      have e1' := S.msk _ y e0' e3
      obtain ⟨ov, ok⟩ := S.out _ y e0' e3
      obtain ⟨m, hn, hl⟩ := I3.loc
      obtain ⟨u, ru, lk⟩ := hl _ y v e1' e2' ov
      refine ⟨u, ru, ?_⟩
      rcases lk with ⟨hk, _⟩ | ⟨_, c, hc', hcell⟩
      · exact absurd hk ok
      · have kn := S.vis _ y e0' e3
        obtain ⟨c', hc2⟩ := S.has y kn
        have := S.sub y c' hc2
        rw [hc'] at this
        cases this
        refine .inr ⟨kn, c, hc2, ?_⟩
        obtain ⟨o, ho, hd⟩ := hcell
        exact ⟨o, k34 _ _ ho, hd⟩
    · obtain ⟨v, o, ho, hd⟩ := I3.cell x c (S.sub x c e)
      exact ⟨v, o, k34 _ _ ho, hd⟩
    · have hp' : p ∈ X.pn ++ pins := List.append_nil (X.pn ++ pins) ▸ hp
      obtain ⟨a1, a2, a3, a4, a5⟩ := I3.pin p hp'
      refine ⟨k34 _ _ a1, a2, Nat.ne_of_lt (Heap.lt_size a1), fun z => ?_, a5⟩
      rcases List.mem_cons.mp (I3.stkSub p.1 z) with e | e
      · exact a3 e
      · exact a4 e
    · show (List.replicate L.length none ++ σ).length = (L ++ M).length
      rw [List.length_append, List.length_append, List.length_replicate, I.len, S.mlen]
  have fpY : ∀ {H' : Hp}, (∀ b ∈ fp, H' b = none) → ∀ b ∈ fp, WO Y [] H' b := fun {H'} hn b hb => by
    refine ⟨hn b hb, (OkY.exf b hb).1, nfs b hb, .inl hb, (OkY.exf b hb).2, fun p hp => ?_⟩
    have hp' : p ∈ X.pn ++ pins := List.append_nil (X.pn ++ pins) ▸ hp
    exact (f2 b hb).2.2.2.2.2 p hp'
  have st4 : tn 0 h₁ := T.keep _ _ _ st2 fun b hb o e => k34 b o (k23 b o e)
  -- behind the loop
  have back : ∀ (H' : Hp) (s' : Shared), Inv Y [] (List.replicate L.length none ++ σ) H' s' → Q (.ref s2.heap.objs.size) H' → compPost (model X.prog X.w) X.A X.xe use Qf (.ref s2.heap.objs.size) s3.heap.objs.size (.ok .next) s' := fun H' s' J' q' => by
    obtain ⟨m, hn, _⟩ := J'.loc
    refine fin _ _ H' s' (I3.call' (ch := fp) J'.os J'.base J'.hok J'.bare fun b hb => ?_) ⟨m, hn⟩ (I3.fpOk (Nat.le_refl _) J'.free) q'
    obtain ⟨_, n1, _, n3, n4, n5⟩ := f2 b hb
    exact ⟨n3, n1, n4, n5⟩
  have loop : codeAny (model X.prog X.w) X.A (.compLoop (.ListComp elt [⟨tg, iter, ifs, 0⟩] scope pos) 0 (.ref it) (.ref s2.heap.objs.size) (compEnvC scope cl s3.heap.objs.size X.env))
      (compPost (model X.prog X.w) X.A X.xe use Qf (.ref s2.heap.objs.size) s3.heap.objs.size) { s3 with heap := h₁, toks := s3.toks + ([] : List (Str × Value)).length } := by
    refine xH (fun n s' => ∃ i ys H', Inv Y [] (List.replicate L.length none ++ σ) H' s' ∧ tn i s'.heap ∧ (∀ b ∈ fp, H' b = none) ∧ W i n ys H') ?_ m0 ⟨0, [], H3, I4, st4, hfp3, w0⟩
    rintro n s5 ⟨i, ys, H5, I5, st5, fr5, w5⟩
    rcases turn i n ys H5 w5 with ⟨stop, qn⟩ | ⟨go, hlen, step⟩
    · refine thn (T.done Y rfl rfl rfl hc i [] s5 _ H5 _ I5 (fpY fr5) st5 stop) fun r s6 hh9 => ?_
      obtain ⟨hr, I6⟩ := hh9
      subst hr
      exact back H5 s6 I6 qn
    · refine thn (T.item Y rfl rfl rfl hc i [] s5 _ H5 _ I5 (fpY fr5) st5 go) fun r s6 hh9 => ?_
      obtain ⟨u, hr, h6⟩ := hh9
      subst hr
      refine thn h6 fun _ s7 hh9 => ?_
      obtain ⟨x, H7, I7, r7, y7, st7, fr7⟩ := hh9
      have I7' := I7.pinned (fpY fr7) (T.obj _ _ st7)
      have g7 := hgS σ x H7 _ (step x H7 y7)
      refine thn (hg _ _ _ _ _ s7 _ H7 x u _ I7' r7 g7) fun _ s8 hh9 => ?_
      obtain ⟨σ8, H8, I8, sub8, q8⟩ := hh9
      have again : ∀ {σ9 : St} {H9 : Hp} {s9 : Shared} {zs : List V}, Inv Y ([] ++ YM fp s7.heap) σ9 H9 s9 → vM (List.replicate L.length none ++ σ) σ9 → (∃ m', m' < n ∧ W (i + 1) m' zs H9) →
          ∃ m, m < n ∧ ∃ i ys H', Inv Y [] (List.replicate L.length none ++ σ) H' s9 ∧ tn i s9.heap ∧ (∀ b ∈ fp, H' b = none) ∧ W i m ys H' := fun {σ9 H9 s9 zs} I9 sub9 w9 => by
        obtain ⟨m', hm, w9⟩ := w9
        refine ⟨m', hm, i + 1, zs, H9, (I9.sub sub9).unpinned, T.keep _ _ _ st7 fun b hb o e => (I9.pin (b, o) (List.mem_append_right _ (List.mem_append_right _ (xf hb e)))).1, fun b hb => ?_, w9⟩
        obtain ⟨o, e, d⟩ := T.obj _ _ st7 b hb
        exact (I9.pin (b, o) (List.mem_append_right _ (List.mem_append_right _ (xf hb e)))).2.1
      refine thn (ht _ _ _ _ _ s8 σ8 H8 _ I8 q8) fun b s9 hh9 => ?_
      obtain ⟨H9, I9, q9⟩ := hh9
      cases b with
      | false =>
        rw [if_neg Bool.false_ne_true] at q9
        rw [if_neg Bool.false_ne_true]
        exact again I9 sub8 q9
      | true =>
        rw [if_pos rfl] at q9
        rw [if_pos rfl]
        refine thn (he _ _ _ _ _ s9 σ8 H9 _ I9 q9) fun y s10 hh9 => ?_
        obtain ⟨yv, H10, I10, r10, hD10, w10⟩ := hh9
        obtain ⟨z10, its, k, rv, e10⟩ : ys.length ≤ sizeLine ∧ ∃ (its : List Value) (n : Nat), yh ys its ∧ s10.heap.get? s2.heap.objs.size = some { cls := .type "list", data := .seq its.toArray n } := I10.hok _ _ hD10
        have hl10 : s10.heap.PlainList s2.heap.objs.size its.toArray := ⟨k, e10⟩
        refine wpAny_list_append_plain (hsz := by rw [List.size_toArray, ← rv.length]; exact z10) hl10 fun h11 hl11 sb11 => ?_
        obtain ⟨k', e11⟩ := hl11
        have I11 : Inv Y ([] ++ YM fp s7.heap) σ8 (upd H10 s2.heap.objs.size (.lst (ys ++ [yv]))) { s10 with heap := h11 } := by
          refine I10.write (x := s2.heap.objs.size) (e := s2.heap.objs.size) (t' := s10.toks) (by rw [hD10]; exact True.intro) (.inl rfl) (fun b u hb e => (sb11.2 b hb).trans e) ⟨_, e11⟩ ?_
          refine ⟨by rw [List.length_append]; show ys.length + 1 ≤ sizeLine; exact hlen, its ++ [y], k', rv.append (.cons r10 .nil), ?_⟩
          rw [e11]
          simp
        exact again I11 sub8 w10
  exact codeAny_compStart_list loop (T.self _ 0 _ _ _ st4 loop)
theorem zdX {X : Cx} {elt tg iter : Expr} {ifs : List Expr} {L M : List Str} {scope : Scope} {cl : List (Str × Addr)} {pos : Pos} {wi : TI} {g : TG} {tt : TT} {te : TE}
    (hc : X.calm = true) (S : yM X L M scope cl) (hi : PI X tg iter wi)
    (hgS : ∀ (σ : St) (v : V) (H : Hp) (Q : St → Hp → Prop), g v (List.replicate L.length none ++ σ) H Q → g v (List.replicate L.length none ++ σ) H (fun σ2 H2 => vM (List.replicate L.length none ++ σ) σ2 ∧ Q σ2 H2))
    (hg : ∀ s₀ H₀ ex pn, PG (Xh X L M scope cl s₀ H₀ ex pn) tg g) (ht : ∀ s₀ H₀ ex pn, PIf (Xh X L M scope cl s₀ H₀ ex pn) ifs tt) (he : ∀ s₀ H₀ ex pn, PE (Xh X L M scope cl s₀ H₀ ex pn) elt te)
    (hs : ∀ x, foldedSetIterable iter X.env x = pure x := by intro _; rfl) :
    PE X (.ListComp elt [⟨tg, iter, ifs, 0⟩] scope pos) (tLC wi L.length g tt te) := by
  intro pins s σ H Q I h
  rw [eval_ListComp]
  refine zbg hc S hi hgS hg ht he hs _ pins s σ H Q I h fun D C H' s' I' ⟨m, hn⟩ f q => ⟨m, hn, fun h' sb => ⟨.ref D, _, I'.letGo f sb, rfl, q⟩⟩
theorem zd9 {i : Nat} {x : Str} {px spos : Pos} {X : Cx} {elt tg iter : Expr} {ifs : List Expr} {L M : List Str} {scope : Scope} {cl : List (Str × Addr)} {pos : Pos} {wi : TI} {g : TG} {tt : TT} {te : TE}
    (hN : X.N.Nodup) (hi' : X.N[i]? = some x) (hx : Loc X.env.scope x) (hc : X.calm = true) (S : yM X L M scope cl) (hi : PI X tg iter wi)
    (hgS : ∀ (σ : St) (v : V) (H : Hp) (Q : St → Hp → Prop), g v (List.replicate L.length none ++ σ) H Q → g v (List.replicate L.length none ++ σ) H (fun σ2 H2 => vM (List.replicate L.length none ++ σ) σ2 ∧ Q σ2 H2))
    (hg : ∀ s₀ H₀ ex pn, PG (Xh X L M scope cl s₀ H₀ ex pn) tg g) (ht : ∀ s₀ H₀ ex pn, PIf (Xh X L M scope cl s₀ H₀ ex pn) ifs tt) (he : ∀ s₀ H₀ ex pn, PE (Xh X L M scope cl s₀ H₀ ex pn) elt te)
    (hs : ∀ x, foldedSetIterable iter X.env x = pure x := by intro _; rfl)
    (hsw : swapsWith (.ListComp elt [⟨tg, iter, ifs, 0⟩] scope pos) (some (.Name x px)) spos.line X.env = pure true := by rfl)
    (hf : X.fn x = true ∨ X.env.scope.names.lookup x = some .local := by first | exact .inl rfl | exact .inr rfl | assumption) :
    PS X (.Assign [.Name x px] (.ListComp elt [⟨tg, iter, ifs, 0⟩] scope pos) spos) (zgP (tLC wi L.length g tt te) (vP i)) := by
  intro pins s σ H D I h
  rw [exec_Assign_Name_used _ _ _ _ hsw]
  refine wpAny_bind (wpAny_standAt (wpAny_bind ?_))
  show wpAny _ X.A (do let _ ← comprehension (.ListComp elt [⟨tg, iter, ifs, 0⟩] scope pos) scope X.env _ (newList []) false (eval iter X.env) (some (assign (.Name x px) X.env))) _ _ s
  refine wpAny_bind (thn (zbg (use := some (assign (.Name x px) X.env)) (Qf := fun _ s' => SP X pins D .next s') hc S hi hgS hg ht he hs _ pins s σ H _ I h fun D' C H' s' I' ⟨m, hn⟩ f q => ?_) fun _ s' hq => wpAny_pure (wpAny_pure hq))
  have hob : ∀ b ∈ [C], ∃ o, s'.heap.get? b = some o ∧ ∀ v, o.data ≠ .cell v := fun b hb => by
    rw [List.mem_singleton.mp hb]
    obtain ⟨o, es, ep, e, d, _⟩ := hn
    exact ⟨o, e, fun v z => by rw [z] at d; cases d⟩
  have I2 := I'.pinned (fp := [C]) (fun b hb => by rw [List.mem_singleton.mp hb]; exact f) hob
  refine thn (zt (pos := px) hN hi' hx hf _ s' σ H' (.ref D') (.ref D') _ I2 rfl q) fun _ s2 hh9 => ?_
  obtain ⟨σ2, H2, I3, q3⟩ := hh9
  obtain ⟨o, es, ep, e, d⟩ := hn
  have pn := I3.pin (C, o) (List.mem_append_right _ (List.mem_append_right _ (xf (List.mem_singleton.mpr rfl) e)))
  exact ⟨m, ⟨o, es, ep, pn.1, d⟩, fun h' sb => ⟨σ2, H2, I3.unpinned.letGo ⟨pn.2.1, f.2⟩ sb, q3⟩⟩
noncomputable def Z1 (names rn dn : List (Str × NameKind)) (N M cn : List Str) : Bool :=
  names.all (fun y => decide (y.2 ≠ .cell)) && names.all (fun y => decide (y.2 = .local → names.lookup y.1 = some .local)) &&
  rn.all (fun y => decide ((y.2 = .cell ∨ y.2 = .free) → y.1 ∈ cn)) &&
  (M.length == N.length) && (M.zip N).all (fun p => decide ((rn.lookup p.1 = some .local ∨ rn.lookup p.1 = some .cell ∨ rn.lookup p.1 = some .free) → p.1 = p.2)) &&
  M.all (fun y => decide ((rn.lookup y = some .local ∨ rn.lookup y = some .cell ∨ rn.lookup y = some .free) →
    (rn.lookup y = some .cell ∨ rn.lookup y = some .free) ∧ (dn.lookup y = some .local ∨ dn.lookup y = some .cell ∨ dn.lookup y = some .free) ∧ dn.lookup y ≠ some .local))
theorem wf {X : Cx} {L N M cn : List Str} {scope : Scope} {cl : List (Str × Addr)} {rn dn : List (Str × NameKind)} (hr : (relabel scope X.env).names = rn) (hd : X.env.scope.names = dn) (hN : X.N = N)
    (clos : closureFor scope X.env = pure cl) (kind : scope.kind = .function) (hc : cl.map Prod.fst = cn) (good : Z1 scope.names rn dn N M cn = true) (sub : ∀ p ∈ cl, X.env.cells.lookup p.1 = some p.2) : yM X L M scope cl := by
  unfold Z1 at good
  simp only [Bool.and_eq_true, List.all_eq_true, decide_eq_true_eq] at good
  obtain ⟨⟨⟨⟨⟨g1, g2⟩, g3⟩, g5⟩, g6⟩, g4⟩ := good
  have g5 : M.length = N.length := by simpa using g5
  refine ⟨clos, g1, kind, g2, fun y c h => sub (y, c) (PySem.mem_of_lookup h), fun y h => ?_, by rw [hN]; exact g5, fun i y e v => ?_, fun i y e v => ?_, fun i y e v => ?_⟩
  · rw [hr] at h
    have hy : y ∈ cn := by
      rcases h with h | h
      · exact g3 _ (PySem.mem_of_lookup h) (.inl rfl)
      · exact g3 _ (PySem.mem_of_lookup h) (.inr rfl)
    exact wo (by rw [hc]; exact hy)
  · unfold Vis at v
    rw [hr] at v
    have hi := (List.getElem?_eq_some_iff.mp e).1
    have hj : i < N.length := by rw [← g5]; exact hi
    have hz : (M.zip N)[i]? = some (y, N[i]) := by
      rw [List.getElem?_zip_eq_some]
      exact ⟨e, List.getElem?_eq_getElem hj⟩
    have := g6 _ (List.mem_of_getElem? hz) v
    rw [hN, List.getElem?_eq_getElem hj]
    exact congrArg some this.symm
  · unfold Vis at v
    rw [hr] at v ⊢
    exact (g4 y (List.mem_of_getElem? e) v).1
  · unfold Vis at v
    rw [hr] at v
    obtain ⟨_, k1, k2⟩ := g4 y (List.mem_of_getElem? e) v
    refine ⟨?_, ?_⟩
    · unfold Vis; rw [hd]; exact k1
    · show X.env.scope.names.lookup y ≠ _; rw [hd]; exact k2
end L2
namespace PySem
open Sem (wp)
open AutoSeq1 (wpAny_loadPart')
section
variable {prog : Program} {w : World} {A : Around} {E : Value → Shared → Prop} {s : Shared}
theorem vp {it l : Addr} {i : Nat} {items} {x : Value} {Q : Value → Shared → Prop} (hit : s.heap.IsTupleIter it l i)
    (hl : s.heap.IsTuple l items) (hx : items[i]? = some x)
    (hQ : ∀ h', h'.IsTupleIter it l (i + 1) → Heap.SameBut it s.heap h' → Q x { s with heap := h' }) :
    wpAny (model prog w) A (Builtin.SmallTypes.nextOf (.ref it)) Q E s := by
  obtain ⟨o, ho, hc, hd⟩ := id hit
  obtain ⟨ol, hol, _, nl, hdl⟩ := hl
  unfold Builtin.SmallTypes.nextOf
  refine wpAny_bind (wpAny_callSpecial?_slot (name := Str.ofString "__next__") hit.typeIs F.slot_tuple_iterator_next
    (wpAny_call_entry F.slot_tuple_iterator_next hit.typeIs F.entry_tuple_iterator_next ?_ (F.args_tuple_iterator_next_1 _)))
  show wpAny _ _ (field (.ref it) 0 >>= _) _ _ s
  refine wpAny_bind (wpAny_field ho hd (x := .ref l) rfl ?_)
  show wpAny _ _ (if (Value.ref l == Value.none) = true then _ else _) _ _ s
  rw [if_neg (show ¬ ((Value.ref l == Value.none) = true) from Bool.false_ne_true)]
  show wpAny _ _ (field (.ref it) 1 >>= _) _ _ s
  refine wpAny_bind (wpAny_field ho hd (x := .int i 0) rfl ?_)
  show wpAny _ _ (seqItems? (.ref l) >>= _) _ _ s
  refine wpAny_bind (wpAny_seqItems hol hdl ?_)
  simp only [Int.toNat_natCast, hx]
  refine wpAny_bind (wpAny_setField ho hd (by simp) (wpAny_pure ⟨x, rfl, wpAny_pure (hQ _ ?_ (Heap.SameBut.update ..))⟩))
  exact ⟨_, Heap.get?_update_self _ ho (Obj.isFreed_of_fields (Obj.data_mapFields hd _)), (Obj.cls_mapFields ..).trans hc, by
    rw [Obj.data_mapFields hd]; simp [rawInt]⟩
theorem xK {it l : Addr} {i : Nat} {items} {Q : Value → Shared → Prop} (hh : A.handled = none)
    (hit : s.heap.IsTupleIter it l i) (hl : s.heap.IsTuple l items) (hx : items[i]? = none)
    (hE : ∀ h' e, Heap.ExtBut it s.heap h' → (∃ o, h'.get? e = some o ∧ o.cls = .type "StopIteration") → E (.ref e) { s with heap := h' }) :
    wpAny (model prog w) A (Builtin.SmallTypes.nextOf (.ref it)) Q E s := by
  obtain ⟨o, ho, hc, hd⟩ := id hit
  obtain ⟨ol, hol, _, nl, hdl⟩ := hl
  unfold Builtin.SmallTypes.nextOf
  refine wpAny_bind (wpAny_callSpecial?_slot (name := Str.ofString "__next__") hit.typeIs F.slot_tuple_iterator_next
    (wpAny_call_entry F.slot_tuple_iterator_next hit.typeIs F.entry_tuple_iterator_next ?_ (F.args_tuple_iterator_next_1 _)))
  show wpAny _ _ (field (.ref it) 0 >>= _) _ _ s
  refine wpAny_bind (wpAny_field ho hd (x := .ref l) rfl ?_)
  show wpAny _ _ (if (Value.ref l == Value.none) = true then _ else _) _ _ s
  rw [if_neg (show ¬ ((Value.ref l == Value.none) = true) from Bool.false_ne_true)]
  show wpAny _ _ (field (.ref it) 1 >>= _) _ _ s
  refine wpAny_bind (wpAny_field ho hd (x := .int i 0) rfl ?_)
  show wpAny _ _ (seqItems? (.ref l) >>= _) _ _ s
  refine wpAny_bind (wpAny_seqItems hol hdl ?_)
  simp only [Int.toNat_natCast, hx]
  refine wpAny_bind (wpAny_rule (wpAny_bind (wpAny_setField ho hd (by simp) ?_)))
  show wpAny _ _ (newExc (.type "StopIteration") [] >>= _) _ _ _
  refine wpAny_bind ?_
  simp only [newExc, newTuple]
  refine wpAny_bind (wpAny_newObj_type ?_ (by size_fits))
  refine wpAny_bind (m := firstArgMember _ _) (wpAny_of_eq (a := Value.none) (by first | rfl | (simp only [firstArgMember]; rfl)) ?_)
  refine wpAny_newObj_type ?_ (by size_fits)
  simp only [raiseNew]
  refine wpAny_bind (wpAny_handled ?_)
  first | rw [show A.in1.handled = none from hh] | rw [hh]
  refine wpAny_bind (wpAny_pure (wpAny_throw ?_))
  exact hE _ _ (((Heap.SameBut.update ..).extBut.push _).push _) ⟨_, Heap.get?_push_size _ rfl, rfl⟩
end
theorem vH {prog : Program} {w : World} {A : Around} {E : Value → Shared → Prop} {s : Shared} {e it l : Addr} {i : Nat} {items : Array Value} {old : Value} {Q : Option Value → Shared → Prop} (hh : A.handled = none)
    (he : IsEnum s.heap e it i old) (hit : s.heap.IsTupleIter it l i) (hl : s.heap.IsTuple l items) (hx : items[i]? = none)
    (hQ : ∀ h', Heap.ExtBut it s.heap h' → Q none { s with heap := h' }) : wpAny (model prog w) A (pyNext (.ref e)) Q E s := by
  have hT : s.TypeIs (.ref e) "enumerate" := ⟨_, he, rfl⟩
  unfold pyNext
  refine wpAny_bind (wpAny_attempt (wpAny_callSpecial?_slot (name := Str.ofString "__next__") hT F.slot_enumerate_next
    (wpAny_call_entry F.slot_enumerate_next hT F.entry_enumerate_next ?_ (F.args_enumerate_next_1 _))))
  show wpAny _ _ (field (.ref e) 2 >>= _) _ _ _
  refine wpAny_bind (wpAny_field he rfl (x := .ref it) rfl ?_)
  refine wpAny_bind (xK hh hit hl hx fun h' x he' hx' => ?_)
  obtain ⟨o, ho, hc⟩ := hx'
  refine wpAny_bind (wpAny_isInstance (T := "StopIteration") (b := true) ⟨o, ho, hc⟩ isSubtype_stop ?_)
  exact wpAny_pure (hQ _ he')
theorem vt {prog : Program} {w : World} {A : Around} (hh : A.handled = none) (it l : Addr) (hne : l ≠ it) (items : Array Value) :
    Draws prog w A it [it, l] items.size (fun i v => items[i]? = some v) (fun i h => h.IsTupleIter it l i ∧ h.IsTuple l items) where
  live := fun _ _ st => let ⟨o, ho, _⟩ := st.1; ⟨o, ho⟩
  frame := fun _ _ _ st hk => by
    obtain ⟨⟨o, ho, r⟩, ⟨o2, ho2, r2⟩⟩ := st
    exact ⟨⟨o, hk it (by simp) o ho, r⟩, ⟨o2, hk l (by simp) o2 ho2, r2⟩⟩
  item := fun i s Q E hi st hQ => by
    refine vp st.1 st.2 (x := items[i]) (by simp [hi]) fun h' hit' hs' => ?_
    exact hQ _ h' s.toks (by simp [hi]) ⟨hit', st.2.extBut hs'.extBut hne⟩ hs'
  done := fun s Q E st hE => xK hh st.1 st.2 (by simp) hE
theorem Yf (l : Addr) (items : Array Value) (n : Nat) (dd : Option Addr) (sl : Array (Option Value)) :
    Meets (Builtin.«enumerate.__new__» ⟨[.type "enumerate", .ref l], []⟩) (fun _ R s => s.heap.get? l = some { cls := .type "tuple", dict := dd, data := .seq items n, slots := sl } ∧
      R (.ok (.ret (.ref (s.heap.push { cls := .type "tuple_iterator", data := .fields #[.ref l, .int 0 0] }).objs.size)))
        { s with heap := (s.heap.push { cls := .type "tuple_iterator", data := .fields #[.ref l, .int 0 0] }).push { cls := .type "enumerate", data := .fields #[.none, .bool false, .ref s.heap.objs.size, rawInt 0, .none, .none] } }) :=
  .of_wp fun prog w A R s h => by
    obtain ⟨hp, g, d, tk, os⟩ := s; obtain ⟨hl, h⟩ := h
    have hsub := sub_enumerate
    have hL : Heap.IsTuple (Shared.heap ⟨hp, g, d, tk, os⟩) l items := ⟨_, hl, rfl, n, rfl⟩
    wp_walk using wpAny_loadPart' hl
    refine wpAny_stack_any fun st => wpAny_pure ?_
    split
    · rename_i c _ _ _ _ _
      cases (c == Value.type "enumerate")
      · wp_walk using wpAny_loadPart' hl, wpAny_pyIter_tuple hL
        exact ⟨_, rfl, h⟩
      · wp_walk using wpAny_loadPart' hl, wpAny_pyIter_tuple hL
        exact ⟨_, rfl, h⟩
    · wp_walk using wpAny_loadPart' hl, wpAny_pyIter_tuple hL
      exact ⟨_, rfl, h⟩
section
variable {prog : Program} {w : World} {A : Around} {E : Value → Shared → Prop} {s : Shared}
theorem vJ {l : Addr} {items : Array Value} {Q : Value → Shared → Prop}
    (hl : s.heap.IsTuple l items)
    (h : ∀ h', IsEnum h' (s.heap.objs.size + 1) s.heap.objs.size 0 .none → h'.IsTupleIter s.heap.objs.size l 0 → h'.objs.size = s.heap.objs.size + 2 →
      (∀ b o, s.heap.get? b = some o → h'.get? b = some o) → Q (.ref (s.heap.objs.size + 1)) { s with heap := h' }) :
    wpAny (model prog w) A (call (.type "enumerate") [.ref l]) Q E s := by
  obtain ⟨⟨cls, dd, data, sl⟩, ho, hc, n, hd⟩ := hl
  simp only at hc hd
  subst hc hd
  refine callType_new F.called_enumerate (by decide) (F.typeCall_enumerate_1 _) (F.newCall_enumerate_1 _) (fun obj => F.args_object_init_2 obj _) F.entry_enumerate_new
    (Yf l items n dd sl) ⟨ho, ?_⟩
  have hz : (s.heap.push { cls := .type "tuple_iterator", data := .fields #[.ref l, .int 0 0] }).objs.size = s.heap.objs.size + 1 := Heap.size_push ..
  show _ ∧ _
  rw [hz]
  have he : IsEnum ((s.heap.push { cls := .type "tuple_iterator", data := .fields #[.ref l, .int 0 0] }).push
      { cls := .type "enumerate", data := .fields #[.none, .bool false, .ref s.heap.objs.size, rawInt 0, .none, .none] }) (s.heap.objs.size + 1) s.heap.objs.size 0 .none := by
    have := Heap.get?_push_size (s.heap.push { cls := .type "tuple_iterator", data := .fields #[.ref l, .int 0 0] })
      (o := { cls := .type "enumerate", data := .fields #[.none, .bool false, .ref s.heap.objs.size, rawInt 0, .none, .none] }) rfl
    rw [hz] at this; exact this
  refine ⟨⟨_, he, rfl⟩, h _ he ⟨_, Heap.get?_push_of_some _ (Heap.get?_push_size _ rfl), rfl, rfl⟩ (by rw [Heap.size_push, hz]) fun b o x => Heap.get?_push_of_some _ (Heap.get?_push_of_some _ x)⟩
end
end PySem
namespace L2
open PySem PySem.Spec PyProof.Rows
section
variable {X : Cx} {pins : List (Addr × Obj)} {σ : St} {H : Hp} {s : Shared} {h' : Heap}
theorem Inv.grown {ch : List Addr} {T : Addr} {o : HO} {t' : Nat} (I : Inv X pins σ H s) (hch : ∀ b ∈ ch, WO X pins H b) (hT : s.heap.objs.size ≤ T) (k : ∀ b u, b ∉ ch → s.heap.get? b = some u → h'.get? b = some u)
    (new : xO X.prog X.w (upd H T o) h' T o) : Inv X pins σ (upd H T o) { s with heap := h', toks := t' } := by
  have hn : H T = none := I.hok.fresh hT
  have neT : ∀ b u, s.heap.get? b = some u → b ≠ T := fun b u e => Nat.ne_of_lt (Nat.lt_of_lt_of_le (Heap.lt_size e) hT)
  have nch : ∀ b u, H b = some u → b ∉ ch := fun b u e z => by rw [(hch b z).1] at e; cases e
  refine I.step (g' := s.gens) (d' := s.drawn) (ch := ch) (fun b hb => ?_) (fun b u _ _ hc e _ => k b u hc e) (fun b u _ _ hc e _ => ⟨u.slots, k b u hc e⟩) (fun b u _ e n => by rw [zr (neT b u e)]; exact n)
    (fun b u hc e => ⟨u, k b u hc e⟩) (fun b xs e => by rw [zr (zn e hn)]; exact e) (fun b u xs e => by rw [zr (zn e hn)]; exact e) (fun b ps e => ⟨#[], by rw [zr (zn e hn), e]; simp⟩) (fun m hm => ?_) (fun b u e => ?_) I.bare
  · obtain ⟨_, n1, _, n3, n4, n5⟩ := hch b hb
    exact ⟨n3, n1, n4, n5⟩
  · obtain ⟨ob, es, ep, ho, r⟩ := hm
    exact ⟨ob, es, ep, k _ ob (fun z => (hch _ z).2.1 rfl) ho, r⟩
  · by_cases hb : b = T
    · subst hb; rw [zp] at e; cases e; exact new
    · rw [zr hb] at e
      refine (I.hok b u e).stay (fun c v hc q => k c v ?_ q) (fun c q => by rw [zr (zn q hn)]; exact q) fun c xs q => by rw [zr (zn q hn)]; exact q
      rcases hc with z | z
      · rw [z]; exact nch b u e
      · exact nch c _ z
theorem Inv.turnedN {ch : List Addr} {t' : Nat} (I : Inv X pins σ H s) (hch : ∀ b ∈ ch, WO X pins H b) (k : ∀ b u, b ∉ ch → s.heap.get? b = some u → h'.get? b = some u) : Inv X pins σ H { s with heap := h', toks := t' } := by
  have nch : ∀ b u, H b = some u → b ∉ ch := fun b u e z => by rw [(hch b z).1] at e; cases e
  refine I.step (g' := s.gens) (d' := s.drawn) (ch := ch) (fun b hb => ?_) (fun b u _ _ hc e _ => k b u hc e) (fun b u _ _ hc e _ => ⟨u.slots, k b u hc e⟩) (fun b u _ e n => n)
    (fun b u hc e => ⟨u, k b u hc e⟩) (fun b xs e => e) (fun b u xs e => e) (fun b ps e => ⟨#[], by rw [e]; simp⟩) (fun m hm => ?_) (fun b u e => ?_) I.bare
  · obtain ⟨_, n1, _, n3, n4, n5⟩ := hch b hb
    exact ⟨n3, n1, n4, n5⟩
  · obtain ⟨ob, es, ep, ho, r⟩ := hm
    exact ⟨ob, es, ep, k _ ob (fun z => (hch _ z).2.1 rfl) ho, r⟩
  · refine (I.hok b u e).stay (fun c v hc q => k c v ?_ q) (fun c q => q) fun c xs q => q
    rcases hc with z | z
    · rw [z]; exact nch b u e
    · exact nch c _ z
end
noncomputable def Iel (K : PySem.W.Frag) (a : Addr) : It :=
  ⟨fun i H => ∃ xs x, SqL K H a xs ∧ xs[i]? = some x, fun i H v H' => ∃ T x, v = .ref T ∧ H T = none ∧ H' = upd H T (.tup [.int i, x]) ∧ ∀ xs, SqL K H a xs → xs[i]? = some x, fun i H => ∃ xs, SqL K H a xs ∧ xs.length ≤ i⟩
noncomputable def Iet (K : PySem.W.Frag) (a : Addr) : It :=
  ⟨fun i H => ∃ xs x, SqT K H a xs ∧ xs[i]? = some x, fun i H v H' => ∃ T x, v = .ref T ∧ H T = none ∧ H' = upd H T (.tup [.int i, x]) ∧ ∀ xs, SqT K H a xs → xs[i]? = some x, fun i H => ∃ xs, SqT K H a xs ∧ xs.length ≤ i⟩
theorem zaz {P : Program} {w : World} {K : PySem.W.Frag} {es : List Expr} {k : Nat} {tp : Pos} (a e it : Addr) (hne : e ≠ it) :
    zeI P w K (.Tuple es k tp) (Iel K a) [e, it] e (fun i h => (∃ old, IsEnum h e it i old) ∧ h.IsListIter it a i) where
  mem := by simp
  obj := fun i h st b hb => by
    obtain ⟨⟨old, he⟩, o, ho, _, hd⟩ := st
    rcases List.mem_cons.mp hb with rfl | hb
    · exact ⟨_, he, fun v z => by cases z⟩
    · rw [List.mem_singleton.mp hb]
      exact ⟨o, ho, fun v z => by rw [hd] at z; cases z⟩
  keep := fun i h h' st kk => by
    obtain ⟨⟨old, he⟩, hit⟩ := st
    exact ⟨⟨old, kk e (by simp) _ he⟩, hit.at fun o q => kk it (by simp) o q⟩
  item := by
    intro X hP hw hK hc i pins s σ H E I hf st hg
    subst hP hw hK
    obtain ⟨⟨old, he⟩, hit⟩ := st
    obtain ⟨xs, x, hq, hx⟩ := hg
    obtain ⟨its, rv, p, hz⟩ := I.list hq
    obtain ⟨u, hu, ru⟩ := rv.get hx
    refine wpAny_pyNext_enum_item he hit p.isList (x := u) (by simpa using hu) hne fun h1 ho1 hit1 hT1 hz1 hk1 => ?_
    refine ⟨_, rfl, wpAny_letOwnedTupleGo_enum ho1 fun h2 he2 hs2 => ?_⟩
    have hfr : H s.heap.objs.size = none := I.hok.fresh (Nat.le_refl _)
    have neE : s.heap.objs.size ≠ e := Nat.ne_of_gt (Heap.lt_size he)
    have hT2 : h2.get? s.heap.objs.size = some { cls := .type "tuple", data := .seq #[.int i s.toks, u] } := (hs2.2 _ neE).trans hT1
    refine ⟨.ref s.heap.objs.size, upd H s.heap.objs.size (.tup [.int i, x]), ?_, rfl, ⟨_, x, rfl, hfr, rfl, fun ys hy => by rw [I.list_inj hy hq]; exact hx⟩, ⟨⟨_, by simpa using he2⟩, hit1.at fun o q => (hs2.2 it (Ne.symm hne)).trans q⟩, fun b hb => ?_⟩
    · refine I.grown (ch := [e, it]) hf (Nat.le_refl _) (fun b v hb q => ?_) ?_
      · have n1 : b ≠ e := fun z => hb (by simp [z])
        have n2 : b ≠ it := fun z => hb (by simp [z])
        exact (hs2.2 b n1).trans (hk1 b v n1 n2 q)
      · exact ⟨by show 2 ≤ sizeLine; decide, [.int i s.toks, u], .cons ⟨_, rfl⟩ (.cons ru .nil), ⟨_, hT2, rfl, 0, rfl⟩⟩
    · obtain ⟨o, hb2, _⟩ : ∃ o, s.heap.get? b = some o ∧ True := by
        rcases List.mem_cons.mp hb with rfl | hb
        · exact ⟨_, he, trivial⟩
        · rw [List.mem_singleton.mp hb]
          obtain ⟨o, ho, _⟩ := hit
          exact ⟨o, ho, trivial⟩
      rw [zr (Nat.ne_of_lt (Heap.lt_size hb2))]
      exact (hf b hb).1
  done := by
    intro X hP hw hK hc i pins s σ H E I hf st hg
    subst hP hw hK
    obtain ⟨⟨old, he⟩, hit⟩ := st
    obtain ⟨xs, hq, hx⟩ := hg
    obtain ⟨its, rv, p, hz⟩ := I.list hq
    have hl := rv.length
    exact wpAny_pyNext_enum_end (I.ok.hd hc) he hit p.isList (by simp; omega) fun h1 hx1 => ⟨rfl, I.turnedN (ch := [e, it]) (t' := s.toks) hf fun b v hb q => hx1 b v (fun z => hb (by simp [z])) q⟩
  self := fun _ _ _ _ _ st h => wpAny_pyIter_enum st.1.choose_spec h
theorem zam {P : Program} {w : World} {K : PySem.W.Frag} {es : List Expr} {k : Nat} {tp : Pos} (a e it : Addr) (hne : e ≠ it) (hai : a ≠ it) (hae : a ≠ e) :
    zeI P w K (.Tuple es k tp) (Iet K a) [e, it] e (fun i h => (∃ old, IsEnum h e it i old) ∧ h.IsTupleIter it a i) where
  mem := by simp
  obj := fun i h st b hb => by
    obtain ⟨⟨old, he⟩, o, ho, _, hd⟩ := st
    rcases List.mem_cons.mp hb with rfl | hb
    · exact ⟨_, he, fun v z => by cases z⟩
    · rw [List.mem_singleton.mp hb]
      exact ⟨o, ho, fun v z => by rw [hd] at z; cases z⟩
  keep := fun i h h' st kk => by
    obtain ⟨⟨old, he⟩, o, ho, r⟩ := st
    exact ⟨⟨old, kk e (by simp) _ he⟩, o, kk it (by simp) o ho, r⟩
  item := by
    intro X hP hw hK hc i pins s σ H E I hf st hg
    subst hP hw hK
    obtain ⟨⟨old, he⟩, hit⟩ := st
    obtain ⟨xs, x, hq, hx⟩ := hg
    obtain ⟨its, rv, p, hz⟩ := I.tuple hq
    obtain ⟨u, hu, ru⟩ := rv.get hx
    have p' : s.heap.IsTuple a its.toArray := p
    have D := vt (prog := X.prog) (w := X.w) (A := X.A.in1) (I.ok.hd hc) it a hai its.toArray
    have hlt : i < its.toArray.size := by
      obtain ⟨h1, _⟩ := List.getElem?_eq_some_iff.mp hu
      simpa using h1
    refine wpAny_pyNext_enum_itemD D he ⟨hit, p'⟩ hlt hne (by simp [hne, Ne.symm hae]) fun u' h1 tk hP1 ho1 hit1 hT1 hz1 hk1 => ?_
    have eu : u' = u := by
      have : its[i]? = some u' := by simpa using hP1
      rw [hu] at this
      exact (Option.some.inj this).symm
    subst eu
    refine ⟨_, rfl, wpAny_letOwnedTupleGo_enum ho1 fun h2 he2 hs2 => ?_⟩
    have hfr : H s.heap.objs.size = none := I.hok.fresh (Nat.le_refl _)
    have neE : s.heap.objs.size ≠ e := Nat.ne_of_gt (Heap.lt_size he)
    have hT2 : h2.get? s.heap.objs.size = some { cls := .type "tuple", data := .seq #[.int i tk, u'] } := (hs2.2 _ neE).trans hT1
    refine ⟨.ref s.heap.objs.size, upd H s.heap.objs.size (.tup [.int i, x]), ?_, rfl, ⟨_, x, rfl, hfr, rfl, fun ys hy => by rw [I.tuple_inj hy hq]; exact hx⟩, ⟨⟨_, by simpa using he2⟩, ?_⟩, fun b hb => ?_⟩
    · refine I.grown (ch := [e, it]) hf (Nat.le_refl _) (fun b v hb q => ?_) ?_
      · have n1 : b ≠ e := fun z => hb (by simp [z])
        have n2 : b ≠ it := fun z => hb (by simp [z])
        exact (hs2.2 b n1).trans (hk1 b v n1 n2 q)
      · exact ⟨by show 2 ≤ sizeLine; decide, [.int i tk, u'], .cons ⟨_, rfl⟩ (.cons ru .nil), ⟨_, hT2, rfl, 0, rfl⟩⟩
    · obtain ⟨o, ho, r⟩ := hit1.1
      exact ⟨o, (hs2.2 it (Ne.symm hne)).trans ho, r⟩
    · obtain ⟨o, hb2, _⟩ : ∃ o, s.heap.get? b = some o ∧ True := by
        rcases List.mem_cons.mp hb with rfl | hb
        · exact ⟨_, he, trivial⟩
        · rw [List.mem_singleton.mp hb]
          obtain ⟨o, ho, _⟩ := hit
          exact ⟨o, ho, trivial⟩
      rw [zr (Nat.ne_of_lt (Heap.lt_size hb2))]
      exact (hf b hb).1
  done := by
    intro X hP hw hK hc i pins s σ H E I hf st hg
    subst hP hw hK
    obtain ⟨⟨old, he⟩, hit⟩ := st
    obtain ⟨xs, hq, hx⟩ := hg
    obtain ⟨its, rv, p, hz⟩ := I.tuple hq
    have hl := rv.length
    have p' : s.heap.IsTuple a its.toArray := p
    exact vH (I.ok.hd hc) he hit p' (by simp; omega) fun h1 hx1 => ⟨rfl, I.turnedN (ch := [e, it]) (t' := s.toks) hf fun b v hb q => hx1 b v (fun z => hb (by simp [z])) q⟩
  self := fun _ _ _ _ _ st h => wpAny_pyIter_enum st.1.choose_spec h
noncomputable def zg0 (K : PySem.W.Frag) (ta : TA) : TI := fun σ H R => ta σ H fun vs H1 => ∃ a, vs = [.ref a] ∧ ((∃ xs, H1 a = some (.lst xs) ∧ R (Iel K a) H1) ∨ (∃ xs, SqT K H1 a xs ∧ R (Iet K a) H1))
theorem zen {X : Cx} {es : List Expr} {k : Nat} {tp : Pos} {a : Expr} {ta : TA} {p pos : Pos} (hg : Gl X "enumerate") (hm : X.mg "enumerate" = none) (hb : bootBuiltins "enumerate" = some (.type "enumerate")) (ha : PA X [a] ta)
    (hs : starEach [a] X.env = [(false, eval a X.env)] := by rfl) : PI X (.Tuple es k tp) (.Call (.Name "enumerate" p) [a] [] pos) (zg0 X.K ta) := by
  intro pins s σ H R I h
  refine Call_ (w8 I hg hm hb (PyProof.Rows.callWith_type1 (thn (ha pos pins s σ H _ I h) fun us s1 hh9 => ?_) hs rfl))
  obtain ⟨vs, H1, I1, r1, q1⟩ := hh9
  obtain ⟨l, e, q⟩ := q1
  subst e
  obtain ⟨u, rfl, ru⟩ := zaA r1
  cases ru
  have hn : ∀ b, s1.heap.objs.size ≤ b → WO X pins H1 b := fun b hb => I1.fpOk hb (I1.hok.fresh hb)
  have hne : s1.heap.objs.size + 1 ≠ s1.heap.objs.size := by omega
  have hfp : ∀ b ∈ [s1.heap.objs.size + 1, s1.heap.objs.size], WO X pins H1 b := fun b hb => by
    rcases List.mem_cons.mp hb with rfl | hb
    · exact hn _ (Nat.le_succ _)
    · rw [List.mem_singleton.mp hb]; exact hn _ (Nat.le_refl _)
  rcases q with ⟨xs, hx, q⟩ | ⟨xs, hx, q⟩
  · obtain ⟨_, its, n, _, e⟩ : xs.length ≤ sizeLine ∧ ∃ (its : List Value) (n : Nat), yh xs its ∧ s1.heap.get? l = some { cls := .type "list", data := .seq its.toArray n } := I1.hok _ _ hx
    refine call_enumerate_1 e fun h2 he hit hz hk => wpAny_pyIter_enum he ?_
    exact ⟨_, _, _, _, H1, rfl, I1.kept (t' := s1.toks) hk, zaz l _ _ hne, ⟨⟨_, he⟩, hit⟩, hfp, q⟩
  · obtain ⟨its, _, p1, _⟩ := I1.tuple hx
    have lt : l < s1.heap.objs.size := by
      obtain ⟨o, ho, _⟩ := p1
      exact Heap.lt_size ho
    refine vJ (show s1.heap.IsTuple l its.toArray from p1) fun h2 he hit hz hk => wpAny_pyIter_enum he ?_
    exact ⟨_, _, _, _, H1, rfl, I1.kept (t' := s1.toks) hk, zam l _ _ hne (Nat.ne_of_lt lt) (Nat.ne_of_lt (Nat.lt_succ_of_lt lt)), ⟨⟨_, he⟩, hit⟩, hfp, q⟩
end L2
namespace HT
open PySem PyProof.Rows
noncomputable def lexLe : List Int → List Int → Bool
  | [], _ => true
  | _ :: _, [] => false
  | x :: xs, y :: ys => if x = y then lexLe xs ys else decide (x ≤ y)
theorem zao (x y : Int) (xs ys : List Int) : lexLe (x :: xs) (y :: ys) = if x = y then lexLe xs ys else decide (x ≤ y) := rfl
theorem zcU (A : Around) (s : Shared) (a : Int) (t : Tok) (c : Int) (u : Tok) (prog : Program) (w : World) (E : Value → Shared → Prop) (Q : Value → Shared → Prop) (h : Q (.bool (decide (a ≤ c))) s) :
    wpAny (model prog w) A (richCompare .LtE (.int a t) (.int c u)) Q E s :=
  (PyProof.Rows.le_int h : wpAny (model prog w) A (compareOp .LtE (.int a t) (.int c u)) Q E s)
section
open PySem.SeqAt
open PySem.AutoSeq1 (wpAny_loadPart')
open PySem.MeetsSeq PySem.MeetsSeq2 PySem.MeetsSeq3
theorem XA (l b : Addr) (items items2 : Array Value) (n n2 : Nat) (dd dd2 : Option Addr) (sl sl2 : Array (Option Value)) (ns ms : List Int) (hi : IntsAre items.toList ns) (hj : IntsAre items2.toList ms) :
    Meets (Builtin.«tuple.__le__» ⟨[.ref l, .ref b], []⟩)
      (fun _ R s => s.heap.get? l = some { cls := .type "tuple", dict := dd, data := .seq items n, slots := sl } ∧ s.heap.get? b = some { cls := .type "tuple", dict := dd2, data := .seq items2 n2, slots := sl2 } ∧
        R (.ok (.ret (.bool (lexLe ns ms)))) s) :=
  .of_wp fun prog w A R s h => by
    obtain ⟨hp, g, d, tk, os⟩ := s; obtain ⟨hl, hb, h⟩ := h
    have f2 := AutoSeq1.sub_tuple_tuple
    have z1 : items.size = ns.length := by rw [← hi.length]; simp
    have z2 : items2.size = ms.length := by rw [← hj.length]; simp
    wp_walk using wpAny_loadPart' hl, wpAny_loadPart' hb, wpAny_forIn_list _ (fun rest b s' => b.1 = none ∧ s' = ⟨hp, g, d, tk, os⟩ ∧ ∃ (vs ws : List Value) (ns' ms' : List Int), rest = vs.zip ws ∧
      IntsAre vs ns' ∧ IntsAre ws ms' ∧ ns'.length + items2.size = ms'.length + items.size ∧ R (.ok (.ret (.bool (lexLe ns' ms')))) ⟨hp, g, d, tk, os⟩) _
    case turn =>
      rintro ⟨y, x⟩ rest b s' ⟨hb', rfl, vs, ws, ns', ms', hz, hvi, hwi, hlen, hR⟩
      cases hvi with
      | nil => rw [List.zip_nil_left] at hz; cases hz
      | cons a t hvi' =>
        cases hwi with
        | nil => rw [List.zip_nil_right] at hz; cases hz
        | cons c u hwi' =>
          rw [List.zip_cons_cons] at hz
          injection hz with hyx hrest
          injection hyx with hy hx
          subst hy hx
          rw [zao] at hR
          simp only [List.length_cons] at hlen
          obtain ⟨e, he, hiff⟩ := zcO A.in1 ⟨hp, g, d, tk, os⟩ a t c u
          refine wpAny_bind (he prog w _ _ ?_)
          cases e with
          | true =>
            rw [if_pos (hiff.mp rfl)] at hR
            wp_walk
            exact ⟨rfl, rfl, _, _, _, _, hrest, hvi', hwi', by omega, hR⟩
          | false =>
            rw [if_neg (fun q => absurd (hiff.mpr q) Bool.false_ne_true)] at hR
            have hri := zcU A.in1 ⟨hp, g, d, tk, os⟩ a t c u prog w
            wp_walk using hri
            exact ⟨_, rfl, by simpa using hR⟩
    case fin =>
      rintro ⟨b1, b2⟩ s' ⟨hb', rfl, vs, ws, ns', ms', hz, hvi, hwi, hlen, hR⟩
      simp only at hb'
      subst hb'
      have hv : lexLe ns' ms' = decide (items.size ≤ items2.size) := by
        cases hvi with
        | nil =>
          simp only [List.length_nil] at hlen
          show true = _
          exact (decide_eq_true (by omega)).symm
        | cons a t hv =>
          cases hwi with
          | nil =>
            simp only [List.length_nil, List.length_cons] at hlen
            show false = _
            exact (decide_eq_false (by omega)).symm
          | cons c u hw =>
            rw [List.zip_cons_cons] at hz
            cases hz
      rw [hv] at hR
      wp_walk
      exact ⟨_, rfl, by simpa [Builtin.Tuple.tupleCompareSizes] using hR⟩
    case h =>
      exact ⟨rfl, rfl, items.toList, items2.toList, ns, ms, rfl, hi, hj, by omega, h⟩
end
section
variable {prog : Program} {w : World} {A : Around} {E : Value → Shared → Prop} {s : Shared}
theorem le_tupInts {l b : Addr} {items items2 : Array Value} {ns ms : List Int} {Q : Value → Shared → Prop} (hl : IsTup s.heap l items) (hb : IsTup s.heap b items2) (hi : IntsAre items.toList ns) (hj : IntsAre items2.toList ms)
    (hu : A.units < cLine) (h : Q (.bool (lexLe ns ms)) s) : wpAny (model prog w) A (compareOp .LtE (.ref l) (.ref b)) Q E s := by
  obtain ⟨⟨cls, dd, data, sl⟩, ho, hc, n, hd⟩ := id hl
  obtain ⟨⟨cls2, dd2, data2, sl2⟩, ho2, hc2, n2, hd2⟩ := id hb
  simp only at hc hd hc2 hd2
  subst hc hd hc2 hd2
  exact richCompare_meets_room (op := .LtE) ⟨_, ho, rfl⟩ ⟨_, ho2, rfl⟩ PySem.F.slot_tuple_le PySem.F.entry_tuple_le (PySem.F.args_tuple_le_2 _ _) (XA l b items items2 n n2 dd dd2 sl sl2 ns ms hi hj)
    ⟨ho, ho2, show Value.bool (lexLe ns ms) ≠ Value.notImplemented ∧ Q (.bool (lexLe ns ms)) s from ⟨(fun x => nomatch x), h⟩⟩ hu
end
end HT
namespace L2
open PySem PySem.Spec PyProof.Rows
noncomputable def rLeT (K : PySem.W.Frag) : R2 := fun x y H Q => ∃ a b ns ms, x = .ref a ∧ y = .ref b ∧ SqT K H a (ns.map V.int) ∧ SqT K H b (ms.map V.int) ∧ Q (.bl (HT.lexLe ns ms)) H
theorem zd4 {X : Cx} (hu : X.A.units < cLine) : OpR X (compareOp .LtE) (rLeT X.K) := by
  intro pins s σ H x y v u Q I rx ry h
  obtain ⟨a, b, ns, ms, rfl, rfl, ha, hb, q⟩ := h
  cases rx
  cases ry
  obtain ⟨its, r1, p1, _⟩ := I.tuple ha
  obtain ⟨its2, r2, p2, _⟩ := I.tuple hb
  have i1 : IntsAre its.toArray.toList ns := Yo r1
  have i2 : IntsAre its2.toArray.toList ms := Yo r2
  exact HT.le_tupInts p1 p2 i1 i2 hu ⟨.bl (HT.lexLe ns ms), H, I, rfl, q⟩
end L2
namespace HT
open PySem PyProof.Rows
section
variable {prog : Program} {w : World} {A : Around} {E : Value → Shared → Prop} {s : Shared}
theorem own_getItem_whole {t sl : Addr} {items : Array Value} {vl vu : Value} {lo hi : Option Int} {Q : Value → Shared → Prop} (ht : IsTup s.heap t items) (hs : s.heap.IsSliceOf sl vl vu .none) (pl : IsPart vl lo) (pu : IsPart vu hi)
    (hw : sIx items.size 0 lo = 0 ∧ sIx items.size items.size hi = items.size) (h : Q (.ref t) s) : wpAny (model prog w) A (getItem (.ref t) (.ref sl)) Q E s := by
  obtain ⟨os, hos, hcs, hds⟩ := id hs
  have hTs : s.TypeIs (.ref sl) "slice" := ⟨os, hos, hcs⟩
  unfold getItem
  try with_reducible refine wpAny_holding ?_
  first | refine wpAny_bind (wpAny_pure ?_) | skip
  refine wpAny_bind (wpAny_sequenceKey ht.typeIs (by decide) ?_)
  refine wpAny_bind (wpAny_callSpecial?_slot (name := Str.ofString "__getitem__") ht.typeIs PyProof.Rows.slot_tuple_getitem
    (wpAny_call_entry PyProof.Rows.slot_tuple_getitem ht.typeIs entry_tuple_getitem ?_ (args_tuple_getitem _ _)))
  show wpAny _ _ (Builtin.Tuple.tupleItemsOf (.ref t) >>= _) _ _ s
  refine wpAny_bind (tupleItemsOf_ ht ?_)
  refine wpAny_bind (wpAny_typeOf hTs ?_)
  rw [if_pos (by decide)]
  refine wpAny_bind (wV hs pl pu ?_)
  have hyes : (((sIx items.size 0 lo : Nat) : Int) == 0 && (1 : Int) == 1 && (sIx items.size items.size hi - sIx items.size 0 lo) == items.size) = true := by
    rw [hw.1, hw.2]
    simp
  show wpAny _ _ (if (((sIx items.size 0 lo : Nat) : Int) == 0 && (1 : Int) == 1 && (sIx items.size items.size hi - sIx items.size 0 lo) == items.size) = true then _ else _) _ _ s
  rw [if_pos hyes]
  refine wpAny_bind (m := Builtin.Tuple.tupleIsExact (.ref t)) ?_
  unfold Builtin.Tuple.tupleIsExact
  refine wpAny_bind (wpAny_typeOf ht.typeIs (wpAny_pure ?_))
  rw [if_pos (by decide)]
  refine wpAny_bind (wpAny_rule ?_)
  first
    | exact wpAny_pure ⟨_, rfl, wpAny_pure h⟩
    | exact wpAny_bind (wpAny_pure (wpAny_pure ⟨_, rfl, wpAny_pure h⟩))
end
end HT
namespace L2
open PySem PySem.Spec PyProof.Rows
end L2
namespace PySem
open Sem (wp)
theorem y0 {prog : Program} {w : World} {A : Around} {it a : Addr} {fp : List Addr} {n k : Nat} {P : Nat → Value → Prop} {St : Nat → Heap → Prop} (D : Draws prog w A it fp n P St) {h h' : Heap} (st : St k h) (sb : Heap.SameBut a h h') (na : a ∉ fp) : St k h' :=
  D.frame _ _ _ st fun b hb o e => (sb.2 b fun z => na (z ▸ hb)).trans e
set_option genInjectivity false in
set_option genSizeOf false in
set_option genCtorIdx false in
structure zc3 (z TI TO i1 i2 : Addr) (fp1 fp2 : List Addr) : Prop where
  nd : [z, TI, TO, i1, i2].Nodup
  z1 : z ∉ fp1
  z2 : z ∉ fp2
  o1 : TO ∉ fp1
  o2 : TO ∉ fp2
  i12 : i1 ∉ fp2
  i21 : i2 ∉ fp1
section
variable {prog : Program} {w : World} {A : Around} {E : Value → Shared → Prop} {s : Shared} {z TI TO i1 i2 : Addr} {fp1 fp2 : List Addr} {n1 n2 k1 k2 : Nat} {P1 P2 : Nat → Value → Prop} {St1 St2 : Nat → Heap → Prop} {a b : Value}
theorem X9 {Q : Value → Shared → Prop} (D1 : Draws prog w A i1 fp1 n1 P1 St1) (D2 : Draws prog w A i2 fp2 n2 P2 St2) (ap : zc3 z TI TO i1 i2 fp1 fp2)
    (hz : IsZip s.heap z TI TO .none) (hTI : IsPair s.heap TI (.ref i1) (.ref i2)) (hTO : IsPair s.heap TO a b) (h1 : St1 k1 s.heap) (h2 : St2 k2 s.heap) (l1 : k1 < n1) (l2 : k2 < n2)
    (hQ : ∀ x y h' tk, P1 k1 x → P2 k2 y → IsZip h' z TI TO (rawInt s.heap.objs.size) → IsPair h' TO x y → St1 (k1 + 1) h' → St2 (k2 + 1) h' → IsPair h' s.heap.objs.size x y →
      (∀ c o, c ∉ [z, TO, i1, i2] → s.heap.get? c = some o → h'.get? c = some o) → Q (.ref s.heap.objs.size) { s with heap := h', toks := tk }) :
    wpAny (model prog w) A (Builtin.«zip.__next__» ⟨[.ref z], []⟩) (fun fin s' => ∃ v, fin = .done (.ret v) ∧ Q v s') E s := by
  obtain ⟨nd, az1, az2, ao1, ao2, a12, a21⟩ := ap
  simp only [List.nodup_cons, List.mem_cons, List.not_mem_nil, or_false, not_or, not_false_eq_true, List.nodup_nil, and_true] at nd
  obtain ⟨⟨n1', n2', n3', n4'⟩, ⟨n5, n6, n7⟩, ⟨n8, n9⟩, n10⟩ := nd
  show wpAny _ _ (field (.ref z) 2 >>= _) _ _ _
  refine wpAny_bind (wpAny_field hz rfl (x := .bool false) rfl ?_)
  show wpAny _ _ (field (.ref z) 3 >>= _) _ _ _
  refine wpAny_bind (wpAny_field hz rfl (x := .ref TI) rfl (wpAny_bind (wpAny_seqItems hTI rfl ?_)))
  show wpAny _ _ (Builtin.SmallTypes.ownedTupleIsFree (.ref z) >>= _) _ _ _
  refine wpAny_bind ?_
  unfold Builtin.SmallTypes.ownedTupleIsFree
  refine wpAny_bind (wpAny_field hz rfl (x := .none) rfl (wpAny_pure ?_))
  simp only [if_true]
  refine wpAny_bind (wpAny_rule (wpAny_bind (wpAny_field hz rfl (x := .ref TO) rfl (wpAny_bind (wpAny_setField_rec hz (by simp) fun g1 z1 b1 => ?_)))))
  refine wpAny_bind ?_
  simp only [List.zipIdx_cons, List.zipIdx_nil, List.forIn_cons, List.forIn_nil]
  refine wpAny_bind (wpAny_bind (wpAny_onRaise ?_))
  show wpAny _ _ (Builtin.SmallTypes.nextOf (.ref i1) >>= _) _ _ _
  refine wpAny_bind (D1.item k1 _ _ _ l1 (y0 D1 h1 b1 az1) fun x g2 tk2 px st2 b2 => wpAny_pure ?_)
  have o2 : IsPair g2 TO a b := (b2.2 TO n8).trans ((b1.2 TO (Ne.symm n2')).trans hTO)
  refine wpAny_bind (wpAny_seqItems o2 rfl (wpAny_bind (wpAny_updateSeq_pair o2 fun g3 o3 b3 => ?_)))
  refine wpAny_bind (wpAny_letGo (wpAny_pure ?_))
  refine wpAny_bind (wpAny_bind (wpAny_onRaise ?_))
  show wpAny _ _ (Builtin.SmallTypes.nextOf (.ref i2) >>= _) _ _ _
  have s23 : St2 k2 g3 := y0 D2 (y0 D2 (y0 D2 h2 b1 az2) b2 a12) b3 ao2
  refine wpAny_bind (D2.item k2 _ _ _ l2 s23 fun y g4 tk4 py st4 b4 => wpAny_pure ?_)
  have o4 : IsPair g4 TO x b := (b4.2 TO n9).trans o3
  refine wpAny_bind (wpAny_seqItems o4 rfl (wpAny_bind (wpAny_updateSeq_pair o4 fun g5 o5 b5 => ?_)))
  replace o5 : IsPair g5 TO x y := o5
  refine wpAny_bind (wpAny_letGo (wpAny_pure (wpAny_pure ?_)))
  refine wpAny_bind (wpAny_seqItems o5 rfl ?_)
  show wpAny _ _ (newTuple [x, y] >>= _) _ _ _
  refine wpAny_bind (wpAny_newTuple ?_)
  have hsz : g5.objs.size = s.heap.objs.size := by rw [b5.1, b4.1, b3.1, b2.1, b1.1]
  have z5 : IsZip g5 z TI TO .ellipsis := (b5.2 z n2').trans ((b4.2 z n4').trans ((b3.2 z n2').trans ((b2.2 z n3').trans z1)))
  have zlt : z < g5.objs.size := Heap.lt_size z5
  show wpAny _ _ (Builtin.SmallTypes.ownedTupleHandOut (.ref z) (.ref g5.objs.size) >>= _) _ _ _
  refine wpAny_bind ?_
  unfold Builtin.SmallTypes.ownedTupleHandOut
  have z6 : IsZip (g5.push { cls := .type "tuple", data := .seq #[x, y] }) z TI TO .ellipsis := Heap.get?_push_of_some _ z5
  refine wpAny_bind (wpAny_setField_rec z6 (by simp) fun g7 z7 b7 => ?_)
  refine wpAny_setField_rec z7 (by simp) fun g8 z8 b8 => ?_
  have up : ∀ c o, c ≠ z → g5.get? c = some o → g8.get? c = some o := fun c o n e => (b8.2 c n).trans ((b7.2 c n).trans (Heap.get?_push_of_some _ e))
  have t8 : IsPair g8 g5.objs.size x y := (b8.2 _ (Nat.ne_of_gt zlt)).trans ((b7.2 _ (Nat.ne_of_gt zlt)).trans (Heap.get?_push_size _ rfl))
  have e8 : IsZip g8 z TI TO (rawInt g5.objs.size) := z8
  rw [hsz] at e8 t8
  refine wpAny_pure ⟨_, rfl, ?_⟩
  show Q (.ref g5.objs.size) _
  rw [hsz]
  have f1 : St1 (k1 + 1) g5 := y0 D1 (y0 D1 (y0 D1 st2 b3 ao1) b4 a21) b5 ao1
  have f2 : St2 (k2 + 1) g5 := y0 D2 st4 b5 ao2
  refine hQ x y g8 _ px py e8 (up _ _ (Ne.symm n2') o5) (D1.frame _ _ _ f1 fun c hc o e => up c o (fun q => az1 (q ▸ hc)) e) (D2.frame _ _ _ f2 fun c hc o e => up c o (fun q => az2 (q ▸ hc)) e) t8 fun c o hc e => ?_
  simp only [List.mem_cons, List.not_mem_nil, or_false, not_or] at hc
  obtain ⟨c1, c2, c3, c4⟩ := hc
  exact up c o c1 ((b5.2 c c2).trans ((b4.2 c c4).trans ((b3.2 c c2).trans ((b2.2 c c3).trans ((b1.2 c c1).trans e)))))
theorem Vt {Q : Fin → Shared → Prop} (D1 : Draws prog w A i1 fp1 n1 P1 St1) (az1 : z ∉ fp1) (nz : i1 ≠ z)
    (hz : IsZip s.heap z TI TO .none) (hTI : IsPair s.heap TI (.ref i1) (.ref i2)) (h1 : St1 n1 s.heap)
    (hE : ∀ h' e, (∀ c o, c ≠ z → c ≠ i1 → s.heap.get? c = some o → h'.get? c = some o) → (∃ o, h'.get? e = some o ∧ o.cls = .type "StopIteration") → E (.ref e) { s with heap := h' }) :
    wpAny (model prog w) A (Builtin.«zip.__next__» ⟨[.ref z], []⟩) Q E s := by
  show wpAny _ _ (field (.ref z) 2 >>= _) _ _ _
  refine wpAny_bind (wpAny_field hz rfl (x := .bool false) rfl ?_)
  show wpAny _ _ (field (.ref z) 3 >>= _) _ _ _
  refine wpAny_bind (wpAny_field hz rfl (x := .ref TI) rfl (wpAny_bind (wpAny_seqItems hTI rfl ?_)))
  show wpAny _ _ (Builtin.SmallTypes.ownedTupleIsFree (.ref z) >>= _) _ _ _
  refine wpAny_bind ?_
  unfold Builtin.SmallTypes.ownedTupleIsFree
  refine wpAny_bind (wpAny_field hz rfl (x := .none) rfl (wpAny_pure ?_))
  simp only [if_true]
  refine wpAny_bind (wpAny_rule (wpAny_bind (wpAny_field hz rfl (x := .ref TO) rfl (wpAny_bind (wpAny_setField_rec hz (by simp) fun g1 z1 b1 => ?_)))))
  refine wpAny_bind ?_
  simp only [List.zipIdx_cons, List.zipIdx_nil, List.forIn_cons, List.forIn_nil]
  refine wpAny_bind (wpAny_bind (wpAny_onRaise ?_))
  show wpAny _ _ (Builtin.SmallTypes.nextOf (.ref i1) >>= _) _ _ _
  refine wpAny_bind (D1.done _ _ _ (y0 D1 h1 b1 az1) fun g2 e b2 he => ?_)
  obtain ⟨oe, hoe, hce⟩ := he
  have z2 : IsZip g2 z TI TO .ellipsis := b2 _ _ (Ne.symm nz) z1
  have nez : e ≠ z := fun q => by subst q; rw [z2] at hoe; cases hoe; simp at hce
  exact wpAny_setField_rec z2 (by simp) fun g3 _ b3 => hE g3 e (fun c o c1 c2 q => (b3.2 c c1).trans (b2 c o c2 ((b1.2 c c1).trans q))) ⟨oe, (b3.2 e nez).trans hoe, hce⟩
end
noncomputable def XU (b : Bool) (h : Heap) (it l : Addr) (k : Nat) : Prop := if b = true then h.IsListIter it l k else h.IsTupleIter it l k
noncomputable def zaj (b : Bool) (h : Heap) (l : Addr) (items : Array Value) : Prop := if b = true then h.IsList l items else h.IsTuple l items
theorem Zu {prog : Program} {w : World} {A : Around} (hh : A.handled = none) (b : Bool) (it l : Addr) (hne : l ≠ it) (items : Array Value) :
    Draws prog w A it [it, l] items.size (fun i v => items[i]? = some v) (fun i h => XU b h it l i ∧ zaj b h l items) := by
  cases b with
  | true => exact Draws.list hh it l hne items
  | false => exact vt hh it l hne items
noncomputable def zbU (b : Bool) (l : Addr) : Obj := { cls := .type (if b = true then "list_iterator" else "tuple_iterator"), data := .fields #[.ref l, .int 0 0] }
noncomputable abbrev zpA (h : Heap) (b1 : Bool) (l1 : Addr) : Heap := h.push (zbU b1 l1)
noncomputable abbrev zpB (h : Heap) (b1 b2 : Bool) (l1 l2 : Addr) : Heap := (zpA h b1 l1).push (zbU b2 l2)
noncomputable abbrev zpC (h : Heap) (b1 b2 : Bool) (l1 l2 : Addr) : Heap := (zpB h b1 b2 l1 l2).push (Obj.mk (.type "tuple") none (.seq #[.ref h.objs.size, .ref (zpA h b1 l1).objs.size]) #[])
noncomputable abbrev zpD (h : Heap) (b1 b2 : Bool) (l1 l2 : Addr) : Heap := (zpC h b1 b2 l1 l2).push (Obj.mk (.type "tuple") none (.seq #[.none, .none]) #[])
noncomputable abbrev zpE (h : Heap) (b1 b2 : Bool) (l1 l2 : Addr) : Heap := (zpD h b1 b2 l1 l2).push (Obj.mk (.type "zip") none (.fields #[.none, .bool false, .bool false, .ref (zpB h b1 b2 l1 l2).objs.size, .ref (zpC h b1 b2 l1 l2).objs.size]) #[])
theorem W1 (b1 b2 : Bool) (l1 l2 : Addr) (xs ys : Array Value) :
    Meets (Builtin.«zip.__new__» ⟨[.type "zip", .ref l1, .ref l2], []⟩) (fun _ R s => zaj b1 s.heap l1 xs ∧ zaj b2 s.heap l2 ys ∧
      R (.ok (.ret (.ref (zpD s.heap b1 b2 l1 l2).objs.size))) { s with heap := zpE s.heap b1 b2 l1 l2 }) :=
  .of_wp fun prog w A R s h => by
    obtain ⟨hp, g, d, tk, os⟩ := s; obtain ⟨hl1, hl2, h⟩ := h
    have hsub := sub_zip
    cases b1 with
    | true =>
      have hL1 : Heap.IsList (Shared.heap ⟨hp, g, d, tk, os⟩) l1 xs := hl1
      cases b2 with
      | true =>
        have hL2 : Heap.IsList (Shared.heap ⟨hp.push { cls := .type "list_iterator", data := .fields #[.ref l1, .int 0 0] }, g, d, tk, os⟩) l2 ys := Heap.IsList.push hl2 _
        wp_walk using wpAny_pyIter_list hL1, wpAny_pyIter_list hL2
        exact ⟨_, rfl, h⟩
      | false =>
        have hL2 : Heap.IsTuple (Shared.heap ⟨hp.push { cls := .type "list_iterator", data := .fields #[.ref l1, .int 0 0] }, g, d, tk, os⟩) l2 ys := Heap.IsTuple.push hl2 _
        wp_walk using wpAny_pyIter_list hL1, wpAny_pyIter_tuple hL2
        exact ⟨_, rfl, h⟩
    | false =>
      have hL1 : Heap.IsTuple (Shared.heap ⟨hp, g, d, tk, os⟩) l1 xs := hl1
      cases b2 with
      | true =>
        have hL2 : Heap.IsList (Shared.heap ⟨hp.push { cls := .type "tuple_iterator", data := .fields #[.ref l1, .int 0 0] }, g, d, tk, os⟩) l2 ys := Heap.IsList.push hl2 _
        wp_walk using wpAny_pyIter_tuple hL1, wpAny_pyIter_list hL2
        exact ⟨_, rfl, h⟩
      | false =>
        have hL2 : Heap.IsTuple (Shared.heap ⟨hp.push { cls := .type "tuple_iterator", data := .fields #[.ref l1, .int 0 0] }, g, d, tk, os⟩) l2 ys := Heap.IsTuple.push hl2 _
        wp_walk using wpAny_pyIter_tuple hL1, wpAny_pyIter_tuple hL2
        exact ⟨_, rfl, h⟩
end PySem
namespace PySem
section
variable {prog : Program} {w : World} {A : Around} {E : Value → Shared → Prop} {s : Shared}
theorem X3 {b1 b2 : Bool} {l1 l2 : Addr} {xs ys : Array Value} {Q : Value → Shared → Prop} (hl1 : zaj b1 s.heap l1 xs) (hl2 : zaj b2 s.heap l2 ys)
    (h : ∀ h', IsZip h' (s.heap.objs.size + 4) (s.heap.objs.size + 2) (s.heap.objs.size + 3) .none → IsPair h' (s.heap.objs.size + 2) (.ref s.heap.objs.size) (.ref (s.heap.objs.size + 1)) →
      IsPair h' (s.heap.objs.size + 3) .none .none → XU b1 h' s.heap.objs.size l1 0 → XU b2 h' (s.heap.objs.size + 1) l2 0 →
      (∀ c o, s.heap.get? c = some o → h'.get? c = some o) → Q (.ref (s.heap.objs.size + 4)) { s with heap := h' }) :
    wpAny (model prog w) A (call (.type "zip") [.ref l1, .ref l2]) Q E s := by
  refine callType_new F.called_zip (by decide) (F.typeCall_zip_2 _ _) (F.newCall_zip_2 _ _) (fun obj => F.args_object_init_3 obj _ _) F.entry_zip_new
    (W1 b1 b2 l1 l2 xs ys) ⟨hl1, hl2, ?_⟩
  have z1 : (zpA s.heap b1 l1).objs.size = s.heap.objs.size + 1 := Heap.size_push ..
  have z2 : (zpB s.heap b1 b2 l1 l2).objs.size = s.heap.objs.size + 2 := by rw [Heap.size_push, z1]
  have z3 : (zpC s.heap b1 b2 l1 l2).objs.size = s.heap.objs.size + 3 := by rw [Heap.size_push, z2]
  have z4 : (zpD s.heap b1 b2 l1 l2).objs.size = s.heap.objs.size + 4 := by rw [Heap.size_push, z3]
  have g5 : (zpE s.heap b1 b2 l1 l2).get? (zpD s.heap b1 b2 l1 l2).objs.size = some _ := Heap.get?_push_size _ rfl
  have g4 : (zpE s.heap b1 b2 l1 l2).get? (zpC s.heap b1 b2 l1 l2).objs.size = some _ := Heap.get?_push_of_some _ (Heap.get?_push_size _ rfl)
  have g3 : (zpE s.heap b1 b2 l1 l2).get? (zpB s.heap b1 b2 l1 l2).objs.size = some _ := Heap.get?_push_of_some _ (Heap.get?_push_of_some _ (Heap.get?_push_size _ rfl))
  have g2 : (zpE s.heap b1 b2 l1 l2).get? (zpA s.heap b1 l1).objs.size = some (zbU b2 l2) := Heap.get?_push_of_some _ (Heap.get?_push_of_some _ (Heap.get?_push_of_some _ (Heap.get?_push_size _ rfl)))
  have g1 : (zpE s.heap b1 b2 l1 l2).get? s.heap.objs.size = some (zbU b1 l1) := Heap.get?_push_of_some _ (Heap.get?_push_of_some _ (Heap.get?_push_of_some _ (Heap.get?_push_of_some _ (Heap.get?_push_size _ rfl))))
  show _ ∧ _
  rw [z2, z3, z4] at g5
  rw [z1, z2] at g3
  rw [z3] at g4
  rw [z1] at g2
  rw [z4]
  have it0 : ∀ {b : Bool} {l c : Addr}, (zpE s.heap b1 b2 l1 l2).get? c = some (zbU b l) → XU b (zpE s.heap b1 b2 l1 l2) c l 0 := fun {b l c} e => by
    cases b
    · exact ⟨_, e, rfl, rfl⟩
    · exact ⟨_, e, rfl, rfl⟩
  exact ⟨⟨_, g5, rfl⟩, h _ g5 g3 g4 (it0 g1) (it0 g2) fun c o x =>
    Heap.get?_push_of_some _ (Heap.get?_push_of_some _ (Heap.get?_push_of_some _ (Heap.get?_push_of_some _ (Heap.get?_push_of_some _ x))))⟩
variable {z TI TO i1 i2 : Addr} {fp1 fp2 : List Addr} {n1 n2 k1 k2 : Nat} {P1 P2 : Nat → Value → Prop} {St1 St2 : Nat → Heap → Prop} {a b : Value}
theorem vR {Q : Option Value → Shared → Prop} (D1 : Draws prog w A.in1 i1 fp1 n1 P1 St1) (D2 : Draws prog w A.in1 i2 fp2 n2 P2 St2) (ap : zc3 z TI TO i1 i2 fp1 fp2)
    (hz : IsZip s.heap z TI TO .none) (hTI : IsPair s.heap TI (.ref i1) (.ref i2)) (hTO : IsPair s.heap TO a b) (h1 : St1 k1 s.heap) (h2 : St2 k2 s.heap) (l1 : k1 < n1) (l2 : k2 < n2)
    (hQ : ∀ x y h' tk, P1 k1 x → P2 k2 y → IsZip h' z TI TO (rawInt s.heap.objs.size) → IsPair h' TO x y → St1 (k1 + 1) h' → St2 (k2 + 1) h' → IsPair h' s.heap.objs.size x y →
      (∀ c o, c ∉ [z, TO, i1, i2] → s.heap.get? c = some o → h'.get? c = some o) → Q (some (.ref s.heap.objs.size)) { s with heap := h', toks := tk }) :
    wpAny (model prog w) A (pyNext (.ref z)) Q E s := by
  have hT : s.TypeIs (.ref z) "zip" := ⟨_, hz, rfl⟩
  unfold pyNext
  exact wpAny_bind (wpAny_attempt (wpAny_callSpecial?_slot (name := Str.ofString "__next__") hT F.slot_zip_next
    (wpAny_call_entry F.slot_zip_next hT F.entry_zip_next
      (X9 D1 D2 ap hz hTI hTO h1 h2 l1 l2 fun x y h' tk a1 a2 a3 a4 a5 a6 a7 a8 => wpAny_pure (hQ x y h' tk a1 a2 a3 a4 a5 a6 a7 a8)) (F.args_zip_next_1 _))))
theorem Yg {Q : Option Value → Shared → Prop} (D1 : Draws prog w A.in1 i1 fp1 n1 P1 St1) (az1 : z ∉ fp1) (nz : i1 ≠ z)
    (hz : IsZip s.heap z TI TO .none) (hTI : IsPair s.heap TI (.ref i1) (.ref i2)) (h1 : St1 n1 s.heap)
    (hQ : ∀ h', (∀ c o, c ≠ z → c ≠ i1 → s.heap.get? c = some o → h'.get? c = some o) → Q none { s with heap := h' }) : wpAny (model prog w) A (pyNext (.ref z)) Q E s := by
  have hT : s.TypeIs (.ref z) "zip" := ⟨_, hz, rfl⟩
  unfold pyNext
  refine wpAny_bind (wpAny_attempt (wpAny_callSpecial?_slot (name := Str.ofString "__next__") hT F.slot_zip_next
    (wpAny_call_entry F.slot_zip_next hT F.entry_zip_next (Vt D1 az1 nz hz hTI h1 fun h' e hk he => ?_) (F.args_zip_next_1 _))))
  obtain ⟨o, ho, hc⟩ := he
  refine wpAny_bind (wpAny_isInstance (T := "StopIteration") (b := true) ⟨o, ho, hc⟩ isSubtype_stop ?_)
  exact wpAny_pure (hQ _ hk)
end
end PySem
namespace L2
open PySem PySem.Spec PyProof.Rows
noncomputable def Sq (b : Bool) (K : PySem.W.Frag) (H : Hp) (a : Addr) (xs : List V) : Prop := if b = true then SqL K H a xs else SqT K H a xs
theorem Inv.sq {X : Cx} {pins : List (Addr × Obj)} {σ : St} {H : Hp} {s : Shared} {a : Addr} {xs : List V} {b : Bool} (I : Inv X pins σ H s) (h : Sq b X.K H a xs) : ∃ its : List Value, yh xs its ∧ zaj b s.heap a its.toArray ∧ a < s.heap.objs.size := by
  cases b with
  | true =>
    obtain ⟨its, r, p, _⟩ := I.list (show SqL X.K H a xs from h)
    exact ⟨its, r, p.isList, by obtain ⟨o, n, ho, _⟩ := p; exact Heap.lt_size ho⟩
  | false =>
    obtain ⟨its, r, p, _⟩ := I.tuple (show SqT X.K H a xs from h)
    exact ⟨its, r, p, by obtain ⟨o, ho, _⟩ := p; exact Heap.lt_size ho⟩
theorem Inv.sq_inj {X : Cx} {pins : List (Addr × Obj)} {σ : St} {H : Hp} {s : Shared} {a : Addr} {xs ys : List V} {b : Bool} (I : Inv X pins σ H s) (h : Sq b X.K H a xs) (h' : Sq b X.K H a ys) : xs = ys := by
  cases b with
  | true => exact I.list_inj h h'
  | false => exact I.tuple_inj h h'
noncomputable def Izp (K : PySem.W.Frag) (b1 b2 : Bool) (l1 l2 : Addr) : It :=
  ⟨fun i H => ∃ xs ys x y, Sq b1 K H l1 xs ∧ Sq b2 K H l2 ys ∧ xs[i]? = some x ∧ ys[i]? = some y,
   fun i H v H' => ∃ T x y, v = .ref T ∧ H T = none ∧ H' = upd H T (.tup [x, y]) ∧ (∀ xs, Sq b1 K H l1 xs → xs[i]? = some x) ∧ (∀ ys, Sq b2 K H l2 ys → ys[i]? = some y),
   fun i H => ∃ xs, Sq b1 K H l1 xs ∧ i = xs.length⟩
theorem Yk {b : Bool} {h : Heap} {it l : Addr} {k : Nat} (x : XU b h it l k) : ∃ o, h.get? it = some o ∧ ∀ v, o.data ≠ .cell v := by
  cases b
  · obtain ⟨o, ho, _, hd⟩ := x
    exact ⟨o, ho, fun v z => by rw [hd] at z; cases z⟩
  · obtain ⟨o, ho, _, hd⟩ := x
    exact ⟨o, ho, fun v z => by rw [hd] at z; cases z⟩
theorem Y6 {b : Bool} {h h' : Heap} {it l : Addr} {k : Nat} (x : XU b h it l k) (e : ∀ o, h.get? it = some o → h'.get? it = some o) : XU b h' it l k := by
  cases b
  · obtain ⟨o, ho, r⟩ := x
    exact ⟨o, e o ho, r⟩
  · obtain ⟨o, ho, r⟩ := x
    exact ⟨o, e o ho, r⟩
theorem zdE {P : Program} {w : World} {K : PySem.W.Frag} {es : List Expr} {k : Nat} {tp : Pos} (b1 b2 : Bool) (l1 l2 z TI TO i1 i2 : Addr) (ap : zc3 z TI TO i1 i2 [i1, l1] [i2, l2]) (n1 : l1 ≠ i1) (n2 : l2 ≠ i2) :
    zeI P w K (.Tuple es k tp) (Izp K b1 b2 l1 l2) [z, TI, TO, i1, i2] z (fun i h => IsZip h z TI TO .none ∧ IsPair h TI (.ref i1) (.ref i2) ∧ (∃ a b, IsPair h TO a b) ∧ XU b1 h i1 l1 i ∧ XU b2 h i2 l2 i) where
  mem := by simp
  obj := fun i h st b hb => by
    obtain ⟨hz, hTI, ⟨a, c, hTO⟩, h1, h2⟩ := st
    simp only [List.mem_cons, List.not_mem_nil, or_false] at hb
    rcases hb with rfl | rfl | rfl | rfl | rfl
    · exact ⟨_, hz, fun v z => by cases z⟩
    · exact ⟨_, hTI, fun v z => by cases z⟩
    · exact ⟨_, hTO, fun v z => by cases z⟩
    · exact Yk h1
    · exact Yk h2
  keep := fun i h h' st kk => by
    obtain ⟨hz, hTI, ⟨a, c, hTO⟩, h1, h2⟩ := st
    exact ⟨kk z (by simp) _ hz, kk TI (by simp) _ hTI, ⟨a, c, kk TO (by simp) _ hTO⟩, Y6 h1 fun o q => kk i1 (by simp) o q, Y6 h2 fun o q => kk i2 (by simp) o q⟩
  item := by
    intro X hP hw hK hc i pins s σ H E I hf st hg
    subst hP hw hK
    obtain ⟨hz, hTI, ⟨a, c, hTO⟩, h1, h2⟩ := st
    obtain ⟨xs, ys, x, y, hq1, hq2, hx, hy⟩ := hg
    obtain ⟨its, rv, p, _⟩ := I.sq hq1
    obtain ⟨its2, rv2, p2, _⟩ := I.sq hq2
    obtain ⟨u, hu, ru⟩ := rv.get hx
    obtain ⟨u2, hu2, ru2⟩ := rv2.get hy
    have hl1 : i < its.toArray.size := by simpa using (List.getElem?_eq_some_iff.mp hu).1
    have hl2 : i < its2.toArray.size := by simpa using (List.getElem?_eq_some_iff.mp hu2).1
    have hh : X.A.in1.handled = none := I.ok.hd hc
    refine vR (Zu hh b1 i1 l1 n1 its.toArray) (Zu hh b2 i2 l2 n2 its2.toArray) ap hz hTI hTO ⟨h1, p⟩ ⟨h2, p2⟩ hl1 hl2 fun v1 v2 h' tk e1 e2 hz' hTO' s1 s2 hT' hk => ?_
    have eu : v1 = u := by
      have : its[i]? = some v1 := by simpa using e1
      rw [hu] at this
      exact (Option.some.inj this).symm
    have eu2 : v2 = u2 := by
      have : its2[i]? = some v2 := by simpa using e2
      rw [hu2] at this
      exact (Option.some.inj this).symm
    subst eu eu2
    obtain ⟨nd, az1, az2, ao1, ao2, a12, a21⟩ := ap
    simp only [List.nodup_cons, List.mem_cons, List.not_mem_nil, or_false, not_or, not_false_eq_true, List.nodup_nil, and_true] at nd
    obtain ⟨⟨m1, m2, m3, m4⟩, ⟨m5, m6, m7⟩, ⟨m8, m9⟩, m10⟩ := nd
    refine ⟨_, rfl, wpAny_letOwnedTupleGo_zip hz' fun h2' hz2 hs2 => ?_⟩
    have hfr : H s.heap.objs.size = none := I.hok.fresh (Nat.le_refl _)
    have neZ : s.heap.objs.size ≠ z := Nat.ne_of_gt (Heap.lt_size hz)
    have hT2 : IsPair h2' s.heap.objs.size v1 v2 := (hs2.2 _ neZ).trans hT'
    have hTI' : IsPair h' TI (.ref i1) (.ref i2) := hk TI _ (by simp [Ne.symm m1, m5, m6, m7]) hTI
    have lt : ∀ b ∈ [z, TI, TO, i1, i2], b < s.heap.objs.size := fun b hb => by
      simp only [List.mem_cons, List.not_mem_nil, or_false] at hb
      rcases hb with rfl | rfl | rfl | rfl | rfl
      · exact Heap.lt_size hz
      · exact Heap.lt_size hTI
      · exact Heap.lt_size hTO
      · obtain ⟨o, ho, _⟩ := Yk h1; exact Heap.lt_size ho
      · obtain ⟨o, ho, _⟩ := Yk h2; exact Heap.lt_size ho
    refine ⟨.ref s.heap.objs.size, upd H s.heap.objs.size (.tup [x, y]), ?_, rfl, ⟨_, x, y, rfl, hfr, rfl, fun zs hz => by rw [I.sq_inj hz hq1]; exact hx, fun zs hz => by rw [I.sq_inj hz hq2]; exact hy⟩,
      ⟨hz2, (hs2.2 TI (Ne.symm m1)).trans hTI', ⟨_, _, (hs2.2 TO (Ne.symm m2)).trans hTO'⟩, Y6 s1.1 fun o q => (hs2.2 i1 (Ne.symm m3)).trans q, Y6 s2.1 fun o q => (hs2.2 i2 (Ne.symm m4)).trans q⟩, fun b hb => ?_⟩
    · refine I.grown (ch := [z, TI, TO, i1, i2]) hf (Nat.le_refl _) (fun b v hb q => ?_) ?_
      · have nb : b ≠ z := fun w => hb (by simp [w])
        refine (hs2.2 b nb).trans (hk b v (fun w => hb ?_) q)
        simp only [List.mem_cons, List.not_mem_nil, or_false] at w ⊢
        rcases w with w | w | w | w
        · exact .inl w
        · exact .inr (.inr (.inl w))
        · exact .inr (.inr (.inr (.inl w)))
        · exact .inr (.inr (.inr (.inr w)))
      · exact ⟨by show 2 ≤ sizeLine; decide, [v1, v2], .cons ru (.cons ru2 .nil), ⟨_, hT2, rfl, 0, rfl⟩⟩
    · rw [zr (Nat.ne_of_lt (lt b hb))]
      exact (hf b hb).1
  done := by
    intro X hP hw hK hc i pins s σ H E I hf st hg
    subst hP hw hK
    obtain ⟨hz, hTI, ⟨a, c, hTO⟩, h1, h2⟩ := st
    obtain ⟨xs, hq, rfl⟩ := hg
    obtain ⟨its, rv, p, _⟩ := I.sq hq
    have hl := rv.length
    have hh : X.A.in1.handled = none := I.ok.hd hc
    have D := Zu (prog := X.prog) (w := X.w) hh b1 i1 l1 n1 its.toArray
    refine Yg D ap.z1 ?_ hz hTI ⟨by rw [List.size_toArray, ← hl]; exact h1, p⟩ fun h' hk => ⟨rfl, I.turnedN (ch := [z, TI, TO, i1, i2]) (t' := s.toks) hf fun b v hb q => hk b v (fun w => hb (by simp [w])) (fun w => hb (by simp [w])) q⟩
    have nd := ap.nd
    simp only [List.nodup_cons, List.mem_cons, List.not_mem_nil, or_false, not_or, not_false_eq_true, List.nodup_nil, and_true] at nd
    exact Ne.symm nd.1.2.2.1
  self := fun _ _ _ _ _ st h => wpAny_pyIter_zip st.1 h
noncomputable def iZip (K : PySem.W.Frag) (ta : TA) : TI := fun σ H R => ta σ H fun vs H1 => ∃ b1 b2 l1 l2 xs ys, vs = [.ref l1, .ref l2] ∧ Sq b1 K H1 l1 xs ∧ Sq b2 K H1 l2 ys ∧ R (Izp K b1 b2 l1 l2) H1
theorem zge {X : Cx} {es : List Expr} {k : Nat} {tp : Pos} {a b : Expr} {ta : TA} {p pos : Pos} (hg : Gl X "zip") (hm : X.mg "zip" = none) (hb : bootBuiltins "zip" = some (.type "zip")) (ha : PA X [a, b] ta)
    (hs : starEach [a, b] X.env = [(false, eval a X.env), (false, eval b X.env)] := by rfl) (hs2 : starEach [b] X.env = [(false, eval b X.env)] := by rfl) : PI X (.Tuple es k tp) (.Call (.Name "zip" p) [a, b] [] pos) (iZip X.K ta) := by
  intro pins s σ H R I h
  refine Call_ (w8 I hg hm hb (PyProof.Rows.callWith_type1 (thn (ha pos pins s σ H _ I h) fun us s1 hh9 => ?_) (by rw [hs, hs2]) (by rw [hs2]; rfl)))
  obtain ⟨vs, H1, I1, r1, q1⟩ := hh9
  obtain ⟨b1, b2, l1, l2, xs, ys, e, hq1, hq2, q⟩ := q1
  subst e
  obtain ⟨u, u2, rfl, ru, ru2⟩ := Vp r1
  cases ru
  cases ru2
  obtain ⟨its, rv, p1, lt1⟩ := I1.sq hq1
  obtain ⟨its2, rv2, p2, lt2⟩ := I1.sq hq2
  refine X3 p1 p2 fun h2 hz hTI hTO hi1 hi2 hk => wpAny_pyIter_zip hz ?_
  have hn : ∀ b, s1.heap.objs.size ≤ b → WO X pins H1 b := fun b hb => I1.fpOk hb (I1.hok.fresh hb)
  have ap : zc3 (s1.heap.objs.size + 4) (s1.heap.objs.size + 2) (s1.heap.objs.size + 3) s1.heap.objs.size (s1.heap.objs.size + 1) [s1.heap.objs.size, l1] [s1.heap.objs.size + 1, l2] := by
    have q1 : l1 ≠ s1.heap.objs.size := Nat.ne_of_lt lt1
    have q2 : ∀ j : Nat, s1.heap.objs.size + j ≠ l1 := fun j e => Nat.lt_irrefl _ (Nat.lt_of_lt_of_le (by rw [← e] at lt1; exact lt1) (Nat.le_add_right _ _))
    have q3 : ∀ j : Nat, s1.heap.objs.size + j ≠ l2 := fun j e => Nat.lt_irrefl _ (Nat.lt_of_lt_of_le (by rw [← e] at lt2; exact lt2) (Nat.le_add_right _ _))
    have ne : ∀ i j : Nat, i ≠ j → s1.heap.objs.size + i ≠ s1.heap.objs.size + j := fun i j h e => h (Nat.add_left_cancel e)
    have n0 : ∀ i : Nat, i ≠ 0 → s1.heap.objs.size + i ≠ s1.heap.objs.size := fun i h e => h (Nat.add_left_cancel (n := s1.heap.objs.size) (m := i) (k := 0) e)
    refine ⟨?_, ?_, ?_, ?_, ?_, ?_, ?_⟩
    · simp only [List.nodup_cons, List.mem_cons, List.not_mem_nil, or_false, not_or, not_false_eq_true, List.nodup_nil, and_true]
      exact ⟨⟨ne 4 2 (by decide), ne 4 3 (by decide), n0 4 (by decide), ne 4 1 (by decide)⟩, ⟨ne 2 3 (by decide), n0 2 (by decide), ne 2 1 (by decide)⟩, ⟨n0 3 (by decide), ne 3 1 (by decide)⟩, Ne.symm (n0 1 (by decide))⟩
    · simp only [List.mem_cons, List.not_mem_nil, or_false, not_or]; exact ⟨n0 4 (by decide), q2 4⟩
    · simp only [List.mem_cons, List.not_mem_nil, or_false, not_or]; exact ⟨ne 4 1 (by decide), q3 4⟩
    · simp only [List.mem_cons, List.not_mem_nil, or_false, not_or]; exact ⟨n0 3 (by decide), q2 3⟩
    · simp only [List.mem_cons, List.not_mem_nil, or_false, not_or]; exact ⟨ne 3 1 (by decide), q3 3⟩
    · simp only [List.mem_cons, List.not_mem_nil, or_false, not_or]; exact ⟨Ne.symm (n0 1 (by decide)), q3 0⟩
    · simp only [List.mem_cons, List.not_mem_nil, or_false, not_or]; exact ⟨n0 1 (by decide), q2 1⟩
  refine ⟨_, _, _, _, H1, rfl, I1.kept (t' := s1.toks) hk, zdE b1 b2 l1 l2 _ _ _ _ _ ap (Nat.ne_of_lt lt1) (Nat.ne_of_lt (Nat.lt_succ_of_lt lt2)), ⟨hz, hTI, ⟨_, _, hTO⟩, hi1, hi2⟩, fun b hb => ?_, q⟩
  simp only [List.mem_cons, List.not_mem_nil, or_false] at hb
  rcases hb with rfl | rfl | rfl | rfl | rfl
  · exact hn _ (Nat.le_add_right _ _)
  · exact hn _ (Nat.le_add_right _ _)
  · exact hn _ (Nat.le_add_right _ _)
  · exact hn _ (Nat.le_refl _)
  · exact hn _ (Nat.le_add_right _ _)
end L2
namespace OwnSort
open PySem PyProof.Rows
section pure
variable {κ : KeyKind} {xs : Array Keyed}
theorem up1 {x : Nat} (hs : SortedToK κ xs x) (hx : 1 ≤ x) (h : κ.kle (KK κ xs (x - 1)) (KK κ xs x)) : SortedToK κ xs (x + 1) := fun i j hij hj => by
  by_cases c : j < x
  · exact hs i j hij c
  · obtain rfl : j = x := by omega
    by_cases d : i = j
    · rw [d]; exact KeyOrd.kle_refl _
    · exact KeyOrd.kle_trans (hs i (j - 1) (by omega) (by omega)) h
theorem zc2 {x : Nat} (hs : NonIncK κ xs x) (hx : 1 ≤ x) (h : κ.kle (KK κ xs x) (KK κ xs (x - 1))) : NonIncK κ xs (x + 1) := fun i j hij hj => by
  by_cases c : j < x
  · exact hs i j hij c
  · obtain rfl : j = x := by omega
    by_cases d : i = j
    · rw [d]; exact KeyOrd.kle_refl _
    · exact KeyOrd.kle_trans h (hs i (j - 1) (by omega) (by omega))
theorem ZE {ys : Array Keyed} {n : Nat} (e : ∀ i, KK κ ys i = KK κ xs i) (h : NonIncK κ xs n) : NonIncK κ ys n := fun i j hij hj => by rw [e, e]; exact h i j hij hj
theorem turned {n : Nat} (hn : n ≤ xs.size) (h : NonIncK κ xs n) : SortedToK κ (mirror xs 0 n ((n - 0) / 2)) n := fun i j hij hj => by
  rw [KK_mirror hn, KK_mirror hn, if_pos ⟨by omega, by omega⟩, if_pos ⟨by omega, by omega⟩]
  exact h _ _ (by omega) (by omega)
theorem zaD : SortedToK κ xs 1 := fun i j hij hj => by
  obtain rfl : i = j := by omega
  exact KeyOrd.kle_refl _
theorem V5 : NonIncK κ xs 1 := fun i j hij hj => by
  obtain rfl : i = j := by omega
  exact KeyOrd.kle_refl _
end pure
set_option genInjectivity false in
set_option genSizeOf false in
set_option genCtorIdx false in
structure SB (k : SortKind) (a₀ : Array Keyed) (st : SortSt) : Prop where
  pm : (arrOf st).Perm a₀
  kd : kindOf st = k
  fl : failedOf st = none
  pd : pendingOf st = #[]
theorem SB.sz {k : SortKind} {a₀ : Array Keyed} {st : SortSt} (B : SB k a₀ st) : (arrOf st).size = a₀.size := B.pm.size_eq
theorem SB.put {k : SortKind} {a₀ xs : Array Keyed} {st : SortSt} (B : SB k a₀ st) (p : xs.Perm (arrOf st)) : SB k a₀ (setArr st xs) := ⟨p.trans B.pm, B.kd, B.fl, B.pd⟩
section
variable {prog : Program} {w : World} {A : Around} {E : Value → Shared → Prop} {s : Shared} {a₀ : Array Keyed} {κ : KeyKind} {k : SortKind} {st : SortSt}
noncomputable def zdS (prog : Program) (w : World) (A : Around) (E : Value → Shared → Prop) (s : Shared) (a₀ : Array Keyed) (κ : KeyKind) (k : SortKind) : Prop :=
  ∀ (st : SortSt) (i j : Nat) (Q : Option Bool → SortSt → Prop), SB k a₀ st → i < a₀.size → j < a₀.size → Q (some (κ.blt (KK κ (arrOf st) i) (KK κ (arrOf st) j))) st → wpS (model prog w) A E s (ltAt' i j) Q st
theorem zbr {a n : Nat} {Q : AscSt → SortSt → Prop} (L : zdS prog w A E s a₀ κ k) (hn : n ≤ a₀.size) (ha : 1 ≤ a) (han : a ≤ n) (B : SB k a₀ st) (hs : SortedToK κ (arrOf st) a)
    (h : ∀ m, a ≤ m → m ≤ n → SortedToK κ (arrOf st) m → (m = n ∨ κ.klt (KK κ (arrOf st) m) (KK κ (arrOf st) (m - 1))) → Q (none, m) st) : wpS (model prog w) A E s (ascLoop a n) Q st := by
  unfold ascLoop
  refine wpS_forRange (I := fun x c t => (t = st ∧ c = (none, x)) ∧ SortedToK κ (arrOf st) x) (fun x c t h1 h2 hI => ?_) (fun c t hI => ?_) ⟨⟨rfl, rfl⟩, hs⟩
  · obtain ⟨⟨rfl, rfl⟩, hx⟩ := hI
    refine wpS_bind (L _ x (x - 1) _ B (by omega) (by omega) ?_)
    cases c : κ.blt (KK κ (arrOf t) x) (KK κ (arrOf t) (x - 1)) with
    | true => exact wpS_pure (h x h1 (by omega) hx (.inr c))
    | false => exact wpS_pure ⟨⟨rfl, rfl⟩, up1 hx (by omega) c⟩
  · obtain ⟨⟨rfl, rfl⟩, hx⟩ := hI
    have e : max a n = n := by omega
    rw [e] at hx ⊢
    exact h n han (Nat.le_refl _) hx (.inl rfl)
theorem VJ {n m : Nat} {Q : Option Nat → SortSt → Prop} (L : zdS prog w A E s a₀ κ k) (hm : m ≤ a₀.size) (h1 : 1 ≤ n) (hnm : n ≤ m) (B : SB k a₀ st) (hs : NonIncK κ (arrOf st) n)
    (h : ∀ r t, SB k a₀ t → 1 ≤ r → r ≤ m → SortedToK κ (arrOf t) r → Q (some r) t) : wpS (model prog w) A E s (tail3 n m) Q st := by
  unfold tail3
  have B' := B.put (mirror_perm (arrOf st) 0 n ((n - 0) / 2))
  exact wpS_bind (wpS_reverse (wpS_bind (zbr L hm h1 hnm B' (turned (by rw [B.sz]; omega) hs) fun r g1 g2 g3 _ => wpS_pure (h r _ B' (by omega) g2 g3))))
theorem zdJ {n m : Nat} {Q : DescSt → SortSt → Prop} (L : zdS prog w A E s a₀ κ k) (hm : m ≤ a₀.size) (h1 : 1 ≤ n) (hnm : n ≤ m) (B : SB k a₀ st) (hs : NonIncK κ (arrOf st) n)
    (h : ∀ r q t, SB k a₀ t → n ≤ r → r ≤ m → NonIncK κ (arrOf t) r → q + 1 ≤ r → (∀ i, r - (q + 1) ≤ i → i < r → KK κ (arrOf t) i = KK κ (arrOf t) (r - 1)) → Q (none, r, q) t) : wpS (model prog w) A E s (descLoop n m) Q st := by
  unfold descLoop
  refine wpS_forRange (I := fun x c t => ∃ q, c = (none, x, q) ∧ SB k a₀ t ∧ NonIncK κ (arrOf t) x ∧ q + 1 ≤ x ∧ ∀ i, x - (q + 1) ≤ i → i < x → KK κ (arrOf t) i = KK κ (arrOf t) (x - 1))
    (fun x c t g1 g2 hI => ?_) (fun c t hI => ?_) ⟨0, rfl, B, hs, h1, fun i c1 c2 => by rw [show i = n - 1 from Nat.le_antisymm (Nat.le_sub_one_of_lt c2) c1]⟩
  · obtain ⟨q, rfl, B1, ni, hq, he⟩ := hI
    have hxs : x < a₀.size := Nat.lt_of_lt_of_le g2 hm
    have hxs1 : x - 1 < a₀.size := Nat.lt_of_le_of_lt (Nat.sub_le _ _) hxs
    have hx1 : 1 ≤ x := Nat.le_trans h1 g1
    have hz : x ≤ (arrOf t).size := by rw [B1.sz]; exact Nat.le_of_lt hxs
    refine wpS_bind (L _ x (x - 1) _ B1 hxs hxs1 ?_)
    cases c : κ.blt (KK κ (arrOf t) x) (KK κ (arrOf t) (x - 1)) with
    | true =>
      have d := zc2 ni hx1 (KeyOrd.kle_of_klt c)
      by_cases hq0 : q > 0
      · show wpS _ _ _ _ (if q > 0 then _ else _) _ _
        rw [if_pos hq0]
        exact wpS_bind (wpS_reverse (wpS_pure ⟨0, rfl, B1.put (mirror_perm _ _ _ _), ZE (KK_mirror_equal hz he) d, Nat.succ_le_succ (Nat.zero_le _), fun i c1 c2 => by rw [show i = x + 1 - 1 from Nat.le_antisymm (Nat.le_of_lt_succ c2) c1]⟩))
      · show wpS _ _ _ _ (if q > 0 then _ else _) _ _
        rw [if_neg hq0]
        exact wpS_pure ⟨0, rfl, B1, d, Nat.succ_le_succ (Nat.zero_le _), fun i c1 c2 => by rw [show i = x + 1 - 1 from Nat.le_antisymm (Nat.le_of_lt_succ c2) c1]⟩
    | false =>
      refine wpS_bind (L _ (x - 1) x _ B1 hxs1 hxs ?_)
      cases c2 : κ.blt (KK κ (arrOf t) (x - 1)) (KK κ (arrOf t) x) with
      | true => exact wpS_pure (h x q t B1 g1 (Nat.le_of_lt g2) ni hq he)
      | false =>
        have same : KK κ (arrOf t) x = KK κ (arrOf t) (x - 1) := KeyOrd.kle_antisymm c2 c
        refine wpS_pure ⟨q + 1, rfl, B1, zc2 ni hx1 c2, Nat.succ_le_succ hq, fun i d1 d2 => ?_⟩
        show KK κ (arrOf t) i = KK κ (arrOf t) x
        by_cases di : i = x
        · rw [di]
        · rw [same]; exact he i (by omega) (by omega)
  · obtain ⟨q, rfl, B1, ni, hq, he⟩ := hI
    have e : max n m = m := Nat.max_eq_right hnm
    rw [e] at ni hq he ⊢
    exact h m q t B1 hnm (Nat.le_refl _) ni hq he
theorem YF {n m : Nat} {Q : Option Nat → SortSt → Prop} (L : zdS prog w A E s a₀ κ k) (hm : m ≤ a₀.size) (hnm : n + 1 ≤ m) (B : SB k a₀ st) (hs : NonIncK κ (arrOf st) (n + 1))
    (h : ∀ r t, SB k a₀ t → 1 ≤ r → r ≤ m → SortedToK κ (arrOf t) r → Q (some r) t) : wpS (model prog w) A E s (descPart n m) Q st := by
  unfold descPart
  refine wpS_bind (wpS_lift (wpAny_rule ⟨rfl, wpS_bind (zdJ L hm (by omega) hnm B hs fun r q t B1 r1 r2 ni hq he => ?_)⟩))
  have hz : r ≤ (arrOf t).size := by rw [B1.sz]; omega
  by_cases hq0 : q > 0
  · show wpS _ _ _ _ (if q > 0 then _ else _) _ _
    rw [if_pos hq0]
    exact wpS_bind (wpS_reverse (VJ (n := r) L hm (by omega) r2 (B1.put (mirror_perm _ _ _ _)) (ZE (KK_mirror_equal hz he) ni) h))
  · show wpS _ _ _ _ (if q > 0 then _ else _) _ _
    rw [if_neg hq0]
    exact VJ (n := r) L hm (by omega) r2 B1 ni h
theorem zeJ {m : Nat} {Q : Option Nat → SortSt → Prop} (L : zdS prog w A E s a₀ κ k) (hm : m ≤ a₀.size) (h1 : 1 ≤ m) (B : SB k a₀ st)
    (h : ∀ r t, SB k a₀ t → 1 ≤ r → r ≤ m → SortedToK κ (arrOf t) r → Q (some r) t) : wpS (model prog w) A E s (countRun' 0 m) Q st := by
  rw [countRun0_eq]
  refine wpS_bind (zbr L hm (Nat.le_refl 1) h1 B zaD fun n n1 n2 sn or => ?_)
  show wpS _ _ _ _ (if (n == m) = true then _ else if n > 1 then _ else _) _ _
  by_cases e : n = m
  · rw [if_pos (by rw [e]; exact beq_self_eq_true m)]
    exact wpS_pure (h n st B n1 n2 sn)
  · rw [if_neg (fun z => e (eq_of_beq z))]
    have lt := or.resolve_left e
    by_cases g : n > 1
    · rw [if_pos g]
      refine wpS_bind (L _ 0 (n - 1) _ B (by omega) (by omega) ?_)
      cases c : κ.blt (KK κ (arrOf st) 0) (KK κ (arrOf st) (n - 1)) with
      | true => exact wpS_pure (h n st B n1 n2 sn)
      | false =>
        have hz : n ≤ (arrOf st).size := by rw [B.sz]; omega
        have eq : ∀ i, 0 ≤ i → i < n → KK κ (arrOf st) i = KK κ (arrOf st) (n - 1) := fun i _ hi =>
          KeyOrd.kle_antisymm (sn i (n - 1) (by omega) (by omega)) (KeyOrd.kle_trans c (sn 0 i (by omega) hi))
        have ni : NonIncK κ (arrOf st) n := fun i j _ hj => by rw [eq i (by omega) (by omega), eq j (by omega) hj]; exact KeyOrd.kle_refl _
        exact wpS_bind (wpS_reverse (YF L hm (by omega) (B.put (mirror_perm _ _ _ _)) (ZE (KK_mirror_equal hz eq) (zc2 ni (by omega) (KeyOrd.kle_of_klt lt))) h))
    · rw [if_neg g]
      obtain rfl : n = 1 := by omega
      exact YF L hm (by omega) B (zc2 V5 (Nat.le_refl 1) (KeyOrd.kle_of_klt lt)) h
theorem zgc {l u md : Nat} (h : (l + u) / 2 = md) (c : ¬ l ≥ u) : l ≤ md ∧ md < u := by
  have c' : l < u := Nat.lt_of_not_le c
  rw [← h]
  exact ⟨(Nat.le_div_iff_mul_le (by decide)).mpr (by rw [Nat.mul_two]; exact Nat.add_le_add_left (Nat.le_of_lt c') l), (Nat.div_lt_iff_lt_mul (by decide)).mpr (by rw [Nat.mul_two]; exact Nat.add_lt_add_right c' u)⟩
theorem zhg {l u md x y : Nat} (m1 : l ≤ md) (m2 : md < u) (e3 : u - l ≤ x - y) : md - l ≤ x - (y + 1) :=
  Nat.le_trans (Nat.le_sub_one_of_lt (Nat.sub_lt_sub_right m1 m2)) (Nat.sub_le_sub_right e3 1)
theorem zg1 {l u md x y : Nat} (m1 : l ≤ md) (e3 : u - l ≤ x - y) : u - (md + 1) ≤ x - (y + 1) :=
  Nat.le_trans (Nat.sub_le_sub_left (Nat.succ_le_succ m1) u) (Nat.sub_le_sub_right e3 1)
theorem zf8 (r n : Nat) : min (max (max r 1) n) n = n := Nat.min_eq_right (Nat.le_max_right _ _)
theorem zgt {r n : Nat} (r0 : ¬ r = 0) (hr : r ≤ n) : min (max r 1) n = r := by
  rw [Nat.max_eq_left (Nat.pos_of_ne_zero r0), Nat.min_eq_left hr]
theorem zgM {i j r n : Nat} (hr : r = 0) (hij : i ≤ j) (hj : j < min (max r 1) n) : i = j := by
  subst hr
  have h0 : j = 0 := Nat.lt_one_iff.mp (Nat.lt_of_lt_of_le hj (Nat.min_le_left _ _))
  subst h0
  exact Nat.le_zero.mp hij
theorem zeU {n r : Nat} {Q : Bool → SortSt → Prop} (L : zdS prog w A E s a₀ κ k) (hn : n ≤ a₀.size) (hr : r ≤ n) (B : SB k a₀ st) (hs : SortedToK κ (arrOf st) r)
    (h : ∀ t, SB k a₀ t → SortedToK κ (arrOf t) n → Q true t) : wpS (model prog w) A E s (binarySort' 0 n r) Q st := by
  rw [binarySort'_eq]
  refine wpS_bind (wpS_mono (wpS_forRange (I := fun x c t => (c = (none, ()) ∧ SB k a₀ t) ∧ SortedToK κ (arrOf t) (min x n)) (Q := fun c t => (c = (none, ()) ∧ SB k a₀ t) ∧ SortedToK κ (arrOf t) n)
    (fun x c t g1 g2 hI => ?_) (fun c t hI => ?_) ⟨⟨rfl, B⟩, ?_⟩) fun c t hI => ?_)
  · obtain ⟨⟨rfl, B1⟩, sx⟩ := hI
    rw [Nat.min_eq_left (Nat.le_of_lt g2)] at sx
    have hx : x < a₀.size := Nat.lt_of_lt_of_le g2 hn
    refine wpS_bind (wpS_mono (wpS_forRange
      (I := fun y c t' => t' = t ∧ ∃ l u, c = (none, l, u) ∧ (l ≤ u ∧ u ≤ x ∧ u - l ≤ x - y) ∧ (∀ i, i < l → κ.kle (KK κ (arrOf t) i) (KK κ (arrOf t) x)) ∧ ∀ i, u ≤ i → i < x → κ.klt (KK κ (arrOf t) x) (KK κ (arrOf t) i))
      (Q := fun c t' => t' = t ∧ ∃ l u, c = (none, l, u) ∧ l ≤ x ∧ (∀ i, i < l → κ.kle (KK κ (arrOf t) i) (KK κ (arrOf t) x)) ∧ ∀ i, l ≤ i → i < x → κ.klt (KK κ (arrOf t) x) (KK κ (arrOf t) i))
      (fun y c t' y1 y2 hJ => ?_) (fun c t' hJ => ?_) ⟨rfl, 0, x, rfl, ⟨Nat.zero_le _, Nat.le_refl _, Nat.le_refl _⟩, fun i hi => absurd hi (Nat.not_lt_zero _), fun i i1 i2 => absurd (Nat.lt_of_le_of_lt i1 i2) (Nat.lt_irrefl _)⟩) fun c t' hJ => ?_)
    · obtain ⟨rfl, l, u, rfl, ⟨e1, e2, e3⟩, lo, up⟩ := hJ
      show wpS _ _ _ _ (if l ≥ u then _ else _) _ _
      by_cases c1 : l ≥ u
      · rw [if_pos c1]
        obtain rfl : l = u := Nat.le_antisymm e1 c1
        exact wpS_pure ⟨rfl, l, l, rfl, e2, lo, up⟩
      · rw [if_neg c1]
        generalize hmd : (l + u) / 2 = md
        obtain ⟨m1, m2⟩ := zgc hmd c1
        clear hmd c1 e1
        refine wpS_bind (L _ (0 + x) (0 + md) _ B1 (by rw [Nat.zero_add]; exact hx) (by rw [Nat.zero_add]; exact Nat.lt_of_lt_of_le m2 (Nat.le_trans e2 (Nat.le_of_lt hx))) ?_)
        rw [Nat.zero_add, Nat.zero_add]
        cases c2 : κ.blt (KK κ (arrOf t') x) (KK κ (arrOf t') md) with
        | true => exact wpS_pure ⟨rfl, l, md, rfl, ⟨m1, Nat.le_trans (Nat.le_of_lt m2) e2, zhg m1 m2 e3⟩, lo, fun i i1 i2 => KeyOrd.klt_of_klt_of_kle c2 (sx _ _ i1 i2)⟩
        | false => exact wpS_pure ⟨rfl, md + 1, u, rfl, ⟨m2, e2, zg1 m1 e3⟩, fun i i1 => KeyOrd.kle_trans (sx i md (Nat.le_of_lt_succ i1) (Nat.lt_of_lt_of_le m2 e2)) c2, up⟩
    · obtain ⟨rfl, l, u, rfl, ⟨e1, e2, e3⟩, lo, up⟩ := hJ
      obtain rfl : l = u := by omega
      exact ⟨rfl, l, l, rfl, e2, lo, up⟩
    · obtain ⟨rfl, l, u, rfl, e2, lo, up⟩ := hJ
      show wpS _ _ _ _ (do moveDown' (0 + x) (0 + l); pure (ForInStep.yield (none, ()))) _ _
      rw [moveDown'_eq, Nat.zero_add, Nat.zero_add]
      refine wpS_bind (wpS_modify (wpS_pure ⟨⟨rfl, B1.put (bubble_perm _ _ _)⟩, ?_⟩))
      have hz : x < (arrOf t').size := by rw [B1.sz]; exact hx
      rw [Nat.min_eq_left (Nat.succ_le_of_lt g2)]
      show SortedToK κ (bubble (arrOf t') x (x - l)) (x + 1)
      intro i j hij hj
      rw [KK_bubble hz (Nat.sub_le _ _), KK_bubble hz (Nat.sub_le _ _), Nat.sub_sub_self e2]
      by_cases i1 : i = l
      · rw [if_pos i1]
        by_cases j1 : j = l
        · rw [if_pos j1]; exact KeyOrd.kle_refl _
        · have lj : l < j := Nat.lt_of_le_of_ne (by rw [← i1]; exact hij) (fun e => j1 e.symm)
          rw [if_neg j1, if_pos ⟨lj, Nat.le_of_lt_succ hj⟩]; exact KeyOrd.kle_of_klt (up _ (Nat.le_sub_one_of_lt lj) (Nat.lt_of_lt_of_le (Nat.sub_lt (Nat.zero_lt_of_lt lj) Nat.one_pos) (Nat.le_of_lt_succ hj)))
      · rw [if_neg i1]
        by_cases i2 : l < i ∧ i ≤ x
        · have lj := Nat.lt_of_lt_of_le i2.1 hij
          rw [if_pos i2, if_neg (fun e => absurd lj (by rw [e]; exact Nat.lt_irrefl _)), if_pos ⟨lj, Nat.le_of_lt_succ hj⟩]; exact sx _ _ (Nat.sub_le_sub_right hij 1) (Nat.lt_of_lt_of_le (Nat.sub_lt (Nat.zero_lt_of_lt lj) Nat.one_pos) (Nat.le_of_lt_succ hj))
        · rw [if_neg i2]
          have i3 : i < l := Nat.lt_of_le_of_ne (Nat.le_of_not_lt fun h => i2 ⟨h, Nat.le_trans hij (Nat.le_of_lt_succ hj)⟩) i1
          clear i2 i1
          by_cases j1 : j = l
          · rw [if_pos j1]; exact lo i i3
          · rw [if_neg j1]
            by_cases j2 : l < j ∧ j ≤ x
            · rw [if_pos j2]; exact sx _ _ (Nat.le_sub_one_of_lt (Nat.lt_trans i3 j2.1)) (Nat.lt_of_lt_of_le (Nat.sub_lt (Nat.zero_lt_of_lt j2.1) Nat.one_pos) (Nat.le_of_lt_succ hj))
            · rw [if_neg j2]; exact sx _ _ hij (Nat.lt_of_lt_of_le (Nat.lt_of_le_of_ne (Nat.le_of_not_lt fun h => j2 ⟨h, Nat.le_of_lt_succ hj⟩) j1) e2)
  · obtain ⟨⟨e1, B1⟩, sx⟩ := hI
    rw [zf8] at sx
    exact ⟨⟨e1, B1⟩, sx⟩
  · by_cases r0 : r = 0
    · intro i j hij hj
      obtain rfl : i = j := zgM r0 hij hj
      exact KeyOrd.kle_refl _
    · rw [zgt r0 hr]; exact hs
  · obtain ⟨⟨rfl, B1⟩, sx⟩ := hI
    exact wpS_pure (h t B1 sx)
theorem zc9 {Q : Unit → SortSt → Prop} (L : zdS prog w A E s a₀ κ k) (B : SB k a₀ st) (h2 : 2 ≤ a₀.size) (h64 : a₀.size < 64)
    (h : ∀ t, (arrOf t).Perm a₀ → failedOf t = none → SortedToK κ (arrOf t) a₀.size → Q () t) : wpS (model prog w) A E s sortRuns' Q st := by
  rw [sortRuns'_eq]
  have mr : minRun' a₀.size a₀.size 0 = a₀.size := by
    cases e : a₀.size with
    | zero => omega
    | succ f => rw [minRun'_succ, if_pos (by omega), Nat.add_zero]
  refine wpS_bind (wpS_get ?_)
  simp only [B.sz, mr]
  let Dn : SortSt → Prop := fun t => (arrOf t).Perm a₀ ∧ failedOf t = none ∧ pendingOf t = #[(0, a₀.size, 0)] ∧ SortedToK κ (arrOf t) a₀.size
  have fin : ∀ t, SB k a₀ t → SortedToK κ (arrOf t) a₀.size → Dn (setPending t ((pendingOf t).push (0, a₀.size, 0))) := fun t B1 sx => ⟨B1.pm, B1.fl, by show (pendingOf t).push _ = _; rw [B1.pd]; rfl, sx⟩
  refine wpS_bind (wpS_mono (wpS_forRange (I := fun x c t => (x = 0 ∧ c = (none, 0) ∧ SB k a₀ t) ∨ (1 ≤ x ∧ c = (none, a₀.size) ∧ Dn t)) (Q := fun c t => c = (none, a₀.size) ∧ Dn t)
    (fun x c t g1 g2 hI => ?_) (fun c t hI => ?_) (.inl ⟨rfl, rfl, B⟩)) fun c t hI => ?_)
  · rcases hI with ⟨rfl, rfl, B1⟩ | ⟨_, rfl, D1⟩
    · show wpS _ _ _ _ (if 0 ≥ a₀.size then _ else _) _ _
      rw [if_neg (by omega)]
      simp only [Nat.sub_zero, Nat.min_self, Nat.zero_add]
      refine wpS_bind (zeJ L (Nat.le_refl _) (by omega) B1 fun r t2 B2 r1 r2 s2 => ?_)
      show wpS _ _ _ _ (if r < a₀.size then _ else _) _ _
      by_cases c1 : r < a₀.size
      · rw [if_pos c1]
        refine wpS_bind (wpS_lift (wpAny_rule ⟨rfl, wpS_bind (zeU L (Nat.le_refl _) r2 B2 s2 fun t3 B3 s3 => ?_)⟩))
        refine wpS_bind (wpS_get ?_)
        rw [show (pendingOf t3).back? = none by rw [B3.pd]; rfl]
        exact wpS_bind (wpS_modify (wpS_pure (.inr ⟨by omega, rfl, fin t3 B3 s3⟩)))
      · rw [if_neg c1]
        obtain rfl : r = a₀.size := by omega
        refine wpS_bind (wpS_get ?_)
        rw [show (pendingOf t2).back? = none by rw [B2.pd]; rfl]
        exact wpS_bind (wpS_modify (wpS_pure (.inr ⟨by omega, rfl, fin t2 B2 s2⟩)))
    · show wpS _ _ _ _ (if a₀.size ≥ a₀.size then _ else _) _ _
      rw [if_pos (Nat.le_refl _)]
      exact wpS_pure ⟨rfl, D1⟩
  · rcases hI with ⟨z, _, _⟩ | ⟨_, e, D1⟩
    · omega
    · exact ⟨e, D1⟩
  · obtain ⟨rfl, d1, d2, d3, d4⟩ := hI
    refine wpS_bind (wpS_mono (wpS_forRange (I := fun _ c t' => t' = t ∧ c = (none, ())) (Q := fun c t' => t' = t ∧ c = (none, ())) (fun x c t' _ _ hI => ?_) (fun _ _ z => z) ⟨rfl, rfl⟩) fun c t' hI => ?_)
    · obtain ⟨rfl, rfl⟩ := hI
      refine wpS_bind (wpS_get ?_)
      rw [if_pos (by rw [d3]; exact Nat.le_refl 1)]
      exact wpS_pure ⟨rfl, rfl⟩
    · obtain ⟨rfl, rfl⟩ := hI
      exact wpS_pure (h _ d1 d2 d4)
end
end OwnSort
namespace OwnSort
open PySem PyProof.Rows
noncomputable abbrev Pr := Int × Int
noncomputable def bltP (s t : Pr) : Bool := decide (s.1 < t.1 ∨ (s.1 = t.1 ∧ s.2 < t.2))
noncomputable def TP (h : Heap) (v : Value) (t : Pr) : Prop := ∃ a o n tx ty, v = .ref a ∧ h.get? a = some o ∧ o.cls = .type "tuple" ∧ o.data = .seq #[.int t.1 tx, .int t.2 ty] n
theorem TP.uniq {h : Heap} {v : Value} {s t : Pr} (x : TP h v s) (y : TP h v t) : s = t := by
  obtain ⟨a, o, n, tx, ty, rfl, e1, _, d1⟩ := x
  obtain ⟨b, o2, n2, ux, uy, e, e2, _, d2⟩ := y
  cases e
  rw [e1] at e2
  cases e2
  rw [d1] at d2
  injection d2 with d2 _
  have := congrArg Array.toList d2
  simp at this
  exact Prod.ext this.1.1 this.2.1
theorem TP.keep {h h' : Heap} {v : Value} {t : Pr} (x : TP h v t) (k : ∀ b o, h.get? b = some o → h'.get? b = some o) : TP h' v t := by
  obtain ⟨a, o, n, tx, ty, e, e1, r⟩ := x
  exact ⟨a, o, n, tx, ty, e, k _ _ e1, r⟩
open Classical in
noncomputable def keyP (h : Heap) (v : Value) : Option Pr := if x : ∃ t, TP h v t then some x.choose else none
theorem keyP_of {h : Heap} {v : Value} {t : Pr} (x : TP h v t) : keyP h v = some t := by
  unfold keyP
  have y : ∃ t, TP h v t := ⟨t, x⟩
  rw [dif_pos y, y.choose_spec.uniq x]
@[reducible] noncomputable def zdx (h : Heap) : KeyKind where
  α := Pr
  blt := bltP
  irrefl a := by unfold bltP; exact decide_eq_false (by omega)
  trans a b c h1 h2 := by unfold bltP at *; rw [decide_eq_true_eq] at *; omega
  negTrans a b c h := by unfold bltP at *; rw [decide_eq_true_eq] at *; rw [decide_eq_true_eq]; omega
  total a b h1 h2 := by
    unfold bltP at *
    rw [decide_eq_false_iff_not] at *
    exact Prod.ext (by omega) (by omega)
  keyOf := keyP h
  dflt := (0, 0)
theorem zck (b : Bool) (x y : Value) : keyLt' (tuples' b) x y = (do
    let xs ← Builtin.List.listItems x
    let ys ← Builtin.List.listItems y
    for ((p, q), i) in (xs.toList.zip ys.toList).zipIdx do
      if !(← eqBool p q) then return ← oneLt' (b && i == 0) p q
    return xs.size < ys.size) := rfl
theorem zbZ (v : Value) : firstOfTuple' v = (do
    if (← typeOf v) != .type "tuple" then return none
    return (← Builtin.List.listItems v)[0]?) := rfl
section
variable {prog : Program} {w : World} {A : Around} {E : Value → Shared → Prop} {s : Shared}
theorem lt0 {a b : Int} {t u : Tok} {Q : Bool → Shared → Prop} (h : Q (decide (a < b)) s) : wpAny (model prog w) A (oneLt' false (.int a t) (.int b u)) Q E s := by
  rw [oneLt'_eq]
  rw [if_neg Bool.false_ne_true]
  exact wpAny_bind (PyProof.Rows.lt_int (wpAny_truthy_bool h))
theorem zgf {x y : Value} {a b : Pr} {Q : Bool → Shared → Prop} (hx : TP s.heap x a) (hy : TP s.heap y b) (h : Q (bltP a b) s) : wpAny (model prog w) A (keyLt' (tuples' true) x y) Q E s := by
  obtain ⟨p, o, n, t1, t2, rfl, e1, _, d1⟩ := hx
  obtain ⟨q, o2, n2, u1, u2, rfl, e2, _, d2⟩ := hy
  rw [zck]
  refine wpAny_bind (listItems_at e1 d1 (wpAny_bind (listItems_at e2 d2 ?_)))
  simp only [List.zip_cons_cons, List.zip_nil_right, List.zipIdx_cons, List.zipIdx_nil, List.forIn_cons, List.forIn_nil]
  refine wpAny_bind (wpAny_bind (wpAny_bind (SeqAt.EqAt.int_int a.1 t1 b.1 u1 prog w E _ ?_)))
  by_cases c : a.1 = b.1
  · rw [show (a.1 == b.1) = true by rw [c]; exact beq_self_eq_true _]
    refine wpAny_pure (wpAny_bind (wpAny_bind (SeqAt.EqAt.int_int a.2 t2 b.2 u2 prog w E _ ?_)))
    by_cases c2 : a.2 = b.2
    · rw [show (a.2 == b.2) = true by rw [c2]; exact beq_self_eq_true _]
      refine wpAny_pure (wpAny_pure (wpAny_pure ?_))
      have : bltP a b = false := by unfold bltP; exact decide_eq_false (by omega)
      rw [this] at h
      exact h
    · rw [show (a.2 == b.2) = false by simpa using c2]
      refine wpAny_bind (lt0 (wpAny_pure (wpAny_pure (wpAny_pure ?_))))
      have : bltP a b = decide (a.2 < b.2) := by unfold bltP; congr 1; apply propext; omega
      rw [this] at h
      exact h
  · rw [show (a.1 == b.1) = false by simpa using c]
    refine wpAny_bind (oneLt_int (wpAny_pure (wpAny_pure (wpAny_pure ?_))))
    have : bltP a b = decide (a.1 < b.1) := by unfold bltP; congr 1; apply propext; omega
    rw [this] at h
    exact h
theorem zdj {vs : List Value} (hT : ∀ v ∈ vs, ∃ t, TP s.heap v t) : zdS prog w A E s (pairsOf vs) (zdx s.heap) (tuples' true) := by
  intro st i j Q B hi hj h
  have look : ∀ {i : Nat}, i < (pairsOf vs).size → ∃ x p t, (arrOf st)[i]? = some (x, p) ∧ TP s.heap x t ∧ KK (zdx s.heap) (arrOf st) i = t := fun {i} hi => by
    have hi' : i < (arrOf st).size := by rw [B.sz]; exact hi
    have hm : (arrOf st)[i] ∈ (pairsOf vs).toList := (Array.perm_iff_toList_perm.mp B.pm).mem_iff.mp (by simp)
    rw [pairsOf_toList] at hm
    obtain ⟨t, ht⟩ := hT _ (mem_zip_self hm).2
    refine ⟨(arrOf st)[i].1, (arrOf st)[i].2, t, getElem?_pos _ i hi', ht, ?_⟩
    unfold KK
    rw [getElem?_pos _ i hi']
    show (keyP s.heap (arrOf st)[i].1).getD _ = t
    rw [keyP_of ht]
    rfl
  obtain ⟨x, p, a, e1, ta, ka⟩ := look hi
  obtain ⟨y, q, b, e2, tb, kb⟩ := look hj
  rw [ka, kb] at h
  rw [ltAt'_eq]
  refine wpS_bind (wpS_get ?_)
  show wpS _ _ _ _ (elem' (arrOf st) i >>= fun x => elem' (arrOf st) j >>= fun y => lt' x y) Q st
  rw [elem'_eq, elem'_eq, e1, e2]
  refine wpS_bind (wpS_pure (wpS_bind (wpS_pure ?_)))
  rw [lt'_eq]
  refine wpS_bind (wpS_get ?_)
  rw [B.kd]
  exact wpS_bind (wpS_lift (wpAny_attempt (zgf ta tb ⟨rfl, wpS_pure h⟩)))
theorem WL : ∀ {vs : List Value} {Q : List (Option Value) → Shared → Prop}, (∀ v ∈ vs, ∃ t, TP s.heap v t) → (∀ fs : List Value, fs.length = vs.length → (∀ f ∈ fs, ∃ i t, f = .int i t) → Q (fs.map some) s) → wpAny (model prog w) A (vs.mapM firstOfTuple') Q E s
  | [], Q, _, h => by rw [List.mapM_nil]; exact wpAny_pure (h [] rfl (by simp))
  | v :: vs, Q, hT, h => by
    obtain ⟨t, a, o, n, t1, t2, rfl, e1, c1, d1⟩ := hT v List.mem_cons_self
    rw [List.mapM_cons, zbZ]
    refine wpAny_bind (wpAny_bind (wpAny_typeOf (T := "tuple") ⟨o, e1, c1⟩ ?_))
    rw [if_neg (by simp)]
    refine wpAny_bind (listItems_at e1 d1 (wpAny_pure (wpAny_bind (WL (fun u hu => hT u (List.mem_cons_of_mem _ hu)) fun fs hl hf => wpAny_pure ?_))))
    exact h (.int t.1 t1 :: fs) (by simp [hl]) fun f hf' => by
      rcases List.mem_cons.mp hf' with rfl | hf'
      · exact ⟨_, _, rfl⟩
      · exact hf f hf'
theorem V3 : ∀ {fs : List Value}, (∀ f ∈ fs, ∃ i t, f = .int i t) → fs.mapM typeOf = pure (fs.map fun _ => Value.type "int")
  | [], _ => by simp
  | f :: fs, h => by
    obtain ⟨i, t, rfl⟩ := h f List.mem_cons_self
    rw [List.mapM_cons, V3 fun g hg => h g (List.mem_cons_of_mem _ hg), show typeOf (.int i t) = pure (.type "int") from rfl]
    simp
theorem zaq {v₁ : Value} {vs : List Value} {Q : SortKind → Shared → Prop} (hT : ∀ v ∈ v₁ :: vs, ∃ t, TP s.heap v t) (h : Q (tuples' true) s) : wpAny (model prog w) A (keyKind' (v₁ :: vs).toArray) Q E s := by
  rw [keyKind'_eq, List.mapM_toArray, ← bind_pure_comp, bind_assoc]
  refine wpAny_bind (WL hT fun fs hl hf => wpAny_bind (wpAny_pure ?_))
  cases fs with
  | nil => simp at hl
  | cons f fs =>
    rw [if_pos (by simp)]
    have ef : ((f :: fs).map some).toArray.filterMap id = (f :: fs).toArray := by simp
    refine wpAny_bind (wpAny_rule ?_)
    rw [ef, oneTypeOnly'_eq, List.mapM_toArray, V3 hf]
    simp only [map_pure, pure_bind]
    rw [show (List.map (fun _ => Value.type "int") (f :: fs)).toArray[0]? = some (Value.type "int") by simp]
    have al : ((List.map (fun _ => Value.type "int") (f :: fs)).toArray.all fun x => x == Value.type "int") = true := by
      simp only [List.all_toArray, List.all_map, List.all_eq_true]
      intro _ _
      rfl
    simp only [al, if_true, pure_bind, Option.any_some]
    rw [show (Value.type "int" != Value.type "tuple") = true by decide +kernel]
    exact wpAny_pure h
end
end OwnSort
namespace OwnSort
open PySem PyProof.Rows
theorem TP.keepT {h h' : Heap} {v : Value} {t : Pr} (x : TP h v t) (k : ∀ b o, o.cls = .type "tuple" → h.get? b = some o → h'.get? b = some o) : TP h' v t := by
  obtain ⟨a, o, n, tx, ty, e, e1, c, r⟩ := x
  exact ⟨a, o, n, tx, ty, e, k _ _ c e1, c, r⟩
noncomputable def zhl (h : Heap) (out : List Value) : Prop := ∃ ts : List Pr, out.length = ts.length ∧ (∀ (i : Nat) (v : Value) (t : Pr), out[i]? = some v → ts[i]? = some t → TP h v t) ∧ ts.Pairwise fun a b => bltP b a = false
theorem zcq {h h' : Heap} {vs : List Value} {xs : Array Keyed} (hT : ∀ v ∈ vs, ∃ t, TP h v t) (hk : ∀ v t, TP h v t → TP h' v t) (pm : xs.Perm (pairsOf vs)) (hs : SortedToK (zdx h') xs (pairsOf vs).size) : (xs.map (·.2)).toList.Perm vs ∧ zhl h (xs.map (·.2)).toList := by
  have hl : xs.toList.Perm (vs.zip vs) := by rw [← pairsOf_toList]; exact Array.perm_iff_toList_perm.mp pm
  have hm : ∀ p ∈ xs.toList, p.1 = p.2 ∧ p.1 ∈ vs := fun p hp => mem_zip_self (hl.mem_iff.mp hp)
  have e2 : (xs.map (·.2)).toList = xs.toList.map (·.2) := by simp
  rw [e2]
  refine ⟨?_, xs.toList.map fun p => (keyP h' p.1).getD (0, 0), by simp, fun i v t hv ht => ?_, ?_⟩
  · have := hl.map (·.2)
    rwa [show (vs.zip vs).map (·.2) = vs from List.map_snd_zip (Nat.le_refl _)] at this
  · rw [List.getElem?_map] at hv ht
    cases hx : xs.toList[i]? with
    | none => rw [hx] at hv; cases hv
    | some p =>
      rw [hx] at hv ht
      cases hv
      cases ht
      obtain ⟨q1, q2⟩ := hm p (List.mem_of_getElem? hx)
      obtain ⟨t, ht⟩ := hT _ q2
      show TP h p.2 ((keyP h' p.1).getD (0, 0))
      rw [keyP_of (hk _ _ ht), ← q1]
      exact ht
  · rw [List.pairwise_iff_getElem]
    intro i j hi hj hij
    have hi' : i < xs.size := by simpa using hi
    have hj' : j < xs.size := by simpa using hj
    have := hs i j (Nat.le_of_lt hij) (by rw [← pm.size_eq]; exact hj')
    unfold KK at this
    rw [getElem?_pos xs i hi', getElem?_pos xs j hj'] at this
    have this : bltP ((keyP h' xs[j].1).getD (0, 0)) ((keyP h' xs[i].1).getD (0, 0)) = false := this
    simpa using this
section
variable {prog : Program} {w : World} {A : Around} {E : Value → Shared → Prop} {s : Shared}
theorem XI {a : Addr} {vs : List Value} {n : Nat} {P : Fin → Shared → Prop} (ho : s.heap.get? a = some (seqObj "list" vs.toArray n)) (hT : ∀ v ∈ vs, ∃ t, TP s.heap v t) (h64 : vs.length < 64)
    (h : ∀ out : Array Value, out.toList.Perm vs → zhl s.heap out.toList → P (.done (.ret .none)) { s with heap := sortedHeap s.heap a vs out }) : wpAny (model prog w) A (Builtin.«list.sort» ⟨[.ref a], []⟩) P E s := by
  have la : a < s.heap.objs.size := Heap.lt_size ho
  have zl : vs.toArray.size = vs.length := List.size_toArray
  obtain ⟨e1, o1⟩ : ∃ e1, (s.heap.update a (Obj.mapSeq fun _ => #[])).get? a = some (seqObj "list" #[] e1) := ⟨_, get?_update_seq ho (fun _ => #[])⟩
  have o6 : (((s.heap.update a (Obj.mapSeq fun _ => #[])).push (seqObj "tuple" vs.toArray 0)).push (seqObj "list" #[] 0)).get? a = some (seqObj "list" #[] e1) := Heap.get?_push_of_some _ (Heap.get?_push_of_some _ o1)
  have up : ∀ b o, o.cls = .type "tuple" → s.heap.get? b = some o → (((s.heap.update a (Obj.mapSeq fun _ => #[])).push (seqObj "tuple" vs.toArray 0)).push (seqObj "list" #[] 0)).get? b = some o := fun b o c e => by
    refine Heap.get?_push_of_some _ (Heap.get?_push_of_some _ ((Heap.get?_update_other _ _ fun z => ?_).trans e))
    subst z
    rw [ho] at e
    cases e
    exact absurd (show Value.type "list" = Value.type "tuple" from c) (by decide +kernel)
  have hT6 : ∀ v ∈ vs, ∃ t, TP (((s.heap.update a (Obj.mapSeq fun _ => #[])).push (seqObj "tuple" vs.toArray 0)).push (seqObj "list" #[] 0)) v t := fun v hv => let ⟨t, ht⟩ := hT v hv; ⟨t, ht.keepT up⟩
  rw [list_sort_plain]
  refine wpAny_bind (listItems_at ho rfl (wpAny_bind (listUpdate_at ho rfl (wpAny_bind (seqEpoch_at o1 rfl (wpAny_bind (wpAny_newTuple (wpAny_bind (wpAny_newList (wpAny_holding ?_))))))))))
  show wpAny (model prog w) A _ P E { s with heap := ((s.heap.update a (Obj.mapSeq fun _ => #[])).push (seqObj "tuple" vs.toArray 0)).push (seqObj "list" #[] 0) }
  by_cases c2 : vs.toArray.size < 2
  · rw [if_pos c2, if_pos c2]
    refine wpAny_bind (wpAny_pure ?_)
    dsimp only
    rw [StateT.run_pure]
    refine wpAny_bind (wpAny_pure ?_)
    obtain ⟨r1, r2⟩ := zcq (xs := pairsOf vs) hT (fun v t ht => ht) (Array.Perm.refl _) (fun i j hij hj => by
      obtain rfl : i = j := by rw [pairsOf_size] at hj; omega
      exact KeyOrd.kle_refl _)
    refine wpAny_bind (seqEpoch_at o6 rfl (wpAny_bind (listUpdate_at o6 rfl ?_ (hsz2 := by rw [Array.size_map]; show (pairsOf vs).size ≤ _; rw [pairsOf_size, sizeLine_eq]; omega))))
    rw [show (e1 != e1) = false by simp]
    exact wpAny_pure (h _ r1 r2)
  · rw [if_neg c2, if_neg c2]
    cases vs with
    | nil => simp at c2
    | cons v₁ rest =>
      refine wpAny_bind (zaq hT6 ?_)
      refine wpAny_bind (wpAny_mono (zc9 (st := SortSt.mk' (tuples' true) ((v₁ :: rest).toArray.zip (v₁ :: rest).toArray) #[] 7 none) (Q := fun _ t => (arrOf t).Perm (pairsOf (v₁ :: rest)) ∧ failedOf t = none ∧ SortedToK (zdx _) (arrOf t) (pairsOf (v₁ :: rest)).size)
        (zdj hT6) ⟨Array.Perm.refl _, rfl, rfl, rfl⟩ (by rw [pairsOf_size]; omega) (by rw [pairsOf_size]; exact h64) fun t p1 p2 p3 => ⟨p1, p2, p3⟩) ?_ fun _ _ e => e)
      rintro ⟨⟨⟩, t⟩ s' ⟨rfl, p1, p2, p3⟩
      obtain ⟨r1, r2⟩ := zcq hT (fun v t ht => ht.keepT up) p1 p3
      refine wpAny_bind (seqEpoch_at o6 rfl (wpAny_bind (listUpdate_at o6 rfl ?_ (hsz2 := by rw [Array.size_map]; show (arrOf t).size ≤ _; rw [p1.size_eq, pairsOf_size, sizeLine_eq]; omega))))
      rw [p2, show (e1 != e1) = false by simp]
      exact wpAny_pure (h _ r1 r2)
theorem own_sorted {l : Addr} {vs : List Value} {Q : Value → Shared → Prop} (hl : s.heap.IsList l vs.toArray) (hT : ∀ v ∈ vs, ∃ t, TP s.heap v t) (h64 : vs.length < 64)
    (h : ∀ out : Array Value, out.toList.Perm vs → zhl s.heap out.toList → Q (.ref (s.heap.objs.size + 1)) { s with heap := sortedAll s.heap vs out }) : wpAny (model prog w) A (call (.builtin "sorted") [.ref l]) Q E s := by
  have z1 : ((s.heap.push (seqObj "list" #[] 0)).update s.heap.objs.size (Obj.mapSeq (· ++ vs.toArray))).objs.size = s.heap.objs.size + 1 := (Heap.size_update ..).trans (size_push' _ _)
  have oL : (((s.heap.push (seqObj "list" #[] 0)).update s.heap.objs.size (Obj.mapSeq (· ++ vs.toArray))).push (seqObj "list" vs.toArray 0)).get? (s.heap.objs.size + 1) = some (seqObj "list" vs.toArray 0) := z1 ▸ Heap.get?_push_size _ rfl
  have up : ∀ b o, s.heap.get? b = some o → (((s.heap.push (seqObj "list" #[] 0)).update s.heap.objs.size (Obj.mapSeq (· ++ vs.toArray))).push (seqObj "list" vs.toArray 0)).get? b = some o := fun b o e =>
    Heap.get?_push_of_some _ ((Heap.get?_update_other _ _ fun z => by subst z; exact absurd (Heap.lt_size e) (Nat.lt_irrefl _)).trans (Heap.get?_push_of_some _ e))
  refine Calls.call_function_entry kind_sorted plain_sorted entry_sorted (args_sorted1 _) ?_
  unfold Builtin.«sorted»
  refine wpAny_bind (m := checkCount "sorted" 1 1 _) (wpAny_pure (wpAny_bind (collect_list hl (wpAny_bind (wpAny_newList ?_)))))
  show wpAny _ _ _ _ _ (Shared.mk (((s.heap.push (seqObj "list" #[] 0)).update s.heap.objs.size (Obj.mapSeq (· ++ vs.toArray))).push (seqObj "list" vs.toArray 0)) s.gens s.drawn s.toks s.os)
  rw [z1]
  refine wpAny_bind (wpAny_holding (wpAny_call_entry slot_list_sort ⟨_, oL, rfl⟩ entry_list_sort (XI oL (fun v hv => let ⟨t, ht⟩ := hT v hv; ⟨t, ht.keep up⟩) h64 fun out p1 p2 => ⟨_, rfl, wpAny_pure ⟨_, rfl, h out p1 ?_⟩⟩) (args_list_sort _)))
  obtain ⟨ts, q1, q2, q3⟩ := p2
  refine ⟨ts, q1, fun i v t hv ht => ?_, q3⟩
  obtain ⟨t0, ht0⟩ := hT v (p1.mem_iff.mp (List.mem_of_getElem? hv))
  rw [(q2 i v t hv ht).uniq (ht0.keep up)]
  exact ht0
end
end OwnSort
namespace Dl
open PySem L2
class KK where
  K : PySem.W.Frag
inductive D where
  | non | bl (b : Bool) | int (i : Int) | str (x : Str) | tup (ds : List D) | lst (ds : List D) | scr (ns : List Int)
    | dct (z t : Bool) (ks : List (List Key)) (vs : List D)
  deriving Inhabited
section
variable [KK]
noncomputable def zgu (o : HO) (t : Bool) (ks : List (List Key)) (xs : List V) : Prop :=
  if t = true then ∃ kvs, o = .dT kvs ∧ kvs.map (·.1) = ks ∧ kvs.map (·.2) = xs else ∃ kvs : List (Key × V), o = .dK kvs ∧ kvs.map (fun p => [p.1]) = ks ∧ kvs.map (·.2) = xs
noncomputable def Vk (H : Hp) (a : Addr) (z t : Bool) (ks : List (List Key)) (xs : List V) : Prop :=
  ∃ u, zgu u t ks xs ∧ if z = true then ∃ ob, H a = some (.frz ob u) else H a = some u
theorem Vk.mono {H H' : Hp} {a : Addr} {z t : Bool} {ks : List (List Key)} {xs : List V} (s : yB H H') (h : Vk H a z t ks xs) : Vk H' a z t ks xs := by
  obtain ⟨u, h1, h2⟩ := h
  refine ⟨u, h1, ?_⟩
  cases z with
  | true =>
    rw [if_pos rfl] at h2 ⊢
    obtain ⟨ob, h2⟩ := h2
    exact ⟨ob, s _ _ h2⟩
  | false =>
    rw [if_neg Bool.false_ne_true] at h2 ⊢
    exact s _ _ h2
theorem Vk.rd {H : Hp} {a : Addr} {z t : Bool} {ks : List (List Key)} {xs : List V} (h : Vk H a z t ks xs) : ∃ u, zgu u t ks xs ∧ Rd H a u := by
  obtain ⟨u, h1, h2⟩ := h
  refine ⟨u, h1, ?_⟩
  cases z with
  | true =>
    rw [if_pos rfl] at h2
    obtain ⟨ob, h2⟩ := h2
    exact .inr ⟨ob, h2⟩
  | false =>
    rw [if_neg Bool.false_ne_true] at h2
    exact .inl h2
mutual
noncomputable def At (H : Hp) : D → V → Prop
  | .non, v => v = .non
  | .bl b, v => v = .bl b
  | .int i, v => v = .int i
  | .str x, v => v = .str x
  | .tup ds, v => ∃ a xs, v = .ref a ∧ H a = some (.tup xs) ∧ AtL H ds xs
  | .lst ds, v => ∃ a xs, v = .ref a ∧ H a = some (.lst xs) ∧ AtL H ds xs
  | .scr ns, v => ∃ a, v = .ref a ∧ SqL KK.K H a (ns.map V.int)
  | .dct z t ks vs, v => ∃ a xs, v = .ref a ∧ Vk H a z t ks xs ∧ AtL H vs xs
noncomputable def AtL (H : Hp) : List D → List V → Prop
  | [], xs => xs = []
  | d :: ds, xs => ∃ x r, xs = x :: r ∧ At H d x ∧ AtL H ds r
end
mutual
theorem At.mono {H H' : Hp} (s : yB H H') : ∀ {d : D} {v : V}, At H d v → At H' d v
  | .non, _, h => by unfold At at h ⊢; exact h
  | .bl _, _, h => by unfold At at h ⊢; exact h
  | .int _, _, h => by unfold At at h ⊢; exact h
  | .str _, _, h => by unfold At at h ⊢; exact h
  | .tup ds, _, h => by
    unfold At at h ⊢
    obtain ⟨a, xs, e, hx, hl⟩ := h
    exact ⟨a, xs, e, s _ _ hx, AtL.mono s hl⟩
  | .lst ds, _, h => by
    unfold At at h ⊢
    obtain ⟨a, xs, e, hx, hl⟩ := h
    exact ⟨a, xs, e, s _ _ hx, AtL.mono s hl⟩
  | .scr ns, _, h => by
    unfold At at h ⊢
    obtain ⟨a, e, hx⟩ := h
    exact ⟨a, e, s.seq hx⟩
  | .dct z t ks vs, _, h => by
    unfold At at h ⊢
    obtain ⟨a, xs, e, hx, hl⟩ := h
    exact ⟨a, xs, e, hx.mono s, AtL.mono s hl⟩
theorem AtL.mono {H H' : Hp} (s : yB H H') : ∀ {ds : List D} {xs : List V}, AtL H ds xs → AtL H' ds xs
  | [], _, h => by unfold AtL at h ⊢; exact h
  | d :: ds, _, h => by
    unfold AtL at h ⊢
    obtain ⟨x, r, e, h1, h2⟩ := h
    exact ⟨x, r, e, At.mono s h1, AtL.mono s h2⟩
end
mutual
noncomputable def noL : D → Bool
  | .tup ds => zde ds
  | .lst _ => false
  | .scr _ => false
  | .dct _ _ _ _ => false
  | _ => true
noncomputable def zde : List D → Bool
  | [] => true
  | d :: ds => noL d && zde ds
end
mutual
theorem At.flat {G F : Hp} (h : ∀ q xs, G q = some (.tup xs) → F q = some (.tup xs)) : ∀ {d : D} {v : V}, noL d = true → At G d v → At F d v
  | .non, _, _, a => by unfold At at a ⊢; exact a
  | .bl _, _, _, a => by unfold At at a ⊢; exact a
  | .int _, _, _, a => by unfold At at a ⊢; exact a
  | .str _, _, _, a => by unfold At at a ⊢; exact a
  | .tup ds, _, n, a => by
    unfold At at a ⊢
    unfold noL at n
    obtain ⟨p, xs, e, hx, hl⟩ := a
    exact ⟨p, xs, e, h _ _ hx, AtL.flat h n hl⟩
  | .lst ds, _, n, _ => by unfold noL at n; cases n
  | .scr ds, _, n, _ => by unfold noL at n; cases n
  | .dct _ _ _ _, _, n, _ => by unfold noL at n; cases n
theorem AtL.flat {G F : Hp} (h : ∀ q xs, G q = some (.tup xs) → F q = some (.tup xs)) : ∀ {ds : List D} {xs : List V}, zde ds = true → AtL G ds xs → AtL F ds xs
  | [], _, _, a => by unfold AtL at a ⊢; exact a
  | d :: ds, _, n, a => by
    unfold AtL at a ⊢
    unfold zde at n
    rw [Bool.and_eq_true] at n
    obtain ⟨x, r, e, h1, h2⟩ := a
    exact ⟨x, r, e, At.flat h n.1 h1, AtL.flat h n.2 h2⟩
end
section
variable {H H' : Hp} {d : D} {ds es : List D} {v x : V} {xs ys : List V}
theorem At.int {i : Int} : At H (.int i) (.int i) := by unfold At; rfl
theorem At.bl {b : Bool} : At H (.bl b) (.bl b) := by unfold At; rfl
theorem At.non : At H .non .non := by unfold At; rfl
theorem At.str {y : Str} : At H (.str y) (.str y) := by unfold At; rfl
theorem At.tup {a : Addr} (h : H a = some (.tup xs)) (hl : AtL H ds xs) : At H (.tup ds) (.ref a) := by unfold At; exact ⟨a, xs, rfl, h, hl⟩
theorem At.lst {a : Addr} (h : H a = some (.lst xs)) (hl : AtL H ds xs) : At H (.lst ds) (.ref a) := by unfold At; exact ⟨a, xs, rfl, h, hl⟩
theorem AtL.nil : AtL H [] [] := by unfold AtL; rfl
theorem AtL.cons (h : At H d x) (hl : AtL H ds xs) : AtL H (d :: ds) (x :: xs) := by unfold AtL; exact ⟨x, xs, rfl, h, hl⟩
theorem At.int_inv {i : Int} (h : At H (.int i) v) : v = .int i := by unfold At at h; exact h
theorem At.bl_inv {b : Bool} (h : At H (.bl b) v) : v = .bl b := by unfold At at h; exact h
theorem At.non_inv (h : At H .non v) : v = .non := by unfold At at h; exact h
theorem At.str_inv {y : Str} (h : At H (.str y) v) : v = .str y := by unfold At at h; exact h
theorem At.tup_inv (h : At H (.tup ds) v) : ∃ a xs, v = .ref a ∧ H a = some (.tup xs) ∧ AtL H ds xs := by unfold At at h; exact h
theorem At.lst_inv (h : At H (.lst ds) v) : ∃ a xs, v = .ref a ∧ H a = some (.lst xs) ∧ AtL H ds xs := by unfold At at h; exact h
theorem At.scr_inv {ns : List Int} (h : At H (.scr ns) v) : ∃ a, v = .ref a ∧ SqL KK.K H a (ns.map V.int) := by unfold At at h; exact h
theorem At.dct_inv {z t : Bool} {ks : List (List Key)} {vs : List D} (h : At H (.dct z t ks vs) v) : ∃ a xs, v = .ref a ∧ Vk H a z t ks xs ∧ AtL H vs xs := by unfold At at h; exact h
theorem AtL.nil_inv (h : AtL H [] xs) : xs = [] := by unfold AtL at h; exact h
theorem AtL.cons_inv (h : AtL H (d :: ds) xs) : ∃ x r, xs = x :: r ∧ At H d x ∧ AtL H ds r := by unfold AtL at h; exact h
theorem AtL.length : ∀ {ds : List D} {xs : List V}, AtL H ds xs → xs.length = ds.length
  | [], _, h => by rw [h.nil_inv]; rfl
  | _ :: _, _, h => by
    obtain ⟨x, r, rfl, _, h2⟩ := h.cons_inv
    rw [List.length_cons, List.length_cons, AtL.length h2]
theorem AtL.get : ∀ {ds : List D} {xs : List V} {i : Nat} {d : D}, AtL H ds xs → ds[i]? = some d → ∃ x, xs[i]? = some x ∧ At H d x
  | [], _, _, _, _, e => by simp at e
  | _ :: _, _, i, _, h, e => by
    obtain ⟨x, r, rfl, h1, h2⟩ := h.cons_inv
    cases i with
    | zero =>
      simp at e
      subst e
      exact ⟨x, rfl, h1⟩
    | succ i =>
      obtain ⟨y, hy, ha⟩ := AtL.get (i := i) h2 (by simpa using e)
      exact ⟨y, by simpa using hy, ha⟩
theorem AtL.append : ∀ {ds es : List D} {xs ys : List V}, AtL H ds xs → AtL H es ys → AtL H (ds ++ es) (xs ++ ys)
  | [], _, _, _, h, k => by rw [h.nil_inv]; exact k
  | _ :: _, _, _, _, h, k => by
    obtain ⟨x, r, rfl, h1, h2⟩ := h.cons_inv
    exact .cons h1 (AtL.append h2 k)
theorem AtL.snoc (h : AtL H ds xs) (k : At H d v) : AtL H (ds ++ [d]) (xs ++ [v]) := h.append (.cons k .nil)
theorem AtL.take : ∀ (n : Nat) {ds : List D} {xs : List V}, AtL H ds xs → AtL H (ds.take n) (xs.take n)
  | 0, _, _, _ => by simpa using AtL.nil
  | n + 1, [], _, h => by rw [h.nil_inv]; simpa using AtL.nil
  | n + 1, _ :: _, _, h => by
    obtain ⟨x, r, rfl, h1, h2⟩ := h.cons_inv
    rw [List.take_succ_cons, List.take_succ_cons]
    exact .cons h1 (AtL.take n h2)
theorem AtL.drop : ∀ (n : Nat) {ds : List D} {xs : List V}, AtL H ds xs → AtL H (ds.drop n) (xs.drop n)
  | 0, _, _, h => h
  | n + 1, [], _, h => by rw [h.nil_inv]; simpa using AtL.nil
  | n + 1, _ :: _, _, h => by
    obtain ⟨x, r, rfl, h1, h2⟩ := h.cons_inv
    rw [List.drop_succ_cons, List.drop_succ_cons]
    exact AtL.drop n h2
theorem AtL.rep (h : AtL H ds xs) : ∀ k : Nat, AtL H (List.replicate k ds).flatten (List.replicate k xs).flatten
  | 0 => .nil
  | k + 1 => by
    rw [List.replicate_succ, List.replicate_succ, List.flatten_cons, List.flatten_cons]
    exact h.append (AtL.rep h k)
theorem AtL.ints (ns : List Int) : AtL H (ns.map D.int) (ns.map V.int) := by
  induction ns with
  | nil => exact .nil
  | cons n r ih => exact .cons .int ih
theorem AtL.of_ints : ∀ {ns : List Int} {xs : List V}, AtL H (ns.map D.int) xs → xs = ns.map V.int
  | [], _, h => h.nil_inv
  | n :: r, _, h => by
    obtain ⟨x, r', rfl, h1, h2⟩ := AtL.cons_inv (by simpa using h)
    rw [h1.int_inv, AtL.of_ints h2]
    rfl
end
noncomputable def tyN : D → String
  | .non => "NoneType" | .bl _ => "bool" | .int _ => "int" | .str _ => "str" | .tup _ => "tuple" | .lst _ => "list" | .scr _ => "list" | .dct _ _ _ _ => "dict"
noncomputable def Hid (F' : Hp) (p : Addr) (o : HO) : Prop := F' p = none ∨ ((∃ xs, o = .tup xs) ∧ F' p = some o)
noncomputable def Keep (F H F' H' : Hp) : Prop := ∀ p o, F p = none → H p = some o → Hid F' p o ∧ H' p = some o
set_option genInjectivity false in
set_option genSizeOf false in
set_option genCtorIdx false in
structure Gr (F H F' H' : Hp) : Prop where
  ff : yB F F'
  fh : yB F' H'
  kp : Keep F H F' H'
theorem Gr.refl {F H : Hp} (s : yB F H) : Gr F H F H := ⟨yB.refl _, s, fun _ _ a b => ⟨.inl a, b⟩⟩
theorem Gr.trans {F H F1 H1 F2 H2 : Hp} (a : Gr F H F1 H1) (b : Gr F1 H1 F2 H2) : Gr F H F2 H2 :=
  ⟨a.ff.trans b.ff, b.fh, fun p o e1 e2 => by
    obtain ⟨x, y⟩ := a.kp p o e1 e2
    rcases x with x | ⟨x1, x2⟩
    · exact b.kp p o x y
    · exact ⟨.inr ⟨x1, b.ff _ _ x2⟩, b.fh _ _ (b.ff _ _ x2)⟩⟩
theorem Gr.kl {F H F' H' : Hp} {p : Addr} {o : HO} (g : Gr F H F' H') (n : ∀ xs, o ≠ .tup xs) (e1 : F p = none) (e2 : H p = some o) : F' p = none ∧ H' p = some o := by
  obtain ⟨x, y⟩ := g.kp p o e1 e2
  rcases x with x | ⟨⟨xs, x1⟩, _⟩
  · exact ⟨x, y⟩
  · exact absurd x1 (n xs)
theorem Gr.alloc {F H : Hp} {p : Addr} (s : yB F H) (h : H p = none) (o : HO) : Gr F H (upd F p o) (upd H p o) := by
  have hF : F p = none := s.free h
  refine ⟨fun b u q => ?_, fun b u q => ?_, fun b u q r => ?_⟩
  · rw [zr (zn q hF)]; exact q
  · by_cases e : b = p
    · subst e; rw [zp] at q ⊢; exact q
    · rw [zr e] at q ⊢; exact s b u q
  · have e : b ≠ p := zn r h
    rw [zr e]; exact ⟨.inl (by rw [zr e]; exact q), r⟩
theorem Gr.hide {F H : Hp} {p : Addr} (s : yB F H) (h : H p = none) (o : HO) : Gr F H F (upd H p o) := by
  refine ⟨yB.refl _, fun b u q => ?_, fun b u q r => ?_⟩
  · rw [zr (zn (s b u q) h)]; exact s b u q
  · have e : b ≠ p := zn r h
    rw [zr e]; exact ⟨.inl q, r⟩
theorem Gr.show {F H : Hp} {p : Addr} {o : HO} {F0 H0 : Hp} (g : Gr F0 H0 F H) (h0 : H0 p = none) (hF : F p = none) (h : H p = some o) : Gr F0 H0 (upd F p o) H := by
  refine ⟨fun b u q => ?_, fun b u q => ?_, fun b u q r => ?_⟩
  · have := g.ff b u q
    rw [zr (zn this hF)]; exact this
  · by_cases e : b = p
    · subst e; rw [zp] at q; rw [← q]; exact h
    · rw [zr e] at q; exact g.fh b u q
  · have e : b ≠ p := zn r h0
    obtain ⟨x, y⟩ := g.kp b u q r
    refine ⟨?_, y⟩
    unfold Hid
    rw [zr e]
    exact x
noncomputable abbrev Ev := List (Option D)
noncomputable def VAt (F : Hp) (ρ : Ev) (σ : St) : Prop := ∀ (i : Nat) (d : D), ρ[i]? = some (some d) → ∃ v, σ[i]? = some (some v) ∧ At F d v
theorem VAt.mono {F F' : Hp} {ρ : Ev} {σ : St} (h : VAt F ρ σ) (s : yB F F') : VAt F' ρ σ := fun i d e => let ⟨v, e1, a⟩ := h i d e; ⟨v, e1, a.mono s⟩
noncomputable def RE (t : TE) (f : Ev → Option D) : Prop :=
  ∀ (σ : St) (ρ : Ev) (F H : Hp) (d : D) (Q : VK), yB F H → VAt F ρ σ → f ρ = some d → (∀ F' H' v, Gr F H F' H' → At F' d v → Q v H') → t σ H Q
noncomputable def RT (t : TT) (f : Ev → Option Bool) : Prop :=
  ∀ (σ : St) (ρ : Ev) (F H : Hp) (b : Bool) (Q : Bool → Hp → Prop), yB F H → VAt F ρ σ → f ρ = some b → (∀ F' H', Gr F H F' H' → Q b H') → t σ H Q
noncomputable def RA (t : TA) (f : Ev → Option (List D)) : Prop :=
  ∀ (σ : St) (ρ : Ev) (F H : Hp) (ds : List D) (Q : List V → Hp → Prop), yB F H → VAt F ρ σ → f ρ = some ds → (∀ F' H' vs, Gr F H F' H' → AtL F' ds vs → Q vs H') → t σ H Q
noncomputable def RF (t : TE) (f : Ev → Option (List D)) : Prop :=
  ∀ (σ : St) (ρ : Ev) (F H : Hp) (ds : List D) (Q : VK), yB F H → VAt F ρ σ → f ρ = some ds → (∀ F' H' p xs, Gr F H F' H' → H p = none → F' p = none → H' p = some (.lst xs) → AtL F' ds xs → Q (.ref p) H') → t σ H Q
noncomputable def ED (X : Cx) (e : Expr) (f : Ev → Option D) : Prop := ∃ t, PE X e t ∧ RE t f
noncomputable def TD (X : Cx) (e : Expr) (f : Ev → Option Bool) : Prop := ∃ t, PT X e t ∧ RT t f
noncomputable def WD (X : Cx) (e : Expr) (f : Ev → Option Bool) : Prop := ∃ t, PW X e t ∧ RT t f
noncomputable def AD (X : Cx) (es : List Expr) (f : Ev → Option (List D)) : Prop := ∃ t, PA X es t ∧ RA t f
noncomputable def FL (X : Cx) (e : Expr) (f : Ev → Option (List D)) : Prop := ∃ t, PE X e t ∧ RF t f
section
variable {X : Cx} {a b c : Expr} {pos : Pos}
noncomputable def x8 (f : Ev → Option (List D)) : Ev → Option D := fun ρ => (f ρ).map .lst
theorem wF {f : Ev → Option (List D)} (h : FL X a f) : ED X a (x8 f) := by
  obtain ⟨t, ht, r⟩ := h
  refine ⟨t, ht, fun σ ρ F H d Q s va e q => ?_⟩
  obtain ⟨ds, e1, rfl⟩ := Option.map_eq_some_iff.mp e
  refine r σ ρ F H ds Q s va e1 fun F' H' p xs g h0 hF hH hx => ?_
  have g2 := g.show h0 hF hH
  exact q _ _ _ g2 (At.lst zp (hx.mono (fun b u e => by rw [zr (zn e hF)]; exact e)))
noncomputable def zf (i : Nat) : Ev → Option D := fun ρ => (ρ[i]?).getD none
theorem za (i : Nat) (h : PE X a (zgq i)) : ED X a (zf i) := by
  refine ⟨_, h, fun σ ρ F H d Q s va e q => ?_⟩
  have e' : ρ[i]? = some (some d) := by
    unfold zf at e
    cases h : ρ[i]? with
    | none => rw [h] at e; cases e
    | some x => rw [h] at e; cases x with
      | none => cases e
      | some y => cases e; rfl
  obtain ⟨v, e1, a1⟩ := va i d e'
  exact ⟨v, e1, q _ _ _ (.refl s) a1⟩
noncomputable def eC (d : D) : Ev → Option D := fun _ => some d
theorem ze {i : Int} (h : PE X a (tC (.int i))) : ED X a (eC (.int i)) := ⟨_, h, fun _ _ _ _ _ _ s _ e q => by cases e; exact q _ _ _ (.refl s) .int⟩
theorem wJ {i : Bool} (h : PE X a (tC (.bl i))) : ED X a (eC (.bl i)) := ⟨_, h, fun _ _ _ _ _ _ s _ e q => by cases e; exact q _ _ _ (.refl s) .bl⟩
theorem zdT (h : PE X a (tC .non)) : ED X a (eC .non) := ⟨_, h, fun _ _ _ _ _ _ s _ e q => by cases e; exact q _ _ _ (.refl s) .non⟩
noncomputable def OpD (r : R2) (g : D → D → Option D) : Prop :=
  ∀ (F H : Hp) (x y : V) (d e z : D) (Q : VK), yB F H → At F d x → At F e y → g d e = some z → (∀ F' H' v, Gr F H F' H' → At F' z v → Q v H') → r x y H Q
noncomputable def zm (g : D → D → Option D) (f h : Ev → Option D) : Ev → Option D := fun ρ => (f ρ).bind fun x => (h ρ).bind fun y => g x y
theorem zc7 {r : R2} {g : D → D → Option D} {ta tb : TE} {f h : Ev → Option D} (hg : OpD r g) (ra : RE ta f) (rb : RE tb h) : RE (tOp r ta tb) (zm g f h) := by
  intro σ ρ F H z Q s va e q
  obtain ⟨x, e1, e⟩ := Option.bind_eq_some_iff.mp e
  obtain ⟨y, e2, e⟩ := Option.bind_eq_some_iff.mp e
  refine ra σ ρ F H x _ s va e1 fun F1 H1 v g1 a1 => ?_
  refine rb σ ρ F1 H1 y _ g1.fh (va.mono g1.ff) e2 fun F2 H2 u g2 a2 => ?_
  exact hg F2 H2 v u x y z Q g2.fh (a1.mono g2.ff) a2 e fun F3 H3 w g3 a3 => q F3 H3 w ((g1.trans g2).trans g3) a3
theorem Z9 {op : Operator} {r : R2} {g : D → D → Option D} {f h : Ev → Option D} (ho : OpR X (binaryOp op) r) (hg : OpD r g) (ha : ED X a f) (hb : ED X b h) : ED X (.BinOp a op b pos) (zm g f h) :=
  let ⟨_, pa, ra⟩ := ha
  let ⟨_, pb, rb⟩ := hb
  ⟨_, zhp ho pa pb, zc7 hg ra rb⟩
theorem Wl {op : CmpOp} {r : R2} {g : D → D → Option D} {f h : Ev → Option D} (ho : OpR X (compareOp op) r) (hg : OpD r g) (hm : behindInMarks op b = false) (ha : ED X a f) (hb : ED X b h) : ED X (.Compare a [op] [b] pos) (zm g f h) :=
  let ⟨_, pa, ra⟩ := ha
  let ⟨_, pb, rb⟩ := hb
  ⟨_, zei ho pa pb hm, zc7 hg ra rb⟩
noncomputable def asB : D → Option Bool
  | .bl b => some b
  | _ => none
theorem Y9 {d : D} {b : Bool} (h : asB d = some b) : d = .bl b := by
  cases d <;> first | (cases h; rfl) | cases h
noncomputable def tOf (f : Ev → Option D) : Ev → Option Bool := fun ρ => (f ρ).bind asB
theorem zf9 {t : TE} {f : Ev → Option D} (r : RE t f) : RT (zf2 t) (tOf f) := by
  intro σ ρ F H b Q s va e q
  obtain ⟨x, e1, e⟩ := Option.bind_eq_some_iff.mp e
  cases Y9 e
  exact r σ ρ F H _ _ s va e1 fun F1 H1 v g1 a1 => ⟨b, a1.bl_inv, q F1 H1 g1⟩
theorem zQ {op : CmpOp} {r : R2} {g : D → D → Option D} {f h : Ev → Option D} (ho : OpR X (compareOp op) r) (hg : OpD r g) (hm : behindInMarks op b = false) (ha : ED X a f) (hb : ED X b h) : TD X (.Compare a [op] [b] pos) (tOf (zm g f h)) :=
  let ⟨_, pa, ra⟩ := ha
  let ⟨_, pb, rb⟩ := hb
  ⟨_, zeD ho pa pb hm, zf9 (zc7 hg ra rb)⟩
theorem xF {f : Ev → Option D} (ha : ED X a f) (he : ∀ whole, isTrue a X.env whole = (do let v ← whole; standAt a.pos; holding [v] (truthy v)) := by intro _; rfl) : TD X a (tOf f) :=
  let ⟨_, pa, ra⟩ := ha
  ⟨_, zgE pa he, zf9 ra⟩
noncomputable def wR (f g : Ev → Option Bool) : Ev → Option Bool := fun ρ => (f ρ).bind fun c => if c = true then g ρ else some false
noncomputable def XW (f g : Ev → Option Bool) : Ev → Option Bool := fun ρ => (f ρ).bind fun c => if c = true then some true else g ρ
noncomputable def xY (f : Ev → Option Bool) : Ev → Option Bool := fun ρ => (f ρ).map (!·)
theorem Zg {f : Ev → Option Bool} (ha : TD X a f) : WD X (.BoolOp .And [a] pos) f := let ⟨_, pa, ra⟩ := ha; ⟨_, zeM pa, ra⟩
theorem Xd {f : Ev → Option Bool} (ha : TD X a f) : WD X (.BoolOp .Or [a] pos) f := let ⟨_, pa, ra⟩ := ha; ⟨_, zgJ pa, ra⟩
theorem Wn {rest : List Expr} {f g : Ev → Option Bool} (ha : TD X a f) (hb : WD X (.BoolOp .And (b :: rest) pos) g) : WD X (.BoolOp .And (a :: b :: rest) pos) (wR f g) := by
  obtain ⟨ta, pa, ra⟩ := ha
  obtain ⟨tb, pb, rb⟩ := hb
  refine ⟨_, zf7 pa pb, fun σ ρ F H z Q s va e q => ?_⟩
  obtain ⟨x, e1, e⟩ := Option.bind_eq_some_iff.mp e
  refine ra σ ρ F H x _ s va e1 fun F1 H1 g1 => ?_
  cases x with
  | true =>
    rw [if_pos rfl] at e ⊢
    exact rb σ ρ F1 H1 z Q g1.fh (va.mono g1.ff) e fun F2 H2 g2 => q F2 H2 (g1.trans g2)
  | false =>
    rw [if_neg Bool.false_ne_true] at e ⊢
    cases e
    exact q F1 H1 g1
theorem Vy {rest : List Expr} {f g : Ev → Option Bool} (ha : TD X a f) (hb : WD X (.BoolOp .Or (b :: rest) pos) g) : WD X (.BoolOp .Or (a :: b :: rest) pos) (XW f g) := by
  obtain ⟨ta, pa, ra⟩ := ha
  obtain ⟨tb, pb, rb⟩ := hb
  refine ⟨_, zhy pa pb, fun σ ρ F H z Q s va e q => ?_⟩
  obtain ⟨x, e1, e⟩ := Option.bind_eq_some_iff.mp e
  refine ra σ ρ F H x _ s va e1 fun F1 H1 g1 => ?_
  cases x with
  | false =>
    rw [if_neg Bool.false_ne_true] at e ⊢
    exact rb σ ρ F1 H1 z Q g1.fh (va.mono g1.ff) e fun F2 H2 g2 => q F2 H2 (g1.trans g2)
  | true =>
    rw [if_pos rfl] at e ⊢
    cases e
    exact q F1 H1 g1
theorem zcB {f : Ev → Option Bool} (h : WD X a f) : TD X a f := let ⟨_, p, r⟩ := h; ⟨_, p.pt, r⟩
theorem wq {f : Ev → Option Bool} (ha : TD X a f) : TD X (.UnaryOp .Not a pos) (xY f) := by
  obtain ⟨ta, pa, ra⟩ := ha
  refine ⟨_, zfT pa, fun σ ρ F H z Q s va e q => ?_⟩
  obtain ⟨x, e1, rfl⟩ := Option.map_eq_some_iff.mp e
  exact ra σ ρ F H x _ s va e1 fun F1 H1 g1 => q F1 H1 g1
noncomputable def XV (f g : Ev → Option D) : Ev → Option D := fun ρ => ((f ρ).bind asB).bind fun c => if c = true then g ρ else some (.bl false)
noncomputable def eOr (f g : Ev → Option D) : Ev → Option D := fun ρ => ((f ρ).bind asB).bind fun c => if c = true then some (.bl true) else g ρ
noncomputable def zcW (f : Ev → Option D) : Ev → Option D := fun ρ => ((f ρ).bind asB).map fun c => .bl (!c)
theorem YG {op} {f : Ev → Option D} (ha : ED X a f) : ED X (.BoolOp op [a] pos) f := let ⟨_, pa, ra⟩ := ha; ⟨_, zfX pa, ra⟩
theorem Ye {rest : List Expr} {f g : Ev → Option D} (ha : ED X a f) (hb : ED X (.BoolOp .And (b :: rest) pos) g) : ED X (.BoolOp .And (a :: b :: rest) pos) (XV f g) := by
  obtain ⟨ta, pa, ra⟩ := ha
  obtain ⟨tb, pb, rb⟩ := hb
  refine ⟨_, zgg pa pb, fun σ ρ F H z Q s va e q => ?_⟩
  obtain ⟨x, e1, e⟩ := Option.bind_eq_some_iff.mp e
  obtain ⟨y, e1, e2⟩ := Option.bind_eq_some_iff.mp e1
  cases Y9 e2
  refine ra σ ρ F H _ _ s va e1 fun F1 H1 v g1 a1 => ⟨x, a1.bl_inv, ?_⟩
  cases x with
  | true =>
    rw [if_pos rfl] at e ⊢
    exact rb σ ρ F1 H1 z Q g1.fh (va.mono g1.ff) e fun F2 H2 w g2 a2 => q F2 H2 w (g1.trans g2) a2
  | false =>
    rw [if_neg Bool.false_ne_true] at e ⊢
    cases e
    exact q F1 H1 _ g1 .bl
theorem zdU {f : Ev → Option D} (ha : ED X a f) : ED X (.UnaryOp .Not a pos) (zcW f) := by
  obtain ⟨ta, pa, ra⟩ := ha
  refine ⟨_, zgy pa, fun σ ρ F H z Q s va e q => ?_⟩
  obtain ⟨x, e1, rfl⟩ := Option.map_eq_some_iff.mp e
  obtain ⟨y, e1, e2⟩ := Option.bind_eq_some_iff.mp e1
  cases Y9 e2
  exact ra σ ρ F H _ _ s va e1 fun F1 H1 v g1 a1 => ⟨x, a1.bl_inv, q F1 H1 _ g1 .bl⟩
noncomputable def eIf (t : Ev → Option Bool) (f g : Ev → Option D) : Ev → Option D := fun ρ => (t ρ).bind fun c => if c = true then f ρ else g ρ
noncomputable def eUn (g : D → Option D) (f : Ev → Option D) : Ev → Option D := fun ρ => (f ρ).bind g
noncomputable def zdO : D → Option D
  | .int i => some (.int (-i))
  | _ => none
theorem zfo {f : Ev → Option D} (ha : ED X a f) : ED X (.UnaryOp .USub a pos) (eUn zdO f) := by
  obtain ⟨ta, pa, ra⟩ := ha
  refine ⟨_, zfY zeb pa, fun σ ρ F H z Q s va e q => ?_⟩
  obtain ⟨x, e1, e⟩ := Option.bind_eq_some_iff.mp e
  cases x <;> try cases e
  exact ra σ ρ F H _ _ s va e1 fun F1 H1 v g1 a1 => ⟨_, a1.int_inv, q F1 H1 _ g1 .int⟩
noncomputable def zx : Ev → Option (List D) := fun _ => some []
noncomputable def zd (f : Ev → Option D) (g : Ev → Option (List D)) : Ev → Option (List D) := fun ρ => (f ρ).bind fun d => (g ρ).map (d :: ·)
theorem zi : AD X [] zx := ⟨_, VA, fun _ _ _ _ _ _ s _ e q => by cases e; exact q _ _ _ (.refl s) .nil⟩
theorem zb {e : Expr} {es : List Expr} {f : Ev → Option D} {g : Ev → Option (List D)} (ha : ED X e f) (hr : AD X es g) (hs : starEach (e :: es) X.env = (false, eval e X.env) :: starEach es X.env := by rfl) : AD X (e :: es) (zd f g) := by
  obtain ⟨ta, pa, ra⟩ := ha
  obtain ⟨tb, pb, rb⟩ := hr
  refine ⟨_, Ys pa pb hs, fun σ ρ F H z Q s va e q => ?_⟩
  obtain ⟨x, e1, e⟩ := Option.bind_eq_some_iff.mp e
  obtain ⟨ds, e2, rfl⟩ := Option.map_eq_some_iff.mp e
  refine ra σ ρ F H x _ s va e1 fun F1 H1 v g1 a1 => ?_
  exact rb σ ρ F1 H1 ds _ g1.fh (va.mono g1.ff) e2 fun F2 H2 w g2 a2 => q F2 H2 _ (g1.trans g2) (.cons (a1.mono g2.ff) a2)
noncomputable def lim (n : Nat) : Bool := decide (n ≤ sizeLine)
noncomputable def YO (g : Ev → Option (List D)) : Ev → Option D := fun ρ => (g ρ).bind fun ds => if lim ds.length = true then some (.tup ds) else none
noncomputable def wL (g : Ev → Option (List D)) : Ev → Option (List D) := fun ρ => (g ρ).bind fun ds => if lim ds.length = true then some ds else none
theorem wW {es : List Expr} {x1} {g : Ev → Option (List D)} (h : AD X es g) : ED X (.Tuple es x1 pos) (YO g) := by
  obtain ⟨ta, pa, ra⟩ := h
  refine ⟨_, zfB pa, fun σ ρ F H z Q s va e q => ?_⟩
  obtain ⟨ds, e1, e⟩ := Option.bind_eq_some_iff.mp e
  split at e <;> cases e
  rename_i hl
  refine ra σ ρ F H ds _ s va e1 fun F1 H1 vs g1 a1 => ⟨by rw [a1.length]; exact of_decide_eq_true hl, fun p hp => ?_⟩
  have g2 := Gr.alloc g1.fh hp (.tup vs)
  exact q _ _ _ (g1.trans g2) (.tup zp (a1.mono g2.ff))
theorem YJ {es : List Expr} {g : Ev → Option (List D)} (h : AD X es g) : FL X (.List es pos) (wL g) := by
  obtain ⟨ta, pa, ra⟩ := h
  refine ⟨_, zfz pa, fun σ ρ F H z Q s va e q => ?_⟩
  obtain ⟨ds, e1, e⟩ := Option.bind_eq_some_iff.mp e
  split at e <;> cases e
  rename_i hl
  refine ra σ ρ F H _ _ s va e1 fun F1 H1 vs g1 a1 => ⟨by rw [a1.length]; exact of_decide_eq_true hl, fun p hp => ?_⟩
  have g2 := Gr.hide g1.fh hp (.lst vs)
  have h0 : H p = none := by
    cases e : H p with
    | none => rfl
    | some o =>
      cases e2 : F p with
      | none => rw [(g1.kp p o e2 e).2] at hp; cases hp
      | some u => rw [g1.fh _ _ (g1.ff _ _ e2)] at hp; cases hp
  exact q _ _ _ _ (g1.trans g2) h0 (g1.fh.free hp) zp a1
end
end
end Dl
namespace Dl
open PySem L2
variable [KK]
inductive Sl where
  | no | v (d : D) | o (ds : List D) | m (t : Bool) (ks : List (List Key)) (vs : List D)
  deriving Inhabited
noncomputable abbrev SE := List Sl
noncomputable def Sl.f : Sl → Option D
  | .v d => some d
  | _ => none
noncomputable def Sl.g : Sl → Option D
  | .v d => some d
  | .o ds => some (.lst ds)
  | .m t ks vs => some (.dct false t ks vs)
  | .no => none
noncomputable def Sl.isO : Sl → Bool
  | .o _ => true
  | .m _ _ _ => true
  | _ => false
noncomputable def visF (ρ : SE) : Ev := ρ.map Sl.f
noncomputable def visG (ρ : SE) : Ev := ρ.map Sl.g
noncomputable def zaQ (F : Hp) (o : HO) : Sl → Prop
  | .o ds => ∃ xs, o = .lst xs ∧ AtL F ds xs
  | .m t ks ds => ∃ xs, zgu o t ks xs ∧ AtL F ds xs
  | _ => False
theorem zaQ.mono {F F' : Hp} {o : HO} {s : Sl} (h : zaQ F o s) (k : yB F F') : zaQ F' o s := by
  cases s with
  | no => exact h
  | v d => exact h
  | o ds => obtain ⟨xs, e, a⟩ := h; exact ⟨xs, e, a.mono k⟩
  | m t ks ds => obtain ⟨xs, e, a⟩ := h; exact ⟨xs, e, a.mono k⟩
theorem zaQ.isO {F : Hp} {o : HO} {s : Sl} (h : zaQ F o s) : s.isO = true := by
  cases s with
  | no => exact h.elim
  | v d => exact h.elim
  | o ds => rfl
  | m t ks ds => rfl
theorem zaQ.ntup {F : Hp} {o : HO} {s : Sl} (h : zaQ F o s) (xs : List V) : o ≠ .tup xs := by
  cases s with
  | no => exact h.elim
  | v d => exact h.elim
  | o ds => obtain ⟨ys, rfl, _⟩ := h; intro e; cases e
  | m t ks ds =>
    obtain ⟨ys, e, _⟩ := h
    unfold zgu at e
    split at e
    · obtain ⟨kvs, rfl, _⟩ := e; intro e; cases e
    · obtain ⟨kvs, rfl, _⟩ := e; intro e; cases e
theorem zaQ.at {F G : Hp} {o : HO} {s : Sl} {d : D} {p : Addr} (h : zaQ F o s) (e : s.g = some d) (hp : G p = some o) (k : yB F G) : At G d (.ref p) := by
  cases s with
  | no => exact h.elim
  | v d => exact h.elim
  | o ds =>
    cases e
    obtain ⟨xs, rfl, a⟩ := h
    exact .lst hp (a.mono k)
  | m t ks ds =>
    cases e
    obtain ⟨xs, e, a⟩ := h
    unfold At
    exact ⟨p, xs, rfl, ⟨o, e, hp⟩, a.mono k⟩
set_option genInjectivity false in
set_option genSizeOf false in
set_option genCtorIdx false in
structure Rl (Fb Hb F H : Hp) (ρ : SE) (σ : St) : Prop where
  gr : Gr Fb Hb F H
  vals : ∀ (i : Nat) (d : D), ρ[i]? = some (.v d) → ∃ v, σ[i]? = some (some v) ∧ At F d v
  ows : ∀ (i : Nat) (s : Sl), ρ[i]? = some s → s.isO = true → ∃ p o, σ[i]? = some (some (.ref p)) ∧ Hb p = none ∧ F p = none ∧ H p = some o ∧ zaQ F o s
  dis : ∀ (i j : Nat) (p : Addr) (s t : Sl), ρ[i]? = some s → ρ[j]? = some t → s.isO = true → t.isO = true → σ[i]? = some (some (.ref p)) → σ[j]? = some (some (.ref p)) → i = j
  len : ρ.length = σ.length
section
variable {Fb Hb F H F' H' : Hp} {ρ ρ' : SE} {σ σ' : St}
theorem Rl.owns (r : Rl Fb Hb F H ρ σ) (i : Nat) (ds : List D) (e : ρ[i]? = some (.o ds)) : ∃ p xs, σ[i]? = some (some (.ref p)) ∧ Hb p = none ∧ F p = none ∧ H p = some (.lst xs) ∧ AtL F ds xs := by
  obtain ⟨p, o, e1, e2, e3, e4, xs, rfl, a⟩ := r.ows i _ e rfl
  exact ⟨p, xs, e1, e2, e3, e4, a⟩
theorem Rl.grow (r : Rl Fb Hb F H ρ σ) (g : Gr F H F' H') : Rl Fb Hb F' H' ρ σ := by
  refine ⟨r.gr.trans g, fun i d e => ?_, fun i s e h => ?_, r.dis, r.len⟩
  · obtain ⟨v, e1, a⟩ := r.vals i d e
    exact ⟨v, e1, a.mono g.ff⟩
  · obtain ⟨p, o, e1, e2, e3, e4, a⟩ := r.ows i s e h
    obtain ⟨k1, k2⟩ := g.kl a.ntup e3 e4
    exact ⟨p, o, e1, e2, k1, k2, a.mono g.ff⟩
theorem Rl.visF (r : Rl Fb Hb F H ρ σ) : VAt F (visF ρ) σ := fun i d e => by
  unfold Dl.visF at e
  rw [List.getElem?_map] at e
  cases h : ρ[i]? with
  | none => rw [h] at e; cases e
  | some x =>
    rw [h] at e
    cases x with
    | no => cases e
    | v d' =>
      cases e
      exact r.vals i d h
    | o ds => cases e
    | m t ks ds => cases e
noncomputable def Own (ρ : SE) (σ : St) (p : Addr) : Prop := ∃ (i : Nat) (s : Sl), ρ[i]? = some s ∧ s.isO = true ∧ σ[i]? = some (some (.ref p))
open Classical in
noncomputable def gOf (ρ : SE) (σ : St) (F H : Hp) : Hp := fun p => if Own ρ σ p then H p else F p
open Classical in
noncomputable def fOf (ρ : SE) (σ : St) (G : Hp) : Hp := fun p => if Own ρ σ p then none else G p
theorem Rl.own (r : Rl Fb Hb F H ρ σ) {p : Addr} (h : Own ρ σ p) : Hb p = none ∧ F p = none ∧ ∃ o, H p = some o ∧ ∀ xs, o ≠ .tup xs := by
  obtain ⟨i, s, e1, e2, e3⟩ := h
  obtain ⟨q, o, e4, e5, e6, e7, a⟩ := r.ows i s e1 e2
  rw [e3] at e4
  cases e4
  exact ⟨e5, e6, o, e7, a.ntup⟩
theorem Rl.notown (r : Rl Fb Hb F H ρ σ) {q : Addr} (h : H q = none) (j : Nat) (s : Sl) (e1 : ρ[j]? = some s) (e2 : s.isO = true) : σ[j]? ≠ some (some (.ref q)) := fun e => by
  obtain ⟨p, o, f1, _, _, f4, _⟩ := r.ows j s e1 e2
  rw [e] at f1
  cases f1
  rw [h] at f4
  cases f4
theorem Rl.notbase (r : Rl Fb Hb F H ρ σ) {q : Addr} (h : H q = none) : Hb q = none := by
  cases z : Hb q with
  | none => rfl
  | some o =>
    cases z2 : Fb q with
    | none => rw [(r.gr.kp q o z2 z).2] at h; cases h
    | some u => rw [r.gr.fh _ _ (r.gr.ff _ _ z2)] at h; cases h
theorem Rl.fg (r : Rl Fb Hb F H ρ σ) : yB F (gOf ρ σ F H) := fun p o e => by
  unfold gOf
  split
  · exact r.gr.fh p o e
  · exact e
theorem Rl.gh (r : Rl Fb Hb F H ρ σ) : yB (gOf ρ σ F H) H := fun p o e => by
  unfold gOf at e
  split at e
  · exact e
  · exact r.gr.fh p o e
theorem Rl.visG (r : Rl Fb Hb F H ρ σ) : VAt (gOf ρ σ F H) (visG ρ) σ := fun i d e => by
  unfold Dl.visG at e
  rw [List.getElem?_map] at e
  cases h : ρ[i]? with
  | none => rw [h] at e; cases e
  | some x =>
    rw [h] at e
    have e : x.g = some d := Option.some.inj e
    have own : x.isO = true → ∃ v, σ[i]? = some (some v) ∧ At (gOf ρ σ F H) d v := fun hx => by
      obtain ⟨p, o, e1, e2, e3, e4, a⟩ := r.ows i x h hx
      refine ⟨_, e1, a.at e ?_ r.fg⟩
      unfold gOf
      rw [if_pos ⟨i, x, h, hx, e1⟩]
      exact e4
    cases x with
    | no => cases e
    | v d' =>
      cases e
      obtain ⟨v, e1, a⟩ := r.vals i d h
      exact ⟨v, e1, a.mono r.fg⟩
    | o ds => exact own rfl
    | m t ks ds => exact own rfl
theorem Rl.back {G' : Hp} (r : Rl Fb Hb F H ρ σ) (g : Gr (gOf ρ σ F H) H G' H') : Gr F H (fOf ρ σ G') H' ∧ ∀ q xs, G' q = some (.tup xs) → fOf ρ σ G' q = some (.tup xs) := by
  refine ⟨⟨fun p o e => ?_, fun p o e => ?_, fun p o e1 e2 => ?_⟩, fun q xs e => ?_⟩
  · unfold fOf
    rw [if_neg (fun h => by rw [(r.own h).2.1] at e; cases e)]
    exact g.ff p o (r.fg p o e)
  · unfold fOf at e
    split at e
    · cases e
    · exact g.fh p o e
  · by_cases h : Own ρ σ p
    · refine ⟨.inl (by unfold fOf; rw [if_pos h]), g.fh p o (g.ff p o ?_)⟩
      unfold gOf
      rw [if_pos h]
      exact e2
    · obtain ⟨x, y⟩ := g.kp p o (by unfold gOf; rw [if_neg h]; exact e1) e2
      refine ⟨?_, y⟩
      unfold Hid fOf
      rw [if_neg h]
      exact x
  · unfold fOf
    rw [if_neg (fun h => ?_)]
    · exact e
    · obtain ⟨_, _, o, e2, n⟩ := r.own h
      have : G' q = some o := g.ff q _ (by unfold gOf; rw [if_pos h]; exact e2)
      rw [this] at e
      cases e
      exact n xs rfl
theorem Rl.out {G' : Hp} (r : Rl Fb Hb F H ρ σ) (g : Gr (gOf ρ σ F H) H G' H') : Gr Fb Hb G' H' := by
  refine ⟨fun p o e => g.ff p o (r.fg p o (r.gr.ff p o e)), g.fh, fun p o e1 e2 => ?_⟩
  obtain ⟨k1, k2⟩ := r.gr.kp p o e1 e2
  have e3 : gOf ρ σ F H p = F p := by
    unfold gOf
    rw [if_neg (fun h => by rw [(r.own h).1] at e2; cases e2)]
  rcases k1 with k1 | ⟨k1, k3⟩
  · exact g.kp p o (by rw [e3]; exact k1) k2
  · have := g.ff p o (by rw [e3]; exact k3)
    exact ⟨.inr ⟨k1, this⟩, g.fh _ _ this⟩
theorem Rl.set (r : Rl Fb Hb F H ρ σ) {i : Nat} {d : D} {v : V} (a : At F d v) : Rl Fb Hb F H (ρ.set i (.v d)) (σ.set i (some v)) := by
  have nj : ∀ {j : Nat} {s : Sl}, (ρ.set i (.v d))[j]? = some s → s.isO = true → i ≠ j := fun {j s} h ho e => by
    subst e
    rw [List.getElem?_set] at h
    simp only [if_true] at h
    split at h <;> cases h
    cases ho
  refine ⟨r.gr, fun j e h => ?_, fun j s h ho => ?_, fun j k p s t h1 h2 o1 o2 h3 h4 => ?_, by simp [r.len]⟩
  · by_cases hj : i = j
    · subst hj
      rw [List.getElem?_set] at h
      simp only [if_true] at h
      split at h
      · rename_i hl
        cases h
        refine ⟨v, ?_, a⟩
        rw [List.getElem?_set]
        simp [← r.len, hl]
      · cases h
    · rw [List.getElem?_set_ne hj] at h ⊢
      exact r.vals j e h
  · have hj := nj h ho
    rw [List.getElem?_set_ne hj] at h ⊢
    exact r.ows j s h ho
  · have a1 := nj h1 o1
    have a2 := nj h2 o2
    rw [List.getElem?_set_ne a1] at h1 h3
    rw [List.getElem?_set_ne a2] at h2 h4
    exact r.dis j k p s t h1 h2 o1 o2 h3 h4
theorem Rl.setW (r : Rl Fb Hb F H ρ σ) {i : Nat} {w : Sl} {p : Addr} {o : HO} (h0 : Hb p = none) (hF : F p = none) (hH : H p = some o) (a : zaQ F o w)
    (nw : ∀ (j : Nat) (s : Sl), ρ[j]? = some s → s.isO = true → σ[j]? ≠ some (some (.ref p))) : Rl Fb Hb F H (ρ.set i w) (σ.set i (some (.ref p))) := by
  have at_i : ∀ {s : Sl}, (ρ.set i w)[i]? = some s → i < ρ.length ∧ s = w := fun {s} h => by
    rw [List.getElem?_set] at h
    simp only [if_true] at h
    split at h
    · rename_i hl
      cases h
      exact ⟨hl, rfl⟩
    · cases h
  have st_i : i < ρ.length → (σ.set i (some (V.ref p)))[i]? = some (some (.ref p)) := fun hl => by
    rw [List.getElem?_set]
    simp [← r.len, hl]
  refine ⟨r.gr, fun j e h => ?_, fun j s h ho => ?_, fun j k q s t h1 h2 o1 o2 h3 h4 => ?_, by simp [r.len]⟩
  · by_cases hj : i = j
    · subst hj
      have e := (at_i h).2
      have := a.isO
      rw [← e] at this
      cases this
    · rw [List.getElem?_set_ne hj] at h ⊢
      exact r.vals j e h
  · by_cases hj : i = j
    · subst hj
      obtain ⟨hl, e⟩ := at_i h
      subst e
      exact ⟨p, o, st_i hl, h0, hF, hH, a⟩
    · rw [List.getElem?_set_ne hj] at h ⊢
      exact r.ows j s h ho
  · by_cases hj : i = j
    · subst hj
      by_cases hk : i = k
      · exact hk
      · obtain ⟨hl, _⟩ := at_i h1
        rw [st_i hl] at h3
        cases h3
        rw [List.getElem?_set_ne hk] at h2 h4
        exact absurd h4 (nw k t h2 o2)
    · by_cases hk : i = k
      · subst hk
        obtain ⟨hl, _⟩ := at_i h2
        rw [st_i hl] at h4
        cases h4
        rw [List.getElem?_set_ne hj] at h1 h3
        exact absurd h3 (nw j s h1 o1)
      · rw [List.getElem?_set_ne hj] at h1 h3
        rw [List.getElem?_set_ne hk] at h2 h4
        exact r.dis j k q s t h1 h2 o1 o2 h3 h4
theorem Rl.setO (r : Rl Fb Hb F H ρ σ) {i : Nat} {ds : List D} {p : Addr} {xs : List V} (h0 : Hb p = none) (hF : F p = none) (hH : H p = some (.lst xs)) (a : AtL F ds xs)
    (nw : ∀ (j : Nat) (s : Sl), ρ[j]? = some s → s.isO = true → σ[j]? ≠ some (some (.ref p))) : Rl Fb Hb F H (ρ.set i (.o ds)) (σ.set i (some (.ref p))) := r.setW h0 hF hH ⟨xs, rfl, a⟩ nw
theorem Rl.mutW (r : Rl Fb Hb F H ρ σ) {i : Nat} {w w' : Sl} {p : Addr} {o' : HO} (e : ρ[i]? = some w) (hw : w.isO = true) (e1 : σ[i]? = some (some (.ref p))) (a : zaQ F o' w') : Rl Fb Hb F (upd H p o') (ρ.set i w') σ := by
  obtain ⟨q, o, e2, h0, hF, hH, _⟩ := r.ows i w e hw
  rw [e1] at e2
  cases e2
  have hi : i < ρ.length := (List.getElem?_eq_some_iff.mp e).1
  have neP : ∀ {j : Nat} {s : Sl} {q : Addr}, i ≠ j → ρ[j]? = some s → s.isO = true → σ[j]? = some (some (.ref q)) → q ≠ p := fun {j s q} hne h1 ho h2 z => by
    subst z
    exact hne (r.dis i j q w s e h1 hw ho e1 h2)
  refine ⟨⟨r.gr.ff, fun b o z => ?_, fun b o z1 z2 => ?_⟩, fun j d h => ?_, fun j s h ho => ?_, fun j k q s t h1 h2 o1 o2 h3 h4 => ?_, by simp [r.len]⟩
  · rw [zr (zn z hF)]
    exact r.gr.fh b o z
  · rw [zr (zn z2 h0)]
    exact r.gr.kp b o z1 z2
  · by_cases hj : i = j
    · subst hj
      rw [List.getElem?_set_self hi] at h
      cases h
      exact (Bool.noConfusion a.isO)
    · rw [List.getElem?_set_ne hj] at h
      exact r.vals j d h
  · by_cases hj : i = j
    · subst hj
      rw [List.getElem?_set_self hi] at h
      cases h
      exact ⟨p, o', e1, h0, hF, zp, a⟩
    · rw [List.getElem?_set_ne hj] at h
      obtain ⟨q, z, f1, f2, f3, f4, f5⟩ := r.ows j s h ho
      refine ⟨q, z, f1, f2, f3, ?_, f5⟩
      rw [zr (neP hj h ho f1)]
      exact f4
  · have back : ∀ {j : Nat} {s : Sl}, (ρ.set i w')[j]? = some s → s.isO = true → ∃ s', ρ[j]? = some s' ∧ s'.isO = true := fun {j s} h ho => by
      by_cases hj : i = j
      · subst hj; exact ⟨w, e, hw⟩
      · rw [List.getElem?_set_ne hj] at h; exact ⟨s, h, ho⟩
    obtain ⟨f1, g1, g1'⟩ := back h1 o1
    obtain ⟨f2, g2, g2'⟩ := back h2 o2
    exact r.dis j k q f1 f2 g1 g2 g1' g2' h3 h4
theorem Rl.mutate (r : Rl Fb Hb F H ρ σ) {i : Nat} {ds es : List D} {p : Addr} {ys : List V} (e : ρ[i]? = some (.o ds)) (e1 : σ[i]? = some (some (.ref p))) (a : AtL F es ys) : Rl Fb Hb F (upd H p (.lst ys)) (ρ.set i (.o es)) σ :=
  r.mutW e rfl e1 ⟨ys, rfl, a⟩
noncomputable def Sl.fz : Sl → Sl
  | .o ds => .v (.lst ds)
  | .m t ks vs => .v (.dct false t ks vs)
  | s => s
noncomputable def zgQ (ρ : SE) (i : Nat) : SE := ρ.set i ((ρ[i]?).getD .no).fz
theorem Rl.freeze (r : Rl Fb Hb F H ρ σ) (i : Nat) : ∃ F', Rl Fb Hb F' H (zgQ ρ i) σ := by
  unfold zgQ
  cases h : ρ[i]? with
  | none =>
    refine ⟨F, ?_⟩
    rw [List.set_eq_of_length_le (List.getElem?_eq_none_iff.mp h)]
    exact r
  | some s =>
    have hi : i < ρ.length := (List.getElem?_eq_some_iff.mp h).1
    have same : s.fz = s → ∃ F', Rl Fb Hb F' H (ρ.set i ((some s).getD .no).fz) σ := fun e => by
      refine ⟨F, ?_⟩
      show Rl Fb Hb F H (ρ.set i s.fz) σ
      rw [e]
      have : ρ.set i s = ρ := by
        apply List.ext_getElem?
        intro j
        by_cases hj : i = j
        · subst hj; rw [List.getElem?_set_self hi, h]
        · rw [List.getElem?_set_ne hj]
      rw [this]
      exact r
    have give : ∀ d, s.isO = true → s.g = some d → s.fz = .v d → ∃ F', Rl Fb Hb F' H (ρ.set i ((some s).getD .no).fz) σ := fun d ho hg hz => by
      obtain ⟨p, o, e1, e2, e3, e4, a⟩ := r.ows i s h ho
      have sF : yB F (upd F p o) := fun b u e => by rw [zr (zn e e3)]; exact e
      show ∃ F', Rl Fb Hb F' H (ρ.set i s.fz) σ
      rw [hz]
      have nj : ∀ {j : Nat} {t : Sl}, (ρ.set i (.v d))[j]? = some t → t.isO = true → i ≠ j := fun {j t} h ht e => by
        subst e
        rw [List.getElem?_set_self hi] at h
        cases h
        cases ht
      refine ⟨upd F p o, r.gr.show e2 e3 e4, fun j e z => ?_, fun j t z ht => ?_, fun j k q t u h1 h2 o1 o2 h3 h4 => ?_, by simp [r.len]⟩
      · by_cases hj : i = j
        · subst hj
          rw [List.getElem?_set_self hi] at z
          cases z
          exact ⟨_, e1, a.at hg zp sF⟩
        · rw [List.getElem?_set_ne hj] at z
          obtain ⟨v, f1, f2⟩ := r.vals j e z
          exact ⟨v, f1, f2.mono sF⟩
      · have hj := nj z ht
        rw [List.getElem?_set_ne hj] at z
        obtain ⟨q, y, f1, f2, f3, f4, f5⟩ := r.ows j t z ht
        refine ⟨q, y, f1, f2, ?_, f4, f5.mono sF⟩
        rw [zr (fun w => hj (r.dis i j p s t h z ho ht e1 (by rw [← w]; exact f1)))]
        exact f3
      · have a1 := nj h1 o1
        have a2 := nj h2 o2
        rw [List.getElem?_set_ne a1] at h1
        rw [List.getElem?_set_ne a2] at h2
        exact r.dis j k q t u h1 h2 o1 o2 h3 h4
    cases s with
    | no => exact same rfl
    | v d => exact same rfl
    | o ds => exact give _ rfl rfl rfl
    | m t ks ds => exact give _ rfl rfl rfl
end
inductive Ctl where
  | nx (ρ : SE) | rt (d : D) | bk (ρ : SE) | ct (ρ : SE) | no
  deriving Inhabited
noncomputable def SOk (Fb Hb : Hp) (E : zd8) : Ctl → Prop
  | .nx ρ => ∀ F H σ, Rl Fb Hb F H ρ σ → E.nx σ H
  | .bk ρ => ∀ F H σ, Rl Fb Hb F H ρ σ → E.bk σ H
  | .ct ρ => ∀ F H σ, Rl Fb Hb F H ρ σ → E.ct σ H
  | .rt d => ∀ F H v, Gr Fb Hb F H → At F d v → E.rt v H
  | .no => False
noncomputable def RS (t : TS) (g : SE → Ctl) : Prop := ∀ (Fb Hb F H : Hp) (ρ : SE) (σ : St) (E : zd8), Rl Fb Hb F H ρ σ → SOk Fb Hb E (g ρ) → t E σ H
noncomputable def SD (X : Cx) (st : Stmt) (g : SE → Ctl) : Prop := ∃ t, PS X st t ∧ RS t g
noncomputable def SDs (X : Cx) (sts : List Stmt) (g : SE → Ctl) : Prop := ∃ t, PSs X sts t ∧ RS t g
section
variable {X : Cx} {st : Stmt} {sts : List Stmt} {a b c e : Expr} {pos pos' : Pos}
noncomputable def yO : SE → Ctl := .nx
noncomputable def yL (g h : SE → Ctl) : SE → Ctl := fun ρ => match g ρ with
  | .nx ρ' => h ρ'
  | .rt d => .rt d
  | .bk ρ' => .bk ρ'
  | .ct ρ' => .ct ρ'
  | .no => .no
theorem zH : SDs X [] yO := ⟨_, zez, fun _ _ F H ρ σ E r h => h F H σ r⟩
theorem zk {g h : SE → Ctl} (h1 : SD X st g) (h2 : SDs X sts h) : SDs X (st :: sts) (yL g h) := by
  obtain ⟨t, p, r⟩ := h1
  obtain ⟨u, p2, r2⟩ := h2
  refine ⟨_, zc1 p p2, fun Fb Hb F H ρ σ E rl k => ?_⟩
  refine r Fb Hb F H ρ σ { E with nx := u E } rl ?_
  unfold yL at k
  cases e : g ρ with
  | nx ρ' =>
    rw [e] at k
    exact fun F' H' σ' rl' => r2 Fb Hb F' H' ρ' σ' E rl' k
  | rt d => rw [e] at k; exact k
  | bk d => rw [e] at k; exact k
  | ct d => rw [e] at k; exact k
  | no => rw [e] at k; exact k
theorem zj {g : SE → Ctl} (h1 : SD X st g) : SDs X [st] g := let ⟨_, p, r⟩ := h1; ⟨_, ze5 p, r⟩
noncomputable def sFz (i : Nat) (g : SE → Ctl) : SE → Ctl := fun ρ => g (zgQ ρ i)
theorem VO {g : SE → Ctl} (i : Nat) (h : SDs X sts g) : SDs X sts (sFz i g) := by
  obtain ⟨t, p, r⟩ := h
  refine ⟨_, p, fun Fb Hb F H ρ σ E rl k => ?_⟩
  obtain ⟨F', rl'⟩ := rl.freeze i
  exact r Fb Hb F' H _ σ E rl' k
noncomputable def sNo : SE → Ctl := fun _ => .no
theorem V1 : SD X st sNo := ⟨_, zdl, fun _ _ _ _ _ _ _ _ h => h.elim⟩
noncomputable def xJ (f : Ev → Option D) : SE → Ctl := fun ρ => match f (visG ρ) with
  | some d => .rt d
  | none => .no
theorem zy {f : Ev → Option D} (h : ED X e f) : SD X (.Return (some e) pos) (xJ f) := by
  obtain ⟨t, p, r⟩ := h
  refine ⟨_, zgK p, fun Fb Hb F H ρ σ E rl k => ?_⟩
  unfold xJ at k
  cases h : f (visG ρ) with
  | none => rw [h] at k; exact k.elim
  | some d =>
    rw [h] at k
    exact r σ _ _ H d _ rl.gh rl.visG h fun F' H' v g av => k F' H' v (rl.out g) av
noncomputable def V6 : SE → Ctl := fun _ => .rt .non
noncomputable def vEv (m : Bool) (f : Ev → Option D) (ρ : SE) : Option D := if m = true then (f (visG ρ)).bind fun d => if noL d = true then some d else none else f (visF ρ)
theorem RE.at {Fb Hb F H : Hp} {ρ : SE} {σ : St} {m : Bool} {f : Ev → Option D} {t : TE} {d : D} {Q : VK} (r : RE t f) (rl : Rl Fb Hb F H ρ σ) (h : vEv m f ρ = some d) (q : ∀ F' H' v, Gr F H F' H' → At F' d v → Q v H') : t σ H Q := by
  unfold vEv at h
  cases m with
  | false =>
    rw [if_neg Bool.false_ne_true] at h
    exact r σ _ _ H d _ rl.gr.fh rl.visF h q
  | true =>
    rw [if_pos rfl] at h
    obtain ⟨d', h1, h2⟩ := Option.bind_eq_some_iff.mp h
    split at h2 <;> cases h2
    rename_i hn
    refine r σ _ _ H d _ rl.gh rl.visG h1 fun F' H' v g av => ?_
    obtain ⟨g2, fl⟩ := rl.back g
    exact q _ H' v g2 (av.flat fl hn)
noncomputable def vb (m : Bool) (i : Nat) (f : Ev → Option D) : SE → Ctl := fun ρ => match vEv m f ρ with
  | some d => .nx (ρ.set i (.v d))
  | none => .no
theorem xU {m : Bool} {i : Nat} {x : Str} {f : Ev → Option D} (hN : X.N.Nodup) (hi : X.N[i]? = some x) (hx : Loc X.env.scope x) (he : ED X e f) (hs : swapsWith e (some (.Name x pos')) pos.line X.env = pure false := by rfl)
    (hf : X.fn x = true ∨ X.env.scope.names.lookup x = some .local := by first | exact .inl rfl | exact .inr rfl | assumption) : SD X (.Assign [.Name x pos'] e pos) (vb m i f) := by
  obtain ⟨t, p, r⟩ := he
  refine ⟨_, zd6 hN hi hx p hs hf, fun Fb Hb F H ρ σ E rl k => ?_⟩
  unfold vb at k
  cases h : vEv m f ρ with
  | none => rw [h] at k; exact k.elim
  | some d =>
    rw [h] at k
    exact r.at rl h fun F' H' v g av => k F' H' _ ((rl.grow g).set av)
noncomputable def zaU (f : Ev → Option D) : SE → Ctl := fun ρ => match f (visG ρ) with
  | some _ => .nx ρ
  | none => .no
theorem zaZ {f : Ev → Option D} (he : ED X e f) (hs : swapsWith e none pos.line X.env = pure false := by rfl) : SD X (.Expr e pos) (zaU f) := by
  obtain ⟨t, p, r⟩ := he
  refine ⟨_, Vs p hs, fun Fb Hb F H ρ σ E rl k => ?_⟩
  unfold zaU at k
  cases h : f (visG ρ) with
  | none => rw [h] at k; exact k.elim
  | some d =>
    rw [h] at k
    exact r σ _ _ H d _ rl.gh rl.visG h fun F' H' v g av => k _ H' σ (rl.grow (rl.back g).1)
noncomputable def WN (i : Nat) (f : Ev → Option (List D)) : SE → Ctl := fun ρ => match f (visF ρ) with
  | some ds => .nx (ρ.set i (.o ds))
  | none => .no
theorem Wk {i : Nat} {x : Str} {f : Ev → Option (List D)} (hN : X.N.Nodup) (hi : X.N[i]? = some x) (hx : Loc X.env.scope x) (he : FL X e f) (hs : swapsWith e (some (.Name x pos')) pos.line X.env = pure false := by rfl)
    (hf : X.fn x = true ∨ X.env.scope.names.lookup x = some .local := by first | exact .inl rfl | exact .inr rfl | assumption) : SD X (.Assign [.Name x pos'] e pos) (WN i f) := by
  obtain ⟨t, p, r⟩ := he
  refine ⟨_, zd6 hN hi hx p hs hf, fun Fb Hb F H ρ σ E rl k => ?_⟩
  unfold WN at k
  cases h : f (visF ρ) with
  | none => rw [h] at k; exact k.elim
  | some ds =>
    rw [h] at k
    refine r σ _ _ H ds _ rl.gr.fh rl.visF h fun F' H' q xs g h0 hF hH hx => ?_
    have rl2 := rl.grow g
    exact k F' H' _ (rl2.setO (rl.notbase h0) hF hH hx (rl.notown h0))
noncomputable def sIf (t : Ev → Option Bool) (g h : SE → Ctl) : SE → Ctl := fun ρ => match t (visG ρ) with
  | some true => g ρ
  | some false => h ρ
  | none => .no
theorem xW {as bs : List Stmt} {t : Ev → Option Bool} {g h : SE → Ctl} (hc : TD X c t) (ha : SDs X as g) (hb : SDs X bs h) : SD X (.If c as bs pos) (sIf t g h) := by
  obtain ⟨tc, pc, rc⟩ := hc
  obtain ⟨ta, pa, ra⟩ := ha
  obtain ⟨tb, pb, rb⟩ := hb
  refine ⟨_, zhd pc pa pb, fun Fb Hb F H ρ σ E rl k => ?_⟩
  unfold sIf at k
  cases h : t (visG ρ) with
  | none => rw [h] at k; exact k.elim
  | some d =>
    rw [h] at k
    refine rc σ _ _ H d _ rl.gh rl.visG h fun F' H' g => ?_
    have rl2 := rl.grow (rl.back g).1
    cases d with
    | true => rw [if_pos rfl]; exact ra Fb Hb _ H' ρ σ E rl2 k
    | false => rw [if_neg Bool.false_ne_true]; exact rb Fb Hb _ H' ρ σ E rl2 k
noncomputable def wX (t : Ev → Option Bool) (g : SE → Ctl) : Nat → SE → Ctl
  | 0, _ => .no
  | n + 1, ρ => match t (visG ρ) with
    | some true => match g ρ with
      | .nx ρ' => wX t g n ρ'
      | .ct ρ' => wX t g n ρ'
      | .bk ρ' => .nx ρ'
      | .rt d => .rt d
      | .no => .no
    | some false => .nx ρ
    | none => .no
theorem VH {as : List Stmt} {t : Ev → Option Bool} {g : SE → Ctl} (n : Nat) (hp : PassesOwn (model X.prog X.w) X.A X.env X.xe) (hc : TD X c t) (ha : SDs X as g) : SD X (.While c as [] pos) (wX t g n) := by
  obtain ⟨tc, pc, rc⟩ := hc
  obtain ⟨ta, pa, ra⟩ := ha
  refine ⟨_, zdn hp pc pa, fun Fb Hb F H ρ σ E rl k => ?_⟩
  refine ⟨fun m σ H => ∃ F ρ, Rl Fb Hb F H ρ σ ∧ SOk Fb Hb E (wX t g m ρ), ⟨n, F, ρ, rl, k⟩, ?_⟩
  rintro m σ H ⟨F, ρ, rl, k⟩
  cases m with
  | zero => exact k.elim
  | succ m =>
    unfold wX at k
    cases h : t (visG ρ) with
    | none => rw [h] at k; exact k.elim
    | some d =>
      rw [h] at k
      refine rc σ _ _ H d _ rl.gh rl.visG h fun F' H' gr => ?_
      have rl2 := rl.grow (rl.back gr).1
      cases d with
      | false => rw [if_neg Bool.false_ne_true]; exact k _ H' σ rl2
      | true =>
        rw [if_pos rfl]
        refine ⟨fun σ H => ∃ F ρ, Rl Fb Hb F H ρ σ ∧ SOk Fb Hb E (wX t g m ρ), fun σ' H' w => ⟨m, Nat.lt_succ_self m, w⟩, ?_⟩
        refine ra Fb Hb _ H' ρ σ _ rl2 ?_
        dsimp only at k
        cases hg : g ρ with
        | nx ρ' => rw [hg] at k; exact fun F2 H2 σ2 r2 => ⟨F2, ρ', r2, k⟩
        | ct ρ' => rw [hg] at k; exact fun F2 H2 σ2 r2 => ⟨F2, ρ', r2, k⟩
        | bk ρ' => rw [hg] at k; exact k
        | rt d => rw [hg] at k; exact k
        | no => rw [hg] at k; exact k.elim
noncomputable def RG (t : TG) (b : D → SE → Option SE) : Prop := ∀ (Fb Hb F H : Hp) (ρ ρ' : SE) (σ : St) (d : D) (v : V) (Q : St → Hp → Prop), Rl Fb Hb F H ρ σ → At F d v → b d ρ = some ρ' → (∀ σ', Rl Fb Hb F H ρ' σ' → Q σ' H) → t v σ H Q
noncomputable def RGs (t : TGs) (b : List D → SE → Option SE) : Prop := ∀ (Fb Hb F H : Hp) (ρ ρ' : SE) (σ : St) (ds : List D) (vs : List V) (Q : St → Hp → Prop), Rl Fb Hb F H ρ σ → AtL F ds vs → b ds ρ = some ρ' → (∀ σ', Rl Fb Hb F H ρ' σ' → Q σ' H) → t vs σ H Q
noncomputable def BD (X : Cx) (tg : Expr) (b : D → SE → Option SE) : Prop := ∃ t, PG X tg t ∧ RG t b
noncomputable def BDs (X : Cx) (tgs : List Expr) (b : List D → SE → Option SE) : Prop := ∃ t, PGs X tgs t ∧ RGs t b
noncomputable def xZ (i : Nat) : D → SE → Option SE := fun d ρ => some (ρ.set i (.v d))
theorem yw {i : Nat} (h : PG X a (vP i)) : BD X a (xZ i) := by
  refine ⟨_, h, fun Fb Hb F H ρ ρ' σ d v Q rl av e q => ?_⟩
  cases e
  exact q _ (rl.set av)
noncomputable def zaO : List D → SE → Option SE
  | [], ρ => some ρ
  | _, _ => none
noncomputable def vf (b : D → SE → Option SE) (c : List D → SE → Option SE) : List D → SE → Option SE
  | d :: ds, ρ => (b d ρ).bind (c ds)
  | [], _ => none
theorem Zh : BDs X [] zaO := by
  refine ⟨_, Xw, fun Fb Hb F H ρ ρ' σ ds vs Q rl av e q => ?_⟩
  cases ds with
  | nil => cases e; exact ⟨av.nil_inv, q _ rl⟩
  | cons _ _ => cases e
theorem xr {es : List Expr} {b : D → SE → Option SE} {c : List D → SE → Option SE} (h1 : BD X e b) (h2 : BDs X es c)
    (hs : (assignEach (e :: es) X.env).map (·.2) = assign e X.env :: (assignEach es X.env).map (·.2) := by rfl) : BDs X (e :: es) (vf b c) := by
  obtain ⟨t, p, r⟩ := h1
  obtain ⟨u, p2, r2⟩ := h2
  refine ⟨_, wG p p2 hs, fun Fb Hb F H ρ ρ' σ ds vs Q rl av e q => ?_⟩
  cases ds with
  | nil => cases e
  | cons d ds =>
    obtain ⟨x, xs, rfl, a1, a2⟩ := av.cons_inv
    obtain ⟨ρ1, e1, e2⟩ := Option.bind_eq_some_iff.mp e
    exact ⟨x, xs, rfl, r Fb Hb F H ρ ρ1 σ d x _ rl a1 e1 fun σ1 rl1 => r2 Fb Hb F H ρ1 ρ' σ1 ds xs Q rl1 a2 e2 q⟩
noncomputable def zaL (n : Nat) (c : List D → SE → Option SE) : D → SE → Option SE
  | .tup ds, ρ => if ds.length = n then c ds ρ else none
  | _, _ => none
theorem WE {es : List Expr} {k : Nat} {n : Nat} {c : List D → SE → Option SE} (hc : X.calm = true) (h : BDs X es c)
    (hn : (assignEach es X.env).length = n := by rfl) (hst : (assignEach es X.env).findIdx? (·.1) = none := by rfl) : BD X (.Tuple es k pos) (zaL n c) := by
  obtain ⟨t, p, r⟩ := h
  refine ⟨_, VM hc p hn hst, fun Fb Hb F H ρ ρ' σ d v Q rl av e q => ?_⟩
  cases d with
  | tup ds =>
    unfold zaL at e
    dsimp only at e
    split at e
    · rename_i hl
      obtain ⟨a, xs, rfl, hx, al⟩ := av.tup_inv
      exact ⟨a, xs, rfl, SqT.of (rl.gr.fh _ _ hx), by rw [al.length]; exact hl, r Fb Hb F H ρ ρ' σ ds xs Q rl al e q⟩
    · cases e
  | _ => cases e
noncomputable def zfe (m : Bool) (f : Ev → Option D) (b : D → SE → Option SE) : SE → Ctl := fun ρ => match (vEv m f ρ).bind fun d => b d ρ with
  | some ρ' => .nx ρ'
  | none => .no
noncomputable def ze9 (m : Bool) (i : Nat) (fk fe : Ev → Option D) : SE → Ctl := fun ρ => match (vEv m fe ρ).bind fun d => (fk (visG ρ)).bind fun k => match ρ[i]?, k with
    | some (.o ds), .int k => (ixN ds.length k).map fun j => ρ.set i (.o (ds.set j d))
    | _, _ => none with
  | some ρ' => .nx ρ'
  | none => .no
end
end Dl
namespace L2
open PySem PySem.Spec PyProof.Rows
section
variable {X : Cx} {tg : Expr}
noncomputable def iSeq (K : PySem.W.Frag) (tl : TE) : TI := fun σ H R => tl σ H fun x H1 => (∃ a, x = .ref a ∧ (∃ xs, SqL K H1 a xs) ∧ R (Itl K a) H1) ∨ (∃ a, x = .ref a ∧ (∃ xs, SqT K H1 a xs) ∧ R (Itt K a) H1)
theorem zgD {l : Expr} {tl : TE} (hl : PE X l tl) : PI X tg l (iSeq X.K tl) := by
  intro pins s σ H R I h
  refine thn (hl pins s σ H _ I h) fun v s1 hh9 => ?_
  obtain ⟨x, H1, I1, r1, q1⟩ := hh9
  rcases q1 with ⟨a, e, ⟨xs, hq⟩, q⟩ | ⟨a, e, ⟨xs, hq⟩, q⟩
  · subst e
    cases r1
    obtain ⟨its, rv, p, hz⟩ := I1.list hq
    refine wpAny_pyIter_list p.isList ?_
    refine ⟨s1.heap.objs.size, [s1.heap.objs.size], _, _, H1, rfl, I1.kept (t' := s1.toks) fun b o e => Heap.get?_push_of_some _ e, zbs a _, ⟨_, Heap.get?_push_size _ rfl, rfl, rfl⟩, fun b hb => ?_, q⟩
    have e : b = s1.heap.objs.size := by simpa using hb
    subst e
    exact I1.fpOk (Nat.le_refl _) (I1.hok.fresh (Nat.le_refl _))
  · subst e
    cases r1
    obtain ⟨its, rv, p, hz⟩ := I1.tuple hq
    refine wpAny_pyIter_tuple (show s1.heap.IsTuple a its.toArray from p) ?_
    refine ⟨s1.heap.objs.size, [s1.heap.objs.size], _, _, H1, rfl, I1.kept (t' := s1.toks) fun b o e => Heap.get?_push_of_some _ e, V4 a _, ⟨_, Heap.get?_push_size _ rfl, rfl, rfl⟩, fun b hb => ?_, q⟩
    have e : b = s1.heap.objs.size := by simpa using hb
    subst e
    exact I1.fpOk (Nat.le_refl _) (I1.hok.fresh (Nat.le_refl _))
end
end L2
namespace Dl
open PySem L2
variable [KK]
noncomputable def zfN (J : It) (F : Hp) (ds : List D) : Prop := ∀ (i : Nat) (F2 H2 : Hp), yB F F2 → yB F2 H2 → (i = ds.length → J.stop i H2) ∧
  ∀ d, ds[i]? = some d → J.go i H2 ∧ ∀ x H3, J.yld i H2 x H3 → ∃ F3, Gr F2 H2 F3 H3 ∧ At F3 d x
noncomputable def RI (wi : TI) (f : Ev → Option (List D)) : Prop :=
  ∀ (σ : St) (ρ : Ev) (F H : Hp) (ds : List D) (R : It → Hp → Prop), yB F H → VAt F ρ σ → f ρ = some ds → (∀ F' H' J, Gr F H F' H' → zfN J F' ds → R J H') → wi σ H R
noncomputable def ID (X : Cx) (tg iter : Expr) (f : Ev → Option (List D)) : Prop := ∃ wi, PI X tg iter wi ∧ RI wi f
noncomputable def vo : D → Option (List D)
  | .lst ds => some ds
  | .tup ds => some ds
  | _ => none
section
variable {X : Cx} {tg a b c e : Expr} {pos : Pos}
theorem zgz {K : PySem.W.Frag} {F : Hp} {p : Addr} {xs : List V} {ds : List D} (h : F p = some (.lst xs)) (al : AtL F ds xs) : zfN (Itl K p) F ds := by
  intro i F2 H2 s1 s2
  have q : SqL K H2 p xs := SqL.of (s2 _ _ (s1 _ _ h))
  refine ⟨fun hl => ⟨xs, q, by rw [al.length, hl]; exact Nat.le_refl _⟩, fun d hd => ?_⟩
  obtain ⟨x, hx, ax⟩ := al.get hd
  refine ⟨⟨xs, x, q, hx⟩, fun y H3 hy => ?_⟩
  obtain ⟨rfl, hy⟩ := hy
  have := hy xs q
  rw [hx] at this
  cases this
  exact ⟨F2, .refl s2, ax.mono s1⟩
theorem zfK {K : PySem.W.Frag} {F : Hp} {p : Addr} {xs : List V} {ds : List D} (h : F p = some (.tup xs)) (al : AtL F ds xs) : zfN (Itt K p) F ds := by
  intro i F2 H2 s1 s2
  have q : SqT K H2 p xs := SqT.of (s2 _ _ (s1 _ _ h))
  refine ⟨fun hl => ⟨xs, q, by rw [al.length, hl]; exact Nat.le_refl _⟩, fun d hd => ?_⟩
  obtain ⟨x, hx, ax⟩ := al.get hd
  refine ⟨⟨xs, x, q, hx⟩, fun y H3 hy => ?_⟩
  obtain ⟨rfl, hy⟩ := hy
  have := hy xs q
  rw [hx] at this
  cases this
  exact ⟨F2, .refl s2, ax.mono s1⟩
noncomputable def iOf (f : Ev → Option D) : Ev → Option (List D) := fun ρ => (f ρ).bind vo
theorem xG {f : Ev → Option D} (ha : ED X a f) : ID X tg a (iOf f) := by
  obtain ⟨t, p, r⟩ := ha
  refine ⟨_, zgD p, fun σ ρ F H ds R s va e q => ?_⟩
  obtain ⟨d, e1, e2⟩ := Option.bind_eq_some_iff.mp e
  refine r σ ρ F H d _ s va e1 fun F1 H1 v g1 a1 => ?_
  cases d <;> try cases e2
  · obtain ⟨p, xs, rfl, hx, al⟩ := a1.tup_inv
    exact .inr ⟨p, rfl, ⟨xs, SqT.of (g1.fh _ _ hx)⟩, q F1 H1 _ g1 (zfK hx al)⟩
  · obtain ⟨p, xs, rfl, hx, al⟩ := a1.lst_inv
    exact .inl ⟨p, rfl, ⟨xs, SqL.of (g1.fh _ _ hx)⟩, q F1 H1 _ g1 (zgz hx al)⟩
noncomputable def YW (lo : Int) (n : Nat) : List D := (List.range n).map fun k : Nat => .int (lo + k)
theorem zbY {F : Hp} (lo : Int) (n : Nat) : zfN (Itr lo n) F (YW lo n) := by
  intro i F2 H2 s1 s2
  have hlen : (YW lo n).length = n := by unfold YW; simp
  refine ⟨fun hl => by rw [hlen] at hl; rw [hl]; exact Nat.le_refl _, fun d hd => ?_⟩
  have hi : i < n := by
    have := (List.getElem?_eq_some_iff.mp hd).1
    omega
  refine ⟨hi, fun y H3 hy => ?_⟩
  obtain ⟨rfl, rfl⟩ := hy
  refine ⟨F2, .refl s2, ?_⟩
  unfold YW at hd
  rw [List.getElem?_map, List.getElem?_range hi] at hd
  cases hd
  exact .int
@[irreducible] noncomputable def zcM (j : Int) : Bool := decide (-(2 ^ 62) ≤ j ∧ j < 2 ^ 62)
omit [KK] in
theorem zT {j : Int} : zcM j = true ↔ -(2 ^ 62) ≤ j ∧ j < 2 ^ 62 := by unfold zcM; exact decide_eq_true_iff
noncomputable def WP : List D → Option (List D)
  | [.int j] => if zcM j = true then some (YW 0 j.toNat) else none
  | _ => none
noncomputable def Xa : List D → Option (List D)
  | [.int i, .int j] => if zcM i = true ∧ zcM j = true then some (YW i (j - i).toNat) else none
  | _ => none
noncomputable def zcK (g : List D → Option (List D)) (f : Ev → Option (List D)) : Ev → Option (List D) := fun ρ => (f ρ).bind g
theorem zcv {p : Pos} {f : Ev → Option (List D)} (hg : Gl X "range") (hm : X.mg "range" = none) (ha : AD X [a, b] f) (hs : starEach [a, b] X.env = [(false, eval a X.env), (false, eval b X.env)] := by rfl) (hs2 : starEach [b] X.env = [(false, eval b X.env)] := by rfl) :
    ID X tg (.Call (.Name "range" p) [a, b] [] pos) (zcK Xa f) := by
  obtain ⟨t, pa, r⟩ := ha
  refine ⟨_, Wr hg hm pa hs hs2, fun σ ρ F H ds R s va e q => ?_⟩
  obtain ⟨d, e1, e2⟩ := Option.bind_eq_some_iff.mp e
  refine r σ ρ F H d _ s va e1 fun F1 H1 v g1 a1 => ?_
  unfold Xa at e2
  split at e2
  · split at e2
    · cases e2
      rename_i hc
      obtain ⟨x, r', rfl, ax, ar⟩ := a1.cons_inv
      obtain ⟨y, r', rfl, ay, ar⟩ := ar.cons_inv
      cases ar.nil_inv
      exact ⟨_, _, by rw [ax.int_inv, ay.int_inv], ⟨(zT.mp hc.1).1, (zT.mp hc.1).2, (zT.mp hc.2).1, (zT.mp hc.2).2⟩, q F1 H1 _ g1 (zbY _ _)⟩
    · cases e2
  · cases e2
noncomputable def YX (n : Nat) : List D → List D
  | [] => []
  | d :: ds => .tup [.int n, d] :: YX (n + 1) ds
omit [KK] in
theorem wE (ds : List D) : ∀ (n i : Nat), (YX n ds)[i]? = (ds[i]?).map fun d => .tup [.int ((n + i : Nat) : Int), d] := by
  induction ds with
  | nil => intro n i; simp [YX]
  | cons d ds ih =>
    intro n i
    cases i with
    | zero => simp [YX]
    | succ i =>
      show (YX (n + 1) ds)[i]? = (ds[i]?).map _
      rw [ih]
      have : n + 1 + i = n + (i + 1) := by omega
      rw [this]
omit [KK] in
theorem wc (ds : List D) : ∀ n, (YX n ds).length = ds.length := by
  induction ds with
  | nil => intro n; rfl
  | cons d ds ih => intro n; simp [YX, ih]
noncomputable def vv (f : Ev → Option (List D)) : Ev → Option (List D) := fun ρ => (f ρ).bind fun as => match as with
  | [d] => (vo d).map (YX 0)
  | _ => none
theorem Xn {es : List Expr} {k : Nat} {tp p : Pos} {f : Ev → Option (List D)} (hg : Gl X "enumerate") (hm : X.mg "enumerate" = none) (hb : bootBuiltins "enumerate" = some (.type "enumerate")) (ha : AD X [a] f)
    (hs : starEach [a] X.env = [(false, eval a X.env)] := by rfl) : ID X (.Tuple es k tp) (.Call (.Name "enumerate" p) [a] [] pos) (vv f) := by
  obtain ⟨t, pa, r⟩ := ha
  refine ⟨_, zen hg hm hb pa hs, fun σ ρ F H ds R s va e q => ?_⟩
  obtain ⟨as, e1, e2⟩ := Option.bind_eq_some_iff.mp e
  refine r σ ρ F H as _ s va e1 fun F1 H1 v g1 a1 => ?_
  split at e2
  · obtain ⟨x, r', rfl, ax, ar⟩ := a1.cons_inv
    cases ar.nil_inv
    obtain ⟨es, e3, rfl⟩ := Option.map_eq_some_iff.mp e2
    rename_i d
    cases d <;> try cases e3
    · obtain ⟨p, xs, rfl, hx, al⟩ := ax.tup_inv
      refine ⟨p, rfl, .inr ⟨xs, SqT.of (g1.fh _ _ hx), q F1 H1 _ g1 fun i F2 H2 s1 s2 => ?_⟩⟩
      have qq : SqT X.K H2 p xs := SqT.of (s2 _ _ (s1 _ _ hx))
      refine ⟨fun hl => ⟨xs, qq, by rw [al.length, hl, wc]; exact Nat.le_refl _⟩, fun d hd => ?_⟩
      rw [wE] at hd
      obtain ⟨d', hd', rfl⟩ := Option.map_eq_some_iff.mp hd
      obtain ⟨x, hxi, ax⟩ := al.get hd'
      refine ⟨⟨xs, x, qq, hxi⟩, fun y H3 hy => ?_⟩
      obtain ⟨T, y, rfl, hT, rfl, hy⟩ := hy
      have := hy xs qq
      rw [hxi] at this
      cases this
      have g3 := Gr.alloc s2 hT (.tup [.int i, x])
      exact ⟨_, g3, .tup zp (.cons (by rw [Nat.zero_add]; exact .int) (.cons (ax.mono (s1.trans g3.ff)) .nil))⟩
    · obtain ⟨p, xs, rfl, hx, al⟩ := ax.lst_inv
      refine ⟨p, rfl, .inl ⟨xs, g1.fh _ _ hx, q F1 H1 _ g1 fun i F2 H2 s1 s2 => ?_⟩⟩
      have qq : SqL X.K H2 p xs := SqL.of (s2 _ _ (s1 _ _ hx))
      refine ⟨fun hl => ⟨xs, qq, by rw [al.length, hl, wc]; exact Nat.le_refl _⟩, fun d hd => ?_⟩
      rw [wE] at hd
      obtain ⟨d', hd', rfl⟩ := Option.map_eq_some_iff.mp hd
      obtain ⟨x, hxi, ax⟩ := al.get hd'
      refine ⟨⟨xs, x, qq, hxi⟩, fun y H3 hy => ?_⟩
      obtain ⟨T, y, rfl, hT, rfl, hy⟩ := hy
      have := hy xs qq
      rw [hxi] at this
      cases this
      have g3 := Gr.alloc s2 hT (.tup [.int i, x])
      exact ⟨_, g3, .tup zp (.cons (by rw [Nat.zero_add]; exact .int) (.cons (ax.mono (s1.trans g3.ff)) .nil))⟩
  · cases e2
noncomputable def hb2 (F1 Hb : Hp) : Hp := fun p => match F1 p with
  | some o => some o
  | none => Hb p
theorem Y4 {F1 Hb : Hp} {p : Addr} (h : F1 p = none) : hb2 F1 Hb p = Hb p := by unfold hb2; rw [h]
theorem zdf {F1 Hb : Hp} {p : Addr} {o : HO} (h : F1 p = some o) : hb2 F1 Hb p = some o := by unfold hb2; rw [h]
theorem Gr.up {Fb Hb F1 H1 F H : Hp} (g1 : Gr Fb Hb F1 H1) (g : Gr F1 (hb2 F1 Hb) F H) : Gr Fb Hb F H := by
  refine ⟨g1.ff.trans g.ff, g.fh, fun p o e1 e2 => ?_⟩
  rcases (g1.kp p o e1 e2).1 with n | ⟨n1, n2⟩
  · exact g.kp p o n (by rw [Y4 n]; exact e2)
  · exact ⟨.inr ⟨n1, g.ff _ _ n2⟩, g.fh _ _ (g.ff _ _ n2)⟩
theorem Gr.dn {Fb Hb F1 F H : Hp} (g : Gr Fb Hb F H) (s1 : yB Fb F1) (s : yB F1 F) : Gr F1 (hb2 F1 Hb) F H := by
  refine ⟨s, g.fh, fun p o e1 e2 => ?_⟩
  rw [Y4 e1] at e2
  exact g.kp p o (s1.free e1) e2
theorem Rl.up {Fb Hb F1 H1 F H : Hp} {ρ : SE} {σ : St} (g1 : Gr Fb Hb F1 H1) (r : Rl F1 (hb2 F1 Hb) F H ρ σ) : Rl Fb Hb F H ρ σ := by
  refine ⟨g1.up r.gr, r.vals, fun i s e ho => ?_, r.dis, r.len⟩
  obtain ⟨p, o, e1, e2, e3⟩ := r.ows i s e ho
  refine ⟨p, o, e1, ?_, e3⟩
  cases h : F1 p with
  | none => rw [Y4 h] at e2; exact e2
  | some o => rw [zdf h] at e2; cases e2
theorem Rl.dn {Fb Hb F1 F H : Hp} {ρ : SE} {σ : St} (r : Rl Fb Hb F H ρ σ) (s1 : yB Fb F1) (s : yB F1 F) : Rl F1 (hb2 F1 Hb) F H ρ σ := by
  refine ⟨r.gr.dn s1 s, r.vals, fun i t e ho => ?_, r.dis, r.len⟩
  obtain ⟨p, o, e1, e2, e3, e4⟩ := r.ows i t e ho
  refine ⟨p, o, e1, ?_, e3, e4⟩
  rw [Y4 (s.free e3)]
  exact e2
noncomputable def zbH (b : D → SE → Option SE) (g : SE → Ctl) : List D → SE → Ctl
  | [], ρ => .nx ρ
  | d :: ds, ρ => match b d ρ with
    | none => .no
    | some ρ1 => match g ρ1 with
      | .nx ρ' => zbH b g ds ρ'
      | .ct ρ' => zbH b g ds ρ'
      | .bk ρ' => .nx ρ'
      | .rt d => .rt d
      | .no => .no
noncomputable def WA (f : Ev → Option (List D)) (b : D → SE → Option SE) (g : SE → Ctl) : SE → Ctl := fun ρ => match f (visF ρ) with
  | some ds => zbH b g ds ρ
  | none => .no
theorem zcx {Fb Hb F1 H1 : Hp} {ρ : SE} {σ : St} {E : zd8} {J : It} {g : TG} {tb : TS} {ds : List D} {b : D → SE → Option SE} {gb : SE → Ctl} (hit : zfN J F1 ds) (rg : RG g b) (rb : RS tb gb) (rl0 : Rl Fb Hb F1 H1 ρ σ) (k : SOk Fb Hb E (zbH b gb ds ρ)) :
    ∃ W : Nat → Nat → St → Hp → Prop, (∃ m, W 0 m σ H1) ∧ ∀ i m σ H, W i m σ H →
      (J.stop i H ∧ E.nx σ H) ∨ (J.go i H ∧ ∃ N : St → Hp → Prop, (∀ σ' H', N σ' H' → ∃ m', m' < m ∧ W (i + 1) m' σ' H') ∧ ∀ x H', J.yld i H x H' → g x σ H' fun σ2 H2 => tb { E with nx := N, ct := N, bk := E.nx } σ2 H2) := by
  refine ⟨fun i m σ H => m = ds.length - i ∧ i ≤ ds.length ∧ ∃ F ρ, yB F1 F ∧ Rl Fb Hb F H ρ σ ∧ SOk Fb Hb E (zbH b gb (ds.drop i) ρ), ⟨ds.length, by simp, Nat.zero_le _, F1, ρ, yB.refl _, rl0, k⟩, ?_⟩
  rintro i m σ H ⟨rfl, hi, F, ρ, s1, rl, k⟩
  obtain ⟨stop, go⟩ := hit i F H s1 rl.gr.fh
  by_cases hlt : i < ds.length
  · have hd : ds.drop i = ds[i] :: ds.drop (i + 1) := List.drop_eq_getElem_cons hlt
    rw [hd] at k
    unfold zbH at k
    obtain ⟨g1, g2⟩ := go ds[i] (by simp [hlt])
    refine .inr ⟨g1, fun σ H => ∃ F ρ, yB F1 F ∧ Rl Fb Hb F H ρ σ ∧ SOk Fb Hb E (zbH b gb (ds.drop (i + 1)) ρ), fun σ' H' w => ⟨ds.length - (i + 1), by omega, rfl, hlt, w⟩, fun x H' hy => ?_⟩
    obtain ⟨F3, g3, a3⟩ := g2 x H' hy
    cases hb : b ds[i] ρ with
    | none => rw [hb] at k; exact k.elim
    | some ρ1 =>
      rw [hb] at k
      dsimp only at k
      refine rg Fb Hb F3 H' ρ ρ1 σ _ x _ (rl.grow g3) a3 hb fun σ2 rl2 => ?_
      have s3 := s1.trans g3.ff
      refine rb F1 (hb2 F1 Hb) F3 H' ρ1 σ2 _ (rl2.dn rl0.gr.ff s3) ?_
      cases hg : gb ρ1 with
      | nx ρ' => rw [hg] at k; exact fun F4 H4 σ4 r4 => ⟨F4, ρ', r4.gr.ff, r4.up rl0.gr, k⟩
      | ct ρ' => rw [hg] at k; exact fun F4 H4 σ4 r4 => ⟨F4, ρ', r4.gr.ff, r4.up rl0.gr, k⟩
      | bk ρ' => rw [hg] at k; exact fun F4 H4 σ4 r4 => k F4 H4 σ4 (r4.up rl0.gr)
      | rt d => rw [hg] at k; exact fun F4 H4 v g4 a4 => k F4 H4 v (rl0.gr.up g4) a4
      | no => rw [hg] at k; exact k.elim
  · have e : i = ds.length := by omega
    subst e
    rw [List.drop_length] at k
    exact .inl ⟨stop rfl, k F H σ rl⟩
theorem ZH {iter : Expr} {body : List Stmt} {f : Ev → Option (List D)} {b : D → SE → Option SE} {g : SE → Ctl} (hp : PassesOwn (model X.prog X.w) X.A X.env X.xe) (hc : X.calm = true) (hi : ID X tg iter f) (hg : BD X tg b) (hb : SDs X body g)
    (hs : ∀ x, foldedSetIterable iter X.env x = pure x := by intro _; rfl) : SD X (.For tg iter body [] pos) (WA f b g) := by
  obtain ⟨wi, pi, ri⟩ := hi
  obtain ⟨tg', pg, rg⟩ := hg
  obtain ⟨tb, pb, rb⟩ := hb
  refine ⟨_, zbh hp hc pi pg pb hs, fun Fb Hb F H ρ σ E rl k => ?_⟩
  unfold WA at k
  cases h : f (visF ρ) with
  | none => rw [h] at k; exact k.elim
  | some ds =>
    rw [h] at k
    exact ri σ _ _ H ds _ rl.gr.fh rl.visF h fun F1 H1 J g1 ok => zcx ok rg rb (rl.grow g1) k
end
noncomputable def lcD (b : D → Option (List (Option D))) (t : Ev → Option Bool) (f : Ev → Option D) (ρ : Ev) : List D → Option (List D)
  | [] => some []
  | d :: ds => (b d).bind fun own => (t (own ++ ρ)).bind fun c => if c = true then (f (own ++ ρ)).bind fun y => (lcD b t f ρ ds).map (y :: ·) else lcD b t f ρ ds
noncomputable def fLC (i : Ev → Option (List D)) (b : D → Option (List (Option D))) (t : Ev → Option Bool) (f : Ev → Option D) : Ev → Option (List D) := fun ρ => (i ρ).bind fun ds => if lim ds.length = true then lcD b t f ρ ds else none
noncomputable def b1 : D → Option (List (Option D)) := fun d => some [some d]
noncomputable def b2 : D → Option (List (Option D))
  | .tup [x, y] => some [some x, some y]
  | _ => none
noncomputable def RB (n : Nat) (t : TG) (b : D → Option (List (Option D))) : Prop := ∀ (σ : St) (ρ : Ev) (F H : Hp) (d : D) (v : V) (own : List (Option D)) (Q : St → Hp → Prop), yB F H → VAt F ρ σ → At F d v → b d = some own → (∀ σ', VAt F (own ++ ρ) σ' → Q σ' H) → t v (List.replicate n none ++ σ) H Q
noncomputable def yT : Ev → Option Bool := fun _ => some true
theorem zea : RT tYes yT := fun _ _ _ _ _ _ s _ e q => by cases e; exact q _ _ (.refl s)
theorem zba {wi : TI} {n : Nat} {g : TG} {tt : TT} {te : TE} {fi : Ev → Option (List D)} {b : D → Option (List (Option D))} {ft : Ev → Option Bool} {fe : Ev → Option D} (ri : RI wi fi) (rg : RB n g b) (rt : RT tt ft) (re : RE te fe) :
    RF (tLC wi n g tt te) (fLC fi b ft fe) := by
  intro σ ρ F H out Q s va e q
  obtain ⟨ds, e1, e2⟩ := Option.bind_eq_some_iff.mp e
  split at e2 <;> try cases e2
  rename_i hlim
  have hlim : ds.length ≤ sizeLine := of_decide_eq_true hlim
  refine ri σ ρ F H ds _ s va e1 fun F1 H1 J g1 ok => ?_
  intro P hP
  have hF1 : F1 P = none := g1.fh.free hP
  have hH0 : H P = none := by
    cases e : H P with
    | none => rfl
    | some o =>
      cases e2 : F P with
      | none => rw [(g1.kp P o e2 e).2] at hP; cases hP
      | some u => rw [g1.fh _ _ (g1.ff _ _ e2)] at hP; cases hP
  refine ⟨fun i m ys H2 => m = ds.length - i ∧ i ≤ ds.length ∧ ∃ F2 done, Gr F1 H1 F2 H2 ∧ Gr F1 (upd H1 P (.lst [])) F2 (upd H2 P (.lst [])) ∧ F2 P = none ∧ H2 P = some (.lst ys) ∧ AtL F2 done ys ∧ done.length ≤ i ∧ ∃ more, lcD b ft fe ρ (ds.drop i) = some more ∧ done ++ more = out, ⟨ds.length, by simp, Nat.zero_le _, F1, [], Gr.hide g1.fh hP _, ?_, hF1, zp, .nil, Nat.zero_le _, out, e2, rfl⟩, ?_⟩
  · rw [zbv]
    exact .refl fun b u z => by rw [zr (zn z hF1)]; exact g1.fh b u z
  rintro i m ys H2 ⟨rfl, hi, F2, done, g2, g2', hF2, hH2, al, hdl, more, hm, hout⟩
  obtain ⟨stop, go⟩ := ok i F2 H2 g2.ff g2.fh
  by_cases hlt : i < ds.length
  · have hd : ds.drop i = ds[i] :: ds.drop (i + 1) := List.drop_eq_getElem_cons hlt
    rw [hd] at hm
    unfold lcD at hm
    obtain ⟨own, hb, hm⟩ := Option.bind_eq_some_iff.mp hm
    obtain ⟨cb, hc, hm⟩ := Option.bind_eq_some_iff.mp hm
    obtain ⟨k1, k2⟩ := go ds[i] (by simp [hlt])
    refine .inr ⟨k1, by rw [al.length]; omega, fun x H3 hy => ?_⟩
    obtain ⟨F3, g3, a3⟩ := k2 x H3 hy
    refine rg σ ρ F3 H3 ds[i] x own _ g3.fh (va.mono (g1.ff.trans (g2.ff.trans g3.ff))) a3 hb fun σ4 va4 => ?_
    refine rt σ4 _ F3 H3 cb _ g3.fh va4 hc fun F5 H5 g5 => ?_
    have g35 := g3.trans g5
    obtain ⟨n5, h5⟩ := g35.kl (fun _ e => by cases e) hF2 hH2
    have keep2 : ∀ {F6 H6 : Hp} {o : HO}, Gr F2 H2 F6 H6 → F6 P = none → Gr F1 (upd H1 P (.lst [])) F6 (upd (upd H6 P o) P (.lst [])) := fun {F6 H6 o} g6 n6 => by
      rw [zbv]
      refine ⟨g2.ff.trans g6.ff, fun b u z => ?_, fun b u z1 z2 => ?_⟩
      · rw [zr (zn z n6)]; exact g6.fh b u z
      · by_cases hbP : b = P
        · subst hbP
          rw [zp] at z2 ⊢
          exact ⟨.inl n6, z2⟩
        · rw [zr hbP] at z2 ⊢
          exact (g2.trans g6).kp b u z1 z2
    have keep1 : ∀ {F6 H6 : Hp} {o : HO}, Gr F2 H2 F6 H6 → F6 P = none → Gr F1 H1 F6 (upd H6 P o) := fun {F6 H6 o} g6 n6 => by
      refine ⟨g2.ff.trans g6.ff, fun b u z => ?_, fun b u z1 z2 => ?_⟩
      · rw [zr (zn z n6)]; exact g6.fh b u z
      · rw [zr (zn z2 hP)]
        exact (g2.trans g6).kp b u z1 z2
    cases cb with
    | false =>
      rw [if_neg Bool.false_ne_true] at hm ⊢
      have ups : H5 = upd H5 P (.lst ys) := by
        funext b
        by_cases hbP : b = P
        · subst hbP; rw [zp]; exact h5
        · rw [zr hbP]
      refine ⟨ds.length - (i + 1), by omega, rfl, hlt, F5, done, ?_, ?_, n5, h5, al.mono g35.ff, by omega, more, hm, hout⟩
      · rw [ups]; exact keep1 g35 n5
      · have := keep2 (o := .lst ys) g35 n5
        rw [← ups] at this
        exact this
    | true =>
      rw [if_pos rfl] at hm ⊢
      obtain ⟨y, hy, hm⟩ := Option.bind_eq_some_iff.mp hm
      obtain ⟨rest, hm', rfl⟩ := Option.map_eq_some_iff.mp hm
      refine re σ4 _ F5 H5 y _ g5.fh (va4.mono g5.ff) hy fun F6 H6 v g6 a6 => ?_
      have g36 := g35.trans g6
      obtain ⟨n6, h6⟩ := g36.kl (fun _ e => by cases e) hF2 hH2
      refine ⟨h6, ds.length - (i + 1), by omega, rfl, hlt, F6, done ++ [y], keep1 g36 n6, keep2 g36 n6, n6, zp, (al.mono g36.ff).snoc a6, by rw [List.length_append]; simp; omega, rest, hm', by rw [← hout, List.append_assoc]; rfl⟩
  · have e : i = ds.length := by omega
    subst e
    rw [List.drop_length] at hm
    cases hm
    rw [List.append_nil] at hout
    subst hout
    exact .inl ⟨stop rfl, q F2 H2 P ys (g1.trans g2) hH0 hF2 hH2 al⟩
theorem rb1 : RB 1 (vP 0) b1 := by
  intro σ ρ F H d v own Q s va av e q
  cases e
  refine q _ fun i d' h => ?_
  cases i with
  | zero => cases h; exact ⟨v, rfl, av⟩
  | succ i => exact va i d' h
theorem rb2 {K : PySem.W.Frag} : RB 2 (zgT K 2 (W3 (vP 0) (W3 (vP 1) zgX))) b2 := by
  intro σ ρ F H d v own Q s va av e q
  unfold b2 at e
  split at e <;> cases e
  obtain ⟨p, xs, rfl, hx, al⟩ := av.tup_inv
  obtain ⟨x, r, rfl, ax, al⟩ := al.cons_inv
  obtain ⟨y, r, rfl, ay, al⟩ := al.cons_inv
  cases al.nil_inv
  refine ⟨p, _, rfl, SqT.of (s _ _ hx), rfl, x, _, rfl, y, _, rfl, rfl, ?_⟩
  refine q _ fun i d' h => ?_
  match i, h with
  | 0, h => cases h; exact ⟨x, rfl, ax⟩
  | 1, h => cases h; exact ⟨y, rfl, ay⟩
  | i + 2, h => exact va i d' h
noncomputable def tCan (f : Ev → Option D) : TE := fun σ H Q => ∃ ρ F d, yB F H ∧ VAt F ρ σ ∧ f ρ = some d ∧ ∀ F' H' v, Gr F H F' H' → At F' d v → Q v H'
noncomputable def zfg (f : Ev → Option Bool) : TT := fun σ H Q => ∃ ρ F d, yB F H ∧ VAt F ρ σ ∧ f ρ = some d ∧ ∀ F' H', Gr F H F' H' → Q d H'
theorem ED.can {X : Cx} {e : Expr} {f : Ev → Option D} (h : ED X e f) : PE X e (tCan f) := by
  obtain ⟨t, p, r⟩ := h
  rintro pins s σ H Q I ⟨ρ, F, d, h1, h2, h3, h4⟩
  exact p pins s σ H Q I (r σ ρ F H d Q h1 h2 h3 h4)
theorem TD.can {X : Cx} {e : Expr} {f : Ev → Option Bool} (h : TD X e f) : PT X e (zfg f) := by
  obtain ⟨t, p, r⟩ := h
  rintro pins s σ H Q I ⟨ρ, F, d, h1, h2, h3, h4⟩
  exact p pins s σ H Q I (r σ ρ F H d Q h1 h2 h3 h4)
theorem X8 {f : Ev → Option D} : RE (tCan f) f := fun _ ρ F _ d _ h1 h2 h3 h4 => ⟨ρ, F, d, h1, h2, h3, h4⟩
theorem zb6 {f : Ev → Option Bool} : RT (zfg f) f := fun _ ρ F _ d _ h1 h2 h3 h4 => ⟨ρ, F, d, h1, h2, h3, h4⟩
theorem YE {X : Cx} {elt tg iter : Expr} {L M : List Str} {scope : Scope} {cl : List (Str × Addr)} {pos : Pos} {fi : Ev → Option (List D)} {b : D → Option (List (Option D))} {fe : Ev → Option D} {g : TG}
    (hc : X.calm = true) (S : yM X L M scope cl) (hi : ID X tg iter fi)
    (hgS : ∀ (σ : St) (v : V) (H : Hp) (Q : St → Hp → Prop), g v (List.replicate L.length none ++ σ) H Q → g v (List.replicate L.length none ++ σ) H (fun σ2 H2 => vM (List.replicate L.length none ++ σ) σ2 ∧ Q σ2 H2))
    (hrb : RB L.length g b)
    (hg : ∀ s₀ H₀ ex pn, PG (Xh X L M scope cl s₀ H₀ ex pn) tg g) (he : ∀ s₀ H₀ ex pn, ED (Xh X L M scope cl s₀ H₀ ex pn) elt fe)
    (hs : ∀ x, foldedSetIterable iter X.env x = pure x := by intro _; rfl) : FL X (.ListComp elt [⟨tg, iter, [], 0⟩] scope pos) (fLC fi b yT fe) := by
  obtain ⟨wi, pi, ri⟩ := hi
  exact ⟨_, zdX hc S pi hgS hg (fun _ _ _ _ => zb5) (fun _ _ _ _ => (he _ _ _ _).can) hs, zba ri hrb zea X8⟩
theorem zd5 {X : Cx} {elt tg iter c : Expr} {L M : List Str} {scope : Scope} {cl : List (Str × Addr)} {pos : Pos} {fi : Ev → Option (List D)} {b : D → Option (List (Option D))} {ft : Ev → Option Bool} {fe : Ev → Option D} {g : TG}
    (hc : X.calm = true) (S : yM X L M scope cl) (hi : ID X tg iter fi)
    (hgS : ∀ (σ : St) (v : V) (H : Hp) (Q : St → Hp → Prop), g v (List.replicate L.length none ++ σ) H Q → g v (List.replicate L.length none ++ σ) H (fun σ2 H2 => vM (List.replicate L.length none ++ σ) σ2 ∧ Q σ2 H2))
    (hrb : RB L.length g b)
    (hg : ∀ s₀ H₀ ex pn, PG (Xh X L M scope cl s₀ H₀ ex pn) tg g) (ht : ∀ s₀ H₀ ex pn, TD (Xh X L M scope cl s₀ H₀ ex pn) c ft) (he : ∀ s₀ H₀ ex pn, ED (Xh X L M scope cl s₀ H₀ ex pn) elt fe)
    (hs : ∀ x, foldedSetIterable iter X.env x = pure x := by intro _; rfl) : FL X (.ListComp elt [⟨tg, iter, [c], 0⟩] scope pos) (fLC fi b ft fe) := by
  obtain ⟨wi, pi, ri⟩ := hi
  exact ⟨_, zdX hc S pi hgS hg (fun _ _ _ _ => Vd (ht _ _ _ _).can) (fun _ _ _ _ => (he _ _ _ _).can) hs, zba ri hrb zb6 X8⟩
theorem zfy {t : TE} {f : Ev → Option (List D)} (r : RF t f) : RE t (x8 f) := by
  intro σ ρ F H d Q s va e q
  obtain ⟨ds, e1, rfl⟩ := Option.map_eq_some_iff.mp e
  refine r σ ρ F H ds Q s va e1 fun F' H' p xs g h0 hF hH hx => ?_
  have g2 := g.show h0 hF hH
  exact q _ _ _ g2 (At.lst zp (hx.mono (fun b u e => by rw [zr (zn e hF)]; exact e)))
noncomputable def FLS (X : Cx) (i : Nat) (st : Stmt) (f : Ev → Option (List D)) : Prop := ∃ t, PS X st (zgP t (vP i)) ∧ RF t f
theorem Vw {m : Bool} {i : Nat} {st : Stmt} {f : Ev → Option (List D)} (he : FLS X i st f) : SD X st (vb m i (x8 f)) := by
  obtain ⟨t, p, r⟩ := he
  refine ⟨_, p, fun Fb Hb F H ρ σ E rl k => ?_⟩
  unfold vb at k
  cases h : vEv m (x8 f) ρ with
  | none => rw [h] at k; exact k.elim
  | some d =>
    rw [h] at k
    exact (zfy r).at rl h fun F' H' v g av => k F' H' _ ((rl.grow g).set av)
theorem za7 {i : Nat} {x : Str} {px spos : Pos} {X : Cx} {elt tg iter : Expr} {L M : List Str} {scope : Scope} {cl : List (Str × Addr)} {pos : Pos} {fi : Ev → Option (List D)} {b : D → Option (List (Option D))} {fe : Ev → Option D} {g : TG}
    (hN : X.N.Nodup) (hi' : X.N[i]? = some x) (hx : Loc X.env.scope x) (hc : X.calm = true) (S : yM X L M scope cl) (hi : ID X tg iter fi)
    (hgS : ∀ (σ : St) (v : V) (H : Hp) (Q : St → Hp → Prop), g v (List.replicate L.length none ++ σ) H Q → g v (List.replicate L.length none ++ σ) H (fun σ2 H2 => vM (List.replicate L.length none ++ σ) σ2 ∧ Q σ2 H2))
    (hrb : RB L.length g b)
    (hg : ∀ s₀ H₀ ex pn, PG (Xh X L M scope cl s₀ H₀ ex pn) tg g) (he : ∀ s₀ H₀ ex pn, ED (Xh X L M scope cl s₀ H₀ ex pn) elt fe)
    (hs : ∀ x, foldedSetIterable iter X.env x = pure x := by intro _; rfl)
    (hsw : swapsWith (.ListComp elt [⟨tg, iter, [], 0⟩] scope pos) (some (.Name x px)) spos.line X.env = pure true := by rfl)
    (hf : X.fn x = true ∨ X.env.scope.names.lookup x = some .local := by first | exact .inl rfl | exact .inr rfl | assumption) : FLS X i (.Assign [.Name x px] (.ListComp elt [⟨tg, iter, [], 0⟩] scope pos) spos) (fLC fi b yT fe) := by
  obtain ⟨wi, pi, ri⟩ := hi
  exact ⟨_, zd9 hN hi' hx hc S pi hgS hg (fun _ _ _ _ => zb5) (fun _ _ _ _ => (he _ _ _ _).can) hs hsw hf, zba ri hrb zea X8⟩
theorem za8 {i : Nat} {x : Str} {px spos : Pos} {X : Cx} {elt tg iter c : Expr} {L M : List Str} {scope : Scope} {cl : List (Str × Addr)} {pos : Pos} {fi : Ev → Option (List D)} {b : D → Option (List (Option D))} {ft : Ev → Option Bool} {fe : Ev → Option D} {g : TG}
    (hN : X.N.Nodup) (hi' : X.N[i]? = some x) (hx : Loc X.env.scope x) (hc : X.calm = true) (S : yM X L M scope cl) (hi : ID X tg iter fi)
    (hgS : ∀ (σ : St) (v : V) (H : Hp) (Q : St → Hp → Prop), g v (List.replicate L.length none ++ σ) H Q → g v (List.replicate L.length none ++ σ) H (fun σ2 H2 => vM (List.replicate L.length none ++ σ) σ2 ∧ Q σ2 H2))
    (hrb : RB L.length g b)
    (hg : ∀ s₀ H₀ ex pn, PG (Xh X L M scope cl s₀ H₀ ex pn) tg g) (ht : ∀ s₀ H₀ ex pn, TD (Xh X L M scope cl s₀ H₀ ex pn) c ft) (he : ∀ s₀ H₀ ex pn, ED (Xh X L M scope cl s₀ H₀ ex pn) elt fe)
    (hs : ∀ x, foldedSetIterable iter X.env x = pure x := by intro _; rfl)
    (hsw : swapsWith (.ListComp elt [⟨tg, iter, [c], 0⟩] scope pos) (some (.Name x px)) spos.line X.env = pure true := by rfl)
    (hf : X.fn x = true ∨ X.env.scope.names.lookup x = some .local := by first | exact .inl rfl | exact .inr rfl | assumption) : FLS X i (.Assign [.Name x px] (.ListComp elt [⟨tg, iter, [c], 0⟩] scope pos) spos) (fLC fi b ft fe) := by
  obtain ⟨wi, pi, ri⟩ := hi
  exact ⟨_, zd9 hN hi' hx hc S pi hgS hg (fun _ _ _ _ => Vd (ht _ _ _ _).can) (fun _ _ _ _ => (he _ _ _ _).can) hs hsw hf, zba ri hrb zb6 X8⟩
noncomputable def fnD (n : Nat) (g : SE → Ctl) (ds : List D) : Option D := match g (ds.map .v ++ List.replicate (n - ds.length) .no) with
  | .rt d => some d
  | .nx _ => some .non
  | _ => none
noncomputable def spD (m : Nat) (p : List D → Option D) : Sp := fun vs H Q _ => ∃ ds d F, ds.length = m ∧ yB F H ∧ AtL F ds vs ∧ p ds = some d ∧ ∀ F' H' v, Gr F H F' H' → At F' d v → Q v H'
theorem zc6 {F H : Hp} {N : List Str} {ds : List D} {vs : List V} (s : yB F H) (a : AtL F ds vs) : Rl F H F H (ds.map .v ++ List.replicate (N.length - ds.length) .no) (L2.start N vs) := by
  have hl := a.length
  have noO : ∀ (i : Nat) (t : Sl), (ds.map Sl.v ++ List.replicate (N.length - ds.length) Sl.no)[i]? = some t → t.isO = true → False := fun i t h ho => by
    by_cases hi : i < ds.length
    · rw [List.getElem?_append_left (by simpa using hi), List.getElem?_map] at h
      cases e : ds[i]? with
      | none => rw [e] at h; cases h
      | some d => rw [e] at h; cases h; cases ho
    · rw [List.getElem?_append_right (by simpa using hi), List.getElem?_replicate] at h
      split at h <;> cases h
      cases ho
  refine ⟨.refl s, fun i d h => ?_, fun i t h ho => (noO i t h ho).elim, fun i j p t u h _ ho => (noO i t h ho).elim, ?_⟩
  · by_cases hi : i < ds.length
    · rw [List.getElem?_append_left (by simpa using hi), List.getElem?_map] at h
      cases e : ds[i]? with
      | none => rw [e] at h; cases h
      | some d' =>
        rw [e] at h
        cases h
        obtain ⟨x, hx, ax⟩ := a.get e
        refine ⟨x, ?_, ax⟩
        unfold L2.start
        rw [List.getElem?_append_left (by simpa [hl] using hi), List.getElem?_map, hx]
        rfl
    · rw [List.getElem?_append_right (by simpa using hi), List.getElem?_replicate] at h
      split at h <;> cases h
  · unfold L2.start
    simp [hl]
theorem xt {P : Program} {w : World} {K : PySem.W.Frag} {mg : Str → Option Value} {base : Heap} {x qual : Str} {st : Stmt} {f : Addr} {fd : FuncData} {N ps : List Str} {k : Nat} {g : SE → Ctl} (Fu : Fun K x qual st f fd) (S : zw N ps (zh st))
    (hb : ∀ (cdv : Value) (A : Around) (outer : List Env) (s : Shared) (H : Hp) (E : XK), YN k (A.deeper (PyProof.Rows.envOfC qual (zh st) s.heap.objs.size f cdv)) → SDs (zel CX0 P w K mg base N qual (zh st) f cdv A outer s H E).nox (zu st) g) :
    x6 P w K mg base CX0 (k + 1) f fd ps (spD ps.length (fnD N.length g)) := by
  refine Fu.ok S (fun vs H Q E h => ?_) fun cdv A outer s H vs Q E hr h => ?_
  · obtain ⟨ds, d, F, hl, _, a, _⟩ := h
    rw [a.length]; exact hl
  · obtain ⟨ds, d, F, hl, sm, a, e, q⟩ := h
    obtain ⟨t, p, r⟩ := hb cdv A outer s H E hr
    refine ⟨t, p, r F H F H _ _ _ (zc6 sm a) ?_⟩
    unfold fnD at e
    cases hg : g (ds.map .v ++ List.replicate (N.length - ds.length) .no) with
    | rt d' => rw [hg] at e; cases e; exact fun F' H' v g av => q F' H' v g av
    | nx ρ => rw [hg] at e; cases e; exact fun F' H' σ rl => q F' H' _ rl.gr .non
    | bk ρ => rw [hg] at e; cases e
    | ct ρ => rw [hg] at e; cases e
    | no => rw [hg] at e; cases e
theorem vq {P : Program} {w : World} {K : PySem.W.Frag} {mg : Str → Option Value} {base : Heap} {f : Addr} {fd : FuncData} {ps : List Str} {k m : Nat} {p q : List D → Option D} (F : x6 P w K mg base CX0 k f fd ps (spD m p)) (h : ∀ ds d, ds.length = m → q ds = some d → p ds = some d) : x6 P w K mg base CX0 k f fd ps (spD m q) :=
  F.imp fun vs H Q E ⟨ds, d, F', h1, h2, h3, h4, h5⟩ => ⟨ds, d, F', h1, h2, h3, h ds d h1 h4, h5⟩
noncomputable def zz (m : Nat) (p : List D → Option D) (f : Ev → Option (List D)) : Ev → Option D := fun ρ => (f ρ).bind fun ds => if ds.length = m then p ds else none
theorem zq {X : Cx} {x : Str} {k m : Nat} {f : Addr} {fd : FuncData} {ps : List Str} {p : List D → Option D} {e : Expr} {es : List Expr} {pp pos : Pos} {fa : Ev → Option (List D)} (F : x6 X.prog X.w X.K X.mg X.base CX0 k f fd ps (spD m p)) (hr : YN k X.A) (hg : Gl X x) (hm : X.mg x = some (.ref f)) (hk : PySem.W.keepIn X.K (.ref f) = true) (hb : Vl X.K fd ps [])
    (ha : AD X (e :: es) fa) (hdb : (x == ("__debug__" : Str)) = false := by decide) (he : starEach (e :: es) X.env = (false, eval e X.env) :: starEach es X.env := by rfl) (hpl : (backTo pos (starEach es X.env)).any (·.1) = false := by rfl) :
    ED X (.Call (.Name x pp) (e :: es) [] pos) (zz m p fa) := by
  obtain ⟨t, pa, r⟩ := ha
  refine ⟨_, zeB F hr hg hm hk hb .nil zg3 pa hdb he hpl, fun σ ρ F0 H d Q s va e q => ?_⟩
  obtain ⟨ds, e1, e2⟩ := Option.bind_eq_some_iff.mp e
  split at e2 <;> try cases e2
  rename_i hl
  refine r σ ρ F0 H ds _ s va e1 fun F1 H1 vs g1 a1 => ?_
  refine ⟨ds, d, F1, hl, g1.fh, by rw [List.append_nil]; exact a1, e2, fun F' H' v g av => q F' H' v (g1.trans g) av⟩
end Dl
namespace Dl
open PySem L2
variable [KK]
section
variable {X : Cx} {a b c e : Expr} {pos : Pos}
theorem Xq : bootBuiltins "isinstance" = some (.builtin "isinstance") := by decide +kernel
theorem YR : bootBuiltins "len" = some (.builtin "len") := by decide +kernel
theorem zgl : bootBuiltins "min" = some (.builtin "min") := by decide +kernel
theorem zfP : bootBuiltins "max" = some (.builtin "max") := by decide +kernel
theorem WG : bootBuiltins "sorted" = some (.builtin "sorted") := by decide +kernel
theorem zfn : bootBuiltins "any" = some (.builtin "any") := by decide +kernel
theorem zdV : bootBuiltins "int" = some (.type "int") := by decide +kernel
theorem zaV : bootBuiltins "bool" = some (.type "bool") := by decide +kernel
theorem yD : bootBuiltins "tuple" = some (.type "tuple") := by decide +kernel
theorem zeF : bootBuiltins "list" = some (.type "list") := by decide +kernel
theorem wg : bootBuiltins "enumerate" = some (.type "enumerate") := by decide +kernel
theorem zfR : bootBuiltins "zip" = some (.type "zip") := by decide +kernel
theorem zd7 : bootBuiltins "set" = some (.type "set") := by decide +kernel
noncomputable def zaP (C : Int → Int → Bool) (g : Int → Int → Int) : D → D → Option D
  | .int i, .int j => if C i j = true then some (.int (g i j)) else none
  | _, _ => none
noncomputable def Zr (g : Int → Int → Int) : D → D → Option D
  | .int i, .int j => some (.int (g i j))
  | _, _ => none
noncomputable def zbt (g : Int → Int → Bool) : D → D → Option D
  | .int i, .int j => some (.bl (g i j))
  | _, _ => none
theorem Y7 {C : Int → Int → Prop} {Cb : Int → Int → Bool} {g : Int → Int → Int} (h : ∀ i j, Cb i j = true → C i j) : OpD (rI C fun i j => .int (g i j)) (zaP Cb g) := by
  intro F H x y d e z Q s ax ay ez q
  cases d <;> try cases ez
  cases e <;> try cases ez
  unfold zaP at ez
  dsimp only at ez
  split at ez <;> cases ez
  rename_i hc
  exact ⟨_, _, ax.int_inv, ay.int_inv, h _ _ hc, q F H _ (.refl s) .int⟩
theorem WF {g : Int → Int → Int} : OpD (rI0 fun i j => .int (g i j)) (Zr g) := by
  intro F H x y d e z Q s ax ay ez q
  cases d <;> try cases ez
  cases e <;> try cases ez
  exact ⟨_, _, ax.int_inv, ay.int_inv, q F H _ (.refl s) .int⟩
theorem we {g : Int → Int → Bool} : OpD (rI0 fun i j => .bl (g i j)) (zbt g) := by
  intro F H x y d e z Q s ax ay ez q
  cases d <;> try cases ez
  cases e <;> try cases ez
  exact ⟨_, _, ax.int_inv, ay.int_inv, q F H _ (.refl s) .bl⟩
theorem X5 {r r' : R2} {g g' : D → D → Option D} (h : OpD r g) (h' : OpD r' g') : OpD (fun x y H Q => r x y H Q ∨ r' x y H Q) (fun d e => (g d e).or (g' d e)) := by
  intro F H x y d e z Q s ax ay ez q
  dsimp only at ez
  cases hg : g d e with
  | some z' => rw [hg] at ez; cases ez; exact .inl (h F H x y d e z Q s ax ay hg q)
  | none => rw [hg] at ez; exact .inr (h' F H x y d e z Q s ax ay ez q)
noncomputable def zf0 : D → D → Option D
  | .tup a, .tup b => if lim (a.length + b.length) = true then some (.tup (a ++ b)) else none
  | _, _ => none
noncomputable def zfi : D → D → Option (List D)
  | .lst a, .lst b => if lim (a.length + b.length) = true then some (a ++ b) else none
  | _, _ => none
noncomputable def zbA (d e : D) : Option D := (zfi d e).map .lst
noncomputable def zfS : D → D → Option D
  | .str a, .str b => if lim (a.length + b.length) = true then some (.str (a ++ b)) else none
  | _, _ => none
theorem zda {K : PySem.W.Frag} : OpD (zdQ K) zf0 := by
  intro F H x y d e z Q s ax ay ez q
  cases d <;> try cases ez
  cases e <;> try cases ez
  unfold zf0 at ez
  dsimp only at ez
  split at ez <;> cases ez
  rename_i hl
  obtain ⟨p, xs, rfl, hx, al⟩ := ax.tup_inv
  obtain ⟨p2, ys, rfl, hy, bl⟩ := ay.tup_inv
  refine ⟨p, p2, xs, ys, rfl, rfl, SqT.of (s _ _ hx), SqT.of (s _ _ hy), by rw [al.length, bl.length]; exact of_decide_eq_true hl, fun e1 => ?_, fun _ e2 => ?_, fun _ _ r hr => ?_⟩
  · subst e1
    have : (_ : List D) = [] := List.length_eq_zero_iff.mp al.length.symm
    subst this
    exact q F H _ (.refl s) (.tup hy bl)
  · subst e2
    have : (_ : List D) = [] := List.length_eq_zero_iff.mp bl.length.symm
    subst this
    rw [List.append_nil] at q
    exact q F H _ (.refl s) (.tup hx al)
  · have g := Gr.alloc s hr (.tup (xs ++ ys))
    exact q _ _ _ g (.tup zp ((al.append bl).mono g.ff))
theorem zc8 : OpD rCat zbA := by
  intro F H x y d e z Q s ax ay ez q
  cases d <;> try cases ez
  cases e <;> try cases ez
  unfold zbA zfi at ez
  dsimp only at ez
  split at ez <;> cases ez
  rename_i hl
  obtain ⟨p, xs, rfl, hx, al⟩ := ax.lst_inv
  obtain ⟨p2, ys, rfl, hy, bl⟩ := ay.lst_inv
  refine ⟨p, p2, xs, ys, rfl, rfl, s _ _ hx, s _ _ hy, by rw [al.length, bl.length]; exact of_decide_eq_true hl, fun r hr => ?_⟩
  have g := Gr.alloc s hr (.lst (xs ++ ys))
  exact q _ _ _ g (.lst zp ((al.append bl).mono g.ff))
theorem zdg : OpD (fun x y H Q => ∃ i j, x = .str i ∧ y = .str j ∧ i.length + j.length ≤ sizeLine ∧ Q (.str (i ++ j)) H) zfS := by
  intro F H x y d e z Q s ax ay ez q
  cases d <;> try cases ez
  cases e <;> try cases ez
  unfold zfS at ez
  dsimp only at ez
  split at ez <;> cases ez
  rename_i hl
  exact ⟨_, _, ax.str_inv, ay.str_inv, of_decide_eq_true hl, q F H _ (.refl s) .str⟩
noncomputable def xX : D → D → Option D
  | .int i, .int j => some (.int (i + j))
  | .tup a, .tup b => if lim (a.length + b.length) = true then some (.tup (a ++ b)) else none
  | .lst a, .lst b => if lim (a.length + b.length) = true then some (.lst (a ++ b)) else none
  | .str a, .str b => if lim (a.length + b.length) = true then some (.str (a ++ b)) else none
  | _, _ => none
theorem WZ {r : R2} {g g' : D → D → Option D} (h : OpD r g) (k : ∀ d e z, g' d e = some z → g d e = some z) : OpD r g' := fun F H x y d e z Q s ax ay ez q => h F H x y d e z Q s ax ay (k d e z ez) q
theorem yA {f h : Ev → Option D} (ha : ED X a f) (hb : ED X b h) : ED X (.BinOp a .Add b pos) (zm xX f h) :=
  Z9 (((zfW.or zcX).or zgn).or zac) (WZ (X5 (X5 (X5 (WF (g := fun i j => i + j)) zda) zc8) zdg) fun d e z h => by
    cases d <;> try cases h
    all_goals cases e <;> try cases h
    · rfl
    · unfold xX at h; dsimp only at h; split at h <;> cases h; rename_i hl; simp [Zr, zf0, hl, zbA, zfi, zfS]
    · unfold xX at h; dsimp only at h; split at h <;> cases h; rename_i hl; simp [Zr, zf0, hl, zbA, zfi, zfS]
    · unfold xX at h; dsimp only at h; split at h <;> cases h; rename_i hl; simp [Zr, zf0, hl, zbA, zfi, zfS]) ha hb
theorem zcs {F H F1 H1 : Hp} {p : Addr} (g1 : Gr F H F1 H1) (hp : H1 p = none) : H p = none := by
  cases e : H p with
  | none => rfl
  | some o =>
    cases e2 : F p with
    | none => rw [(g1.kp p o e2 e).2] at hp; cases hp
    | some u => rw [g1.fh _ _ (g1.ff _ _ e2)] at hp; cases hp
noncomputable def Zw (i j : Int) : Bool := decide ((-(2 ^ 64) < i ∧ i < 2 ^ 64) ∨ (-(2 ^ 64) < j ∧ j < 2 ^ 64))
noncomputable def zhc : D → D → Option (List D)
  | .lst a, .int k => if -(2 ^ 63) ≤ k ∧ k < 2 ^ 63 ∧ lim (a.length * k.toNat) = true then some (List.replicate k.toNat a).flatten else none
  | _, _ => none
noncomputable def zdd (d e : D) : Option D := (zhc d e).map .lst
noncomputable def ZK : D → D → Option D
  | .int i, .int j => if Zw i j = true then some (.int (i * j)) else none
  | .lst a, .int k => if -(2 ^ 63) ≤ k ∧ k < 2 ^ 63 ∧ lim (a.length * k.toNat) = true then some (.lst (List.replicate k.toNat a).flatten) else none
  | _, _ => none
theorem zcZ : OpD rRep zdd := by
  intro F H x y d e z Q s ax ay ez q
  cases d <;> try cases ez
  cases e <;> try cases ez
  unfold zdd zhc at ez
  dsimp only at ez
  split at ez <;> cases ez
  rename_i hl
  obtain ⟨p, xs, rfl, hx, al⟩ := ax.lst_inv
  refine ⟨p, _, xs, rfl, ay.int_inv, s _ _ hx, hl.1, hl.2.1, by rw [al.length]; exact of_decide_eq_true hl.2.2, fun r hr => ?_⟩
  rename_i ds k
  have g := Gr.alloc s hr (.lst (List.replicate k.toNat xs).flatten)
  exact q _ _ _ g (.lst zp ((al.rep _).mono g.ff))
theorem X4 {f h : Ev → Option D} (ha : ED X a f) (hb : ED X b h) : ED X (.BinOp a .Mult b pos) (zm ZK f h) :=
  Z9 (zfw.or zfv) (WZ (X5 (Y7 (Cb := Zw) (g := fun i j => i * j) fun i j h => by have h' := of_decide_eq_true (show decide ((-(2 ^ 64) < i ∧ i < 2 ^ 64) ∨ (-(2 ^ 64) < j ∧ j < 2 ^ 64)) = true from h); exact h') zcZ) fun d e z h => by
    cases d <;> try cases h
    all_goals cases e <;> try cases h
    · unfold ZK at h; dsimp only at h; split at h <;> cases h; rename_i hl; simp [zaP, hl]
    · unfold ZK at h; dsimp only at h; split at h <;> cases h; rename_i hl; show (zdd _ _) = _; unfold zdd zhc; dsimp only; rw [if_pos hl]; rfl) ha hb
noncomputable def zcN := Zr fun i j => i - j
noncomputable def wn := zaP (fun _ j => decide (0 < j ∧ j < 1606938044258990275541962092341162602522202993782792835301376)) fun i j => i / j
noncomputable def x5 := zaP (fun _ j => decide (0 < j)) fun i j => i % j
noncomputable def zfd := zaP (fun _ j => decide (0 ≤ j)) fun i j => i / 2 ^ j.toNat
theorem zci {f h : Ev → Option D} (ha : ED X a f) (hb : ED X b h) : ED X (.BinOp a .Sub b pos) (zm zcN f h) := Z9 zfm WF ha hb
theorem zcP : OpR X (binaryOp .FloorDiv) (rI (fun _ j => 0 < j ∧ j < 1606938044258990275541962092341162602522202993782792835301376) fun i j => .int (i / j)) := opI fun i j _ _ _ _ _ hc q => by
  have h1 : (0 : Int) < j := hc.1
  have h2 : j < 1606938044258990275541962092341162602522202993782792835301376 := hc.2
  refine PyProof.Rows.floordiv_int (by omega) (by rw [Int.fdiv_eq_ediv_of_nonneg i (by omega)]; exact q) (.inl (PyProof.noPylong_of_log2 ?_))
  have h0 : j.natAbs ≠ 0 := by omega
  have h3 : j.natAbs < 1606938044258990275541962092341162602522202993782792835301376 := by omega
  have h4 : j.natAbs.log2 < 200 := (Nat.log2_lt h0).mpr h3
  omega
theorem Zj {f h : Ev → Option D} (ha : ED X a f) (hb : ED X b h) : ED X (.BinOp a .FloorDiv b pos) (zm wn f h) := Z9 zcP (Y7 fun _ _ h => by have h' := of_decide_eq_true h; exact h') ha hb
theorem wk {f h : Ev → Option D} (ha : ED X a f) (hb : ED X b h) : ED X (.BinOp a .Mod b pos) (zm x5 f h) := Z9 zgj (Y7 fun _ _ h => by have h' := of_decide_eq_true h; exact h') ha hb
theorem zf6 {f h : Ev → Option D} (ha : ED X a f) (hb : ED X b h) : ED X (.BinOp a .RShift b pos) (zm zfd f h) := Z9 zfO (Y7 fun _ _ h => by have h' := of_decide_eq_true h; exact h') ha hb
noncomputable def ltD := zbt fun i j => decide (i < j)
noncomputable def leD := zbt fun i j => decide (i ≤ j)
noncomputable def gtD := zbt fun i j => decide (j < i)
noncomputable def geD := zbt fun i j => decide (j ≤ i)
noncomputable def eqS : D → D → Option Bool
  | .non, .non => some true
  | .int i, .int j => some (decide (i = j))
  | .bl i, .bl j => some (decide (i = j))
  | .str i, .str j => some (decide (i = j))
  | .non, .int _ => some false | .int _, .non => some false | .non, .bl _ => some false | .bl _, .non => some false | .non, .str _ => some false | .str _, .non => some false
  | .int _, .str _ => some false | .str _, .int _ => some false | .bl _, .str _ => some false | .str _, .bl _ => some false
  | _, _ => none
noncomputable def eqD (d e : D) : Option D := (eqS d e).map .bl
noncomputable def neD (d e : D) : Option D := (eqS d e).map fun c => .bl (!c)
theorem zd2 : OpD rEq eqD := by
  intro F H x y d e z Q s ax ay ez q
  obtain ⟨c, e1, rfl⟩ := Option.map_eq_some_iff.mp ez
  cases d <;> cases e <;> try cases e1
  · cases ax.non_inv; cases ay.non_inv; exact ⟨rfl, q F H _ (.refl s) .bl⟩
  · cases ax.non_inv; cases ay.bl_inv; exact ⟨rfl, q F H _ (.refl s) .bl⟩
  · cases ax.non_inv; cases ay.int_inv; exact ⟨rfl, q F H _ (.refl s) .bl⟩
  · cases ax.non_inv; cases ay.str_inv; exact ⟨rfl, q F H _ (.refl s) .bl⟩
  · cases ax.bl_inv; cases ay.non_inv; exact ⟨rfl, q F H _ (.refl s) .bl⟩
  · cases ax.bl_inv; cases ay.bl_inv; refine ⟨rfl, ?_⟩; rw [show ∀ i j : Bool, decide (V.bl i = V.bl j) = decide (i = j) from fun i j => by simp]; exact q F H _ (.refl s) .bl
  · cases ax.bl_inv; cases ay.str_inv; exact ⟨rfl, q F H _ (.refl s) .bl⟩
  · cases ax.int_inv; cases ay.non_inv; exact ⟨rfl, q F H _ (.refl s) .bl⟩
  · cases ax.int_inv; cases ay.int_inv; refine ⟨rfl, ?_⟩; rw [show ∀ i j : Int, decide (V.int i = V.int j) = decide (i = j) from fun i j => by simp]; exact q F H _ (.refl s) .bl
  · cases ax.int_inv; cases ay.str_inv; exact ⟨rfl, q F H _ (.refl s) .bl⟩
  · cases ax.str_inv; cases ay.non_inv; exact ⟨rfl, q F H _ (.refl s) .bl⟩
  · cases ax.str_inv; cases ay.bl_inv; exact ⟨rfl, q F H _ (.refl s) .bl⟩
  · cases ax.str_inv; cases ay.int_inv; exact ⟨rfl, q F H _ (.refl s) .bl⟩
  · cases ax.str_inv; cases ay.str_inv; refine ⟨rfl, ?_⟩; rw [show ∀ i j : Str, decide (V.str i = V.str j) = decide (i = j) from fun i j => by simp]; exact q F H _ (.refl s) .bl
theorem WB : OpD rNe neD := by
  intro F H x y d e z Q s ax ay ez q
  obtain ⟨c, e1, rfl⟩ := Option.map_eq_some_iff.mp ez
  have := zd2 F H x y d e (.bl c) (fun v H' => ∃ b, v = .bl b ∧ Q (.bl (!b)) H') s ax ay (by unfold eqD; rw [e1]; rfl) fun F' H' v g av => ⟨c, av.bl_inv, q F' H' _ g .bl⟩
  obtain ⟨h1, b, h2, h3⟩ := this
  cases h2
  exact ⟨h1, h3⟩
noncomputable def zfb : D → D → Option D
  | d, .non => some (.bl (match d with | .non => true | _ => false))
  | .bl a, .bl b => some (.bl (a == b))
  | _, _ => none
noncomputable def wU : D → D → Option D
  | d, .non => some (.bl (match d with | .non => false | _ => true))
  | .bl a, .bl b => some (.bl (!(a == b)))
  | _, _ => none
theorem zeV {F : Hp} {d : D} {x : V} (h : At F d x) : decide (x = V.non) = (match d with | .non => true | _ => false) := by
  cases d with
  | non => cases h.non_inv; rfl
  | bl b => cases h.bl_inv; rfl
  | int b => cases h.int_inv; rfl
  | str b => cases h.str_inv; rfl
  | tup ds => obtain ⟨a, xs, rfl, _⟩ := h.tup_inv; rfl
  | lst ds => obtain ⟨a, xs, rfl, _⟩ := h.lst_inv; rfl
  | scr ds => obtain ⟨a, rfl, _⟩ := h.scr_inv; rfl
  | dct z t ks vs => obtain ⟨a, xs, rfl, _⟩ := h.dct_inv; rfl
theorem zab : OpD (fun x y H Q => (y = .non ∧ Q (.bl (!decide (x = .non))) H) ∨ ∃ i j, x = .bl i ∧ y = .bl j ∧ Q (.bl (!(i == j))) H) wU := by
  intro F H x y d e z Q s ax ay ez q
  unfold wU at ez
  split at ez
  · cases ez
    refine .inl ⟨ay.non_inv, ?_⟩
    rw [zeV ax]
    have := q F H _ (.refl s) .bl
    cases d <;> exact this
  · cases ez
    exact .inr ⟨_, _, ax.bl_inv, ay.bl_inv, q F H _ (.refl s) .bl⟩
  · cases ez
theorem zbj : OpR X (compareOp .IsNot) (fun x y H Q => (y = .non ∧ Q (.bl (!decide (x = .non))) H) ∨ ∃ i j, x = .bl i ∧ y = .bl j ∧ Q (.bl (!(i == j))) H) := zeu.or Vc
noncomputable def Ya (g g' : D → D → Option D) (f h k : Ev → Option D) : Ev → Option D := fun ρ => (f ρ).bind fun x => (h ρ).bind fun y => ((g x y).bind asB).bind fun c => if c = true then (k ρ).bind fun z => g' y z else some (.bl false)
theorem zdh {r r' : R2} {g g' : D → D → Option D} {ta tb tc : TE} {f h k : Ev → Option D} (hg : OpD r g) (hg' : OpD r' g') (ra : RE ta f) (rb : RE tb h) (rc : RE tc k) : RE (zcy r r' ta tb tc) (Ya g g' f h k) := by
  intro σ ρ F H z Q s va e q
  obtain ⟨x, e1, e⟩ := Option.bind_eq_some_iff.mp e
  obtain ⟨y, e2, e⟩ := Option.bind_eq_some_iff.mp e
  obtain ⟨c, e3, e⟩ := Option.bind_eq_some_iff.mp e
  obtain ⟨cd, e3, e4⟩ := Option.bind_eq_some_iff.mp e3
  cases Y9 e4
  refine ra σ ρ F H x _ s va e1 fun F1 H1 v g1 a1 => ?_
  refine rb σ ρ F1 H1 y _ g1.fh (va.mono g1.ff) e2 fun F2 H2 u g2 a2 => ?_
  refine hg F2 H2 v u x y _ _ g2.fh (a1.mono g2.ff) a2 e3 fun F3 H3 w g3 a3 => ⟨c, a3.bl_inv, ?_⟩
  have g123 := (g1.trans g2).trans g3
  cases c with
  | true =>
    rw [if_pos rfl] at e ⊢
    obtain ⟨z', e5, e6⟩ := Option.bind_eq_some_iff.mp e
    refine rc σ ρ F3 H3 z' _ g3.fh (va.mono g123.ff) e5 fun F4 H4 w4 g4 a4 => ?_
    exact hg' F4 H4 u w4 y z' z Q g4.fh (a2.mono (g3.ff.trans g4.ff)) a4 e6 fun F5 H5 w5 g5 a5 => q F5 H5 w5 ((g123.trans g4).trans g5) a5
  | false =>
    rw [if_neg Bool.false_ne_true] at e ⊢
    cases e
    exact q F3 H3 _ g123 .bl
theorem zdI {op op' : CmpOp} {r r' : R2} {g g' : D → D → Option D} {f h k : Ev → Option D} (ho : OpR X (compareOp op) r) (ho' : OpR X (compareOp op') r') (hg : OpD r g) (hg' : OpD r' g') (ha : ED X a f) (hb : ED X b h) (hc : ED X c k)
    (pch : ∀ {ta tb tc : TE}, PE X a ta → PE X b tb → PE X c tc → PE X (.Compare a [op, op'] [b, c] pos) (zcy r r' ta tb tc)) : ED X (.Compare a [op, op'] [b, c] pos) (Ya g g' f h k) :=
  let ⟨_, pa, ra⟩ := ha
  let ⟨_, pb, rb⟩ := hb
  let ⟨_, pc, rc⟩ := hc
  ⟨_, pch pa pb pc, zdh hg hg' ra rb rc⟩
noncomputable def VX : List D → Option (List Int)
  | [] => some []
  | .int b :: ds => (VX ds).map (b :: ·)
  | _ => none
omit [KK] in
theorem ZC : ∀ {ds : List D} {bs : List Int}, VX ds = some bs → ds = bs.map .int
  | [], bs, h => by cases h; rfl
  | d :: ds, bs, h => by
    cases d <;> try cases h
    obtain ⟨cs, h1, rfl⟩ := Option.map_eq_some_iff.mp h
    rw [ZC h1]
    rfl
noncomputable def leT : D → D → Option D
  | .tup a, .tup b => (VX a).bind fun ns => (VX b).map fun ms => .bl (HT.lexLe ns ms)
  | _, _ => none
theorem zbE {K : PySem.W.Frag} : OpD (rLeT K) leT := by
  intro F H x y d e z Q s ax ay ez q
  cases d <;> try cases ez
  cases e <;> try cases ez
  obtain ⟨ns, e1, e2⟩ := Option.bind_eq_some_iff.mp ez
  obtain ⟨ms, e3, rfl⟩ := Option.map_eq_some_iff.mp e2
  rw [ZC e1] at ax
  rw [ZC e3] at ay
  obtain ⟨p, xs, rfl, hx, al⟩ := ax.tup_inv
  obtain ⟨p2, ys, rfl, hy, bl⟩ := ay.tup_inv
  cases al.of_ints
  cases bl.of_ints
  exact ⟨p, p2, ns, ms, rfl, rfl, SqT.of (s _ _ hx), SqT.of (s _ _ hy), q F H _ (.refl s) .bl⟩
noncomputable def ixD : D → D → Option D
  | .lst ds, .int i => atI ds i
  | .tup ds, .int i => atI ds i
  | .scr ns, .int i => (atI ns i).map .int
  | _, _ => none
theorem AtL.atI {F : Hp} {ds : List D} {xs : List V} {i : Int} {d : D} (al : AtL F ds xs) (h : L2.atI ds i = some d) : ∃ x, L2.atI xs i = some x ∧ At F d x := by
  unfold L2.atI at h ⊢
  obtain ⟨j, e1, e2⟩ := Option.bind_eq_some_iff.mp h
  obtain ⟨x, hx, ax⟩ := al.get e2
  exact ⟨x, by rw [al.length, e1]; exact hx, ax⟩
theorem zfC : OpD (rIx KK.K) ixD := by
  intro F H x y d e z Q s ax ay ez q
  cases e <;> try (cases d <;> cases ez)
  cases ay.int_inv
  cases d with
  | lst ds =>
    obtain ⟨p, xs, rfl, hx, al⟩ := ax.lst_inv
    obtain ⟨v, e1, av⟩ := al.atI ez
    exact .inl ⟨p, xs, _, v, rfl, rfl, SqL.of (s _ _ hx), e1, q F H _ (.refl s) av⟩
  | tup ds =>
    obtain ⟨p, xs, rfl, hx, al⟩ := ax.tup_inv
    obtain ⟨v, e1, av⟩ := al.atI ez
    exact .inr (.inl ⟨p, xs, _, v, rfl, rfl, SqT.of (s _ _ hx), e1, q F H _ (.refl s) av⟩)
  | scr ns =>
    obtain ⟨p, rfl, hx⟩ := ax.scr_inv
    obtain ⟨n, e1, rfl⟩ := Option.map_eq_some_iff.mp ez
    refine .inl ⟨p, ns.map V.int, _, .int n, rfl, rfl, s.seq hx, ?_, q F H _ (.refl s) .int⟩
    unfold L2.atI at e1 ⊢
    rw [List.length_map]
    obtain ⟨j, e2, e3⟩ := Option.bind_eq_some_iff.mp e1
    rw [e2]
    show (ns.map V.int)[j]? = _
    rw [List.getElem?_map, e3]
    rfl
  | _ => cases ez
theorem yi {f h : Ev → Option D} (ha : ED X a f) (hb : ED X b h) (hs : zbL b) (hK : X.K = KK.K := by rfl) : ED X (.Subscript a b pos) (zm ixD f h) :=
  let ⟨_, pa, ra⟩ := ha
  let ⟨_, pb, rb⟩ := hb
  ⟨_, zhm zfQ pa pb hs, zc7 (by rw [hK]; exact zfC) ra rb⟩
noncomputable def ZS {α : Type} (xs : List α) (lo hi : Option Int) : List α := (xs.drop (HT.sIx xs.length 0 lo)).take (HT.sIx xs.length xs.length hi - HT.sIx xs.length 0 lo)
theorem AtL.cut {F : Hp} {ds : List D} {xs : List V} {lo hi : Option Int} (al : AtL F ds xs) : AtL F (ZS ds lo hi) (W5 xs lo hi) := by
  unfold ZS W5
  rw [al.length]
  exact (al.drop _).take _
noncomputable def OD (X : Cx) (e : Option Expr) (f : Ev → Option (Option Int)) : Prop := ∃ t, PO X e t ∧ ∀ (σ : St) (ρ : Ev) (F H : Hp) (i : Option Int) (Q : Option Int → Hp → Prop), yB F H → VAt F ρ σ → f ρ = some i → (∀ F' H', Gr F H F' H' → Q i H') → t σ H Q
noncomputable def yV : Ev → Option (Option Int) := fun _ => some none
noncomputable def asI : D → Option Int
  | .int i => some i
  | _ => none
noncomputable def yG (f : Ev → Option D) : Ev → Option (Option Int) := fun ρ => ((f ρ).bind asI).map some
theorem xE : OD X none yV := ⟨_, zeY, fun _ _ _ _ _ _ s _ e q => by cases e; exact q _ _ (.refl s)⟩
theorem xC {f : Ev → Option D} (h : ED X e f) : OD X (some e) (yG f) := by
  obtain ⟨t, p, r⟩ := h
  refine ⟨_, zcw p, fun σ ρ F H i Q s va e q => ?_⟩
  obtain ⟨j, e1, rfl⟩ := Option.map_eq_some_iff.mp e
  obtain ⟨d, e1, e2⟩ := Option.bind_eq_some_iff.mp e1
  cases d <;> cases e2
  exact r σ ρ F H _ _ s va e1 fun F1 H1 v g1 a1 => ⟨_, a1.int_inv, q F1 H1 g1⟩
noncomputable def slD : D → Option Int → Option Int → Option D
  | .lst ds, lo, hi => some (.lst (ZS ds lo hi))
  | .scr ns, lo, hi => some (.lst ((ZS ns lo hi).map .int))
  | .tup ds, lo, hi => some (.tup (ZS ds lo hi))
  | _, _, _ => none
noncomputable def eSl (g : D → Option Int → Option Int → Option D) (f : Ev → Option D) (l h : Ev → Option (Option Int)) : Ev → Option D := fun ρ => (f ρ).bind fun d => (l ρ).bind fun lo => (h ρ).bind fun hi => g d lo hi
omit [KK] in
theorem zdr {ns : List Int} {lo hi : Option Int} : W5 (ns.map V.int) lo hi = (ZS ns lo hi).map V.int := by
  unfold W5 ZS
  rw [List.length_map, List.map_take, List.map_drop]
end
end Dl
namespace L2
open PySem PySem.Spec PyProof.Rows
noncomputable def rSlN : V → Option Int → Option Int → Hp → VK → Prop := fun x lo hi H Q => ∃ a xs, x = .ref a ∧ H a = some (.tup xs) ∧ (W5 xs lo hi = xs → Q (.ref a) H) ∧ ∀ p, H p = none → Q (.ref p) (upd H p (.tup (W5 xs lo hi)))
theorem ze2 {X : Cx} : SlR X rSlN := by
  intro pins s σ H x v vl vu lo hi sl Q I rx hs pl pu h
  obtain ⟨a, xs, rfl, hx, q1, q2⟩ := h
  by_cases hw : HT.sIx xs.length 0 lo = 0 ∧ HT.sIx xs.length xs.length hi = xs.length
  · cases rx
    obtain ⟨its, r, ht, hz⟩ := I.tuple (SqT.of hx)
    have hlen : its.toArray.size = xs.length := by rw [List.size_toArray]; exact r.length.symm
    refine ⟨"tuple", _, PyProof.Rows.slot_tuple_getitem.lookup, ht.typeIs, ?_⟩
    refine HT.own_getItem_whole ht hs pl pu (by rw [hlen]; exact hw) ⟨.ref a, H, I, rfl, q1 ?_⟩
    unfold W5
    rw [hw.1, hw.2, List.drop_zero, Nat.sub_zero, List.take_length]
  · exact zgv pins s σ H (.ref a) v vl vu lo hi sl Q I rx hs pl pu ⟨a, xs, rfl, SqT.of hx, hw, q2⟩
end L2
namespace Dl
open PySem L2
variable [KK]
section
variable {X : Cx} {a b c e : Expr} {pos : Pos}
theorem yF {lo hi : Option Expr} {p2 : Pos} {f : Ev → Option D} {l h : Ev → Option (Option Int)} (ha : ED X a f) (hl : OD X lo l) (hh : OD X hi h) (hK : X.K = KK.K := by rfl) : ED X (.Subscript a (.Slice lo hi none p2) pos) (eSl slD f l h) := by
  obtain ⟨ta, pa, ra⟩ := ha
  obtain ⟨tl, ppl, rl⟩ := hl
  obtain ⟨th, ph, rh⟩ := hh
  refine ⟨_, zdw (zep.or ze2) pa ppl ph, fun σ ρ F H z Q s va e q => ?_⟩
  obtain ⟨d, e1, e⟩ := Option.bind_eq_some_iff.mp e
  obtain ⟨i, e2, e⟩ := Option.bind_eq_some_iff.mp e
  obtain ⟨j, e3, e⟩ := Option.bind_eq_some_iff.mp e
  refine ra σ ρ F H d _ s va e1 fun F1 H1 v g1 a1 => ?_
  refine rl σ ρ F1 H1 i _ g1.fh (va.mono g1.ff) e2 fun F2 H2 g2 => ?_
  refine rh σ ρ F2 H2 j _ g2.fh (va.mono (g1.ff.trans g2.ff)) e3 fun F3 H3 g3 => ?_
  have g123 := (g1.trans g2).trans g3
  have a3 := a1.mono (g2.ff.trans g3.ff)
  cases d <;> try cases e
  · obtain ⟨p, xs, rfl, hx, al⟩ := a3.tup_inv
    refine .inr ⟨p, xs, rfl, g3.fh _ _ hx, fun ec => ?_, fun r hr => ?_⟩
    · have := al.cut (lo := i) (hi := j)
      rw [ec] at this
      exact q F3 H3 _ g123 (.tup hx this)
    · have g := Gr.alloc g3.fh hr (.tup (W5 xs i j))
      exact q _ _ _ (g123.trans g) (.tup zp (al.cut.mono g.ff))
  · obtain ⟨p, xs, rfl, hx, al⟩ := a3.lst_inv
    refine .inl ⟨p, xs, rfl, SqL.of (g3.fh _ _ hx), fun r hr => ?_⟩
    have g := Gr.alloc g3.fh hr (.lst (W5 xs i j))
    exact q _ _ _ (g123.trans g) (.lst zp (al.cut.mono g.ff))
  · rename_i ns _ _
    obtain ⟨p, rfl, hx⟩ := a3.scr_inv
    refine .inl ⟨p, _, rfl, (by rw [hK]; exact g3.fh.seq hx), fun r hr => ?_⟩
    rw [zdr]
    have g := Gr.alloc g3.fh hr (.lst ((ZS ns i j).map V.int))
    exact q _ _ _ (g123.trans g) (.lst zp (.ints _))
noncomputable def CaD (r : List V → Hp → VK → Prop) (g : List D → Option D) : Prop := ∀ (F H : Hp) (vs : List V) (ds : List D) (z : D) (Q : VK), yB F H → AtL F ds vs → g ds = some z → (∀ F' H' v, Gr F H F' H' → At F' z v → Q v H') → r vs H Q
noncomputable def eFn (g : List D → Option D) (f : Ev → Option (List D)) : Ev → Option D := fun ρ => (f ρ).bind g
noncomputable def fFn (g : List D → Option (List D)) (f : Ev → Option (List D)) : Ev → Option (List D) := fun ρ => (f ρ).bind g
theorem xq {x : Str} {id : String} {p : Pos} {es : List Expr} {r : List V → Hp → VK → Prop} {g : List D → Option D} {f : Ev → Option (List D)} (hc : Yw X (.builtin id) r) (hg : CaD r g) (hgl : Gl X x) (hm : X.mg x = none) (hv : bootBuiltins x = some (.builtin id)) (ha : AD X (e :: es) f)
    (hn : x ≠ "__name__" := by decide) (hdb : (x == ("__debug__" : Str)) = false := by decide) (he : starEach (e :: es) X.env = (false, eval e X.env) :: starEach es X.env := by rfl) (hpl : (backTo pos (starEach es X.env)).any (·.1) = false := by rfl) :
    ED X (.Call (.Name x p) (e :: es) [] pos) (eFn g f) := by
  obtain ⟨t, pa, ra⟩ := ha
  refine ⟨_, Xx hc hgl hm hv pa hn hdb he hpl, fun σ ρ F H z Q s va e q => ?_⟩
  obtain ⟨ds, e1, e2⟩ := Option.bind_eq_some_iff.mp e
  refine ra σ ρ F H ds _ s va e1 fun F1 H1 vs g1 a1 => ?_
  exact hg F1 H1 vs ds z Q g1.fh a1 e2 fun F' H' v g av => q F' H' v (g1.trans g) av
theorem wv {x : Str} {T : String} {p : Pos} {es : List Expr} {r : List V → Hp → VK → Prop} {g : List D → Option D} {f : Ev → Option (List D)} (hc : Yw X (.type T) r) (hg : CaD r g) (hgl : Gl X x) (hm : X.mg x = none) (hv : bootBuiltins x = some (.type T)) (ha : AD X (e :: es) f)
    (hn : x ≠ "__name__" := by decide) (hdb : (x == ("__debug__" : Str)) = false := by decide) (he : starEach (e :: es) X.env = (false, eval e X.env) :: starEach es X.env := by rfl) (hpl : (backTo pos (starEach es X.env)).any (·.1) = false := by rfl) :
    ED X (.Call (.Name x p) (e :: es) [] pos) (eFn g f) := by
  obtain ⟨t, pa, ra⟩ := ha
  refine ⟨_, Ws hc hgl hm hv pa hn hdb he hpl, fun σ ρ F H z Q s va e q => ?_⟩
  obtain ⟨ds, e1, e2⟩ := Option.bind_eq_some_iff.mp e
  refine ra σ ρ F H ds _ s va e1 fun F1 H1 vs g1 a1 => ?_
  exact hg F1 H1 vs ds z Q g1.fh a1 e2 fun F' H' v g av => q F' H' v (g1.trans g) av
noncomputable def Z2 : List D → Option D
  | [.lst ds] => some (.int ds.length)
  | [.tup ds] => some (.int ds.length)
  | [.scr ds] => some (.int ds.length)
  | _ => none
theorem vS : CaD (fun xs H Q => ∃ p ys, xs = [.ref p] ∧ (SqL KK.K H p ys ∨ SqT KK.K H p ys) ∧ Q (.int ys.length) H) Z2 := by
  intro F H vs ds z Q s al e q
  unfold Z2 at e
  split at e <;> cases e
  all_goals
    obtain ⟨x, r, rfl, ax, ar⟩ := al.cons_inv
    cases ar.nil_inv
  · obtain ⟨p, xs, rfl, hx, bl⟩ := ax.lst_inv
    exact ⟨p, xs, rfl, .inl (SqL.of (s _ _ hx)), by rw [bl.length]; exact q F H _ (.refl s) .int⟩
  · obtain ⟨p, xs, rfl, hx, bl⟩ := ax.tup_inv
    exact ⟨p, xs, rfl, .inr (SqT.of (s _ _ hx)), by rw [bl.length]; exact q F H _ (.refl s) .int⟩
  · obtain ⟨p, rfl, hx⟩ := ax.scr_inv
    exact ⟨p, _, rfl, .inl ((s.seq hx)), by rw [List.length_map]; exact q F H _ (.refl s) .int⟩
noncomputable def zfJ : List D → Option D
  | [.int i, .int j] => some (.int (if j > i then j else i))
  | _ => none
noncomputable def zgm : List D → Option D
  | [.int i, .int j] => some (.int (if j < i then j else i))
  | _ => none
theorem VS {g : Int → Int → Int} : CaD (fun xs H Q => ∃ i j, xs = [.int i, .int j] ∧ Q (.int (g i j)) H) (fun ds => match ds with | [.int i, .int j] => some (.int (g i j)) | _ => none) := by
  intro F H vs ds z Q s al e q
  dsimp only at e
  split at e <;> cases e
  obtain ⟨x, r, rfl, ax, ar⟩ := al.cons_inv
  obtain ⟨y, r, rfl, ay, ar⟩ := ar.cons_inv
  cases ar.nil_inv
  exact ⟨_, _, by rw [ax.int_inv, ay.int_inv], q F H _ (.refl s) .int⟩
theorem zdk : CaD (fun xs H Q => ∃ i j, xs = [.int i, .int j] ∧ Q (.int (if j > i then j else i)) H) zfJ := VS (g := fun i j => if j > i then j else i)
theorem zdz : CaD (fun xs H Q => ∃ i j, xs = [.int i, .int j] ∧ Q (.int (if j < i then j else i)) H) zgm := VS (g := fun i j => if j < i then j else i)
noncomputable def xI : List D → Option D
  | [.lst ds] => some (.tup ds)
  | [.tup ds] => some (.tup ds)
  | _ => none
theorem wz {K : PySem.W.Frag} : CaD (fun xs H Q => ∃ p ys, xs = [.ref p] ∧ ((SqL K H p ys ∧ ∀ l, H l = none → Q (.ref l) (upd H l (.tup ys))) ∨ (SqT K H p ys ∧ Q (.ref p) H))) xI := by
  intro F H vs ds z Q s al e q
  unfold xI at e
  split at e <;> cases e
  all_goals
    obtain ⟨x, r, rfl, ax, ar⟩ := al.cons_inv
    cases ar.nil_inv
  · obtain ⟨p, xs, rfl, hx, bl⟩ := ax.lst_inv
    refine ⟨p, xs, rfl, .inl ⟨SqL.of (s _ _ hx), fun l hl => ?_⟩⟩
    have g := Gr.alloc s hl (.tup xs)
    exact q _ _ _ g (.tup zp (bl.mono g.ff))
  · obtain ⟨p, xs, rfl, hx, bl⟩ := ax.tup_inv
    exact ⟨p, xs, rfl, .inr ⟨SqT.of (s _ _ hx), q F H _ (.refl s) (.tup hx bl)⟩⟩
noncomputable def Zy : List D → Option (List D)
  | [.lst ds] => some ds
  | [.tup ds] => some ds
  | [.scr ns] => some (ns.map .int)
  | _ => none
theorem zbc {p : Pos} {f : Ev → Option (List D)} (hgl : Gl X "list") (hm : X.mg "list" = none) (ha : AD X [e] f) (hK : X.K = KK.K := by rfl)
    (he : starEach [e] X.env = (false, eval e X.env) :: starEach [] X.env := by rfl) (hpl : (backTo pos (starEach [] X.env)).any (·.1) = false := by rfl) : FL X (.Call (.Name "list" p) [e] [] pos) (fFn Zy f) := by
  obtain ⟨t, pa, ra⟩ := ha
  refine ⟨_, Ws Wi hgl hm zeF pa (by decide) (by decide) he hpl, fun σ ρ F H z Q s va e q => ?_⟩
  obtain ⟨ds, e1, e2⟩ := Option.bind_eq_some_iff.mp e
  refine ra σ ρ F H ds _ s va e1 fun F1 H1 vs g1 a1 => ?_
  unfold Zy at e2
  split at e2 <;> cases e2
  all_goals
    obtain ⟨x, r, rfl, ax, ar⟩ := a1.cons_inv
    cases ar.nil_inv
  · obtain ⟨p, xs, rfl, hx, bl⟩ := ax.lst_inv
    exact ⟨p, xs, rfl, .inl (SqL.of (g1.fh _ _ hx)), fun l hl => q _ _ _ _ (g1.trans (Gr.hide g1.fh hl _)) (zcs g1 hl) (g1.fh.free hl) zp bl⟩
  · obtain ⟨p, xs, rfl, hx, bl⟩ := ax.tup_inv
    exact ⟨p, xs, rfl, .inr (SqT.of (g1.fh _ _ hx)), fun l hl => q _ _ _ _ (g1.trans (Gr.hide g1.fh hl _)) (zcs g1 hl) (g1.fh.free hl) zp bl⟩
  · obtain ⟨p, rfl, hx⟩ := ax.scr_inv
    exact ⟨p, _, rfl, .inl (by rw [hK]; exact g1.fh.seq hx), fun l hl => q _ _ _ _ (g1.trans (Gr.hide g1.fh hl _)) (zcs g1 hl) (g1.fh.free hl) zp (.ints _)⟩
inductive TyD (K : PySem.W.Frag) (H : Hp) : V → Value → Prop where
  | of {v : V} {t : Value} (h : VU K H v t) : TyD K H v t
  | dd {a : Addr} {u : HO} (h : Rd H a u) (d : (∃ kvs, u = .dK kvs) ∨ ∃ kvs, u = .dT kvs) : TyD K H (.ref a) (.type "dict")
theorem WK {X : Cx} : Yw X (.builtin "isinstance") (fun xs H Q => ∃ x n t b, xs = [x, .ty n] ∧ TyD X.K H x t ∧ PySem.W.kitOne X.K t (.type n) = some b ∧ Q (.bl b) H) := by
  intro pins s σ H xs us Q I r h
  obtain ⟨x, n, t, b, rfl, ty, e, q⟩ := h
  cases ty with
  | of ty => exact WX pins s σ H _ us Q I r ⟨x, n, t, b, rfl, ty, e, q⟩
  | @dd a u h d =>
    cases r with
    | cons r1 r2 =>
      cases r2 with
      | cons r3 r4 =>
        cases r4
        cases r1
        cases r3
        have ok := h.ok I.hok
        rcases d with ⟨kvs, rfl⟩ | ⟨kvs, rfl⟩
        · obtain ⟨_, _, vs, _, p⟩ := (show xO X.prog X.w H s.heap a (.dK kvs) from ok)
          obtain ⟨o, es, ep, h1, h2, _⟩ := p
          exact PySem.W.kia_one PySem.W.kitx_dict I.kIn ⟨o, h1, h2.1⟩ e (fun z => nomatch z) fun tk => ⟨.bl b, H, I.tok tk, rfl, q⟩
        · obtain ⟨_, _, xs, _, o, es, ep, h1, h2, _⟩ := (show xO X.prog X.w H s.heap a (.dT kvs) from ok)
          exact PySem.W.kia_one PySem.W.kitx_dict I.kIn ⟨o, h1, h2.1⟩ e (fun z => nomatch z) fun tk => ⟨.bl b, H, I.tok tk, rfl, q⟩
theorem At.ty {K : PySem.W.Frag} {F H : Hp} (s : yB F H) : ∀ {d : D} {v : V}, At F d v → (∀ ns, d ≠ .scr ns) → TyD K H v (.type (tyN d))
  | .non, _, h, _ => by cases h.non_inv; exact .of .non
  | .bl b, _, h, _ => by cases h.bl_inv; exact .of (.bl b)
  | .int i, _, h, _ => by cases h.int_inv; exact .of (.int i)
  | .str x, _, h, _ => by cases h.str_inv; exact .of (.str x)
  | .tup ds, _, h, _ => by obtain ⟨a, xs, rfl, e, _⟩ := h.tup_inv; exact .of (.tup (s _ _ e))
  | .lst ds, _, h, _ => by obtain ⟨a, xs, rfl, e, _⟩ := h.lst_inv; exact .of (.lst (s _ _ e))
  | .scr ns, _, _, n => absurd rfl (n ns)
  | .dct z t ks vs, _, h, _ => by
    obtain ⟨a, xs, rfl, d, _⟩ := h.dct_inv
    obtain ⟨u, e1, e2⟩ := (d.mono s).rd
    exact .dd e2 (by
      unfold zgu at e1
      split at e1
      · obtain ⟨kvs, rfl, _⟩ := e1; exact .inr ⟨kvs, rfl⟩
      · obtain ⟨kvs, rfl, _⟩ := e1; exact .inl ⟨kvs, rfl⟩)
inductive Ty where
  | int | bool | tuple | list | str
noncomputable def Ty.nm : Ty → String
  | .int => "int" | .bool => "bool" | .tuple => "tuple" | .list => "list" | .str => "str"
noncomputable def isT : Ty → D → Bool
  | .int, .int _ => true | .int, .bl _ => true
  | .bool, .bl _ => true
  | .tuple, .tup _ => true
  | .list, .lst _ => true
  | .str, .str _ => true
  | _, _ => false
noncomputable def wZ (n : Ty) : D → Option D
  | .scr _ => none
  | d => some (.bl (isT n d))
theorem zfD (K : PySem.W.Frag) (n : Ty) (d : D) (h : ∀ ns, d ≠ .scr ns) : PySem.W.kitOne K (.type (tyN d)) (.type n.nm) = some (isT n d) := by
  cases n <;> cases d <;> first | exact absurd rfl (h _) | kernel_rfl
theorem yy {p : Pos} {f : Ev → Option D} (n : Ty) (hgl : Gl X "isinstance") (hm : X.mg "isinstance" = none) (ha : ED X a f) (hb : PE X b (tC (.ty n.nm)))
    (hs : starEach [a, b] X.env = (false, eval a X.env) :: starEach [b] X.env := by rfl) (hs2 : starEach [b] X.env = (false, eval b X.env) :: starEach [] X.env := by rfl) (hpl : (backTo pos (starEach [b] X.env)).any (·.1) = false := by rfl) :
    ED X (.Call (.Name "isinstance" p) [a, b] [] pos) (eUn (wZ n) f) := by
  obtain ⟨t, pa, ra⟩ := ha
  refine ⟨_, Xx WK hgl hm Xq (Ys pa (Ys hb VA hs2) hs) (by decide) (by decide) hs hpl, fun σ ρ F H z Q s va e q => ?_⟩
  obtain ⟨d, e1, e2⟩ := Option.bind_eq_some_iff.mp e
  refine ra σ ρ F H d _ s va e1 fun F1 H1 v g1 a1 => ?_
  have ns : ∀ ns, d ≠ .scr ns := fun ns h => by subst h; cases e2
  have e3 : z = .bl (isT n d) := by
    cases d <;> first | exact (Option.some.inj e2).symm | exact absurd rfl (ns _)
  subst e3
  exact ⟨v, n.nm, _, _, rfl, a1.ty g1.fh ns, zfD _ n d ns, q F1 H1 _ g1 .bl⟩
noncomputable def WY (m : Bool) (i : Nat) (f : Ev → Option D) : SE → Ctl := fun ρ => match (vEv m f ρ).bind fun d => match ρ[i]? with
    | some (.o ds) => if decide (ds.length < sizeLine) = true then some (ρ.set i (.o (ds ++ [d]))) else none
    | _ => none with
  | some ρ' => .nx ρ'
  | none => .no
theorem WM {m : Bool} {i : Nat} {p pos' : Pos} {f : Ev → Option D} (ho : PE X a (zgq i)) (he : ED X e f)
    (hp : ∀ {ta : TE} {t : TA}, PE X a ta → PA X [e] t → PE X (.Call (.Attribute a "append" p) [e] [] pos') (tBM X.K "list" zbw ta t)) (hsw : swapsWith (.Call (.Attribute a "append" p) [e] [] pos') none pos.line X.env = pure false := by rfl)
    (hs : starEach [e] X.env = (false, eval e X.env) :: starEach [] X.env := by rfl) : SD X (.Expr (.Call (.Attribute a "append" p) [e] [] pos') pos) (WY m i f) := by
  obtain ⟨t, pe, re⟩ := he
  refine ⟨_, Vs (hp ho (Ys pe VA hs)) hsw, fun Fb Hb F H ρ σ E rl k => ?_⟩
  unfold WY at k
  cases h : (vEv m f ρ).bind fun d => match ρ[i]? with
    | some (.o ds) => if decide (ds.length < sizeLine) = true then some (ρ.set i (.o (ds ++ [d]))) else none
    | _ => none with
  | none => rw [h] at k; exact k.elim
  | some ρ' =>
    rw [h] at k
    obtain ⟨d, e1, e2⟩ := Option.bind_eq_some_iff.mp h
    cases hs : ρ[i]? with
    | none => rw [hs] at e2; cases e2
    | some sl =>
      rw [hs] at e2
      cases sl with
      | no => cases e2
      | v _ => cases e2
      | m _ _ _ => cases e2
      | o ds =>
        dsimp only at e2
        split at e2 <;> cases e2
        rename_i hl
        obtain ⟨q, xs, f1, f2, f3, f4, f5⟩ := rl.owns i ds hs
        refine ⟨_, f1, .inl ⟨rfl, xs, SqL.of f4⟩, ?_⟩
        refine re.at rl e1 fun F' H' v g av => ?_
        have rl2 := rl.grow g
        obtain ⟨q2, xs2, f1', _, _, f4', f5'⟩ := rl2.owns i ds hs
        rw [f1] at f1'
        cases f1'
        refine ⟨q, xs2, v, rfl, rfl, f4', by rw [f5'.length]; exact of_decide_eq_true hl, ?_⟩
        exact k _ _ σ (rl2.mutate hs f1 (f5'.snoc av))
noncomputable def zfa (i : Nat) (f : Ev → Option D) : SE → Ctl := fun ρ => match (f (visF ρ)).bind fun d => match ρ[i]?, d with
    | some (.o ds), .lst es => if lim (ds.length + es.length) = true then some (ρ.set i (.o (ds ++ es))) else none
    | _, _ => none with
  | some ρ' => .nx ρ'
  | none => .no
end
end Dl
namespace Dl
open PySem L2
variable [KK]
noncomputable def okE : Nat → D → Bool
  | _, .scr _ => false
  | _, .dct _ _ _ _ => false
  | 0, .tup _ => false
  | 0, .lst _ => false
  | n + 1, .tup ds => ds.all (okE n)
  | n + 1, .lst ds => ds.all (okE n)
  | _, _ => true
noncomputable def eqN : Nat → D → D → Bool
  | _, .non, .non => true
  | _, .bl a, .bl b => a == b
  | _, .bl a, .int b => (if a then 1 else 0) == b
  | _, .int a, .bl b => a == (if b then 1 else 0)
  | _, .int a, .int b => a == b
  | _, .str a, .str b => a == b
  | n + 1, .tup a, .tup b => (List.zipWith (eqN n) a b).all id && a.length == b.length
  | n + 1, .lst a, .lst b => (List.zipWith (eqN n) a b).all id && a.length == b.length
  | _, _, _ => false
omit [KK] in
theorem XD {n : Nat} : ∀ (a b : List D), (List.zipWith (eqN n) a b).all id = (List.range (min a.length b.length)).all fun j => eqN n (a.getD j .non) (b.getD j .non) := by
  intro a b
  have : List.zipWith (eqN n) a b = (List.range (min a.length b.length)).map fun j => eqN n (a.getD j .non) (b.getD j .non) := by
    apply List.ext_getElem
    · simp
    · intro i h1 h2
      simp at h1 h2
      have g1 : i < a.length := Nat.lt_of_lt_of_le h1 (Nat.min_le_left _ _)
      have g2 : i < b.length := Nat.lt_of_lt_of_le h1 (Nat.min_le_right _ _)
      simp [g1, g2]
  rw [this, List.all_map]
  rfl
omit [KK] in
noncomputable def vOf : D → V
  | .bl b => .bl b
  | .int i => .int i
  | .str t => .str t
  | _ => .non
theorem xw {F : Hp} {d : D} {x : V} (h : okE 0 d = true) (a : At F d x) : x = vOf d := by
  cases d with
  | non => exact a.non_inv
  | bl b => exact a.bl_inv
  | int b => exact a.int_inv
  | str b => exact a.str_inv
  | _ => cases h
omit [KK] in
theorem Zb {d : D} (h : okE 0 d = true) : zat (vOf d) = true := by
  cases d <;> first | rfl | cases h
omit [KK] in
theorem Xz {d : D} {p : Addr} (h : okE 0 d = true) (e : vOf d = .ref p) : False := by
  cases d <;> first | (cases h; done) | (cases e; done)
noncomputable def dOfV : V → D
  | .bl b => .bl b
  | .int i => .int i
  | .str t => .str t
  | _ => .non
omit [KK] in
theorem zcg {d : D} (h : okE 0 d = true) : dOfV (vOf d) = d := by
  cases d <;> first | rfl | (cases h; done)
omit [KK] in
theorem zcl {d e : D} (h1 : okE 0 d = true) (h2 : okE 0 e = true) (h : vOf d = vOf e) : d = e := by
  rw [← zcg h1, h, zcg h2]
omit [KK] in
theorem xv {n : Nat} {d : D} (h : okE (n + 1) d = true) : okE 0 d = true ∨ (∃ ds, d = .tup ds ∧ ds.all (okE n) = true) ∨ ∃ ds, d = .lst ds ∧ ds.all (okE n) = true := by
  cases d with
  | tup ds => exact .inr (.inl ⟨ds, rfl, h⟩)
  | lst ds => exact .inr (.inr ⟨ds, rfl, h⟩)
  | scr _ => cases h
  | dct _ _ _ _ => cases h
  | _ => exact .inl rfl
theorem zbi {F : Hp} {n : Nat} (ih : ∀ {d e : D} {v : V}, okE n d = true → okE n e = true → At F d v → At F e v → d = e) : ∀ {xs : List V} {ds es : List D}, ds.all (okE n) = true → es.all (okE n) = true → AtL F ds xs → AtL F es xs → ds = es := by
  intro xs
  induction xs with
  | nil =>
    intro ds es _ _ a1 a2
    exact (List.length_eq_zero_iff.mp a1.length.symm).trans (List.length_eq_zero_iff.mp a2.length.symm).symm
  | cons x xs ih2 =>
    intro ds es h1 h2 a1 a2
    cases ds with
    | nil => cases a1.nil_inv
    | cons d ds => cases es with
      | nil => cases a2.nil_inv
      | cons e es =>
        obtain ⟨y, r, e1, b1, c1⟩ := a1.cons_inv
        obtain ⟨y2, r2, e2, b2, c2⟩ := a2.cons_inv
        cases e1
        cases e2
        rw [List.all_cons, Bool.and_eq_true] at h1 h2
        rw [ih2 h1.2 h2.2 c1 c2, ih h1.1 h2.1 b1 b2]
theorem zdR {F : Hp} : ∀ (n : Nat) {d e : D} {v : V}, okE n d = true → okE n e = true → At F d v → At F e v → d = e := by
  intro n
  induction n with
  | zero =>
    intro d e v h1 h2 a1 a2
    exact zcl h1 h2 ((xw h1 a1).symm.trans (xw h2 a2))
  | succ n ih =>
    intro d e v h1 h2 a1 a2
    rcases xv h1 with f1 | ⟨ds, rfl, k1⟩ | ⟨ds, rfl, k1⟩
    · have e1 := xw f1 a1
      rcases xv h2 with f2 | ⟨es, rfl, _⟩ | ⟨es, rfl, _⟩
      · exact zcl f1 f2 (e1.symm.trans (xw f2 a2))
      · obtain ⟨p, xs, e2, _⟩ := a2.tup_inv
        exact (Xz f1 (e1.symm.trans e2)).elim
      · obtain ⟨p, xs, e2, _⟩ := a2.lst_inv
        exact (Xz f1 (e1.symm.trans e2)).elim
    · obtain ⟨p, xs, e0, hx, al⟩ := a1.tup_inv
      rcases xv h2 with f2 | ⟨es, rfl, k2⟩ | ⟨es, rfl, k2⟩
      · exact (Xz f2 ((xw f2 a2).symm.trans e0)).elim
      · obtain ⟨q, ys, e1, hy, bl⟩ := a2.tup_inv
        cases e0.symm.trans e1
        cases hx.symm.trans hy
        rw [zbi ih k1 k2 al bl]
      · obtain ⟨q, ys, e1, hy, bl⟩ := a2.lst_inv
        cases e0.symm.trans e1
        cases hx.symm.trans hy
    · obtain ⟨p, xs, e0, hx, al⟩ := a1.lst_inv
      rcases xv h2 with f2 | ⟨es, rfl, k2⟩ | ⟨es, rfl, k2⟩
      · exact (Xz f2 ((xw f2 a2).symm.trans e0)).elim
      · obtain ⟨q, ys, e1, hy, bl⟩ := a2.tup_inv
        cases e0.symm.trans e1
        cases hx.symm.trans hy
      · obtain ⟨q, ys, e1, hy, bl⟩ := a2.lst_inv
        cases e0.symm.trans e1
        cases hx.symm.trans hy
        rw [zbi ih k1 k2 al bl]
omit [KK] in
theorem zcS : ∀ (n : Nat) {d : D}, okE n d = true → eqN n d d = true := by
  intro n
  induction n with
  | zero =>
    intro d h
    cases d with
    | tup _ => cases h
    | lst _ => cases h
    | scr _ => cases h
    | dct _ _ _ _ => cases h
    | _ => first | rfl | exact decide_eq_true rfl | exact beq_self_eq_true _
  | succ n ih =>
    have ihl : ∀ {ds : List D}, ds.all (okE n) = true → (List.zipWith (eqN n) ds ds).all id = true := by
      intro ds
      induction ds with
      | nil => intro _; rfl
      | cons d ds ih2 =>
        intro h
        rw [List.all_cons, Bool.and_eq_true] at h
        rw [List.zipWith_cons_cons, List.all_cons, ih2 h.2, Bool.and_true]
        exact ih h.1
    intro d h
    cases d with
    | tup ds => show ((List.zipWith (eqN n) ds ds).all id && ds.length == ds.length) = true; rw [ihl h]; simp
    | lst ds => show ((List.zipWith (eqN n) ds ds).all id && ds.length == ds.length) = true; rw [ihl h]; simp
    | scr _ => cases h
    | dct _ _ _ _ => cases h
    | _ => first | rfl | exact decide_eq_true rfl | exact beq_self_eq_true _
theorem zed {F : Hp} (n : Nat) {d e : D} {v : V} (h1 : okE n d = true) (h2 : okE n e = true) (a1 : At F d v) (a2 : At F e v) : eqN n d e = true := by
  rw [zdR n h1 h2 a1 a2]
  exact zcS n h2
omit [KK] in
theorem y4 {n : Nat} {ds : List D} {j : Nat} (h : ds.all (okE n) = true) (hj : j < ds.length) : okE n (ds.getD j .non) = true := by
  have : ds.getD j .non = ds[j] := by simp [hj]
  rw [this]
  exact List.all_eq_true.mp h _ (List.getElem_mem hj)
theorem AtL.nth {F : Hp} {ds : List D} {xs : List V} {us : List Value} {j : Nat} (al : AtL F ds xs) (r : yh xs us) (h : j < us.length) : ∃ x, At F (ds.getD j .non) x ∧ xm x us[j] := by
  have hl := al.length
  have hl2 := r.length
  have hj : j < ds.length := by omega
  obtain ⟨x, hx, ax⟩ := al.get (i := j) (d := ds[j]) (by simp [hj])
  obtain ⟨u, hu, ru⟩ := r.get hx
  refine ⟨x, by rw [show ds.getD j .non = ds[j] by simp [hj]]; exact ax, ?_⟩
  have : us[j]? = some us[j] := by simp [h]
  rw [hu] at this
  cases this
  exact ru
omit [KK] in
theorem VY {n : Nat} {d e : D} (h1 : okE 0 d = true) (h2 : okE 0 e = true) : eqN n d e = eqV (vOf d) (vOf e) := by
  cases n <;> cases d <;> first | (cases h1; done) | skip
  all_goals cases e <;> first | (cases h2; done) | rfl
omit [KK] in
theorem V0 {n : Nat} {d : D} (ds : List D) (h : okE 0 d = true) : eqN (n + 1) d (.tup ds) = false ∧ eqN (n + 1) d (.lst ds) = false ∧ eqN (n + 1) (.tup ds) d = false ∧ eqN (n + 1) (.lst ds) d = false := by
  cases d <;> first | exact ⟨rfl, rfl, rfl, rfl⟩ | cases h
omit [KK] in
theorem Xu {A : Around} {s : Shared} {d : D} {u : Value} {p : Addr} {its : Array Value} (h : okE 0 d = true) (r : xm (vOf d) u) (hu : A.units < cLine) :
    (s.heap.IsTuple p its → SeqAt.EqAt A s u (.ref p) false ∧ SeqAt.EqAt A s (.ref p) u false) ∧ (s.heap.IsList p its → SeqAt.EqAt A s u (.ref p) false ∧ SeqAt.EqAt A s (.ref p) u false) := by
  cases d with
  | non => cases r; exact ⟨fun ht => ⟨.none_tuple ht hu, .tuple_none ht hu⟩, fun ht => ⟨.none_list ht hu, .list_none ht hu⟩⟩
  | bl b => cases r; exact ⟨fun ht => ⟨.bool_tuple b ht hu, .tuple_bool b ht hu⟩, fun ht => ⟨.bool_list b ht hu, .list_bool b ht hu⟩⟩
  | int b => obtain ⟨t, rfl⟩ := r; exact ⟨fun ht => ⟨.int_tuple b t ht hu, .tuple_int b t ht hu⟩, fun ht => ⟨.int_list b t ht hu, .list_int b t ht hu⟩⟩
  | str b => obtain ⟨t, rfl⟩ := r; exact ⟨fun ht => ⟨.str_tuple b t ht hu, .tuple_str b t ht hu⟩, fun ht => ⟨.str_list b t ht hu, .list_str b t ht hu⟩⟩
  | _ => cases h
theorem XJ {X : Cx} {pins : List (Addr × Obj)} {σ : St} {F H : Hp} {s : Shared} (I : Inv X pins σ H s) (sm : yB F H) {ds : List D} {x : V} {u : Value} (a : At F (.tup ds) x) (r : xm x u) : ∃ p its xs, u = .ref p ∧ x = .ref p ∧ yh xs its ∧ AtL F ds xs ∧ s.heap.IsTuple p its.toArray := by
  obtain ⟨p, xs, rfl, hx, al⟩ := a.tup_inv
  cases r
  obtain ⟨its, rv, ht, hz⟩ := I.tuple (SqT.of (sm _ _ hx))
  exact ⟨p, its, xs, rfl, rfl, rv, al, ht⟩
theorem Xo {X : Cx} {pins : List (Addr × Obj)} {σ : St} {F H : Hp} {s : Shared} (I : Inv X pins σ H s) (sm : yB F H) {ds : List D} {x : V} {u : Value} (a : At F (.lst ds) x) (r : xm x u) : ∃ p its xs, u = .ref p ∧ x = .ref p ∧ yh xs its ∧ AtL F ds xs ∧ s.heap.IsList p its.toArray := by
  obtain ⟨p, xs, rfl, hx, al⟩ := a.lst_inv
  cases r
  obtain ⟨its, rv, ht, hz⟩ := I.list (SqL.of (sm _ _ hx))
  exact ⟨p, its, xs, rfl, rfl, rv, al, ht.isList⟩
omit [KK] in
theorem zcz {n : Nat} (ds es : List D) : ((List.zipWith (eqN n) ds es).all id && ds.length == es.length) = ((List.range (min ds.length es.length)).all (fun j => eqN n (ds.getD j .non) (es.getD j .non)) && ds.length == es.length) := by rw [XD]
theorem Z0 {X : Cx} {pins : List (Addr × Obj)} {σ : St} {F H : Hp} {s : Shared} (I : Inv X pins σ H s) (sm : yB F H) : ∀ (n : Nat) {A : Around} {d e : D} {x y : V} {u v : Value}, okE n d = true → okE n e = true → At F d x → At F e y → xm x u → xm y v → A.units + n < cLine → SeqAt.EqAt A s u v (eqN n d e) := by
  intro n
  induction n with
  | zero =>
    intro A d e x y u v h1 h2 a1 a2 r1 r2 hu
    cases xw h1 a1
    cases xw h2 a2
    rw [VY h1 h2]
    exact za3 r1 r2 (Zb h1) (Zb h2)
  | succ n ih =>
    intro A d e x y u v h1 h2 a1 a2 r1 r2 hu
    have hu0 : A.units < cLine := Nat.lt_of_le_of_lt (Nat.le_add_right _ _) hu
    have hu1 : A.units + 1 + n < cLine := by rw [Nat.add_assoc, Nat.add_comm 1 n]; exact hu
    rcases xv h1 with f1 | ⟨ds, rfl, k1⟩ | ⟨ds, rfl, k1⟩
    · cases xw f1 a1
      rcases xv h2 with f2 | ⟨es, rfl, k2⟩ | ⟨es, rfl, k2⟩
      · cases xw f2 a2
        rw [VY f1 f2]
        exact za3 r1 r2 (Zb f1) (Zb f2)
      · obtain ⟨q, its2, ys, rfl, _, _, _, ht2⟩ := XJ I sm a2 r2
        rw [(V0 es f1).1]
        exact ((Xu f1 r1 hu0).1 ht2).1
      · obtain ⟨q, its2, ys, rfl, _, _, _, ht2⟩ := Xo I sm a2 r2
        rw [(V0 es f1).2.1]
        exact ((Xu f1 r1 hu0).2 ht2).1
    · obtain ⟨p, its, xs, rfl, hxp, rv, al, ht⟩ := XJ I sm a1 r1
      rcases xv h2 with f2 | ⟨es, rfl, k2⟩ | ⟨es, rfl, k2⟩
      · cases xw f2 a2
        rw [(V0 ds f2).2.2.1]
        exact ((Xu f2 r2 hu0).1 ht).2
      · obtain ⟨q, its2, ys, rfl, hyq, rv2, bl, ht2⟩ := XJ I sm a2 r2
        by_cases hpq : p = q
        · subst hpq
          rw [hxp] at a1
          rw [hyq] at a2
          rw [zed (n + 1) h1 h2 a1 a2]
          exact .same _
        · have hl1 : its.toArray.size = ds.length := by rw [List.size_toArray, ← rv.length, al.length]
          have hl2 : its2.toArray.size = es.length := by rw [List.size_toArray, ← rv2.length, bl.length]
          have := SeqAt.RcAt.tuples (A := A) (e := fun j => eqN n (ds.getD j .non) (es.getD j .non)) ht ht2 hu0 fun j g1 g2 => by
            obtain ⟨x', ax, rx⟩ := al.nth rv (j := j) g1
            obtain ⟨y', ay, ry⟩ := bl.nth rv2 (j := j) g2
            exact ih (y4 k1 (hl1 ▸ g1)) (y4 k2 (hl2 ▸ g2)) ax ay rx ry hu1
          rw [hl1, hl2] at this
          rw [show eqN (n + 1) (.tup ds) (.tup es) = _ from zcz ds es]
          exact SeqAt.EqAt.of_refs hpq this
      · obtain ⟨q, its2, ys, rfl, _, _, _, ht2⟩ := Xo I sm a2 r2
        exact .tuple_list ht ht2 hu0
    · obtain ⟨p, its, xs, rfl, hxp, rv, al, ht⟩ := Xo I sm a1 r1
      rcases xv h2 with f2 | ⟨es, rfl, k2⟩ | ⟨es, rfl, k2⟩
      · cases xw f2 a2
        rw [(V0 ds f2).2.2.2]
        exact ((Xu f2 r2 hu0).2 ht).2
      · obtain ⟨q, its2, ys, rfl, _, _, _, ht2⟩ := XJ I sm a2 r2
        exact .list_tuple ht ht2 hu0
      · obtain ⟨q, its2, ys, rfl, hyq, rv2, bl, ht2⟩ := Xo I sm a2 r2
        by_cases hpq : p = q
        · subst hpq
          rw [hxp] at a1
          rw [hyq] at a2
          rw [zed (n + 1) h1 h2 a1 a2]
          exact .same _
        · have hl1 : its.toArray.size = ds.length := by rw [List.size_toArray, ← rv.length, al.length]
          have hl2 : its2.toArray.size = es.length := by rw [List.size_toArray, ← rv2.length, bl.length]
          rw [show eqN (n + 1) (.lst ds) (.lst es) = _ from zcz ds es]
          by_cases hle : ds.length = es.length
          · have := SeqAt.RcAt.lists (A := A) (e := fun j => eqN n (ds.getD j .non) (es.getD j .non)) ht ht2 (by rw [hl1, hl2, hle]) hu0 fun j g1 g2 => by
              obtain ⟨x', ax, rx⟩ := al.nth rv (j := j) g1
              obtain ⟨y', ay, ry⟩ := bl.nth rv2 (j := j) g2
              exact ih (y4 k1 (hl1 ▸ g1)) (y4 k2 (hl2 ▸ g2)) ax ay rx ry hu1
            rw [hl1] at this
            rw [← hle, Nat.min_self, beq_self_eq_true, Bool.and_true]
            exact SeqAt.EqAt.of_refs hpq this
          · have := SeqAt.RcAt.lists_lengths (A := A) ht ht2 (by rw [hl1, hl2]; exact bne_iff_ne.mpr hle) hu0
            rw [beq_eq_false_iff_ne.mpr hle, Bool.and_false]
            exact SeqAt.EqAt.of_refs hpq this
noncomputable def zaT (d : D) (es : List D) : Option Bool := if okE 20 d = true ∧ es.all (okE 20) = true then some (es.any fun e => eqN 20 e d) else none
noncomputable def inD (d e : D) : Option D := (vo e).bind fun es => (zaT d es).map .bl
noncomputable def za0 (d e : D) : Option D := (vo e).bind fun es => (zaT d es).map fun b => .bl (!b)
open Classical in
noncomputable def ZJ (F : Hp) (d : D) (u : Value) : Bool := decide (∃ d0 x, At F d0 x ∧ xm x u ∧ okE 20 d0 = true ∧ eqN 20 d0 d = true)
open Classical in
theorem Zn {F : Hp} {d d0 : D} {x : V} {u : Value} (a : At F d0 x) (r : xm x u) (k : okE 20 d0 = true) : ZJ F d u = eqN 20 d0 d := by
  unfold ZJ
  cases h : eqN 20 d0 d with
  | true => exact decide_eq_true ⟨d0, x, a, r, k, h⟩
  | false =>
    refine decide_eq_false ?_
    rintro ⟨d1, y, a1, r1, k1, h1⟩
    have e := r1.inj r
    subst e
    rw [zdR 20 k1 k a1 a] at h1
    rw [h1] at h
    cases h
theorem vW {F : Hp} {d : D} : ∀ {ds : List D} {xs : List V} {us : List Value}, AtL F ds xs → yh xs us → ds.all (okE 20) = true → us.any (ZJ F d) = ds.any fun e => eqN 20 e d
  | [], _, _, al, r, _ => by cases al.nil_inv; cases r; rfl
  | e :: ds, _, _, al, r, k => by
    obtain ⟨x, xs, rfl, a1, a2⟩ := al.cons_inv
    cases r with
    | cons r1 r2 =>
      rw [List.all_cons, Bool.and_eq_true] at k
      rw [List.any_cons, List.any_cons, Zn a1 r1 k.1, vW a2 r2 k.2]
section
variable {X : Cx}
noncomputable def zgO (neg : Bool) : R2 := fun x y H Q => ∃ F d e es b, yB F H ∧ At F d x ∧ At F e y ∧ vo e = some es ∧ zaT d es = some b ∧ Q (.bl (if neg then !b else b)) H
theorem Wq {k : Nat} (hr : YN k X.A) : OpR X (compareOp .In) (zgO false) := by
  intro pins s σ H x y v u Q I rx ry h
  obtain ⟨F, d, e, es, b, sm, a1, a2, hs, hb, q⟩ := h
  unfold zaT at hb
  split at hb <;> cases hb
  rename_i hk
  have hu : X.A.in1.units + 20 < cLine := by have := hr.un; show X.A.units + 1 + 20 < cLine; omega
  have mem : ∀ {xs : List V} {us : List Value}, AtL F es xs → yh xs us → ∀ z ∈ us, SeqAt.EqAt X.A.in1 s z v (ZJ F d z) := fun {xs us} al r z hz => by
    obtain ⟨j, hj, rfl⟩ := List.getElem_of_mem hz
    obtain ⟨x', ax, rx'⟩ := al.nth r hj
    have hj' : j < es.length := by have := al.length; have := r.length; omega
    have k2 := y4 hk.2 hj'
    rw [Zn ax rx' k2]
    exact Z0 I sm 20 k2 hk.1 ax a1 rx' rx hu
  cases e <;> cases hs
  · obtain ⟨p, xs, rfl, hx, al⟩ := a2.tup_inv
    cases ry
    obtain ⟨its, r, pl, hz⟩ := I.tuple (SqT.of (sm _ _ hx))
    refine SeqAt.in_tupleAt (ZJ F d) pl (fun z hz => mem al r z (by simpa using hz)) ⟨.bl _, H, I, rfl, ?_⟩
    rw [show its.toArray.any (ZJ F d) = its.any (ZJ F d) by simp, vW al r hk.2]
    exact q
  · obtain ⟨p, xs, rfl, hx, al⟩ := a2.lst_inv
    cases ry
    obtain ⟨its, r, pl, hz⟩ := I.list (SqL.of (sm _ _ hx))
    refine SeqAt.in_listAt (ZJ F d) pl.isList (fun z hz => mem al r z (by simpa using hz)) ⟨.bl _, H, I, rfl, ?_⟩
    rw [show its.toArray.any (ZJ F d) = its.any (ZJ F d) by simp, vW al r hk.2]
    exact q
theorem zaW {k : Nat} (hr : YN k X.A) : OpR X (compareOp .NotIn) (zgO true) := by
  intro pins s σ H x y v u Q I rx ry h
  obtain ⟨F, d, e, es, b, sm, a1, a2, hs, hb, q⟩ := h
  unfold zaT at hb
  split at hb <;> cases hb
  rename_i hk
  have hu : X.A.in1.units + 20 < cLine := by have := hr.un; show X.A.units + 1 + 20 < cLine; omega
  have mem : ∀ {xs : List V} {us : List Value}, AtL F es xs → yh xs us → ∀ z ∈ us, SeqAt.EqAt X.A.in1 s z v (ZJ F d z) := fun {xs us} al r z hz => by
    obtain ⟨j, hj, rfl⟩ := List.getElem_of_mem hz
    obtain ⟨x', ax, rx'⟩ := al.nth r hj
    have hj' : j < es.length := by have := al.length; have := r.length; omega
    have k2 := y4 hk.2 hj'
    rw [Zn ax rx' k2]
    exact Z0 I sm 20 k2 hk.1 ax a1 rx' rx hu
  cases e <;> cases hs
  · obtain ⟨p, xs, rfl, hx, al⟩ := a2.tup_inv
    cases ry
    obtain ⟨its, r, pl, hz⟩ := I.tuple (SqT.of (sm _ _ hx))
    refine SeqAt.notIn_tupleAt (ZJ F d) pl (fun z hz => mem al r z (by simpa using hz)) ⟨.bl _, H, I, rfl, ?_⟩
    rw [show its.toArray.any (ZJ F d) = its.any (ZJ F d) by simp, vW al r hk.2]
    exact q
  · obtain ⟨p, xs, rfl, hx, al⟩ := a2.lst_inv
    cases ry
    obtain ⟨its, r, pl, hz⟩ := I.list (SqL.of (sm _ _ hx))
    refine SeqAt.notIn_listAt (ZJ F d) pl.isList (fun z hz => mem al r z (by simpa using hz)) ⟨.bl _, H, I, rfl, ?_⟩
    rw [show its.toArray.any (ZJ F d) = its.any (ZJ F d) by simp, vW al r hk.2]
    exact q
theorem Wj : OpD (zgO false) inD := by
  intro F H x y d e z Q s ax ay ez q
  obtain ⟨es, e1, e2⟩ := Option.bind_eq_some_iff.mp ez
  obtain ⟨b, e3, rfl⟩ := Option.map_eq_some_iff.mp e2
  exact ⟨F, d, e, es, b, s, ax, ay, e1, e3, q F H _ (.refl s) .bl⟩
theorem za4 : OpD (zgO true) za0 := by
  intro F H x y d e z Q s ax ay ez q
  obtain ⟨es, e1, e2⟩ := Option.bind_eq_some_iff.mp ez
  obtain ⟨b, e3, rfl⟩ := Option.map_eq_some_iff.mp e2
  exact ⟨F, d, e, es, b, s, ax, ay, e1, e3, q F H _ (.refl s) .bl⟩
noncomputable def eqG (d e : D) : Option Bool := match d, e with
  | .tup _, .tup _ => if okE 20 d = true ∧ okE 20 e = true then some (eqN 20 d e) else none
  | .lst _, .lst _ => if okE 20 d = true ∧ okE 20 e = true then some (eqN 20 d e) else none
  | _, _ => eqS d e
noncomputable def Yx (d e : D) : Option D := (eqG d e).map .bl
noncomputable def zgS : R2 := fun x y H Q => ∃ F d e, yB F H ∧ At F d x ∧ At F e y ∧ ((∃ ds es, d = .tup ds ∧ e = .tup es) ∨ (∃ ds es, d = .lst ds ∧ e = .lst es)) ∧ okE 20 d = true ∧ okE 20 e = true ∧ Q (.bl (eqN 20 d e)) H
theorem zgh {k : Nat} (hr : YN k X.A) : OpR X (compareOp .Eq) zgS := by
  intro pins s σ H x y v u Q I rx ry h
  obtain ⟨F, d, e, sm, a1, a2, hk, k1, k2, q⟩ := h
  have hu : X.A.units + 30 < cLine := by have := hr.un; omega
  rcases hk with ⟨ds, es, rfl, rfl⟩ | ⟨ds, es, rfl, rfl⟩
  · obtain ⟨p, xs, rfl, hx, al⟩ := a1.tup_inv
    obtain ⟨p2, ys, rfl, hy, bl⟩ := a2.tup_inv
    cases rx
    cases ry
    obtain ⟨its, r, ht, hz⟩ := I.tuple (SqT.of (sm _ _ hx))
    obtain ⟨its2, r2, ht2, hz2⟩ := I.tuple (SqT.of (sm _ _ hy))
    have hl1 : its.toArray.size = ds.length := by rw [List.size_toArray, ← r.length, al.length]
    have hl2 : its2.toArray.size = es.length := by rw [List.size_toArray, ← r2.length, bl.length]
    refine SeqAt.eq_tupleAt (e := fun j => eqN 19 (ds.getD j .non) (es.getD j .non)) (show s.heap.IsTuple p its.toArray from ht) (show s.heap.IsTuple p2 its2.toArray from ht2) (by omega) (fun j g1 g2 => ?_) ⟨.bl _, H, I, rfl, ?_⟩
    · obtain ⟨x', ax, rx⟩ := al.nth r (j := j) (by simpa using g1)
      obtain ⟨y', ay, ry⟩ := bl.nth r2 (j := j) (by simpa using g2)
      exact Z0 I sm 19 (y4 k1 (by rw [← hl1]; exact g1)) (y4 k2 (by rw [← hl2]; exact g2)) ax ay (by simpa using rx) (by simpa using ry) (Nat.lt_of_le_of_lt (show X.A.units + 20 ≤ X.A.units + 30 from Nat.add_le_add_left (by decide) _) hu)
    · rw [hl1, hl2, ← XD]
      exact q
  · obtain ⟨p, xs, rfl, hx, al⟩ := a1.lst_inv
    obtain ⟨p2, ys, rfl, hy, bl⟩ := a2.lst_inv
    cases rx
    cases ry
    obtain ⟨its, r, ht, hz⟩ := I.list (SqL.of (sm _ _ hx))
    obtain ⟨its2, r2, ht2, hz2⟩ := I.list (SqL.of (sm _ _ hy))
    have hl1 : its.toArray.size = ds.length := by rw [List.size_toArray, ← r.length, al.length]
    have hl2 : its2.toArray.size = es.length := by rw [List.size_toArray, ← r2.length, bl.length]
    have e1 : eqN 20 (.lst ds) (.lst es) = ((List.range (min ds.length es.length)).all (fun j => eqN 19 (ds.getD j .non) (es.getD j .non)) && ds.length == es.length) := by
      show ((List.zipWith (eqN 19) ds es).all id && ds.length == es.length) = _
      rw [XD]
    by_cases hle : ds.length = es.length
    · refine SeqAt.eq_listAt (e := fun j => eqN 19 (ds.getD j .non) (es.getD j .non)) ht.isList ht2.isList (by rw [hl1, hl2]; exact hle) (Nat.lt_of_le_of_lt (Nat.le_add_right _ 30) hu) (fun j g1 g2 => ?_) ⟨.bl _, H, I, rfl, ?_⟩
      · obtain ⟨x', ax, rx⟩ := al.nth r (j := j) (by simpa using g1)
        obtain ⟨y', ay, ry⟩ := bl.nth r2 (j := j) (by simpa using g2)
        exact Z0 I sm 19 (y4 k1 (by rw [← hl1]; exact g1)) (y4 k2 (by rw [← hl2]; exact g2)) ax ay (by simpa using rx) (by simpa using ry) (Nat.lt_of_le_of_lt (show X.A.units + 20 ≤ X.A.units + 30 from Nat.add_le_add_left (by decide) _) hu)
      · rw [hl1]
        rw [e1, ← hle, Nat.min_self] at q
        simpa using q
    · refine SeqAt.eq_list_lengthsAt ht.isList ht2.isList (by rw [hl1, hl2]; simpa using hle) (Nat.lt_of_le_of_lt (Nat.le_add_right _ 30) hu) ⟨.bl _, H, I, rfl, ?_⟩
      have : (ds.length == es.length) = false := by simpa using hle
      rw [e1, this, Bool.and_false] at q
      exact q
theorem zee : OpD zgS (fun d e => match d, e with
  | .tup _, .tup _ => if okE 20 d = true ∧ okE 20 e = true then some (.bl (eqN 20 d e)) else none
  | .lst _, .lst _ => if okE 20 d = true ∧ okE 20 e = true then some (.bl (eqN 20 d e)) else none
  | _, _ => none) := by
  intro F H x y d e z Q s ax ay ez q
  dsimp only at ez
  split at ez
  · split at ez <;> cases ez
    rename_i hk
    exact ⟨F, _, _, s, ax, ay, .inl ⟨_, _, rfl, rfl⟩, hk.1, hk.2, q F H _ (.refl s) .bl⟩
  · split at ez <;> cases ez
    rename_i hk
    exact ⟨F, _, _, s, ax, ay, .inr ⟨_, _, rfl, rfl⟩, hk.1, hk.2, q F H _ (.refl s) .bl⟩
  · cases ez
theorem v6 {k : Nat} (hr : YN k X.A) : OpR X (compareOp .Eq) (fun x y H Q => rEq x y H Q ∨ zgS x y H Q) := zhA.or (zgh hr)
theorem wQ : OpD (fun x y H Q => rEq x y H Q ∨ zgS x y H Q) Yx := by
  refine WZ (X5 zd2 zee) fun d e z h => ?_
  obtain ⟨b, hb, rfl⟩ := Option.map_eq_some_iff.mp h
  unfold eqG at hb
  split at hb
  · split at hb <;> cases hb
    rename_i hk
    show (Option.or none (if okE 20 _ = true ∧ okE 20 _ = true then some (D.bl (eqN 20 _ _)) else none)) = _
    rw [if_pos hk]
    rfl
  · split at hb <;> cases hb
    rename_i hk
    show (Option.or none (if okE 20 _ = true ∧ okE 20 _ = true then some (D.bl (eqN 20 _ _)) else none)) = _
    rw [if_pos hk]
    rfl
  · show ((eqD d e).or _) = _
    unfold eqD
    rw [hb]
    rfl
theorem zcT {pins : List (Addr × Obj)} {σ : St} {H : Hp} {s : Shared} {a : Addr} {xs : List V} {A : Around} {Q : Value → Shared → Prop} {E : Value → Shared → Prop} (I : Inv X pins σ H s) (hh : A.handled = none) (h : SqL X.K H a xs ∨ SqT X.K H a xs)
    (k : ∀ (it : Addr) (its : List Value) (fp wr : List Addr) (St : Nat → Heap → Prop) (s₂ : Shared), yh xs its → Walks X.prog X.w A it fp wr its.length (fun i v => its[i]? = some v) St → St 0 s₂.heap → (∀ b ∈ fp, b < s₂.heap.objs.size) →
      (∀ (h' : Heap) (tk : Nat), (∀ b o, b ∉ wr → s₂.heap.get? b = some o → h'.get? b = some o) → Inv X pins σ H { s₂ with heap := h', toks := tk }) → Q (.ref it) s₂) :
    wpAny (model X.prog X.w) A (pyIter (.ref a)) Q E s := by
  have back : ∀ {o : Obj} {s₂ : Shared}, s₂ = { s with heap := s.heap.push o } → ∀ (h' : Heap) (tk : Nat), (∀ b u, b ∉ [s.heap.objs.size] → s₂.heap.get? b = some u → h'.get? b = some u) → Inv X pins σ H { s₂ with heap := h', toks := tk } := fun {o s₂} e h' tk kk => by
    subst e
    exact I.kept (t' := tk) fun b u z => kk b u (by simpa using Nat.ne_of_lt (Heap.lt_size z)) (Heap.get?_push_of_some _ z)
  rcases h with h | h
  · obtain ⟨its, rv, p, hz⟩ := I.list h
    have lt : a < s.heap.objs.size := by obtain ⟨o, n, ho, _⟩ := p; exact Heap.lt_size ho
    refine wpAny_pyIter_list p.isList ?_
    have W := Walks.list (prog := X.prog) (w := X.w) (A := A) hh s.heap.objs.size a (Nat.ne_of_lt lt) its.toArray
    refine k s.heap.objs.size its [s.heap.objs.size, a] [s.heap.objs.size] (fun i h => h.IsListIter s.heap.objs.size a i ∧ h.IsList a its.toArray) _ rv (by simpa using W) ⟨⟨_, Heap.get?_push_size _ rfl, rfl, rfl⟩, p.isList.at fun o e => Heap.get?_push_of_some _ e⟩ (fun b hb => ?_) (back rfl)
    show b < (s.heap.push _).objs.size
    rw [Heap.size_push]
    rcases List.mem_cons.mp hb with rfl | hb
    · exact Nat.lt_succ_self _
    · rw [List.mem_singleton.mp hb]; exact Nat.lt_succ_of_lt lt
  · obtain ⟨its, rv, p, hz⟩ := I.tuple h
    have p' : s.heap.IsTuple a its.toArray := p
    have lt : a < s.heap.objs.size := by obtain ⟨o, ho, _⟩ := p; exact Heap.lt_size ho
    refine wpAny_pyIter_tuple p' ?_
    have W := Walks.tuple (prog := X.prog) (w := X.w) (A := A) hh s.heap.objs.size a (Nat.ne_of_lt lt) its.toArray
    refine k s.heap.objs.size its [s.heap.objs.size, a] [s.heap.objs.size] (fun i h => h.IsTupleIter s.heap.objs.size a i ∧ h.IsTuple a its.toArray) _ rv (by simpa using W) ⟨⟨_, Heap.get?_push_size _ rfl, rfl, rfl⟩, p'.at fun o e => Heap.get?_push_of_some _ e⟩ (fun b hb => ?_) (back rfl)
    show b < (s.heap.push _).objs.size
    rw [Heap.size_push]
    rcases List.mem_cons.mp hb with rfl | hb
    · exact Nat.lt_succ_self _
    · rw [List.mem_singleton.mp hb]; exact Nat.lt_succ_of_lt lt
end
end Dl
namespace Dl
open PySem L2
variable [KK]
omit [KK] in
theorem zbS {bs : List Bool} : (List.range bs.length).any (fun i => bs.getD i false) = bs.any id := by
  have : bs = (List.range bs.length).map fun i => bs.getD i false := by
    apply List.ext_getElem
    · simp
    · intro i h1 h2
      simp [h1]
  conv => rhs; rw [this]
  rw [List.any_map]
  rfl
section
variable {X : Cx}
omit [KK] in
theorem zev {bs : List Bool} {its : List Value} {i : Nat} {v : Value} (r : yh (bs.map V.bl) its) (h : its[i]? = some v) : v = .bool (bs.getD i false) := by
  have hl := r.length
  have hi : i < its.length := (List.getElem?_eq_some_iff.mp h).1
  rw [List.length_map] at hl
  obtain ⟨u, hu, ru⟩ := r.get (i := i) (x := .bl (bs[i]'(by omega))) (by rw [List.getElem?_map]; simp [show i < bs.length by omega])
  rw [h] at hu
  cases hu
  cases ru
  simp [show i < bs.length by omega]
theorem zbV (hc : X.calm = true) : Yw X (.builtin "any") (fun xs H Q => ∃ (p : Addr) (bs : List Bool), xs = [.ref p] ∧ (SqL X.K H p (bs.map V.bl) ∨ SqT X.K H p (bs.map V.bl)) ∧ Q (.bl (bs.any id)) H) := by
  intro pins s σ H xs us Q I r h
  obtain ⟨p, bs, rfl, hq, q⟩ := h
  obtain ⟨u, rfl, ru⟩ := zaA r
  cases ru
  refine call_any_walk (zcT I (I.ok.hd hc) hq fun it its fp wr St s₂ rv W st fpl back => ?_)
  have hl := rv.length
  rw [List.length_map] at hl
  refine ⟨it, fp, wr, _, _, St, fun i => bs.getD i false, rfl, W, st, fun i v s Q E hv hQ => ?_, fun h' tk kk => ⟨.bl _, H, back h' tk kk, rfl, ?_⟩⟩
  · rw [zev rv hv]
    exact wpAny_truthy_bool hQ
  · rw [← hl, zbS]
    exact q
noncomputable def ze6 : List D → Option (List Bool)
  | [] => some []
  | .bl b :: ds => (ze6 ds).map (b :: ·)
  | _ => none
noncomputable def zhi : List D → Option (List Int)
  | [] => some []
  | .int b :: ds => (zhi ds).map (b :: ·)
  | _ => none
omit [KK] in
theorem zbl : ∀ {ds : List D} {bs : List Bool}, ze6 ds = some bs → ds = bs.map .bl
  | [], bs, h => by cases h; rfl
  | d :: ds, bs, h => by
    cases d <;> try cases h
    obtain ⟨cs, h1, rfl⟩ := Option.map_eq_some_iff.mp h
    rw [zbl h1]
    rfl
omit [KK] in
theorem zbT : ∀ {ds : List D} {bs : List Int}, zhi ds = some bs → ds = bs.map .int
  | [], bs, h => by cases h; rfl
  | d :: ds, bs, h => by
    cases d <;> try cases h
    obtain ⟨cs, h1, rfl⟩ := Option.map_eq_some_iff.mp h
    rw [zbT h1]
    rfl
omit [KK] in
theorem zdy (bs : List Bool) : ze6 (bs.map .bl) = some bs := by
  induction bs with
  | nil => rfl
  | cons b r ih => show (ze6 (r.map .bl)).map (b :: ·) = _; rw [ih]; rfl
theorem AtL.of_bls {H : Hp} : ∀ {ns : List Bool} {xs : List V}, AtL H (ns.map D.bl) xs → xs = ns.map V.bl
  | [], _, h => h.nil_inv
  | n :: r, _, h => by
    obtain ⟨x, r', rfl, h1, h2⟩ := AtL.cons_inv (by simpa using h)
    rw [h1.bl_inv, AtL.of_bls h2]
    rfl
noncomputable def zhE {α : Type} (as : List D → Option α) (g : α → Option D) : List D → Option D
  | [d] => ((vo d).bind as).bind g
  | _ => none
theorem zey {K : PySem.W.Frag} {F H : Hp} {vs : List V} {ds : List D} {z : D} {α : Type} {as : List D → Option α} {g : α → Option D} (s : yB F H) (al : AtL F ds vs) (e : zhE as g ds = some z) :
    ∃ p es xs b, vs = [.ref p] ∧ (SqL K H p xs ∨ SqT K H p xs) ∧ AtL F es xs ∧ as es = some b ∧ g b = some z := by
  unfold zhE at e
  split at e
  · obtain ⟨b, e1, e2⟩ := Option.bind_eq_some_iff.mp e
    obtain ⟨es, e3, e4⟩ := Option.bind_eq_some_iff.mp e1
    obtain ⟨x, r, rfl, ax, ar⟩ := al.cons_inv
    cases ar.nil_inv
    rename_i d
    cases d <;> cases e3
    · obtain ⟨p, xs, rfl, hx, bl⟩ := ax.tup_inv
      exact ⟨p, _, xs, b, rfl, .inr (SqT.of (s _ _ hx)), bl, e4, e2⟩
    · obtain ⟨p, xs, rfl, hx, bl⟩ := ax.lst_inv
      exact ⟨p, _, xs, b, rfl, .inl (SqL.of (s _ _ hx)), bl, e4, e2⟩
  · cases e
noncomputable def zgZ := zhE ze6 fun bs => some (.bl (bs.any id))
theorem zeH {K : PySem.W.Frag} : CaD (fun xs H Q => ∃ (p : Addr) (bs : List Bool), xs = [.ref p] ∧ (SqL K H p (bs.map V.bl) ∨ SqT K H p (bs.map V.bl)) ∧ Q (.bl (bs.any id)) H) zgZ := by
  intro F H vs ds z Q s al e q
  obtain ⟨p, es, xs, bs, rfl, hq, bl, e1, e2⟩ := zey (K := K) s al e
  cases e2
  rw [zbl e1] at bl
  rw [bl.of_bls] at hq
  exact ⟨p, bs, rfl, hq, q F H _ (.refl s) .bl⟩
end
end Dl
namespace Dl
open PySem L2
variable [KK]
section
variable {X : Cx} {tg a b c e : Expr} {pos : Pos}
noncomputable def zar : List D → List D → List D
  | x :: xs, y :: ys => .tup [x, y] :: zar xs ys
  | _, _ => []
omit [KK] in
theorem VC : ∀ (xs ys : List D) (i : Nat), (zar xs ys)[i]? = match xs[i]?, ys[i]? with | some x, some y => some (.tup [x, y]) | _, _ => none
  | [], ys, i => by simp [zar]
  | x :: xs, [], i => by simp [zar]
  | x :: xs, y :: ys, 0 => by simp [zar]
  | x :: xs, y :: ys, i + 1 => by simpa [zar] using VC xs ys i
omit [KK] in
theorem Zz : ∀ (xs ys : List D), xs.length ≤ ys.length → (zar xs ys).length = xs.length
  | [], ys, _ => by simp [zar]
  | x :: xs, [], h => by simp at h
  | x :: xs, y :: ys, h => by simp [zar, Zz xs ys (by simpa using h)]
noncomputable def ZM (f : Ev → Option (List D)) : Ev → Option (List D) := fun ρ => (f ρ).bind fun as => match as with
  | [d, e] => (vo d).bind fun xs => (vo e).bind fun ys => if xs.length ≤ ys.length then some (zar xs ys) else none
  | _ => none
theorem zfH {K : PySem.W.Frag} {F H : Hp} {d : D} {v : V} {ds : List D} (s : yB F H) (h : At F d v) (e : vo d = some ds) : ∃ b p xs, v = .ref p ∧ (∀ {F' H' : Hp}, yB F F' → yB F' H' → Sq b K H' p xs) ∧ AtL F ds xs := by
  cases d <;> cases e
  · obtain ⟨p, xs, rfl, hx, al⟩ := h.tup_inv
    exact ⟨false, p, xs, rfl, fun s1 s2 => SqT.of (s2 _ _ (s1 _ _ hx)), al⟩
  · obtain ⟨p, xs, rfl, hx, al⟩ := h.lst_inv
    exact ⟨true, p, xs, rfl, fun s1 s2 => SqL.of (s2 _ _ (s1 _ _ hx)), al⟩
theorem zfV {es : List Expr} {k : Nat} {tp p : Pos} {f : Ev → Option (List D)} (hg : Gl X "zip") (hm : X.mg "zip" = none) (ha : AD X [a, b] f)
    (hs : starEach [a, b] X.env = [(false, eval a X.env), (false, eval b X.env)] := by rfl) (hs2 : starEach [b] X.env = [(false, eval b X.env)] := by rfl) : ID X (.Tuple es k tp) (.Call (.Name "zip" p) [a, b] [] pos) (ZM f) := by
  obtain ⟨t, pa, r⟩ := ha
  refine ⟨_, zge hg hm zfR pa hs hs2, fun σ ρ F H ds R s va e q => ?_⟩
  obtain ⟨as, e1, e2⟩ := Option.bind_eq_some_iff.mp e
  refine r σ ρ F H as _ s va e1 fun F1 H1 v g1 a1 => ?_
  split at e2
  · obtain ⟨x, r', rfl, ax, ar⟩ := a1.cons_inv
    obtain ⟨y, r', rfl, ay, ar⟩ := ar.cons_inv
    cases ar.nil_inv
    obtain ⟨xs, e3, e2'⟩ := Option.bind_eq_some_iff.mp e2
    obtain ⟨ys, e4, e2''⟩ := Option.bind_eq_some_iff.mp e2'
    clear e2 e2' e
    split at e2'' <;> cases e2''
    rename_i hle
    obtain ⟨b1, p1, us, rfl, sq1, al⟩ := zfH (K := X.K) g1.fh ax e3
    obtain ⟨b2, p2, ws, rfl, sq2, bl⟩ := zfH (K := X.K) g1.fh ay e4
    refine ⟨b1, b2, p1, p2, us, ws, rfl, sq1 (yB.refl _) g1.fh, sq2 (yB.refl _) g1.fh, q F1 H1 _ g1 fun i F2 H2 s1 s2 => ?_⟩
    have q1 := sq1 s1 s2
    have q2 := sq2 s1 s2
    refine ⟨fun hl => ⟨us, q1, by rw [hl, Zz _ _ hle, al.length]⟩, fun d hd => ?_⟩
    rw [VC] at hd
    cases h1 : xs[i]? with
    | none => rw [h1] at hd; cases hd
    | some x =>
      cases h2 : ys[i]? with
      | none => rw [h1, h2] at hd; cases hd
      | some y =>
        rw [h1, h2] at hd
        cases hd
        obtain ⟨u, hu, au⟩ := al.get h1
        obtain ⟨u2, hu2, au2⟩ := bl.get h2
        refine ⟨⟨us, ws, u, u2, q1, q2, hu, hu2⟩, fun z H3 hz => ?_⟩
        obtain ⟨T, x', y', rfl, hT, rfl, hx', hy'⟩ := hz
        have e5 := hx' us q1
        have e6 := hy' ws q2
        rw [hu] at e5
        rw [hu2] at e6
        cases e5
        cases e6
        have g3 := Gr.alloc s2 hT (.tup [u, u2])
        exact ⟨_, g3, .tup zp (.cons (au.mono (s1.trans g3.ff)) (.cons (au2.mono (s1.trans g3.ff)) .nil))⟩
  · cases e2
noncomputable def vG (g : List D → Option (List D)) (f : Ev → Option (List D)) (b : D → SE → Option SE) (h : SE → Ctl) : SE → Ctl := fun ρ => match (f (visG ρ)).bind g with
  | some ds => zbH b h ds ρ
  | none => .no
theorem Xy {p pos' : Pos} {body : List Stmt} {f : Ev → Option (List D)} {b' : D → SE → Option SE} {g : SE → Ctl} (hp : PassesOwn (model X.prog X.w) X.A X.env X.xe) (hc : X.calm = true) (hgl : Gl X "range") (hm : X.mg "range" = none) (ha : AD X [a] f) (hg : BD X tg b') (hb : SDs X body g)
    (hs0 : starEach [a] X.env = [(false, eval a X.env)] := by rfl) (hs : ∀ x, foldedSetIterable (.Call (.Name "range" p) [a] [] pos) X.env x = pure x := by intro _; rfl) : SD X (.For tg (.Call (.Name "range" p) [a] [] pos) body [] pos') (vG WP f b' g) := by
  obtain ⟨t, pa, r⟩ := ha
  obtain ⟨tg', pg, rg⟩ := hg
  obtain ⟨tb, pb, rb⟩ := hb
  refine ⟨_, zbh hp hc (zbn hgl hm pa hs0) pg pb hs, fun Fb Hb F H ρ σ E rl k => ?_⟩
  unfold vG at k
  cases h : (f (visG ρ)).bind WP with
  | none => rw [h] at k; exact k.elim
  | some ds =>
    rw [h] at k
    obtain ⟨as, e1, e2⟩ := Option.bind_eq_some_iff.mp h
    refine r σ _ _ H as _ rl.gh rl.visG e1 fun F1 H1 vs g1 a1 => ?_
    have rl2 := rl.grow (rl.back g1).1
    unfold WP at e2
    split at e2
    · split at e2 <;> cases e2
      rename_i hc
      obtain ⟨x, r', rfl, ax, ar⟩ := a1.cons_inv
      cases ar.nil_inv
      exact ⟨_, by rw [ax.int_inv], (zT.mp hc).1, (zT.mp hc).2, zcx (zbY 0 _) rg rb rl2 k⟩
    · cases e2
theorem zdH {p pos' : Pos} {body : List Stmt} {f : Ev → Option (List D)} {b' : D → SE → Option SE} {g : SE → Ctl} (hp : PassesOwn (model X.prog X.w) X.A X.env X.xe) (hc : X.calm = true) (hgl : Gl X "range") (hm : X.mg "range" = none) (ha : AD X [a, b] f) (hg : BD X tg b') (hb : SDs X body g)
    (hs0 : starEach [a, b] X.env = [(false, eval a X.env), (false, eval b X.env)] := by rfl) (hs2 : starEach [b] X.env = [(false, eval b X.env)] := by rfl) (hs : ∀ x, foldedSetIterable (.Call (.Name "range" p) [a, b] [] pos) X.env x = pure x := by intro _; rfl) : SD X (.For tg (.Call (.Name "range" p) [a, b] [] pos) body [] pos') (vG Xa f b' g) := by
  obtain ⟨t, pa, r⟩ := ha
  obtain ⟨tg', pg, rg⟩ := hg
  obtain ⟨tb, pb, rb⟩ := hb
  refine ⟨_, zbh hp hc (Wr hgl hm pa hs0 hs2) pg pb hs, fun Fb Hb F H ρ σ E rl k => ?_⟩
  unfold vG at k
  cases h : (f (visG ρ)).bind Xa with
  | none => rw [h] at k; exact k.elim
  | some ds =>
    rw [h] at k
    obtain ⟨as, e1, e2⟩ := Option.bind_eq_some_iff.mp h
    refine r σ _ _ H as _ rl.gh rl.visG e1 fun F1 H1 vs g1 a1 => ?_
    have rl2 := rl.grow (rl.back g1).1
    unfold Xa at e2
    split at e2
    · split at e2 <;> cases e2
      rename_i hc
      obtain ⟨x, r', rfl, ax, ar⟩ := a1.cons_inv
      obtain ⟨y, r', rfl, ay, ar⟩ := ar.cons_inv
      cases ar.nil_inv
      exact ⟨_, _, by rw [ax.int_inv, ay.int_inv], ⟨(zT.mp hc.1).1, (zT.mp hc.1).2, (zT.mp hc.2).1, (zT.mp hc.2).2⟩, zcx (zbY _ _) rg rb rl2 k⟩
    · cases e2
end
noncomputable def zcc (K : PySem.W.Frag) : Sp := fun vs H Q _ => ∃ (a : Addr) (ns : List Int), vs = [.ref a] ∧ SqL K H a (ns.map V.int) ∧ ns.length ≤ 63 ∧ ∀ H', Q (.bl true) H'
end Dl
namespace Dl
open PySem L2
theorem zfx {P : Program} {w : World} {K : PySem.W.Frag} {mg : Str → Option Value} {base : Heap} {f : Addr} {fd : FuncData} {ps : List Str} {k : Nat} {p : List D → Option D} (F : x6 P w K mg base CX0 k f fd ps (@spD ⟨K⟩ 1 p)) (h : ∀ ns : List Int, ns.length ≤ 63 → p [.scr ns] = some (.bl true)) :
    x6 P w K mg base CX0 k f fd ps (zcc K) := by
  letI : KK := ⟨K⟩
  refine F.imp fun vs H Q E hs => ?_
  obtain ⟨a, ns, rfl, hq, hl, q⟩ := hs
  refine ⟨[.scr ns], .bl true, H, rfl, yB.refl _, .cons ?_ .nil, h ns hl, fun F' H' v _ av => ?_⟩
  · unfold At
    exact ⟨a, rfl, hq⟩
  · rw [av.bl_inv]
    exact q H'
structure Def (K : PySem.W.Frag) (mg : Str → Option Value) (x : Str) (st : Stmt) (ps : List Str) (f : Addr) (fd : FuncData) : Prop where
  fn : Fun K x x st f fd
  bd : Vl K fd ps []
  at_ : mg x = some (.ref f)
theorem Def.kp {K : PySem.W.Frag} {mg : Str → Option Value} {x : Str} {st : Stmt} {ps : List Str} {f : Addr} {fd : FuncData} (d : Def K mg x st ps f fd) : PySem.W.keepIn K (.ref f) = true := d.fn.kp
end Dl
namespace Dl
open PySem L2
inductive Ctl.w : Ctl → (SE → Prop) → (SE → Prop) → (SE → Prop) → (D → Prop) → Prop where
  | nx {ρ : SE} {n b k : SE → Prop} {r : D → Prop} : n ρ → Ctl.w (.nx ρ) n b k r
  | bk {ρ : SE} {n b k : SE → Prop} {r : D → Prop} : b ρ → Ctl.w (.bk ρ) n b k r
  | ct {ρ : SE} {n b k : SE → Prop} {r : D → Prop} : k ρ → Ctl.w (.ct ρ) n b k r
  | rt {d : D} {n b k : SE → Prop} {r : D → Prop} : r d → Ctl.w (.rt d) n b k r
section
variable {ρ : SE} {d : D} {n b k : SE → Prop} {r : D → Prop}
theorem Ctl.w.nxi (h : Ctl.w (.nx ρ) n b k r) : n ρ := by cases h; assumption
theorem Ctl.w.bki (h : Ctl.w (.bk ρ) n b k r) : b ρ := by cases h; assumption
theorem Ctl.w.cti (h : Ctl.w (.ct ρ) n b k r) : k ρ := by cases h; assumption
theorem Ctl.w.rti (h : Ctl.w (.rt d) n b k r) : r d := by cases h; assumption
theorem Ctl.w.noi (h : Ctl.w .no n b k r) : False := by cases h
end
noncomputable abbrev noP : SE → Prop := fun _ => False
section
variable {g h : SE → Ctl} {ρ ρ' : SE} {n b k : SE → Prop} {r : D → Prop}
theorem xM (e : (g ρ).w (fun ρ' => (h ρ').w n b k r) b k r) : (yL g h ρ).w n b k r := by
  unfold yL
  cases hg : g ρ with
  | nx ρ' => rw [hg] at e; exact e.nxi
  | bk ρ' => rw [hg] at e; exact .bk e.bki
  | ct ρ' => rw [hg] at e; exact .ct e.cti
  | rt d => rw [hg] at e; exact .rt e.rti
  | no => rw [hg] at e; exact e.noi.elim
theorem zR (e : g ρ = .nx ρ') (q : (h ρ').w n b k r) : (yL g h ρ).w n b k r := xM (by rw [e]; exact .nx q)
theorem vZ (e : g ρ = .nx ρ') (q : n ρ') : (g ρ).w n b k r := by rw [e]; exact .nx q
theorem Y8 {d : D} (e : g ρ = .rt d) (q : r d) : (g ρ).w n b k r := by rw [e]; exact .rt q
theorem YZ {t : Ev → Option Bool} {c : Bool} (e : t (visG ρ) = some c) (h1 : c = true → (g ρ).w n b k r) (h2 : c = false → (h ρ).w n b k r) : (sIf t g h ρ).w n b k r := by
  unfold sIf
  rw [e]
  cases c with
  | true => exact h1 rfl
  | false => exact h2 rfl
theorem zgW {i : Nat} (e : zgQ ρ i = ρ') (q : (g ρ').w n b k r) : (sFz i g ρ).w n b k r := by
  unfold sFz
  rw [e]
  exact q
theorem zbz {bd : D → SE → Option SE} (I : Nat → SE → Prop) : ∀ (ds : List D) (j : Nat) (ρ : SE), I j ρ →
    (∀ i d ρ, ds[i]? = some d → I (j + i) ρ → ∃ ρ1, bd d ρ = some ρ1 ∧ (g ρ1).w (I (j + i + 1)) n (I (j + i + 1)) r) → (∀ ρ, I (j + ds.length) ρ → n ρ) → (zbH bd g ds ρ).w n b k r
  | [], j, ρ, h0, _, fin => .nx (fin ρ h0)
  | d :: ds, j, ρ, h0, step, fin => by
    obtain ⟨ρ1, e1, e2⟩ := step 0 d ρ rfl h0
    unfold zbH
    rw [e1]
    dsimp only
    have next : ∀ ρ', I (j + 1) ρ' → (zbH bd g ds ρ').w n b k r := fun ρ' h' => zbz I ds (j + 1) ρ' h'
      (fun i d' ρ hd hI => by
        have := step (i + 1) d' ρ (by simpa using hd) (by rw [show j + (i + 1) = j + 1 + i by omega]; exact hI)
        rwa [show j + (i + 1) + 1 = j + 1 + i + 1 by omega] at this)
      (fun ρ hI => fin ρ (by rw [List.length_cons, show j + (ds.length + 1) = j + 1 + ds.length by omega]; exact hI))
    cases hg : g ρ1 with
    | nx ρ' => rw [hg] at e2; exact next ρ' e2.nxi
    | ct ρ' => rw [hg] at e2; exact next ρ' e2.cti
    | bk ρ' => rw [hg] at e2; exact .nx e2.bki
    | rt d' => rw [hg] at e2; exact .rt e2.rti
    | no => rw [hg] at e2; exact e2.noi.elim
theorem W7 {f : Ev → Option (List D)} {bd : D → SE → Option SE} {ds : List D} (I : Nat → SE → Prop) (e : f (visF ρ) = some ds) (h0 : I 0 ρ)
    (step : ∀ i d ρ, ds[i]? = some d → I i ρ → ∃ ρ1, bd d ρ = some ρ1 ∧ (g ρ1).w (I (i + 1)) n (I (i + 1)) r) (fin : ∀ ρ, I ds.length ρ → n ρ) : (WA f bd g ρ).w n b k r := by
  unfold WA
  rw [e]
  exact zbz I ds 0 ρ h0 (fun i d ρ hd hI => by rw [Nat.zero_add] at hI ⊢; exact step i d ρ hd hI) (fun ρ hI => fin ρ (by rw [Nat.zero_add] at hI; exact hI))
theorem VG {f : Ev → Option (List D)} {bd : D → SE → Option SE} {rg : List D → Option (List D)} {lo : Int} {c : Nat} (I : Nat → SE → Prop) (e : (f (visG ρ)).bind rg = some (YW lo c)) (h0 : I 0 ρ)
    (step : ∀ (i : Nat) ρ, i < c → I i ρ → ∃ ρ1, bd (.int (lo + i)) ρ = some ρ1 ∧ (g ρ1).w (I (i + 1)) n (I (i + 1)) r) (fin : ∀ ρ, I c ρ → n ρ) : (vG rg f bd g ρ).w n b k r := by
  unfold vG
  rw [e]
  refine zbz I (YW lo c) 0 ρ h0 (fun i d ρ hd hI => ?_) (fun ρ hI => fin ρ ?_)
  · rw [Nat.zero_add] at hI ⊢
    unfold YW at hd
    rw [List.getElem?_map] at hd
    by_cases hi : i < c
    · rw [List.getElem?_range hi] at hd
      cases hd
      exact step i ρ hi hI
    · rw [List.getElem?_eq_none (by simpa using hi)] at hd
      cases hd
  · rw [Nat.zero_add] at hI
    rwa [show (YW lo c).length = c by unfold YW; simp] at hI
theorem XR {t : Ev → Option Bool} (I : SE → Prop) (μ : SE → Nat) (step : ∀ ρ, I ρ → ∃ c, t (visG ρ) = some c ∧ (c = true → (g ρ).w (fun ρ' => I ρ' ∧ μ ρ' < μ ρ) n (fun ρ' => I ρ' ∧ μ ρ' < μ ρ) r) ∧ (c = false → n ρ)) : ∀ (fu : Nat) (ρ : SE), I ρ → μ ρ < fu → (wX t g fu ρ).w n b k r
  | 0, ρ, _, hf => by omega
  | fu + 1, ρ, hI, hf => by
    obtain ⟨c, e, q1, q2⟩ := step ρ hI
    unfold wX
    rw [e]
    cases c with
    | false => exact .nx (q2 rfl)
    | true =>
      have q := q1 rfl
      dsimp only
      cases hg : g ρ with
      | nx ρ' => rw [hg] at q; exact XR I μ step fu ρ' q.nxi.1 (by have := q.nxi.2; omega)
      | ct ρ' => rw [hg] at q; exact XR I μ step fu ρ' q.cti.1 (by have := q.cti.2; omega)
      | bk ρ' => rw [hg] at q; exact .nx q.bki
      | rt d' => rw [hg] at q; exact .rt q.rti
      | no => rw [hg] at q; exact q.noi.elim
end
theorem Vm {m : Nat} {g : SE → Ctl} {ds : List D} {d : D} {ρ : SE} (e : ds.map .v ++ List.replicate (m - ds.length) .no = ρ) (q : (g ρ).w (fun _ => d = .non) noP noP (fun d' => d' = d)) : fnD m g ds = some d := by
  unfold fnD
  rw [e]
  cases hg : g ρ with
  | nx ρ' => rw [hg] at q; rw [show d = .non from q.nxi]
  | rt d' => rw [hg] at q; rw [show d' = d from q.rti]
  | bk _ => rw [hg] at q; exact q.bki.elim
  | ct _ => rw [hg] at q; exact q.cti.elim
  | no => rw [hg] at q; exact q.noi.elim
theorem VI {m : Bool} {i : Nat} {f : Ev → Option D} {ρ : SE} {ds : List D} {d : D} (h1 : vEv m f ρ = some d) (h2 : ρ[i]? = some (.o ds)) (h3 : ds.length ≤ 1000) : WY m i f ρ = .nx (ρ.set i (.o (ds ++ [d]))) := by
  unfold WY
  rw [h1, h2]
  show (match (if decide (ds.length < sizeLine) = true then some (ρ.set i (.o (ds ++ [d]))) else none) with | some ρ' => Ctl.nx ρ' | none => Ctl.no) = _
  rw [if_pos (decide_eq_true (Yj h3))]
theorem Xl {b : D → Option (List (Option D))} {t : Ev → Option Bool} {f : Ev → Option D} {ρ : Ev} {α : Type} (c : α → D) (y : α → D) : ∀ (xs : List α), (∀ x ∈ xs, ∃ own, b (c x) = some own ∧ t (own ++ ρ) = some true ∧ f (own ++ ρ) = some (y x)) → lcD b t f ρ (xs.map c) = some (xs.map y)
  | [], _ => rfl
  | x :: xs, h => by
    obtain ⟨own, h1, h2, h3⟩ := h x List.mem_cons_self
    show lcD b t f ρ (c x :: xs.map c) = _
    unfold lcD
    rw [h1]
    simp only [Option.bind_some, h2, if_true, h3, Xl c y xs fun z hz => h z (List.mem_cons_of_mem _ hz)]
    rfl
theorem Ym {b : D → Option (List (Option D))} {t : Ev → Option Bool} {f : Ev → Option D} {ρ : Ev} {α : Type} (c : α → D) (p : α → Bool) (y : α → D) : ∀ (xs : List α), (∀ x ∈ xs, ∃ own, b (c x) = some own ∧ t (own ++ ρ) = some (p x) ∧ (p x = true → f (own ++ ρ) = some (y x))) → lcD b t f ρ (xs.map c) = some ((xs.filter p).map y)
  | [], _ => rfl
  | x :: xs, h => by
    obtain ⟨own, h1, h2, h3⟩ := h x List.mem_cons_self
    have ih := Ym c p y xs fun z hz => h z (List.mem_cons_of_mem _ hz)
    show lcD b t f ρ (c x :: xs.map c) = _
    unfold lcD
    rw [h1]
    simp only [Option.bind_some, h2]
    cases hp : p x with
    | false =>
      rw [if_neg Bool.false_ne_true, ih, List.filter_cons, if_neg (by rw [hp]; exact Bool.false_ne_true)]
    | true =>
      rw [if_pos rfl, h3 hp, ih, List.filter_cons, if_pos hp]
      rfl
mutual
noncomputable def noS : D → Bool
  | .tup ds => zd3 ds
  | .lst ds => zd3 ds
  | .scr _ => false
  | _ => true
noncomputable def zd3 : List D → Bool
  | [] => true
  | d :: ds => noS d && zd3 ds
end
theorem vx : ∀ {ds : List D} {i : Nat} {d : D}, zd3 ds = true → ds[i]? = some d → noS d = true
  | [], _, _, _, h => by simp at h
  | d :: ds, i, e, h, he => by
    unfold zd3 at h
    rw [Bool.and_eq_true] at h
    cases i with
    | zero => simp at he; subst he; exact h.1
    | succ i => exact vx h.2 (by simpa using he)
theorem vY {n : Nat} (h : n ≤ 1000) : lim n = true := by
  unfold lim
  exact decide_eq_true (Nat.le_of_lt (Yj h))
theorem Ve (lo : Int) (n : Nat) : (YW lo n).length = n := by unfold YW; simp
end Dl
namespace Dl
open PySem L2
noncomputable abbrev Pr := Int × Int
noncomputable def prD (t : Pr) : D := .tup [.int t.1, .int t.2]
noncomputable def zgN : D → Option Pr
  | .tup [.int a, .int b] => some (a, b)
  | _ => none
noncomputable def WW : List D → Option (List Pr)
  | [] => some []
  | d :: ds => (zgN d).bind fun t => (WW ds).map (t :: ·)
theorem zeS {d : D} {t : Pr} (h : zgN d = some t) : d = prD t := by
  unfold zgN at h
  split at h
  · cases h; rfl
  · cases h
theorem VT : ∀ {ds : List D} {ts : List Pr}, WW ds = some ts → ds = ts.map prD
  | [], ts, h => by cases h; rfl
  | d :: ds, ts, h => by
    unfold WW at h
    obtain ⟨t, h1, h2⟩ := Option.bind_eq_some_iff.mp h
    obtain ⟨us, h3, rfl⟩ := Option.map_eq_some_iff.mp h2
    rw [zeS h1, VT h3]
    rfl
theorem zbM (ts : List Pr) : WW (ts.map prD) = some ts := by
  induction ts with
  | nil => rfl
  | cons t ts ih =>
    show (zgN (prD t)).bind (fun u => (WW (ts.map prD)).map (u :: ·)) = _
    rw [ih]
    rfl
noncomputable def zfc (a b : Pr) : Bool := !OwnSort.bltP b a
noncomputable def Zf (ts : List Pr) : List Pr := ts.mergeSort zfc
noncomputable def leI (a b : Int) : Bool := decide (a ≤ b)
noncomputable def zdt (ns : List Int) : List Int := ns.mergeSort leI
theorem Xc {a b : Pr} : OwnSort.bltP b a = false ↔ zfc a b = true := by unfold zfc; simp
theorem wb {a b : Pr} : zfc a b = true ↔ a.1 < b.1 ∨ (a.1 = b.1 ∧ a.2 ≤ b.2) := by
  rw [← Xc]
  unfold OwnSort.bltP
  rw [decide_eq_false_iff_not]
  omega
theorem zaw {ts us : List Pr} (p : us.Perm ts) (h : us.Pairwise fun a b => OwnSort.bltP b a = false) : us = Zf ts := by
  refine List.Perm.eq_of_pairwise (le := fun a b => zfc a b = true) (fun a b _ _ h1 h2 => ?_) (h.imp fun x => Xc.mp x) ?_ (p.trans (List.mergeSort_perm _ _).symm)
  · rw [wb] at h1 h2
    exact Prod.ext (by omega) (by omega)
  · exact List.pairwise_mergeSort (fun a b c h1 h2 => by rw [wb] at *; omega) (fun a b => by rw [Bool.or_eq_true, wb, wb]; omega) _
theorem V8 {ts us : List Int} (p : us.Perm ts) (h : us.Pairwise (· ≤ ·)) : us = zdt ts := by
  refine List.Perm.eq_of_pairwise (le := fun a b => leI a b = true) (fun a b _ _ h1 h2 => ?_) (h.imp fun x => decide_eq_true x) ?_ (p.trans (List.mergeSort_perm _ _).symm)
  · unfold leI at h1 h2
    rw [decide_eq_true_eq] at h1 h2
    omega
  · exact List.pairwise_mergeSort (fun a b c h1 h2 => by unfold leI at *; rw [decide_eq_true_eq] at *; omega) (fun a b => by unfold leI; rw [Bool.or_eq_true, decide_eq_true_eq, decide_eq_true_eq]; omega) _
noncomputable def ZA : List D → Option (List D)
  | [.lst ds] => if ds.length < 64 then match WW ds with
      | some ts => some ((Zf ts).map prD)
      | none => match zhi ds with
        | some ns => some ((zdt ns).map .int)
        | none => none
    else none
  | _ => none
variable [KK]
section
variable {X : Cx} {e : Expr} {pos : Pos}
theorem At.pr_inv {F : Hp} {t : Pr} {v : V} (h : At F (prD t) v) : ∃ a, v = .ref a ∧ F a = some (.tup [.int t.1, .int t.2]) := by
  obtain ⟨a, xs, rfl, hx, al⟩ := h.tup_inv
  obtain ⟨x, r, rfl, a1, al⟩ := al.cons_inv
  obtain ⟨y, r, rfl, a2, al⟩ := al.cons_inv
  cases al.nil_inv
  cases a1.int_inv
  cases a2.int_inv
  exact ⟨a, rfl, hx⟩
theorem X0 (hc : X.calm = true) : Yw X (.builtin "sorted") (fun xs H Q => ∃ F p ys ds out, xs = [.ref p] ∧ yB F H ∧ H p = some (.lst ys) ∧ AtL F ds ys ∧ ZA [.lst ds] = some out ∧ ∀ l zs, H l = none → AtL F out zs → Q (.ref l) (upd H l (.lst zs))) := by
  intro pins s σ H xs us Q I r h
  obtain ⟨F, p, ys, ds, out, rfl, sm, hp, al, hs, q⟩ := h
  obtain ⟨u, rfl, ru⟩ := zaA r
  cases ru
  obtain ⟨its, rv, pl, hz⟩ := I.list (SqL.of hp)
  have hlen : its.length = ds.length := by rw [← rv.length, al.length]
  unfold ZA at hs
  dsimp only at hs
  split at hs <;> try cases hs
  rename_i h64
  have fin : ∀ (zs : List V) (ws : List Value), zs.length < 64 → yh zs ws → AtL F out zs → EP X pins σ Q (.ref (s.heap.objs.size + 1)) { s with heap := PyProof.Rows.sortedAll s.heap its ws.toArray } := fun zs ws hl rz az => by
    have hn : H (s.heap.objs.size + 1) = none := I.hok.fresh (Nat.le_succ _)
    obtain ⟨ep, he⟩ := PyProof.Rows.sortedAll_at s.heap its ws.toArray
    refine ⟨.ref (s.heap.objs.size + 1), upd H (s.heap.objs.size + 1) (.lst zs), I.laid (t' := s.toks) (fun b o z => PyProof.Rows.sortedAll_old z) (Nat.le_succ _) ?_, rfl, q _ zs hn az⟩
    exact ⟨Nat.le_of_lt (Yj (by omega)), ws, ep, rz, he⟩
  split at hs
  · rename_i ts hts
    cases hs
    have eds := VT hts
    subst eds
    have look : ∀ {v : Value}, v ∈ its → ∃ a t, v = .ref a ∧ t ∈ ts ∧ F a = some (.tup [.int t.1, .int t.2]) ∧ OwnSort.TP s.heap v t := fun {v} hv => by
      obtain ⟨j, hj, rfl⟩ := List.getElem_of_mem hv
      have hj2 : j < ts.length := by rw [List.length_map] at hlen; omega
      obtain ⟨x, hx, ax⟩ := al.get (i := j) (d := prD ts[j]) (by rw [List.getElem?_map]; simp [hj2])
      obtain ⟨a, rfl, ha⟩ := ax.pr_inv
      obtain ⟨v, hv, rvv⟩ := rv.get hx
      have e1 : its[j]? = some its[j] := by simp [hj]
      rw [hv] at e1
      cases e1
      have e2 : its[j] = .ref a := rvv
      refine ⟨a, ts[j], e2, List.getElem_mem hj2, ha, ?_⟩
      obtain ⟨us, ru, ⟨o, ho, hcl, n, hd⟩, _⟩ := I.tuple (SqT.of (sm _ _ ha))
      obtain ⟨u1, u2, rfl, r1, r2⟩ := Vp ru
      obtain ⟨t1, rfl⟩ := r1
      obtain ⟨t2, rfl⟩ := r2
      exact ⟨a, o, n, t1, t2, e2, ho, hcl, hd⟩
    refine OwnSort.own_sorted pl.isList (fun v hv => let ⟨a, t, _, _, _, ht⟩ := look hv; ⟨t, ht⟩) (by omega) fun o2 pm ri => ?_
    obtain ⟨us, l1, l2, l3⟩ := ri
    have hlo : o2.toList.length = ts.length := by rw [pm.length_eq, hlen, List.length_map]
    -- the values' addresses
    have zsOf : ∀ (ws : List Value) (vs : List Pr), ws.length = vs.length → (∀ w ∈ ws, w ∈ its) → (∀ (i : Nat) v t, ws[i]? = some v → vs[i]? = some t → OwnSort.TP s.heap v t) → ∃ zs : List V, yh zs ws ∧ AtL F (vs.map prD) zs := by
      intro ws
      induction ws with
      | nil =>
        intro vs hl _ _
        cases vs with
        | nil => exact ⟨[], .nil, .nil⟩
        | cons _ _ => simp at hl
      | cons w ws ih =>
        intro vs hl hm ht
        cases vs with
        | nil => simp at hl
        | cons t vs =>
          obtain ⟨zs, z1, z2⟩ := ih vs (by simpa using hl) (fun w' hw' => hm w' (List.mem_cons_of_mem _ hw')) (fun i v t h1 h2 => ht (i + 1) v t (by simpa using h1) (by simpa using h2))
          obtain ⟨a, t', rfl, _, ha, htp⟩ := look (hm w List.mem_cons_self)
          have et : t' = t := htp.uniq (ht 0 _ t rfl rfl)
          subst et
          exact ⟨.ref a :: zs, .cons rfl z1, .cons (.tup ha (.cons .int (.cons .int .nil))) z2⟩
    obtain ⟨zs, z1, z2⟩ := zsOf o2.toList us l1 (fun w hw => pm.mem_iff.mp hw) l2
    have keysPerm : us.Perm ts := by
      -- by the keys of the values
      have kv : ∀ (ws : List Value) (vs : List Pr), ws.length = vs.length → (∀ (i : Nat) v t, ws[i]? = some v → vs[i]? = some t → OwnSort.TP s.heap v t) → vs = ws.map fun v => (OwnSort.keyP s.heap v).getD (0, 0) := by
        intro ws
        induction ws with
        | nil => intro vs hl _; cases vs with
          | nil => rfl
          | cons _ _ => simp at hl
        | cons w ws ih =>
          intro vs hl ht
          cases vs with
          | nil => simp at hl
          | cons t vs =>
            rw [List.map_cons, OwnSort.keyP_of (ht 0 w t rfl rfl), ← ih vs (by simpa using hl) fun i v t h1 h2 => ht (i + 1) v t (by simpa using h1) (by simpa using h2)]
            rfl
      rw [kv _ _ l1 l2, kv its ts (by rw [hlen, List.length_map]) fun i v t h1 h2 => ?_]
      · exact pm.map _
      · obtain ⟨x, hx, ax⟩ := al.get (i := i) (d := prD t) (by rw [List.getElem?_map, h2]; rfl)
        obtain ⟨a, rfl, ha⟩ := ax.pr_inv
        obtain ⟨v', hv', rvv⟩ := rv.get hx
        rw [h1] at hv'
        cases hv'
        obtain ⟨us', ru', ⟨o, ho, hcl, n, hd⟩, _⟩ := I.tuple (SqT.of (sm _ _ ha))
        obtain ⟨u1, u2, rfl, r1, r2⟩ := Vp ru'
        obtain ⟨t1, rfl⟩ := r1
        obtain ⟨t2, rfl⟩ := r2
        exact ⟨a, o, n, t1, t2, rvv, ho, hcl, hd⟩
    have e3 := zaw keysPerm l3
    rw [e3] at z2
    have := fin zs o2.toList (by rw [z1.length]; rw [List.length_map] at h64; omega) z1 z2
    simpa using this
  · split at hs <;> try cases hs
    rename_i ns hns
    have eds := zbT hns
    subst eds
    have hI : PyProof.Rows.IntsAre its ns := Yo (by rw [← al.of_ints]; exact rv)
    refine PyProof.Rows.sorted_ints pl.isList hI (by omega) fun o2 ns' h1 h2 h3 => ?_
    have e3 := V8 h2 h3
    subst e3
    have z1 : yh ((zdt ns).map V.int) o2.toList := Zk h1
    have := fin ((zdt ns).map V.int) o2.toList (by rw [List.length_map, h2.length_eq]; rw [List.length_map] at h64; omega) z1 (.ints _)
    simpa using this
theorem Wu {p : Pos} {f : Ev → Option (List D)} (hc : X.calm = true) (hgl : Gl X "sorted") (hm : X.mg "sorted" = none) (ha : AD X [e] f)
    (he : starEach [e] X.env = (false, eval e X.env) :: starEach [] X.env := by rfl) (hpl : (backTo pos (starEach [] X.env)).any (·.1) = false := by rfl) : FL X (.Call (.Name "sorted" p) [e] [] pos) (fFn ZA f) := by
  obtain ⟨t, pa, ra⟩ := ha
  refine ⟨_, Xx (X0 hc) hgl hm WG pa (by decide) (by decide) he hpl, fun σ ρ F H z Q s va e q => ?_⟩
  obtain ⟨ds, e1, e2⟩ := Option.bind_eq_some_iff.mp e
  refine ra σ ρ F H ds _ s va e1 fun F1 H1 vs g1 a1 => ?_
  have e2' := e2
  unfold ZA at e2'
  split at e2'
  · obtain ⟨x, r, rfl, ax, ar⟩ := a1.cons_inv
    cases ar.nil_inv
    obtain ⟨p, ys, rfl, hx, bl⟩ := ax.lst_inv
    exact ⟨F1, p, ys, _, z, rfl, g1.fh, g1.fh _ _ hx, bl, e2, fun l zs hl az => q _ _ _ _ (g1.trans (Gr.hide g1.fh hl _)) (zcs g1 hl) (g1.fh.free hl) zp az⟩
  · cases e2'
end
end Dl
namespace Dl
open PySem L2
variable [KK]
end Dl
namespace L2
open PySem PySem.Spec PyProof.Rows
section
variable {X : Cx}
noncomputable def zbo : V → List V → Hp → VK → Prop := fun x vs H Q => ∃ l xs i y, x = .ref l ∧ vs = [.int i, y] ∧ H l = some (.lst xs) ∧ xs.length < sizeLine ∧ 0 ≤ i ∧ i < 2 ^ 63 ∧ Q .non (upd H l (.lst (xs.take i.toNat ++ y :: xs.drop i.toNat)))
theorem zeP (its : List Value) (u : Value) (x : Int) (h0 : 0 ≤ x) :
    (fun xs : Array Value => have k := if x < 0 then (x + ((xs.size : Nat) : Int)).toNat else min x.toNat xs.size; (xs.extract 0 k).push u ++ xs.extract k) its.toArray = (its.take x.toNat ++ u :: its.drop x.toNat).toArray := by
  have hn : ¬ x < 0 := by omega
  apply Array.ext'
  simp only [if_neg hn]
  by_cases c : x.toNat ≤ its.length
  · simp [Nat.min_eq_left c]
    exact List.take_of_length_le (by rw [List.length_drop]; exact Nat.le_refl _)
  · have e : min x.toNat its.length = its.length := by omega
    have e1 : its.take x.toNat = its := List.take_of_length_le (by omega)
    have e2 : its.drop x.toNat = [] := List.drop_eq_nil_of_le (by omega)
    simp [e, e1, e2]
theorem zbC : MtM X "list.insert" zbo := by
  intro pins s σ H x vs v us Q I rx rv h
  obtain ⟨l, xs, i, y, rfl, rfl, hH, hz, h0, h1, q⟩ := h
  cases rx
  obtain ⟨u, w, rfl, ru, rw'⟩ := rv.two
  obtain ⟨t, rfl⟩ := ru
  obtain ⟨z, its, n, r, hl, e⟩ := I.lstM hH
  have hfit : ¬(!Builtin.List.listFitsIndex i) = true := by
    have : Builtin.List.listFitsIndex i = true := fitsIndex_both (by omega) h1
    rw [this]
    exact Bool.false_ne_true
  refine call_meets F.slot_list_insert ⟨_, e, rfl⟩ F.entry_list_insert (F.args_list_insert_3 _ _ _) (AutoListH.list_insert_list_int_val_1 l its.toArray n i t w hfit (by rw [List.size_toArray]; omega)) ⟨e, ?_⟩
  refine ⟨.non, _, I.lset (its' := its.take i.toNat ++ w :: its.drop i.toNat) hH e (zeP its w i h0) ((r.take _).append (.cons rw' (r.drop _))) ?_, rfl, q⟩
  rw [List.length_append, List.length_cons, List.length_take, List.length_drop]
  omega
end
end L2
namespace Dl
open PySem L2
section
variable [KK] {X : Cx} {a e k : Expr} {pos : Pos}
noncomputable def zgV (ds : List D) (i : Int) (d : D) : List D := ds.take i.toNat ++ d :: ds.drop i.toNat
noncomputable def zfl (m : Bool) (i : Nat) (fk f : Ev → Option D) : SE → Ctl := fun ρ => match (vEv m fk ρ).bind fun kd => (vEv m f ρ).bind fun d => match ρ[i]?, kd with
    | some (.o ds), .int j => if (decide (ds.length < sizeLine) && decide (0 ≤ j ∧ j < 2 ^ 63)) = true then some (ρ.set i (.o (zgV ds j d))) else none
    | _, _ => none with
  | some ρ' => .nx ρ'
  | none => .no
theorem zfZ {m : Bool} {i : Nat} {p pos' : Pos} {fk f : Ev → Option D} (ho : PE X a (zgq i)) (hk : ED X k fk) (he : ED X e f)
    (hp : ∀ {ta : TE} {t : TA}, PE X a ta → PA X [k, e] t → PE X (.Call (.Attribute a "insert" p) [k, e] [] pos') (tBM X.K "list" zbo ta t)) (hsw : swapsWith (.Call (.Attribute a "insert" p) [k, e] [] pos') none pos.line X.env = pure false := by rfl)
    (hs : starEach [k, e] X.env = (false, eval k X.env) :: starEach [e] X.env := by rfl) (hs2 : starEach [e] X.env = (false, eval e X.env) :: starEach [] X.env := by rfl) : SD X (.Expr (.Call (.Attribute a "insert" p) [k, e] [] pos') pos) (zfl m i fk f) := by
  obtain ⟨tk, pk, rk⟩ := hk
  obtain ⟨t, pe, re⟩ := he
  refine ⟨_, Vs (hp ho (Ys pk (Ys pe VA hs2) hs)) hsw, fun Fb Hb F H ρ σ E rl kk => ?_⟩
  unfold zfl at kk
  cases h : (vEv m fk ρ).bind fun kd => (vEv m f ρ).bind fun d => match ρ[i]?, kd with
    | some (.o ds), .int j => if (decide (ds.length < sizeLine) && decide (0 ≤ j ∧ j < 2 ^ 63)) = true then some (ρ.set i (.o (zgV ds j d))) else none
    | _, _ => none with
  | none => rw [h] at kk; exact kk.elim
  | some ρ' =>
    rw [h] at kk
    obtain ⟨kd, e0, e2⟩ := Option.bind_eq_some_iff.mp h
    obtain ⟨d, e1, e2⟩ := Option.bind_eq_some_iff.mp e2
    cases hs : ρ[i]? with
    | none => rw [hs] at e2; cases e2
    | some sl =>
      rw [hs] at e2
      cases sl with
      | no => cases e2
      | v _ => cases e2
      | m _ _ _ => cases e2
      | o ds =>
        cases kd with
        | int j =>
          dsimp only at e2
          split at e2 <;> cases e2
          rename_i hl
          rw [Bool.and_eq_true] at hl
          have hj := of_decide_eq_true hl.2
          obtain ⟨q, xs, f1, f2, f3, f4, f5⟩ := rl.owns i ds hs
          refine ⟨_, f1, .inl ⟨rfl, xs, SqL.of f4⟩, ?_⟩
          refine rk.at rl e0 fun F0 H0 vk g0 ak => ?_
          have rl1 := rl.grow g0
          refine re.at rl1 e1 fun F' H' v g av => ?_
          have rl2 := rl1.grow g
          obtain ⟨q2, xs2, f1', _, _, f4', f5'⟩ := rl2.owns i ds hs
          rw [f1] at f1'
          cases f1'
          cases ak.int_inv
          refine ⟨q, xs2, j, v, rfl, rfl, f4', by rw [f5'.length]; exact of_decide_eq_true hl.1, hj.1, hj.2, ?_⟩
          exact kk _ _ σ (rl2.mutate hs f1 ((f5'.take _).append (.cons av (f5'.drop _))))
        | _ => cases e2
end
end Dl
namespace Dl
open PySem L2
theorem zgb {m : Bool} {i : Nat} {fk f : Ev → Option D} {ρ : SE} {ds : List D} {d : D} {k : Int} (h0 : vEv m fk ρ = some (.int k)) (h1 : vEv m f ρ = some d) (h2 : ρ[i]? = some (.o ds)) (h3 : ds.length ≤ 1000) (h4 : 0 ≤ k) (h5 : k ≤ 1000) : zfl m i fk f ρ = .nx (ρ.set i (.o (zgV ds k d))) := by
  unfold zfl
  rw [h0, h1, h2]
  show (match (if (decide (ds.length < sizeLine) && decide (0 ≤ k ∧ k < 2 ^ 63)) = true then some (ρ.set i (.o (zgV ds k d))) else none) with | some ρ' => Ctl.nx ρ' | none => Ctl.no) = _
  have hs : ds.length < sizeLine := Yj h3
  rw [if_pos (by rw [decide_eq_true hs, decide_eq_true ⟨h4, by omega⟩]; rfl)]
end Dl
namespace L2
open PySem PySem.Spec PyProof.Rows
section
variable {X : Cx} {tg : Expr}
end
end L2
namespace Dl
open PySem L2
section
variable [KK] {X : Cx} {a b c e : Expr} {tg : Expr} {pos : Pos}
end
end Dl
namespace Dl
open PySem L2
variable [KK]
section
variable {X : Cx} {st : Stmt} {sts : List Stmt} {a e : Expr} {pos : Pos}
end
end Dl
namespace Dl
open PySem L2
variable [KK]
section
variable {X : Cx} {a b : Expr} {pos : Pos}
end
end Dl
namespace Dl
open PySem L2
variable [KK]
section
variable {X : Cx} {a e : Expr}
noncomputable def zb0 : V → List V → Hp → VK → Prop := fun x vs H Q => ∃ G d ds y l xs j, x = .ref l ∧ vs = [y] ∧ yB G H ∧ G l = some (.lst xs) ∧ AtL G ds xs ∧ At G d y ∧ okE 20 d = true ∧ ds.all (okE 20) = true ∧ j < ds.length ∧ eqN 20 (ds.getD j .non) d = true ∧ (∀ m, m < j → eqN 20 (ds.getD m .non) d = false) ∧ Q (.int (j : Int)) H
theorem XH {k : Nat} {pins : List (Addr × Obj)} {s : Shared} {σ : St} {H G : Hp} {d : D} {ds : List D} {y : V} {u : Value} {xs : List V} {us : List Value} (hr : YN k X.A) (I : Inv X pins σ H s) (sm : yB G H) (kd : okE 20 d = true) (kds : ds.all (okE 20) = true) (ad : At G d y) (ru : xm y u) (al : AtL G ds xs) (r : yh xs us) : ∀ z ∈ us, SeqAt.EqAt X.A.in1 s z u (ZJ G d z) := fun z hz => by
  have hu : X.A.in1.units + 20 < cLine := by have := hr.un; show X.A.units + 1 + 20 < cLine; omega
  obtain ⟨j, hj, rfl⟩ := List.getElem_of_mem hz
  obtain ⟨x', ax, rx'⟩ := al.nth r hj
  have hj' : j < ds.length := by have := al.length; have := r.length; omega
  have k2 := y4 kds hj'
  rw [Zn ax rx' k2]
  exact Z0 I sm 20 k2 kd ax ad rx' ru hu
theorem Zd {k : Nat} (hr : YN k X.A) : MtM X "list.index" zb0 := by
  intro pins s σ H x vs v us Q I rx rv h
  obtain ⟨G, d, ds, y, l, xs, j, rfl, rfl, sm, hx, al, ad, kd, kds, hj, hit, hno, q⟩ := h
  cases rx
  obtain ⟨u, rfl, ru⟩ := rv.one
  obtain ⟨z, its, n, r, hl, e⟩ := I.lstM (sm _ _ hx)
  have mem := XH hr I sm kd kds ad ru al r
  have hlen : its.length = ds.length := by rw [← hl, al.length]
  have ans : ∀ m (hm : m < its.length), ZJ G d its[m] = eqN 20 (ds.getD m .non) d := fun m hm => by
    obtain ⟨x', ax, rx'⟩ := al.nth r hm
    exact Zn ax rx' (y4 kds (by omega))
  have hsm : ((j : Nat) : Int) < 2 ^ 63 - 1 := by
    have h1 : j < sizeLine := by have := al.length; omega
    have h2 : (sizeLine : Int) < 2 ^ 63 - 1 := by decide
    omega
  refine call_meets PySem.F.slot_list_index ⟨_, e, rfl⟩ PySem.F.entry_list_index (PySem.F.args_list_index_2 _ _) (SeqAt.list_indexAt l its.toArray n none #[] u (ZJ G d) j (by rw [List.size_toArray]; omega) hsm ?_ ?_) ⟨e, fun y hy => mem y (by simpa using hy), ?_⟩
  · show ZJ G d its[j] = true
    rw [ans j (by omega)]
    exact hit
  · intro m hm hlt
    show ZJ G d its[m] = false
    rw [ans m (by omega)]
    exact hno m hlt
  · exact ⟨.int (j : Int), H, I.tok _, ⟨_, rfl⟩, q⟩
noncomputable def zcL (c d : D) : Option D := match c with
  | .lst ds => if okE 20 d = true ∧ ds.all (okE 20) = true then (ds.findIdx? fun e => eqN 20 e d).map fun (j : Nat) => D.int (j : Int) else none
  | _ => none
noncomputable def zaI (m : D → D → Option D) (f : Ev → Option D) (g : Ev → Option (List D)) : Ev → Option D := fun ρ => (f ρ).bind fun c => (g ρ).bind fun ds => match ds with
  | [d] => m c d
  | _ => none
theorem Xm {p pos' : Pos} {f : Ev → Option D} {g : Ev → Option (List D)} (ha : ED X a f) (he : AD X [e] g)
    (hp : ∀ {ta : TE} {t : TA}, PE X a ta → PA X [e] t → PE X (.Call (.Attribute a "index" p) [e] [] pos') (tBM X.K "list" zb0 ta t)) : ED X (.Call (.Attribute a "index" p) [e] [] pos') (zaI zcL f g) := by
  obtain ⟨ta, pa, ra⟩ := ha
  obtain ⟨t, pe, re⟩ := he
  refine ⟨_, hp pa pe, fun σ ρ F H z Q s va h0 q => ?_⟩
  obtain ⟨c, e1, h1⟩ := Option.bind_eq_some_iff.mp h0
  obtain ⟨as, e2, h⟩ := Option.bind_eq_some_iff.mp h1
  clear h0 h1
  split at h
  · rename_i d
    unfold zcL at h
    split at h
    · rename_i ds
      split at h
      · rename_i hk
        obtain ⟨j, hj, rfl⟩ := Option.map_eq_some_iff.mp h
        obtain ⟨j1, j2, j3⟩ := List.findIdx?_eq_some_iff_getElem.mp hj
        refine ra σ ρ F H _ _ s va e1 fun F1 H1 v g1 a1 => ?_
        obtain ⟨l, xs, rfl, hx, al⟩ := a1.lst_inv
        refine ⟨.inl ⟨rfl, xs, SqL.of (g1.fh _ _ hx)⟩, ?_⟩
        refine re σ ρ F1 H1 _ _ g1.fh (va.mono g1.ff) e2 fun F2 H2 vs g2 a2 => ?_
        obtain ⟨y, r', rfl, ay, ar⟩ := a2.cons_inv
        cases ar.nil_inv
        have gd : ∀ m (hm : m < ds.length), ds.getD m .non = ds[m] := fun m hm => by rw [List.getD_eq_getElem?_getD, List.getElem?_eq_getElem hm]; rfl
        refine ⟨F2, d, ds, y, l, xs, j, rfl, rfl, g2.fh, g2.ff _ _ hx, al.mono g2.ff, ay, hk.1, hk.2, j1, ?_, ?_, q F2 H2 _ (g1.trans g2) .int⟩
        · rw [gd j j1]; exact j2
        · intro m hm
          rw [gd m (by omega)]
          have := j3 m hm
          simpa using this
      · cases h
    · cases h
  · cases h
end
end Dl
namespace Dl
open PySem L2
section
variable [KK]
section
variable {κ : Type} [DecidableEq κ] (f : κ → List Key) (hf : ∀ a b, f a = f b → a = b)
include hf
end
section
variable {X : Cx} {a b c : Expr} {pos apos : Pos}
end
section
variable {X : Cx} {a e ko : Expr} {pos pos' : Pos} {st : Stmt}
noncomputable def zaa (i : Nat) (f : Ev → Option (List D)) : SE → Ctl := fun ρ => match f (visG ρ) with
  | some ds => if zde ds = true then .nx (ρ.set i (.v (.lst ds))) else .no
  | none => .no
theorem zeA {i : Nat} {t : TE} {f : Ev → Option (List D)} (r : RF t f) : RS (zgP t (vP i)) (zaa i f) := fun Fb Hb F H ρ σ E rl k => by
  unfold zaa at k
  cases h : f (visG ρ) with
  | none => rw [h] at k; exact k.elim
  | some ds =>
    rw [h] at k
    dsimp only at k
    split at k
    · rename_i hn
      refine r σ _ _ H ds _ rl.gh rl.visG h fun F' H' q xs g h0 hF hH hx => ?_
      obtain ⟨gb, fl⟩ := rl.back g
      have rl2 := rl.grow gb
      have hF2 : fOf ρ σ F' q = none := by
        unfold fOf
        split
        · rfl
        · exact hF
      have g2 := gb.show h0 hF2 hH
      exact k _ _ _ ((rl.grow g2).set (.lst zp ((hx.flat fl hn).mono fun b u e => by rw [zr (zn e hF2)]; exact e)))
    · exact k.elim
theorem zdK {i : Nat} {f : Ev → Option (List D)} (he : FLS X i st f) : SD X st (zaa i f) := by
  obtain ⟨t, p, r⟩ := he
  exact ⟨_, p, zeA r⟩
end
end
end Dl
namespace Dl
open PySem L2
variable [KK]
section
variable {X : Cx} {a b e : Expr} {pos pos' : Pos}
end
end Dl
namespace Dl
open PySem L2
variable [KK]
section
variable {X : Cx}
noncomputable def rNeL : R2 := fun x y H Q => ∃ F ds es, yB F H ∧ At F (.lst ds) x ∧ At F (.lst es) y ∧ okE 20 (.lst ds) = true ∧ okE 20 (.lst es) = true ∧ Q (.bl (!eqN 20 (.lst ds) (.lst es))) H
theorem zd0 {k : Nat} (hr : YN k X.A) : OpR X (compareOp .NotEq) rNeL := by
  intro pins s σ H x y v u Q I rx ry h
  obtain ⟨F, ds, es, sm, a1, a2, k1, k2, q⟩ := h
  have hu : X.A.units + 30 < cLine := by have := hr.un; omega
  obtain ⟨p, xs, rfl, hx, al⟩ := a1.lst_inv
  obtain ⟨p2, ys, rfl, hy, bl⟩ := a2.lst_inv
  cases rx
  cases ry
  obtain ⟨its, r, ht, hz⟩ := I.list (SqL.of (sm _ _ hx))
  obtain ⟨its2, r2, ht2, hz2⟩ := I.list (SqL.of (sm _ _ hy))
  have hl1 : its.toArray.size = ds.length := by rw [List.size_toArray, ← r.length, al.length]
  have hl2 : its2.toArray.size = es.length := by rw [List.size_toArray, ← r2.length, bl.length]
  have e1 : eqN 20 (.lst ds) (.lst es) = ((List.range (min ds.length es.length)).all (fun j => eqN 19 (ds.getD j .non) (es.getD j .non)) && ds.length == es.length) := by
    show ((List.zipWith (eqN 19) ds es).all id && ds.length == es.length) = _
    rw [XD]
  by_cases hle : ds.length = es.length
  · refine SeqAt.RcNeAt.lists (e := fun j => eqN 19 (ds.getD j .non) (es.getD j .non)) ht.isList ht2.isList (by rw [hl1, hl2]; exact hle) (Nat.lt_of_le_of_lt (Nat.le_add_right _ 30) hu) (fun j g1 g2 => ?_) _ _ _ _ ⟨.bl _, H, I, rfl, ?_⟩
    · obtain ⟨x', ax, rx⟩ := al.nth r (j := j) (by simpa using g1)
      obtain ⟨y', ay, ry⟩ := bl.nth r2 (j := j) (by simpa using g2)
      exact Z0 I sm 19 (y4 k1 (by rw [← hl1]; exact g1)) (y4 k2 (by rw [← hl2]; exact g2)) ax ay (by simpa using rx) (by simpa using ry) (Nat.lt_of_le_of_lt (show X.A.units + 20 ≤ X.A.units + 30 from Nat.add_le_add_left (by decide) _) hu)
    · rw [hl1]
      rw [e1, ← hle, Nat.min_self] at q
      simpa using q
  · refine SeqAt.RcNeAt.lists_lengths ht.isList ht2.isList (by rw [hl1, hl2]; simpa using hle) (Nat.lt_of_le_of_lt (Nat.le_add_right _ 30) hu) _ _ _ _ ⟨.bl _, H, I, rfl, ?_⟩
    have : (ds.length == es.length) = false := by simpa using hle
    rw [e1, this, Bool.and_false] at q
    exact q
end
noncomputable def zer : D → D → Option D
  | .lst ds, .lst es => if (okE 20 (.lst ds) && okE 20 (.lst es)) = true then some (.bl (!eqN 20 (.lst ds) (.lst es))) else none
  | _, _ => none
theorem zcb : OpD rNeL zer := by
  intro F H x y d e z Q s ax ay ez q
  unfold zer at ez
  split at ez
  · split at ez <;> cases ez
    rename_i hk
    rw [Bool.and_eq_true] at hk
    exact ⟨F, _, _, s, ax, ay, hk.1, hk.2, q F H _ (.refl s) .bl⟩
  · cases ez
end Dl
namespace L2
open PySem PySem.Spec PyProof.Rows
section
variable {prog : Program} {w : World} {A : Around} {E : Value → Shared → Prop} {s : Shared} {d it : Addr} {o : Obj} {es : Array DictEntry} {ep i : Nat}
end
section
variable {X : Cx} {tg : Expr}
end
end L2
namespace Dl
open PySem L2
section
variable [KK]
section
variable {X : Cx} {tg a b e k v : Expr} {pos pos' : Pos} {sts : List Stmt}
end
end
end Dl
namespace OwnRep
open PySem Builtin
end OwnRep
namespace L2
open PySem
section
variable {X : Cx}
end
end L2
namespace Dl
open PySem L2
section
variable [KK]
section
variable {X : Cx} {a b : Expr} {pos : Pos}
end
end
end Dl
namespace L2
open PySem PySem.Spec PyProof.Rows
noncomputable def zaS (X : Cx) (x0 : Str) (M : List Str) (scope : Scope) (cl : List (Str × Addr)) (s₀ : Shared) (H₀ : Hp) (ex : List Addr) (pn : List (Addr × Obj)) : Cx :=
  { X with N := [x0] ++ M, s₀ := s₀, H₀ := H₀, env := compEnvC scope ((x0, s₀.heap.objs.size + 1) :: cl) s₀.heap.objs.size X.env, outer := X.stack, stack := X.stack, ex := ex, fn := fun y => y == x0, pn := pn, xe := fun _ _ => False }
set_option genInjectivity false in
set_option genSizeOf false in
set_option genCtorIdx false in
structure vD (X : Cx) (x0 : Str) (M : List Str) (scope : Scope) (cl : List (Str × Addr)) : Prop where
  clos : closureFor scope X.env = pure cl
  laid : ∀ n, cellsFrom n scope.names cl = (x0, n) :: cl
  push : ∀ h, pushCells h scope.names = h.push { cls := .type "cell", data := .cell none }
  kind : scope.kind = .function
  names : ∀ y ∈ scope.names, y.2 = .local → scope.names.lookup y.1 = some .local
  sub : ∀ y c, cl.lookup y = some c → X.env.cells.lookup y = some c
  has : ∀ y, ((relabel scope X.env).names.lookup y = some .cell ∨ (relabel scope X.env).names.lookup y = some .free) → y = x0 ∨ ∃ c, cl.lookup y = some c
  mlen : M.length = X.N.length
  ne : ∀ (i : Nat) y, M[i]? = some y → Vis (relabel scope X.env) y → y ≠ x0
  msk : ∀ (i : Nat) y, M[i]? = some y → Vis (relabel scope X.env) y → X.N[i]? = some y
  vis : ∀ (i : Nat) y, M[i]? = some y → Vis (relabel scope X.env) y → ((relabel scope X.env).names.lookup y = some .cell ∨ (relabel scope X.env).names.lookup y = some .free)
  out : ∀ (i : Nat) y, M[i]? = some y → Vis (relabel scope X.env) y → Vis X.env.scope y ∧ X.env.kindOf y ≠ some .local
theorem vO (x0 : Str) (a : Addr) (cl : List (Str × Addr)) (y : Str) : ((x0, a) :: cl).lookup y = if y = x0 then some a else cl.lookup y := by
  rw [List.lookup_cons]
  by_cases h : y = x0
  · rw [if_pos h, show (y == x0) = true from beq_iff_eq.mpr h]
  · rw [if_neg h, show (y == x0) = false from beq_eq_false_iff_ne.mpr h]
theorem XO {M : Model} {A : Around} {E : Value → Shared → Prop} {s : Shared} {scope : Scope} {globals : Addr} {cl : List (Str × Addr)} {qual : Str} {env : Env} {x0 : Str} {Q : Env → Shared → Prop} (laid : ∀ n, cellsFrom n scope.names cl = (x0, n) :: cl) (push : ∀ h, pushCells h scope.names = h.push { cls := .type "cell", data := .cell none })
    (hQ : Q (newEnv scope s.heap.objs.size globals ((x0, s.heap.objs.size + 1) :: cl) qual none .none (some env) builtinsNs) { s with heap := (s.heap.push { cls := .type "dict", data := .dict #[] }).push { cls := .type "cell", data := .cell none } }) :
    wpAny M A (newFunctionEnv scope globals cl [] qual none .none (some env)) Q E s := by
  simp only [newFunctionEnv, Option.isSome_some, if_true]
  refine wpAny_bind (wpAny_alloc ?_)
  refine wpAny_bind (wpAny_layCells _ (fun name kind cells => by cases hkc : kind == NameKind.cell <;> simp [hkc]) _ _ _ _ ?_)
  rw [laid, push, show ({ s with heap := s.heap.push { cls := .type "dict", data := .dict #[] } } : Shared).heap.objs.size = s.heap.objs.size + 1 from Heap.size_push ..]
  simp only [List.forIn_nil]
  exact wpAny_bind (wpAny_pure (wpAny_pure hQ))
theorem zdF {use : Option (Value → Sem Unit)} {Qf : Value → Shared → Prop} {X : Cx} {elt tg iter : Expr} {ifs : List Expr} {x0 : Str} {M : List Str} {scope : Scope} {cl : List (Str × Addr)} {pos : Pos} {wi : TI} {g : TG} {tt : TT} {te : TE}
    (hc : X.calm = true) (S : vD X x0 M scope cl) (hi : PI X tg iter wi)
    (hgS : ∀ (σ : St) (v : V) (H : Hp) (Q : St → Hp → Prop), g v (List.replicate 1 none ++ σ) H Q → g v (List.replicate 1 none ++ σ) H (fun σ2 H2 => vM (List.replicate 1 none ++ σ) σ2 ∧ Q σ2 H2))
    (hg : ∀ s₀ H₀ ex pn, PG (zaS X x0 M scope cl s₀ H₀ ex pn) tg g) (ht : ∀ s₀ H₀ ex pn, PIf (zaS X x0 M scope cl s₀ H₀ ex pn) ifs tt) (he : ∀ s₀ H₀ ex pn, PE (zaS X x0 M scope cl s₀ H₀ ex pn) elt te)
    (hs : ∀ x, foldedSetIterable iter X.env x = pure x := by intro _; rfl) :
    ∀ (pos' : Pos) (pins : List (Addr × Obj)) (s : Shared) (σ : St) (H : Hp) (Q : VK), Inv X pins σ H s → tLC wi 1 g tt te σ H Q →
      (∀ (D C : Addr) (H' : Hp) (s' : Shared), Inv X pins σ H' s' → (∃ m, s'.heap.Ns C m) → WO X pins H' C → Q (.ref D) H' → compPost (model X.prog X.w) X.A X.xe use Qf (.ref D) C (.ok .next) s') →
      wpAny (model X.prog X.w) X.A (comprehension (.ListComp elt [⟨tg, iter, ifs, 0⟩] scope pos) scope X.env pos' (newList []) false (eval iter X.env) use) Qf X.xe s := by
  intro pos' pins s σ H Q I h fin
  refine wpAny_comprehension_free (use := use) rfl hs S.clos S.kind S.names (thn (hi pins s σ H _ I h) fun v s1 h1 => thn h1 fun itv s2 h2 => ?_)
  obtain ⟨it, fp, tn, J, H2, e, I2, T, st2, f2, q⟩ := h2
  subst e
  have hD : H2 s2.heap.objs.size = none := I2.hok.fresh (Nat.le_refl _)
  obtain ⟨W, ⟨m0, w0⟩, turn⟩ := q _ hD
  refine wpAny_newObj_type (XO S.laid S.push ?_)
  have I3 : Inv X pins σ (upd H2 s2.heap.objs.size (.lst [])) { s2 with heap := s2.heap.push { cls := .type "list", data := .seq ([] : List Value).toArray } } := by
    refine I2.laid (t' := s2.toks) (fun b u e => Heap.get?_push_of_some _ e) (Nat.le_refl _) ?_
    exact ⟨Nat.zero_le _, [], 0, .nil, Heap.get?_push_size _ rfl⟩
  generalize hs3 : ({ s2 with heap := s2.heap.push { cls := .type "list", data := .seq ([] : List Value).toArray } } : Shared) = s3 at I3 ⊢
  generalize hh1 : (s3.heap.push { cls := .type "dict", data := .dict #[] }).push { cls := .type "cell", data := .cell none } = h₁
  have hns₁ : h₁.Ns s3.heap.objs.size fun _ => none := by
    rw [← hh1]
    exact (Heap.Ns.new s3.heap (.type "dict")).keeps fun b o e => Heap.get?_push_of_some _ e
  have hcell₁ : h₁.IsCell (s3.heap.objs.size + 1) none := by
    rw [← hh1]
    refine ⟨{ cls := .type "cell", data := .cell none }, ?_, rfl⟩
    rw [← show (s3.heap.push { cls := .type "dict", data := .dict #[] }).objs.size = s3.heap.objs.size + 1 from Heap.size_push ..]
    exact Heap.get?_push_size _ rfl
  have hobj : ∀ b ∈ fp, b < s2.heap.objs.size := fun b hb => by
    obtain ⟨o, ho, _⟩ := T.obj _ _ st2 b hb
    exact Heap.lt_size ho
  have hz3 : s3.heap.objs.size = s2.heap.objs.size + 1 := by rw [← hs3]; exact Heap.size_push ..
  have k23 : ∀ b o, s2.heap.get? b = some o → s3.heap.get? b = some o := fun b o e => by rw [← hs3]; exact Heap.get?_push_of_some _ e
  have k34 : ∀ b o, s3.heap.get? b = some o → h₁.get? b = some o := fun b o e => by rw [← hh1]; exact Heap.get?_push_of_some _ (Heap.get?_push_of_some _ e)
  generalize hH3 : upd H2 s2.heap.objs.size (.lst []) = H3 at I3 w0
  have hfp3 : ∀ b ∈ fp, H3 b = none := fun b hb => by
    rw [← hH3, zr (Nat.ne_of_lt (hobj b hb))]
    exact (f2 b hb).1
  have nfs : ∀ b ∈ fp, b ∉ frs X.stack := fun b hb z => by
    obtain ⟨_, n1, n2, _⟩ := f2 b hb
    rcases List.mem_cons.mp (I3.stkSub b z) with e | e
    · exact n1 e
    · exact n2 e
  let Y : Cx := zaS X x0 M scope cl s3 H3 fp (X.pn ++ pins)
  have old : ∀ y c, cl.lookup y = some c → c ≠ s3.heap.objs.size + 1 := fun y c e z => by
    obtain ⟨v, o, ho, _⟩ := I3.cell y c (S.sub y c e)
    have := Heap.lt_size ho
    rw [z] at this
    exact absurd this (Nat.not_lt.mpr (Nat.le_succ _))
  have OkY : Y.Ok := by
    refine ⟨I.ok.mod, S.kind, I.ok.glob, I.ok.blt, Nat.le_refl _, ?inj, ?has, ?cab, I.ok.hd, I.ok.frames, .inl rfl, ?exf,
      fun b o e => I3.bs b o e, Nat.le_trans I.ok.bsz I3.sz, ?noex, nfs, I3.stack, I3.stkFree⟩
    case inj =>
      intro x y c h1 h2
      have h1 : ((x0, s3.heap.objs.size + 1) :: cl).lookup x = some c := h1
      have h2 : ((x0, s3.heap.objs.size + 1) :: cl).lookup y = some c := h2
      rw [vO] at h1 h2
      by_cases ex : x = x0
      · by_cases ey : y = x0
        · rw [ex, ey]
        · rw [if_pos ex] at h1
          rw [if_neg ey] at h2
          exact absurd (Option.some.inj h1) (old y c h2).symm
      · rw [if_neg ex] at h1
        by_cases ey : y = x0
        · rw [if_pos ey] at h2
          exact absurd (Option.some.inj h2) (old x c h1).symm
        · rw [if_neg ey] at h2
          exact I.ok.inj x y c (S.sub x c h1) (S.sub y c h2)
    case has =>
      intro x hx
      show ∃ c, ((x0, s3.heap.objs.size + 1) :: cl).lookup x = some c
      rw [vO]
      rcases S.has x hx with e | ⟨c, e⟩
      · rw [if_pos e]; exact ⟨_, rfl⟩
      · split
        · exact ⟨_, rfl⟩
        · exact ⟨c, e⟩
    case cab =>
      intro x c hf h1
      have h1 : ((x0, s3.heap.objs.size + 1) :: cl).lookup x = some c := h1
      rw [vO, if_pos (beq_iff_eq.mp hf)] at h1
      cases h1
      exact Nat.le_succ _
    case exf =>
     refine fun b hb => ⟨?_, fun x c e z => ?_⟩
     · show b ≠ s3.heap.objs.size
       exact Nat.ne_of_lt (Nat.lt_of_lt_of_le (hobj b hb) (by rw [hz3]; exact Nat.le_succ _))
     · have e : ((x0, s3.heap.objs.size + 1) :: cl).lookup x = some c := e
       rw [vO] at e
       split at e
       · cases e
         have h1 := hobj b hb
         rw [hz3] at z
         rw [← z] at h1
         exact absurd h1 (Nat.not_lt.mpr (Nat.le_trans (Nat.le_succ _) (Nat.le_succ _)))
       · exact (f2 b hb).2.2.2.2.1 x c (S.sub x c e) z
    case noex =>
      intro b o e hb
      rcases (f2 b hb).2.2.2.1 with z | z
      · exact I.ok.noex b o e z
      · have h1 := Heap.lt_size e
        have h2 := I.ok.bsz
        exact absurd (Nat.lt_of_lt_of_le h1 (Nat.le_trans h2 z)) (Nat.lt_irrefl _)
  have I4 : Inv Y [] (List.replicate 1 none ++ σ) H3 { s3 with heap := h₁ } := by
    refine ⟨OkY, rfl, I3.bare, Un.kept k34, ⟨_, hns₁, fun i y v e1 e2 e3 => ?_⟩, fun x c e => ?_, I3.hok.fresh (Nat.le_refl _), fun x c e => ?freeC, fun p hp => ?_, I3.hok.kept k34, ?_⟩
    · have hi : ¬ i < 1 := fun hlt => by
        rw [List.getElem?_append_left (by simpa using hlt), List.getElem?_replicate] at e2
        split at e2 <;> cases e2
      have e0' : M[i - 1]? = some y := by
        have e1 : ([x0] ++ M)[i]? = some y := e1
        rw [List.getElem?_append_right (show 1 ≤ i by omega)] at e1
        exact e1
      have e2' : σ[i - 1]? = some (some v) := by rw [List.getElem?_append_right (by simpa using Nat.le_of_not_lt hi)] at e2; simpa using e2
      have e1' := S.msk _ y e0' e3
      obtain ⟨ov, ok⟩ := S.out _ y e0' e3
      obtain ⟨m, hn, hl⟩ := I3.loc
      obtain ⟨u, ru, lk⟩ := hl _ y v e1' e2' ov
      refine ⟨u, ru, ?_⟩
      rcases lk with ⟨hk, _⟩ | ⟨_, c, hc', hcell⟩
      · exact absurd hk ok
      · have kn := S.vis _ y e0' e3
        obtain ⟨c', hc2⟩ := (S.has y kn).resolve_left (S.ne _ y e0' e3)
        have := S.sub y c' hc2
        rw [hc'] at this
        cases this
        refine .inr ⟨kn, c, (show ((x0, s3.heap.objs.size + 1) :: cl).lookup y = some c by rw [vO, if_neg (S.ne _ y e0' e3)]; exact hc2), ?_⟩
        obtain ⟨o, ho, hd⟩ := hcell
        exact ⟨o, k34 _ _ ho, hd⟩
    · have e : ((x0, s3.heap.objs.size + 1) :: cl).lookup x = some c := e
      rw [vO] at e
      split at e
      · cases e
        exact ⟨_, hcell₁⟩
      · obtain ⟨v, o, ho, hd⟩ := I3.cell x c (S.sub x c e)
        exact ⟨v, o, k34 _ _ ho, hd⟩
    · have e : ((x0, s3.heap.objs.size + 1) :: cl).lookup x = some c := e
      rw [vO] at e
      split at e
      · cases e
        exact I3.hok.fresh (Nat.le_succ _)
      · exact I3.freeC x c (S.sub x c e)
    · have hp' : p ∈ X.pn ++ pins := by simpa [Y, zaS] using hp
      obtain ⟨a1, a2, a3, a4, a5⟩ := I3.pin p hp'
      refine ⟨k34 _ _ a1, a2, Nat.ne_of_lt (Heap.lt_size a1), fun z => ?_, a5⟩
      rcases List.mem_cons.mp (I3.stkSub p.1 z) with e | e
      · exact a3 e
      · exact a4 e
    · show (List.replicate 1 none ++ σ).length = ([x0] ++ M).length
      rw [List.length_append, List.length_append, List.length_replicate, I.len, S.mlen]
      rfl
  have fpY : ∀ {H' : Hp}, (∀ b ∈ fp, H' b = none) → ∀ b ∈ fp, WO Y [] H' b := fun {H'} hn b hb => by
    refine ⟨hn b hb, (OkY.exf b hb).1, nfs b hb, .inl hb, (OkY.exf b hb).2, fun p hp => ?_⟩
    have hp' : p ∈ X.pn ++ pins := by simpa [Y, zaS] using hp
    exact (f2 b hb).2.2.2.2.2 p hp'
  have st4 : tn 0 h₁ := T.keep _ _ _ st2 fun b hb o e => k34 b o (k23 b o e)
  -- behind the loop
  have back : ∀ (H' : Hp) (s' : Shared), Inv Y [] (List.replicate 1 none ++ σ) H' s' → Q (.ref s2.heap.objs.size) H' → compPost (model X.prog X.w) X.A X.xe use Qf (.ref s2.heap.objs.size) s3.heap.objs.size (.ok .next) s' := fun H' s' J' q' => by
    obtain ⟨m, hn, _⟩ := J'.loc
    refine fin _ _ H' s' (I3.call' (ch := fp) J'.os J'.base J'.hok J'.bare fun b hb => ?_) ⟨m, hn⟩ (I3.fpOk (Nat.le_refl _) J'.free) q'
    obtain ⟨_, n1, _, n3, n4, n5⟩ := f2 b hb
    exact ⟨n3, n1, n4, n5⟩
  have loop : codeAny (model X.prog X.w) X.A (.compLoop (.ListComp elt [⟨tg, iter, ifs, 0⟩] scope pos) 0 (.ref it) (.ref s2.heap.objs.size) (compEnvC scope ((x0, s3.heap.objs.size + 1) :: cl) s3.heap.objs.size X.env))
      (compPost (model X.prog X.w) X.A X.xe use Qf (.ref s2.heap.objs.size) s3.heap.objs.size) { s3 with heap := h₁ } := by
    refine xH (fun n s' => ∃ i ys H', Inv Y [] (List.replicate 1 none ++ σ) H' s' ∧ tn i s'.heap ∧ (∀ b ∈ fp, H' b = none) ∧ W i n ys H') ?_ m0 ⟨0, [], H3, I4, st4, hfp3, w0⟩
    rintro n s5 ⟨i, ys, H5, I5, st5, fr5, w5⟩
    rcases turn i n ys H5 w5 with ⟨stop, qn⟩ | ⟨go, hlen, step⟩
    · refine thn (T.done Y rfl rfl rfl hc i [] s5 _ H5 _ I5 (fpY fr5) st5 stop) fun r s6 hh9 => ?_
      obtain ⟨hr, I6⟩ := hh9
      subst hr
      exact back H5 s6 I6 qn
    · refine thn (T.item Y rfl rfl rfl hc i [] s5 _ H5 _ I5 (fpY fr5) st5 go) fun r s6 hh9 => ?_
      obtain ⟨u, hr, h6⟩ := hh9
      subst hr
      refine thn h6 fun _ s7 hh9 => ?_
      obtain ⟨x, H7, I7, r7, y7, st7, fr7⟩ := hh9
      have I7' := I7.pinned (fpY fr7) (T.obj _ _ st7)
      have g7 := hgS σ x H7 _ (step x H7 y7)
      refine thn (hg _ _ _ _ _ s7 _ H7 x u _ I7' r7 g7) fun _ s8 hh9 => ?_
      obtain ⟨σ8, H8, I8, sub8, q8⟩ := hh9
      have again : ∀ {σ9 : St} {H9 : Hp} {s9 : Shared} {zs : List V}, Inv Y ([] ++ YM fp s7.heap) σ9 H9 s9 → vM (List.replicate 1 none ++ σ) σ9 → (∃ m', m' < n ∧ W (i + 1) m' zs H9) →
          ∃ m, m < n ∧ ∃ i ys H', Inv Y [] (List.replicate 1 none ++ σ) H' s9 ∧ tn i s9.heap ∧ (∀ b ∈ fp, H' b = none) ∧ W i m ys H' := fun {σ9 H9 s9 zs} I9 sub9 w9 => by
        obtain ⟨m', hm, w9⟩ := w9
        refine ⟨m', hm, i + 1, zs, H9, (I9.sub sub9).unpinned, T.keep _ _ _ st7 fun b hb o e => (I9.pin (b, o) (List.mem_append_right _ (List.mem_append_right _ (xf hb e)))).1, fun b hb => ?_, w9⟩
        obtain ⟨o, e, d⟩ := T.obj _ _ st7 b hb
        exact (I9.pin (b, o) (List.mem_append_right _ (List.mem_append_right _ (xf hb e)))).2.1
      refine thn (ht _ _ _ _ _ s8 σ8 H8 _ I8 q8) fun b s9 hh9 => ?_
      obtain ⟨H9, I9, q9⟩ := hh9
      cases b with
      | false =>
        rw [if_neg Bool.false_ne_true] at q9
        rw [if_neg Bool.false_ne_true]
        exact again I9 sub8 q9
      | true =>
        rw [if_pos rfl] at q9
        rw [if_pos rfl]
        refine thn (he _ _ _ _ _ s9 σ8 H9 _ I9 q9) fun y s10 hh9 => ?_
        obtain ⟨yv, H10, I10, r10, hD10, w10⟩ := hh9
        obtain ⟨z10, its, k, rv, e10⟩ : ys.length ≤ sizeLine ∧ ∃ (its : List Value) (n : Nat), yh ys its ∧ s10.heap.get? s2.heap.objs.size = some { cls := .type "list", data := .seq its.toArray n } := I10.hok _ _ hD10
        have hl10 : s10.heap.PlainList s2.heap.objs.size its.toArray := ⟨k, e10⟩
        refine wpAny_list_append_plain (hsz := by rw [List.size_toArray, ← rv.length]; exact z10) hl10 fun h11 hl11 sb11 => ?_
        obtain ⟨k', e11⟩ := hl11
        have I11 : Inv Y ([] ++ YM fp s7.heap) σ8 (upd H10 s2.heap.objs.size (.lst (ys ++ [yv]))) { s10 with heap := h11 } := by
          refine I10.write (x := s2.heap.objs.size) (e := s2.heap.objs.size) (t' := s10.toks) (by rw [hD10]; exact True.intro) (.inl rfl) (fun b u hb e => (sb11.2 b hb).trans e) ⟨_, e11⟩ ?_
          refine ⟨by rw [List.length_append]; show ys.length + 1 ≤ sizeLine; exact hlen, its ++ [y], k', rv.append (.cons r10 .nil), ?_⟩
          rw [e11]
          simp
        exact again I11 sub8 w10
  exact codeAny_compStart_list loop (T.self _ 0 _ _ _ st4 loop)
theorem zgF {X : Cx} {elt tg iter : Expr} {ifs : List Expr} {x0 : Str} {M : List Str} {scope : Scope} {cl : List (Str × Addr)} {pos : Pos} {wi : TI} {g : TG} {tt : TT} {te : TE}
    (hc : X.calm = true) (S : vD X x0 M scope cl) (hi : PI X tg iter wi)
    (hgS : ∀ (σ : St) (v : V) (H : Hp) (Q : St → Hp → Prop), g v (List.replicate 1 none ++ σ) H Q → g v (List.replicate 1 none ++ σ) H (fun σ2 H2 => vM (List.replicate 1 none ++ σ) σ2 ∧ Q σ2 H2))
    (hg : ∀ s₀ H₀ ex pn, PG (zaS X x0 M scope cl s₀ H₀ ex pn) tg g) (ht : ∀ s₀ H₀ ex pn, PIf (zaS X x0 M scope cl s₀ H₀ ex pn) ifs tt) (he : ∀ s₀ H₀ ex pn, PE (zaS X x0 M scope cl s₀ H₀ ex pn) elt te)
    (hs : ∀ x, foldedSetIterable iter X.env x = pure x := by intro _; rfl) :
    PE X (.ListComp elt [⟨tg, iter, ifs, 0⟩] scope pos) (tLC wi 1 g tt te) := by
  intro pins s σ H Q I h
  rw [eval_ListComp]
  refine zdF hc S hi hgS hg ht he hs _ pins s σ H Q I h fun D C H' s' I' ⟨m, hn⟩ f q => ⟨m, hn, fun h' sb => ⟨.ref D, _, I'.letGo f sb, rfl, q⟩⟩
noncomputable def Xb (names rn dn : List (Str × NameKind)) (x0 : Str) (N M cn : List Str) : Bool :=
  names.all (fun y => decide (y.2 = .local → names.lookup y.1 = some .local)) &&
  rn.all (fun y => decide ((y.2 = .cell ∨ y.2 = .free) → y.1 = x0 ∨ y.1 ∈ cn)) &&
  (M.length == N.length) && (M.zip N).all (fun p => decide ((rn.lookup p.1 = some .local ∨ rn.lookup p.1 = some .cell ∨ rn.lookup p.1 = some .free) → p.1 = p.2)) &&
  M.all (fun y => decide ((rn.lookup y = some .local ∨ rn.lookup y = some .cell ∨ rn.lookup y = some .free) →
    y ≠ x0 ∧ (rn.lookup y = some .cell ∨ rn.lookup y = some .free) ∧ (dn.lookup y = some .local ∨ dn.lookup y = some .cell ∨ dn.lookup y = some .free) ∧ dn.lookup y ≠ some .local))
theorem zgi {X : Cx} {x0 : Str} {N M cn : List Str} {scope : Scope} {cl : List (Str × Addr)} {rn dn : List (Str × NameKind)} (hr : (relabel scope X.env).names = rn) (hd : X.env.scope.names = dn) (hN : X.N = N)
    (clos : closureFor scope X.env = pure cl) (laid : ∀ n, cellsFrom n scope.names cl = (x0, n) :: cl) (push : ∀ h, pushCells h scope.names = h.push { cls := .type "cell", data := .cell none }) (kind : scope.kind = .function) (hc : cl.map Prod.fst = cn) (good : Xb scope.names rn dn x0 N M cn = true) (sub : ∀ p ∈ cl, X.env.cells.lookup p.1 = some p.2) : vD X x0 M scope cl := by
  unfold Xb at good
  simp only [Bool.and_eq_true, List.all_eq_true, decide_eq_true_eq] at good
  obtain ⟨⟨⟨⟨g2, g3⟩, g5⟩, g6⟩, g4⟩ := good
  have g5 : M.length = N.length := by simpa using g5
  refine ⟨clos, laid, push, kind, g2, fun y c h => sub (y, c) (PySem.mem_of_lookup h), fun y h => ?_, by rw [hN]; exact g5, fun i y e v => ?_, fun i y e v => ?_, fun i y e v => ?_, fun i y e v => ?_⟩
  · rw [hr] at h
    have hy : y = x0 ∨ y ∈ cn := by
      rcases h with h | h
      · exact g3 _ (PySem.mem_of_lookup h) (.inl rfl)
      · exact g3 _ (PySem.mem_of_lookup h) (.inr rfl)
    exact hy.imp id fun hy => wo (by rw [hc]; exact hy)
  · unfold Vis at v
    rw [hr] at v
    exact (g4 y (List.mem_of_getElem? e) v).1
  · unfold Vis at v
    rw [hr] at v
    have hi := (List.getElem?_eq_some_iff.mp e).1
    have hj : i < N.length := by rw [← g5]; exact hi
    have hz : (M.zip N)[i]? = some (y, N[i]) := by
      rw [List.getElem?_zip_eq_some]
      exact ⟨e, List.getElem?_eq_getElem hj⟩
    have := g6 _ (List.mem_of_getElem? hz) v
    rw [hN, List.getElem?_eq_getElem hj]
    exact congrArg some this.symm
  · unfold Vis at v
    rw [hr] at v ⊢
    exact (g4 y (List.mem_of_getElem? e) v).2.1
  · unfold Vis at v
    rw [hr] at v
    obtain ⟨_, _, k1, k2⟩ := g4 y (List.mem_of_getElem? e) v
    refine ⟨?_, ?_⟩
    · unfold Vis; rw [hd]; exact k1
    · show X.env.scope.names.lookup y ≠ _; rw [hd]; exact k2
end L2
namespace Dl
open PySem L2
variable [KK]
theorem zeR {X : Cx} {elt tg iter c : Expr} {x0 : Str} {M : List Str} {scope : Scope} {cl : List (Str × Addr)} {pos : Pos} {fi : Ev → Option (List D)} {b : D → Option (List (Option D))} {ft : Ev → Option Bool} {fe : Ev → Option D} {g : TG}
    (hc : X.calm = true) (S : vD X x0 M scope cl) (hi : ID X tg iter fi)
    (hgS : ∀ (σ : St) (v : V) (H : Hp) (Q : St → Hp → Prop), g v (List.replicate 1 none ++ σ) H Q → g v (List.replicate 1 none ++ σ) H (fun σ2 H2 => vM (List.replicate 1 none ++ σ) σ2 ∧ Q σ2 H2))
    (hrb : RB 1 g b)
    (hg : ∀ s₀ H₀ ex pn, PG (zaS X x0 M scope cl s₀ H₀ ex pn) tg g) (ht : ∀ s₀ H₀ ex pn, TD (zaS X x0 M scope cl s₀ H₀ ex pn) c ft) (he : ∀ s₀ H₀ ex pn, ED (zaS X x0 M scope cl s₀ H₀ ex pn) elt fe)
    (hs : ∀ x, foldedSetIterable iter X.env x = pure x := by intro _; rfl) : FL X (.ListComp elt [⟨tg, iter, [c], 0⟩] scope pos) (fLC fi b ft fe) := by
  obtain ⟨wi, pi, ri⟩ := hi
  exact ⟨_, zgF hc S pi hgS hg (fun _ _ _ _ => Vd (ht _ _ _ _).can) (fun _ _ _ _ => (he _ _ _ _).can) hs, zba ri hrb zb6 X8⟩
end Dl
namespace PySem
open Sem (wp)
namespace OwnRev
end OwnRev
section
variable {prog : Program} {w : World} {A : Around} {E : Value → Shared → Prop} {s : Shared}
end
end PySem
namespace L2
open PySem PySem.Spec PyProof.Rows
end L2
namespace Dl
open PySem L2 PySem.Spec PyProof.Rows
variable [KK] {X : Cx} {e : Expr}
end Dl
namespace OwnSet
open PySem
noncomputable def ksOf (m : Nat) : List Nat := (List.range 8).filter fun i => m.testBit i
noncomputable def tabOf (led : Bool) (ks : List Nat) : SetTable := { mask := if ks.length ≤ 4 then 7 else 31, place := ks.toArray, dummies := #[], finger := 0, led := led, moves := if ks.length ≤ 4 then 0 else 1, plain := true }
noncomputable def vN (led : Bool) (ks : List Nat) (k : Nat) : SetTable := { tabOf led ks with place := (ks.filter (· < k) ++ k :: ks.filter (k < ·)).toArray }
theorem zdi : ∀ (m : _root_.Fin 256) (k : _root_.Fin 8), m.val.testBit k.val = false → ksOf (m.val ||| 1 <<< k.val) = (ksOf m.val).filter (· < k.val) ++ k.val :: (ksOf m.val).filter (k.val < ·) := by decide +kernel
theorem zay : ∀ (m : _root_.Fin 256) (k : _root_.Fin 8), m.val.testBit k.val = false → ∀ led : Bool, (tabOf led (ksOf m.val)).freeSlot (k.val : Int) = some (k.val, false) := by decide +kernel
theorem zcf : ∀ (m : _root_.Fin 256) (k : _root_.Fin 8), m.val.testBit k.val = false → ∀ led : Bool, (tabOf led (ksOf m.val)).put k.val = (vN led (ksOf m.val) k.val, ((ksOf m.val).filter (· < k.val)).length) := by decide +kernel
theorem ZZ : ∀ (m : _root_.Fin 256) (k : _root_.Fin 8), m.val.testBit k.val = false → ∀ led : Bool, (vN led (ksOf m.val) k.val).fits ((ksOf m.val).length + 1) = true ∧ (vN led (ksOf m.val) k.val).tooFull = decide ((ksOf m.val).length = 4) := by decide +kernel
theorem zb1 : ∀ (m : _root_.Fin 256) (k : _root_.Fin 8), m.val.testBit k.val = false → ∀ led : Bool, (ksOf m.val).length ≠ 4 → vN led (ksOf m.val) k.val = tabOf led (ksOf (m.val ||| 1 <<< k.val)) := by decide +kernel
theorem WV : ∀ (m : _root_.Fin 256), (ksOf m.val).length = 5 → ∀ (k : _root_.Fin 8) (led : Bool), ((ksOf m.val).contains k.val) = true → (vN led ((ksOf m.val).filter (· ≠ k.val)) k.val).relaid ((ksOf m.val).map fun i : Nat => (i : Int)).toArray (SetTable.grown 5) = some (tabOf led (ksOf m.val), #[0, 1, 2, 3, 4]) := by decide +kernel
theorem Zl : ∀ (m : _root_.Fin 256) (i : _root_.Fin 9), i.val ≤ (ksOf m.val).length → SetTable.below (ksOf m.val).toArray (if i.val = 0 then 0 else (ksOf m.val).getD (i.val - 1) 0 + 1) = i.val := by decide +kernel
end OwnSet
namespace OwnSet
open PySem
theorem Z6 : ∀ (m : _root_.Fin 256) (k : _root_.Fin 8), m.val.testBit k.val = false → ksOf m.val = (ksOf m.val).filter (· < k.val) ++ (ksOf m.val).filter (k.val < ·) ∧ (ksOf m.val).all (fun j => decide (j ≠ k.val)) = true ∧ (ksOf m.val).length ≤ 7 := by decide +kernel
noncomputable def esL (ks : List Nat) (tk : Nat → Tok) : List (Int × Value) := ks.map fun k : Nat => ((k : Int), Value.int (k : Int) (tk k))
noncomputable def wx (ks : List Nat) (tk : Nat → Tok) : Array (Int × Value) := (esL ks tk).toArray
theorem esOf_size (ks : List Nat) (tk : Nat → Tok) : (wx ks tk).size = ks.length := by unfold wx esL; rw [List.size_toArray, List.length_map]
noncomputable def zG (h : Heap) (a : Addr) (led : Bool) (m : Nat) : Prop := ∃ (ep : Nat) (tk : Nat → Tok), h.get? a = some { cls := .type "set", dict := none, data := .set (wx (ksOf m) tk) ep (tabOf led (ksOf m)), slots := #[] }
theorem XC {α : Type} (xs : List α) (p : Nat) (x : α) : SetTable.insertAt xs.toArray p x = (xs.take p ++ x :: xs.drop p).toArray := by
  unfold SetTable.insertAt
  apply Array.ext'
  simp
  exact List.take_of_length_le (by rw [List.length_drop]; exact Nat.le_refl _)
theorem zfI {m k : Nat} (hm : m < 256) (hk : k < 8) (hb : m.testBit k = false) (tk : Nat → Tok) (t0 : Tok) :
    SetTable.insertAt (wx (ksOf m) tk) ((ksOf m).filter (· < k)).length ((k : Int), Value.int (k : Int) t0) = wx (ksOf (m ||| 1 <<< k)) (fun j => if j = k then t0 else tk j) := by
  obtain ⟨s1, s2, _⟩ := Z6 ⟨m, hm⟩ ⟨k, hk⟩ hb
  have s3 := zdi ⟨m, hm⟩ ⟨k, hk⟩ hb
  simp only at s1 s2 s3
  have e : ∀ ks : List Nat, (∀ j ∈ ks, j ≠ k) → esL ks (fun j => if j = k then t0 else tk j) = esL ks tk := fun ks h => by
    unfold esL
    exact List.map_congr_left fun j hj => by show ((j : Int), Value.int (j : Int) (if j = k then t0 else tk j)) = _; rw [if_neg (h j hj)]
  have n1 : ∀ j ∈ (ksOf m).filter (· < k), j ≠ k := fun j hj => of_decide_eq_true (List.all_eq_true.mp s2 j (List.mem_filter.mp hj).1)
  have n2 : ∀ j ∈ (ksOf m).filter (k < ·), j ≠ k := fun j hj => of_decide_eq_true (List.all_eq_true.mp s2 j (List.mem_filter.mp hj).1)
  generalize (ksOf m).filter (· < k) = A at *
  generalize (ksOf m).filter (k < ·) = B at *
  unfold wx
  rw [XC, s3, s1]
  congr 1
  have l1 : A.length = (esL A tk).length := by unfold esL; rw [List.length_map]
  rw [show esL (A ++ B) tk = esL A tk ++ esL B tk from List.map_append, l1, List.take_left, List.drop_left]
  rw [show esL (A ++ k :: B) (fun j => if j = k then t0 else tk j) = esL A (fun j => if j = k then t0 else tk j) ++ ((k : Int), Value.int (k : Int) (if k = k then t0 else tk k)) :: esL B (fun j => if j = k then t0 else tk j) from List.map_append, e _ n1, e _ n2, if_pos rfl]
theorem XE : ∀ (m : _root_.Fin 256) (k : _root_.Fin 8), m.val.testBit k.val = false → (ksOf (m.val ||| 1 <<< k.val)).length = (ksOf m.val).length + 1 ∧ (ksOf (m.val ||| 1 <<< k.val)).filter (· ≠ k.val) = ksOf m.val ∧ (ksOf (m.val ||| 1 <<< k.val)).contains k.val = true ∧ (m.val ||| 1 <<< k.val) < 256 := by decide +kernel
theorem vy : ∀ k : _root_.Fin 8, hashInt (k.val : Int) = (k.val : Int) := by decide +kernel
theorem fits_small : ∀ (m : _root_.Fin 256) (led : Bool), (tabOf led (ksOf m.val)).fits (ksOf m.val).length = true := by decide +kernel
theorem Wy {m k : Nat} (hm : m < 256) (hk : k < 8) (hb : m.testBit k = false) (led : Bool) (tk : Nat → Tok) (t0 : Tok) :
    layNew (tabOf led (ksOf m)) (wx (ksOf m) tk) (k : Int) (.int (k : Int) t0) = (wx (ksOf (m ||| 1 <<< k)) (fun j => if j = k then t0 else tk j), vN led (ksOf m) k, false, false) := by
  have f1 := zay ⟨m, hm⟩ ⟨k, hk⟩ hb led
  have f2 := zcf ⟨m, hm⟩ ⟨k, hk⟩ hb led
  have f3 := (ZZ ⟨m, hm⟩ ⟨k, hk⟩ hb led).1
  have f4 := (XE ⟨m, hm⟩ ⟨k, hk⟩ hb).1
  simp only at f1 f2 f3 f4
  unfold layNew
  rw [f1]
  dsimp only
  rw [f2]
  dsimp only
  rw [zfI hm hk hb, esOf_size, f4]
  unfold SetTable.orStandIn
  rw [if_pos f3, f3]
  rfl
theorem zdb {α : Type} (a b c d e : α) : (#[0, 1, 2, 3, 4] : Array Nat).filterMap (fun i => (#[a, b, c, d, e] : Array α)[i]?) = #[a, b, c, d, e] := by
  simp [Array.filterMap]
theorem zcC {m k : Nat} (hm : m < 256) (hk : k < 8) (hb : m.testBit k = false) (h4 : (ksOf m).length = 4) (led : Bool) (tk : Nat → Tok) :
    relayAll (vN led (ksOf m) k) (wx (ksOf (m ||| 1 <<< k)) tk) (SetTable.grown (wx (ksOf (m ||| 1 <<< k)) tk).size) = (wx (ksOf (m ||| 1 <<< k)) tk, tabOf led (ksOf (m ||| 1 <<< k)), false) := by
  obtain ⟨l1, l2, l3, l4⟩ := XE ⟨m, hm⟩ ⟨k, hk⟩ hb
  simp only at l1 l2 l3 l4
  have l5 : (ksOf (m ||| 1 <<< k)).length = 5 := by rw [l1, h4]
  have r := WV ⟨m ||| 1 <<< k, l4⟩ l5 ⟨k, hk⟩ led l3
  have fz := fits_small ⟨m ||| 1 <<< k, l4⟩ led
  simp only at r fz
  rw [l2] at r
  have eh : (wx (ksOf (m ||| 1 <<< k)) tk).map (·.1) = ((ksOf (m ||| 1 <<< k)).map fun i : Nat => (i : Int)).toArray := by
    unfold wx esL
    rw [List.map_toArray, List.map_map]
    rfl
  unfold relayAll
  rw [esOf_size, l5, eh, r]
  dsimp only
  have e5 : (#[0, 1, 2, 3, 4] : Array Nat).filterMap (fun i => (wx (ksOf (m ||| 1 <<< k)) tk)[i]?) = wx (ksOf (m ||| 1 <<< k)) tk := by
    generalize ksOf (m ||| 1 <<< k) = ks at l5
    match ks, l5 with
    | [a, b, c, d, e], _ => exact zdb _ _ _ _ _
  rw [e5, esOf_size, fz]
  exact if_pos (by decide +kernel)
section
variable {prog : Program} {w : World} {A : Around} {E : Value → Shared → Prop} {s : Shared}
theorem wS (prog : Program) (w : World) {m : Nat} (tk : Nat → Tok) : ElemsOf (intKind prog w) (wx (ksOf m) tk).toList := fun e he => by
  unfold wx esL at he
  obtain ⟨k, hk, rfl⟩ := List.mem_map.mp he
  have h8 : k < 8 := List.mem_range.mp (List.mem_filter.mp hk).1
  exact ⟨⟨(k : Int), intKind_is _ _ _ _, (vy ⟨k, h8⟩).symm⟩, rfl⟩
theorem zau {m k : Nat} (tk : Nat → Tok) (hb : m.testBit k = false) : (wx (ksOf m) tk).toList.findIdx? (fun e => (intKind prog w).is (k : Int) e.2) = none := by
  refine List.findIdx?_eq_none_iff.mpr fun e he => ?_
  unfold wx esL at he
  obtain ⟨j, hj, rfl⟩ := List.mem_map.mp he
  show (Value.int (j : Int) (tk j)).isInt (k : Int) = false
  have hjk : j ≠ k := fun e => by
    have := (List.mem_filter.mp hj).2
    rw [e, hb] at this
    cases this
  simp only [Value.isInt]
  first | exact beq_eq_false_iff_ne.mpr (fun e => hjk (Int.ofNat.inj e)) | exact decide_eq_false (fun e => hjk (Int.ofNat.inj e)) | (simp; omega)
theorem zfG {a : Addr} {m k : Nat} {led : Bool} {t0 : Tok} {Q : Bool → Shared → Prop} (hm : m < 256) (hk : k < 8) (hb : m.testBit k = false) (hS : zG s.heap a led m)
    (h : ∀ h', Heap.SameBut a s.heap h' → zG h' a led (m ||| 1 <<< k) → Q true { s with heap := h' }) :
    wpAny (model prog w) A (setAddHashed a (.int (k : Int) t0) (k : Int)) Q E s := by
  obtain ⟨ep, tk, ho⟩ := hS
  have fz := fits_small ⟨m, hm⟩ led
  simp only at fz
  have hf : (tabOf led (ksOf m)).fits (wx (ksOf m) tk).size = true := by rw [esOf_size]; exact fz
  have h7 := (Z6 ⟨m, hm⟩ ⟨k, hk⟩ hb).2.2
  simp only at h7
  have hsz : (wx (ksOf m) tk).size < scanBound := by rw [esOf_size]; exact Nat.lt_of_le_of_lt h7 (by decide)
  have hfl := ZZ ⟨m, hm⟩ ⟨k, hk⟩ hb led
  have hlen := XE ⟨m, hm⟩ ⟨k, hk⟩ hb
  simp only at hfl hlen
  have hsz' : (wx (ksOf (m ||| 1 <<< k)) (fun j => if j = k then t0 else tk j)).size ≤ sizeLine := by
    rw [esOf_size, hlen.1, sizeLine_eq]
    omega
  have eh : (k : Int) = (intKind prog w).hash (k : Int) := (vy ⟨k, hk⟩).symm
  unfold setAddHashed setAddHashedIn
  refine wpAny_holding (wpAny_bind (wpAny_setState_of ho rfl hf ?_))
  dsimp only
  rw [byScan_of (knd := intKind prog w) (x := .int (k : Int) t0) rfl hsz (wS prog w tk)]
  simp only [↓reduceIte]
  unfold setAddByScan
  refine wpAny_bind ?_
  refine wpAny_bind (wpAny_rule ?_)
  have scan := fun (Q' : ScanMet → Shared → Prop) (q : Q' .absent s) => wpAny_setScan_of (knd := intKind prog w) (A := A) (E := E) (adding := true) (Q := Q') (x := .int (k : Int) t0) (k := (k : Int)) (intKind_is _ _ _ _) ho rfl hf (wS prog w tk) (by rw [zau tk hb]; exact q)
  rw [← eh] at scan
  refine wpAny_bind (scan _ ?_)
  dsimp only
  rw [Wy hm hk hb]
  dsimp only
  refine wpAny_bind (wpAny_pure ?_)
  rw [show (vN led (ksOf m) k).plain = true from rfl]
  simp only [↓reduceIte]
  refine wpAny_bind ?_
  rw [hashByValue_scannable 8 (show (Value.int (k : Int) t0).scannable = true from rfl)]
  refine wpAny_pure ?_
  rw [show plainKind (Value.int (k : Int) t0) = true from rfl]
  simp only [↓reduceIte]
  refine wpAny_bind (wpAny_storeSet_of ho rfl ?_ hsz')
  have ho1 := Heap.get?_update_self (Obj.putSet (wx (ksOf (m ||| 1 <<< k)) (fun j => if j = k then t0 else tk j)) (vN led (ksOf m) k)) ho rfl
  have sb1 := Heap.SameBut.update s.heap a (Obj.putSet (wx (ksOf (m ||| 1 <<< k)) (fun j => if j = k then t0 else tk j)) (vN led (ksOf m) k))
  rw [hfl.2]
  by_cases h4 : (ksOf m).length = 4
  · rw [decide_eq_true h4]
    simp only [Bool.not_false, Bool.and_self, ↓reduceIte]
    rw [zcC hm hk hb h4]
    dsimp only
    refine wpAny_bind (wpAny_pure ?_)
    refine wpAny_bind (wpAny_storeSet_of ho1 rfl ?_ hsz')
    have ho2 := Heap.get?_update_self (Obj.putSet (wx (ksOf (m ||| 1 <<< k)) (fun j => if j = k then t0 else tk j)) (tabOf led (ksOf (m ||| 1 <<< k)))) ho1 rfl
    refine wpAny_pure ?_
    dsimp only
    exact wpAny_pure (h _ (sb1.trans (Heap.SameBut.update _ a _)) ⟨_, _, ho2⟩)
  · rw [decide_eq_false h4]
    simp only [Bool.not_false, Bool.and_false, Bool.false_eq_true, ↓reduceIte]
    refine wpAny_pure ?_
    dsimp only
    have md := zb1 ⟨m, hm⟩ ⟨k, hk⟩ hb led h4
    simp only at md
    rw [md] at ho1 sb1 ⊢
    exact wpAny_pure (h _ sb1 ⟨_, _, ho1⟩)
end
end OwnSet
namespace OwnSet
open PySem
theorem zcH : ∀ (m : _root_.Fin 256) (k : _root_.Fin 8), m.val.testBit k.val = true → m.val ||| 1 <<< k.val = m.val ∧ k.val ∈ ksOf m.val := by decide +kernel
theorem zhF : ∀ (m : _root_.Fin 256) (k : _root_.Fin 8), m.val ||| 1 <<< k.val < 256 := by decide +kernel
theorem len_small : ∀ m : _root_.Fin 256, (ksOf m.val).length ≤ 8 := by decide +kernel
section
variable {prog : Program} {w : World} {A : Around} {E : Value → Shared → Prop} {s : Shared}
theorem ze4 {a : Addr} {m k : Nat} {led : Bool} {t0 : Tok} {Q : Bool → Shared → Prop} (hm : m < 256) (hk : k < 8) (hb : m.testBit k = true) (hS : zG s.heap a led m) (h : Q false s) :
    wpAny (model prog w) A (setAddHashed a (.int (k : Int) t0) (k : Int)) Q E s := by
  obtain ⟨ep, tk, ho⟩ := hS
  have fz := fits_small ⟨m, hm⟩ led
  have h8 := len_small ⟨m, hm⟩
  have hin := (zcH ⟨m, hm⟩ ⟨k, hk⟩ hb).2
  simp only at fz h8 hin
  have hf : (tabOf led (ksOf m)).fits (wx (ksOf m) tk).size = true := by rw [esOf_size]; exact fz
  have hsz : (wx (ksOf m) tk).size < scanBound := by rw [esOf_size]; exact Nat.lt_of_le_of_lt h8 (by decide)
  have eh : (k : Int) = (intKind prog w).hash (k : Int) := (vy ⟨k, hk⟩).symm
  obtain ⟨j, hj⟩ : ∃ j, (wx (ksOf m) tk).toList.findIdx? (fun e => (intKind prog w).is (k : Int) e.2) = some j := by
    cases hr : (wx (ksOf m) tk).toList.findIdx? (fun e => (intKind prog w).is (k : Int) e.2) with
    | some j => exact ⟨j, rfl⟩
    | none =>
      have := List.findIdx?_eq_none_iff.mp hr ((k : Int), Value.int (k : Int) (tk k)) (by unfold wx esL; exact List.mem_map.mpr ⟨k, hin, rfl⟩)
      rw [intKind_is] at this
      cases this
  unfold setAddHashed setAddHashedIn
  refine wpAny_holding (wpAny_bind (wpAny_setState_of ho rfl hf ?_))
  dsimp only
  rw [byScan_of (knd := intKind prog w) (x := .int (k : Int) t0) rfl hsz (wS prog w tk)]
  simp only [↓reduceIte]
  unfold setAddByScan
  refine wpAny_bind ?_
  refine wpAny_bind (wpAny_rule ?_)
  have scan := fun (Q' : ScanMet → Shared → Prop) (q : Q' (.found (0 + j)) s) => wpAny_setScan_of (knd := intKind prog w) (A := A) (E := E) (adding := true) (Q := Q') (x := .int (k : Int) t0) (k := (k : Int)) (intKind_is _ _ _ _) ho rfl hf (wS prog w tk) (by rw [hj]; exact q)
  rw [← eh] at scan
  refine wpAny_bind (scan _ ?_)
  dsimp only
  exact wpAny_pure (wpAny_pure h)
theorem zfA {a : Addr} {m k : Nat} {led : Bool} {t0 : Tok} {Q : Bool → Shared → Prop} (hm : m < 256) (hk : k < 8) (hS : zG s.heap a led m)
    (h : ∀ b h', Heap.SameBut a s.heap h' → zG h' a led (m ||| 1 <<< k) → Q b { s with heap := h' }) :
    wpAny (model prog w) A (setAddHashed a (.int (k : Int) t0) (k : Int)) Q E s := by
  cases hb : m.testBit k with
  | false => exact zfG hm hk hb hS fun h' sb S => h true h' sb S
  | true =>
    have e := (zcH ⟨m, hm⟩ ⟨k, hk⟩ hb).1
    simp only at e
    exact ze4 hm hk hb hS (h false s.heap (Heap.SameBut.refl a s.heap) (e.symm ▸ hS))
end
noncomputable def bitsTo (val : Nat → Nat) : Nat → Nat
  | 0 => 0
  | i + 1 => bitsTo val i ||| 1 <<< val i
theorem bitsTo_lt {val : Nat → Nat} (h : ∀ i, val i < 8) : ∀ i, bitsTo val i < 256
  | 0 => (by decide : 0 < 256)
  | i + 1 => zhF ⟨bitsTo val i, bitsTo_lt h i⟩ ⟨val i, h i⟩
theorem zG.at {h h' : Heap} {a : Addr} {led : Bool} {m : Nat} (x : zG h a led m) (k : ∀ o, h.get? a = some o → h'.get? a = some o) : zG h' a led m := by
  obtain ⟨ep, tk, e⟩ := x
  exact ⟨ep, tk, k _ e⟩
section
variable {prog : Program} {w : World} {A : Around} {R : Result → Shared → Prop} {I : Addr} {fp wr : List Addr} {G : Array GenState → Array GenState → Prop} {n : Nat} {P : Nat → Value → Prop} {St : Nat → Shared → Prop}
theorem za9 (W : WalksS prog w A.in1 I fp wr G n P St) (S : Addr) (led : Bool) (hSf : S ∉ fp) (val : Nat → Nat) (h8 : ∀ i, val i < 8) (hval : ∀ i v, P i v → ∃ t, v = .int (val i : Int) t) :
    ∀ (k i : Nat) (s : Shared), n - i = k → i ≤ n → St i s → zG s.heap S led (bitsTo val i) →
      (∀ s', Moved (S :: wr) G s s' → zG s'.heap S led (bitsTo val n) → R (.ok (.ret .none)) s') →
      codeAny (model prog w) A (.builtin "set.update.loop" ⟨[.ref S, .ref I], []⟩) R s := by
  have hSw : S ∉ wr := fun h => hSf (W.sub _ h)
  have hsub : ∀ b ∈ wr, b ∈ S :: wr := fun b hb => List.mem_cons_of_mem _ hb
  intro k
  induction k with
  | zero =>
    intro i s hk hi hst hS hR
    obtain rfl : i = n := by omega
    refine codeAny_builtin PyProof.Rows.F.entry_set_update_loop ?_
    rw [Around.under_plainId PyProof.Rows.F.plain_set_update_loop _]
    show wpAny _ A.in1 (pyNext (.ref I) >>= _) _ _ s
    refine wpAny_bind (W.done s _ _ hst fun s' hm => ?_)
    show wpAny _ A.in1 (ret Value.none) _ _ s'
    exact wpAny_pure (hR s' (hm.mono hsub) (hS.at fun o e => hm.heap S o hSw e))
  | succ k ih =>
    intro i s hk hi hst hS hR
    have hlt : i < n := by omega
    refine codeAny_builtin PyProof.Rows.F.entry_set_update_loop ?_
    rw [Around.under_plainId PyProof.Rows.F.plain_set_update_loop _]
    show wpAny _ A.in1 (pyNext (.ref I) >>= _) _ _ s
    refine wpAny_bind (W.item i s _ _ hlt hst fun v s' hP hst' hm => ?_)
    obtain ⟨t, rfl⟩ := hval i v hP
    have hS' : zG s'.heap S led (bitsTo val i) := hS.at fun o e => hm.heap S o hSw e
    show wpAny _ A.in1 (holding [Value.int (val i : Int) t] (setAdd S (.int (val i : Int) t)) >>= _) _ _ s'
    refine wpAny_bind (wpAny_holding ?_)
    unfold setAdd
    refine wpAny_holding ?_
    have ph := fun (Q' : Int → Shared → Prop) (q : Q' ((val i : Int)) { s' with toks := s'.toks + 1 }) => (intKind prog w).pyHash (A := A.in1) (E := fun e s' => R (.error e) s') (s := s') (k := (val i : Int)) (v := .int (val i : Int) t) (Q := Q') (intKind_is _ _ _ _) (by show Q' (hashInt (val i : Int)) _; rw [vy ⟨val i, h8 i⟩]; exact q)
    refine wpAny_bind (ph _ ?_)
    refine zfA (s := { s' with toks := s'.toks + 1 }) (bitsTo_lt h8 i) (h8 i) hS' fun b h' hsb hS2 => ?_
    refine wpAny_pure ⟨plainId_quiet PyProof.Rows.F.plain_set_update_loop _, ih (i + 1) _ (by omega) hlt (W.frame _ s' _ _ hst' (Nat.le_succ _) fun b hb o e => ?_) hS2 fun s'' hm'' hS'' => ?_⟩
    · rw [hsb.2 b (fun h : b = S => hSf (by rw [← h]; exact hb))]; exact e
    · refine hR s'' (Moved.trans W.gtrans ((hm.mono hsub).then_heap (Nat.le_succ _) fun b o hb e => ?_) hm'') hS''
      rw [hsb.2 b (fun h : b = S => hb (by rw [h]; exact List.mem_cons_self))]; exact e
end
section
variable {prog : Program} {w : World} {A : Around} {E : Value → Shared → Prop} {s : Shared}
noncomputable abbrev ledOf (w : World) : Bool := !w.params.followText "set-order"
theorem ZD (a : Value) {Q1 : Value → Shared → Prop}
    (h : Q1 (.ref s.heap.objs.size) { s with heap := s.heap.push { cls := .type "set", dict := none, data := .set #[] 0 (.fresh 0 0 (ledOf w)) } }) :
    codeAny (model prog w) A (.call (.builtin "set.__new__") ⟨[.type "set", a], []⟩) (wants Q1 E) s := by
  refine codeAny_of_tree ?_
  show wpAny _ A.in1 (do checkBuiltinCall "set.__new__" ⟨[.type "set", a], []⟩; again (.builtin "set.__new__" ⟨[.type "set", a], []⟩)) _ _ s
  refine wpAny_bind (wpAny_of_eq (F.newCall_set_1 a) (wpAny_pure ⟨plainId_quiet F.plain_set_new _, codeAny_builtin F.entry_set_new ?_⟩))
  rw [Around.under_plainId F.plain_set_new _]
  unfold Builtin.«set.__new__» Builtin.Frozenset.newClass
  have hsub := sub_set_self
  obtain ⟨hp, g, d, tk, os⟩ := s
  dsimp only
  wp_walk
  refine wpAny_askSetting (wpAny_pure ?_)
  dsimp only
  simp only [newObj]
  refine wpAny_bind (wpAny_alloc (wpAny_pure ?_))
  exact wpAny_pure h
end
end OwnSet
namespace OwnSet
open PySem
theorem Zm (h : Heap) (led : Bool) {a : Addr} (e : h.get? a = some { cls := .type "set", dict := none, data := .set #[] 0 (.fresh 0 0 led) }) : zG h a led 0 := ⟨0, fun _ => 0, e⟩
section
variable {prog : Program} {w : World} {A : Around} {E : Value → Shared → Prop} {s : Shared}
theorem Wt {l a : Addr} {items : Array Value} {val : Nat → Nat} {led : Bool} {R : Result → Shared → Prop} (hh : A.handled = none) (hS : s.heap.get? a = some { cls := .type "set", dict := none, data := .set #[] 0 (.fresh 0 0 led) })
    (hl : s.heap.IsList l items) (hla : l ≠ a) (h8 : ∀ i, val i < 8) (hval : ∀ (i : Nat) (v : Value), items[i]? = some v → ∃ t, v = .int (val i : Int) t)
    (h : ∀ (h' : Heap) (tk : Nat), zG h' a led (bitsTo val items.size) → (∀ b o, b ≠ a → b < s.heap.objs.size → s.heap.get? b = some o → h'.get? b = some o) → R (.ok (.ret .none)) { s with heap := h', toks := tk }) :
    wpAny (model prog w) A.in1 (Builtin.«set.__init__» ⟨[.ref a, .ref l], []⟩) (fun fin s' => match fin with | .done f => R (.ok f) s' | .again c' => c'.quiet = true ∧ codeAny (model prog w) A c' R s') (fun e s' => R (.error e) s') s := by
  have hT : s.TypeIs (.ref a) "set" := ⟨_, hS, rfl⟩
  obtain ⟨ol, hol, hcl, nl, hdl⟩ := id hl
  obtain ⟨ocls, odict, odata, oslots⟩ := ol
  simp only at hcl hdl
  subst hcl hdl
  have hsls := F.sub_list_set
  have hslf := F.sub_list_frozenset
  have hne : (Value.type "list" == Value.type "dict") = false := by decide
  have hlS : l < s.heap.objs.size := Heap.lt_size hol
  have haS : a < s.heap.objs.size := Heap.lt_size hS
  unfold Builtin.«set.__init__» noKeywords Builtin.Frozenset.updateFrom
  generalize hPI : pyIter = PI
  wp_walk
  subst hPI
  refine wpAny_pyIter_list hl ?_
  refine wpAny_bind (wpAny_runValue ?_)
  have hh3 : A.in1.in1.handled = none := by simp [hh]
  refine za9 ((Walks.list hh3 _ l (Nat.ne_of_lt hlS) items).toS) a led (fun hm => ?_) val h8 hval items.size 0 _ rfl (Nat.zero_le _) ⟨⟨_, Heap.get?_push_size _ rfl, rfl, rfl⟩, hl.push _⟩ (Zm _ led (Heap.get?_push_of_some _ hS)) fun s' hm hS' => ?_
  · rcases List.mem_cons.mp hm with e | e
    · exact Nat.ne_of_lt haS e
    · exact hla (List.mem_singleton.mp e).symm
  · obtain ⟨h', g', d', tk', os'⟩ := s'
    have eg : g' = s.gens := hm.gens
    have ed : d' = s.drawn := hm.drawn
    have eo : os' = s.os := hm.os
    subst eg ed eo
    show wpAny _ _ _ _ _ _
    refine wpAny_pure ?_
    show wpAny _ _ (ret Value.none) _ _ _
    refine wpAny_pure (h h' tk' hS' fun b o hb hlt e => hm.heap b o (fun hmem => ?_) (Heap.get?_push_of_some _ e))
    rcases List.mem_cons.mp hmem with z | z
    · exact hb z
    · exact Nat.ne_of_lt hlt (List.mem_singleton.mp z)
set_option maxHeartbeats 4000000 in
theorem own_call_set {l : Addr} {items : Array Value} {val : Nat → Nat} {Q : Value → Shared → Prop} (hh : A.handled = none) (hl : s.heap.IsList l items) (h8 : ∀ i, val i < 8) (hval : ∀ (i : Nat) (v : Value), items[i]? = some v → ∃ t, v = .int (val i : Int) t)
    (h : ∀ (h' : Heap) (tk : Nat), zG h' s.heap.objs.size (ledOf w) (bitsTo val items.size) → (∀ b o, s.heap.get? b = some o → h'.get? b = some o) → Q (.ref s.heap.objs.size) { s with heap := h', toks := tk }) :
    wpAny (model prog w) A (call (.type "set") [.ref l]) Q E s := by
  obtain ⟨c, tl, hmro⟩ := F.called_set.mro
  have hmade := F.called_set.made
  have hsub := F.called_set.sub
  refine wpAny_call (codeAny_of_tree ?_)
  show wpAny _ _ (callAny (.type "set") _) _ _ _
  refine wpAny_pure ⟨Code.quiet_builtin _ (by decide +kernel), codeAny_builtin F.entry_type_call ?_⟩
  rw [Around.under_plain (weight_type_call_type "set" [.ref l] []) rfl]
  have h1 := F.called_set.notType
  have h2 := F.called_set.canCreate
  have hct := F.typeCall_set_1 (.ref l)
  repeat (any_goals (first | assumption | wp_step))
  refine codeAny_mono (ZD (.ref l) (E := E) (Q1 := fun obj s1 => obj = .ref s.heap.objs.size ∧ s1 = { s with heap := s.heap.push { cls := .type "set", dict := none, data := .set #[] 0 (.fresh 0 0 (ledOf w)) } }) ⟨rfl, rfl⟩) fun r s1 hr => ?_
  cases r with
  | error e => exact hr
  | ok fl =>
    cases fl with
    | ret obj =>
      obtain ⟨rfl, rfl⟩ := hr
      have hS : (s.heap.push { cls := .type "set", dict := none, data := .set #[] 0 (.fresh 0 0 (ledOf w)) }).get? s.heap.objs.size = some { cls := .type "set", dict := none, data := .set #[] 0 (.fresh 0 0 (ledOf w)) } := Heap.get?_push_size _ rfl
      have hT : Shared.TypeIs { s with heap := s.heap.push { cls := .type "set", dict := none, data := .set #[] 0 (.fresh 0 0 (ledOf w)) } } (.ref s.heap.objs.size) "set" := ⟨_, hS, rfl⟩
      have hli := F.called_set.init.lookup
      have hbi := F.called_set.init.bind (.ref s.heap.objs.size)
      repeat (any_goals (first | assumption | wp_step))
      refine codeAny_mono (codeAny_call_builtin (R := wants (fun r s2 => r = .none ∧ ∃ h' tk, s2 = { s with heap := h', toks := tk } ∧ zG h' s.heap.objs.size (ledOf w) (bitsTo val items.size) ∧ ∀ b o, s.heap.get? b = some o → h'.get? b = some o) E) F.called_set.init.plain F.entry_set_init (check_set_init_1 hT ?_)) fun r2 s2 hr2 => ?_
      · have hll : l < s.heap.objs.size := by obtain ⟨o, ho, _⟩ := hl; exact Heap.lt_size ho
        refine Wt (by simp [hh]) hS (hl.push _) (Nat.ne_of_lt hll) h8 hval fun h' tk S k => ⟨rfl, h', tk, rfl, S, fun b o e => k b o (Nat.ne_of_lt (Heap.lt_size e)) ?_ (Heap.get?_push_of_some _ e)⟩
        rw [Heap.size_push]
        exact Nat.lt_succ_of_lt (Heap.lt_size e)
      · cases r2 with
        | error e => exact hr2
        | ok fl2 =>
          cases fl2 with
          | ret r =>
            obtain ⟨rfl, h', tk, rfl, S, k⟩ := hr2
            repeat (any_goals (first | assumption | wp_step))
            exact h _ _ S k
          | _ => exact hr2.elim
    | _ => exact hr.elim
end
end OwnSet
namespace OwnSet
open PySem
theorem VQ : Manifest.owners.lookup (String.ofList ['r', 'o', 't', 'a', 'r', 'e', 't', 'i', '_', 't', 'e', 's'].reverse) = some Manifest.sig_set_iterator := by kernel_rfl
theorem YA : Slot "set_iterator" "__next__" "set_iterator.__next__" :=
  .of (owner := "set_iterator") (n := "__next__") (by rw [typeLookup_type, builtinLookup_eq_fast]; kernel_rfl) (by decide +kernel) (by decide +kernel) (by decide +kernel)
    (by first | exact .inl (by decide +kernel) | exact .inr (by decide +kernel)) (by rw [isSubtype_type]; kernel_rfl)
theorem zce : Slot "set_iterator" "__iter__" "set_iterator.__iter__" :=
  .of (owner := "set_iterator") (n := "__iter__") (by rw [typeLookup_type, builtinLookup_eq_fast]; kernel_rfl) (by decide +kernel) (by decide +kernel) (by decide +kernel)
    (by first | exact .inl (by decide +kernel) | exact .inr (by decide +kernel)) (by rw [isSubtype_type]; kernel_rfl)
theorem Yd : entryFor table "set_iterator.__next__" = some Builtin.«set_iterator.__next__» := entryFor_of_tree (by kernel_rfl)
theorem Xs : entryFor table "set_iterator.__iter__" = some Builtin.«dict_keyiterator.__iter__» :=
  entryFor_alias (id' := "dict_keyiterator.__iter__") (by kernel_rfl) (by first | rfl | decide +kernel | (unfold String.splitOn; simp +decide [String.splitOnAux])) (by decide +kernel) (by kernel_rfl)
theorem ZR : entryFor table "set.__iter__" = some Builtin.«frozenset.__iter__» :=
  entryFor_alias (id' := "frozenset.__iter__") (by kernel_rfl) (by first | rfl | decide +kernel | (unfold String.splitOn; simp +decide [String.splitOnAux])) (by decide +kernel) (by kernel_rfl)
theorem YI (a : Value) : argsOk "set_iterator.__next__" ⟨[a], []⟩ := by
  unfold argsOk; rw [signature?_of (id := "set_iterator.__next__") (n := ['_', '_', 't', 'x', 'e', 'n', '_', '_']) (o := ['r', 'o', 't', 'a', 'r', 'e', 't', 'i', '_', 't', 'e', 's']) (by kernel_rfl) VQ]; kernel_rfl
theorem Wo (a : Value) : argsOk "set_iterator.__iter__" ⟨[a], []⟩ := by
  unfold argsOk; rw [signature?_of (id := "set_iterator.__iter__") (n := ['_', '_', 'r', 'e', 't', 'i', '_', '_']) (o := ['r', 'o', 't', 'a', 'r', 'e', 't', 'i', '_', 't', 'e', 's']) (by kernel_rfl) VQ]; kernel_rfl
noncomputable def yH (h : Heap) (a : Addr) (led : Bool) (m ep : Nat) (tk : Nat → Tok) : Prop := h.get? a = some { cls := .type "set", dict := none, data := .set (wx (ksOf m) tk) ep (tabOf led (ksOf m)), slots := #[] }
noncomputable abbrev Yz (h : Heap) (I a : Addr) (slot i n ep : Nat) : Prop := h.get? I = some { cls := .type "set_iterator", dict := none, data := .fields #[rawInt (slot : Int), rawInt (i : Int), .ref a, rawInt (n : Int), rawInt (ep : Int)], slots := #[] }
theorem Z7 (c : Bool) : ¬ ((!true && c) = true) := by cases c <;> decide
theorem zcI (b c : Bool) : ¬ ((!b && (!true && c)) = true) := by cases b <;> cases c <;> decide
section
variable {prog : Program} {w : World} {A : Around} {E : Value → Shared → Prop} {s : Shared}
theorem zW {a : Addr} {m ep : Nat} {led : Bool} {tk : Nat → Tok} {Q : (Array (Int × Value) × Nat × SetTable) → Shared → Prop} (hm : m < 256) (hS : yH s.heap a led m ep tk) (h : Q (wx (ksOf m) tk, ep, tabOf led (ksOf m)) s) : wpAny (model prog w) A (setState a) Q E s := by
  have fz := fits_small ⟨m, hm⟩ led
  simp only at fz
  exact wpAny_setState_of hS rfl (by rw [esOf_size]; exact fz) h
theorem X2 {a : Addr} {m ep : Nat} {led : Bool} {tk : Nat → Tok} {Q : Value → Shared → Prop} (hm : m < 256) (hS : yH s.heap a led m ep tk)
    (h : Q (.ref s.heap.objs.size) { s with heap := s.heap.push { cls := .type "set_iterator", data := .fields #[rawInt ((0 : Nat) : Int), rawInt ((0 : Nat) : Int), .ref a, rawInt ((ksOf m).length : Int), rawInt (ep : Int)] } }) :
    wpAny (model prog w) A (pyIter (.ref a)) Q E s := by
  have hT : s.TypeIs (.ref a) "set" := ⟨_, hS, rfl⟩
  refine wpAny_pyIter_slot hT F.slot_set_iter (wpAny_call_entry F.slot_set_iter hT ZR ?_ (F.args_set_iter_1 _))
  unfold Builtin.«frozenset.__iter__»
  refine wpAny_bind (wpAny_of_eq (a := a) rfl ?_)
  unfold Builtin.Frozenset.sizeOf setEntries
  refine wpAny_bind (wpAny_bind (wpAny_bind (zW hm hS (wpAny_pure (wpAny_pure ?_)))))
  unfold setDrawn
  refine wpAny_bind (wpAny_bind (zW hm hS ?_))
  dsimp only
  unfold setsByText
  refine wpAny_bind (wpAny_bind (wpAny_askSetting (wpAny_pure ?_)))
  refine wpAny_pure ?_
  dsimp only
  split
  · rename_i hd
    exact absurd hd (zcI _ _)
  · refine wpAny_bind (wpAny_pure ?_)
    unfold setEpoch
    refine wpAny_bind (wpAny_bind (zW hm hS (wpAny_pure ?_)))
    dsimp only
    rw [esOf_size]
    refine wpAny_bind (wpAny_newObj_type (wpAny_pure ⟨_, rfl, "set_iterator", _, ⟨_, Heap.get?_push_size _ rfl, rfl⟩, YA.lookup, ?_⟩))
    exact h
noncomputable def wT (w : World) (a : Addr) (m ep : Nat) (tk : Nat → Tok) : Array (Int × Value) := if w.params.followText "set-order" = true then pickOrder (w.params.setOrder a ep) (wx (ksOf m) tk) else wx (ksOf m) tk
noncomputable def slotAt (w : World) (m i : Nat) : Nat := if w.params.followText "set-order" = true then 0 else if i = 0 then 0 else (ksOf m).getD (i - 1) 0 + 1
theorem W9 {a : Addr} {m ep i : Nat} {tk : Nat → Tok} {e : Int × Value} {Q : Option (Value × Nat) → Shared → Prop} (hm : m < 256) (hS : yH s.heap a (ledOf w) m ep tk) (hi : i < (ksOf m).length) (he : (wT w a m ep tk)[i]? = some e)
    (h : Q (some (e.2, slotAt w m (i + 1))) s) : wpAny (model prog w) A (setNext a (slotAt w m i) i ep) Q E s := by
  unfold setNext
  refine wpAny_bind (zW hm hS ?_)
  dsimp only
  unfold setsByText
  refine wpAny_bind (wpAny_bind (wpAny_askSetting (wpAny_pure ?_)))
  dsimp only
  unfold wT at he
  unfold slotAt at h ⊢
  by_cases bt : w.params.followText "set-order" = true
  · have bt' : (model prog w).w.params.followText "set-order" = true := bt
    rw [if_pos bt] at he h ⊢
    rw [if_pos bt']
    rw [if_neg (by simp)]
    unfold setWalk
    refine wpAny_bind (wpAny_bind (zW hm hS ?_))
    dsimp only
    unfold setsByText
    refine wpAny_bind (wpAny_bind (wpAny_askSetting (wpAny_pure ?_)))
    dsimp only
    rw [if_pos bt']
    refine wpAny_bind (wpAny_askSetting (wpAny_pure ?_))
    refine wpAny_pure ?_
    show Q (((pickOrder (w.params.setOrder a ep) (wx (ksOf m) tk))[i]?).map fun e => (e.2, 0)) s
    rw [he]
    exact h
  · have bt' : ¬ (model prog w).w.params.followText "set-order" = true := bt
    rw [if_neg bt] at he h ⊢
    rw [if_neg bt']
    have hb := Zl ⟨m, hm⟩ ⟨i, Nat.lt_of_lt_of_le hi (Nat.le_trans (len_small ⟨m, hm⟩) (by decide))⟩ (Nat.le_of_lt hi)
    simp only at hb
    have hl : ledOf w = true := by unfold ledOf; rw [Bool.eq_false_iff.mpr bt]; rfl
    rw [hl]
    split
    · rename_i hd
      exact absurd hd (Z7 _)
    · refine wpAny_bind (wpAny_of_eq (a := ()) rfl ?_)
      refine wpAny_pure ?_
      show Q (match (wx (ksOf m) tk)[SetTable.below (ksOf m).toArray (if i = 0 then 0 else (ksOf m).getD (i - 1) 0 + 1)]?, (ksOf m).toArray[SetTable.below (ksOf m).toArray (if i = 0 then 0 else (ksOf m).getD (i - 1) 0 + 1)]? with | some (_, x), some j => some (x, j + 1) | _, _ => none) s
      rw [hb, he, show (ksOf m).toArray[i]? = some ((ksOf m).getD i 0) by simp [hi]]
      rw [if_neg (Nat.succ_ne_zero i)] at h
      exact h
end
end OwnSet
namespace OwnSet
open PySem
theorem ZY {α : Type} : ∀ (l : List α) (i : Nat) (h : i < l.length), (l[i] :: l.eraseIdx i).Perm l
  | x :: l, 0, _ => List.Perm.refl _
  | x :: l, i + 1, h => (List.Perm.swap x (l[i]'(Nat.lt_of_succ_lt_succ h)) (l.eraseIdx i)).trans (List.Perm.cons x (ZY l i (Nat.lt_of_succ_lt_succ h)))
theorem zeN {α : Type} (next : Nat → Nat) : ∀ (fuel k : Nat) (left : List α) (out : Array α), left.length = fuel → (pickOrder.go next fuel k left out).toList.Perm (out.toList ++ left) := by
  intro fuel
  induction fuel with
  | zero =>
    intro k left out h
    rw [List.length_eq_zero_iff.mp h, List.append_nil]
    exact List.Perm.refl _
  | succ f ih =>
    intro k left out h
    have hlt : next k % left.length < left.length := Nat.mod_lt _ (by rw [h]; exact Nat.succ_pos f)
    unfold pickOrder.go
    rw [List.getElem?_eq_getElem hlt]
    dsimp only
    refine (ih (k + 1) _ _ (by rw [List.length_eraseIdx_of_lt hlt, h]; rfl)).trans ?_
    rw [Array.toList_push, List.append_assoc]
    exact List.Perm.append_left _ (ZY _ _ hlt)
theorem zcA {α : Type} (next : Nat → Nat) (xs : Array α) : (pickOrder next xs).toList.Perm xs.toList := by
  unfold pickOrder
  exact zeN next xs.size 0 xs.toList #[] (by rw [Array.length_toList])
theorem Xv (w : World) (a : Addr) (m ep : Nat) (tk : Nat → Tok) : (wT w a m ep tk).toList.Perm (wx (ksOf m) tk).toList := by
  unfold wT
  split
  · exact zcA _ _
  · exact List.Perm.refl _
theorem Y5 (w : World) (a : Addr) (m ep : Nat) (tk : Nat → Tok) : (wT w a m ep tk).size = (ksOf m).length := by
  rw [← Array.length_toList, (Xv w a m ep tk).length_eq, Array.length_toList, esOf_size]
section
variable {prog : Program} {w : World} {A : Around} {E : Value → Shared → Prop} {s : Shared}
theorem Zq {a : Addr} {m ep : Nat} {tk : Nat → Tok} {Q : Option (Value × Nat) → Shared → Prop} (hm : m < 256) (hS : yH s.heap a (ledOf w) m ep tk) (h : Q none s) : wpAny (model prog w) A (setNext a (slotAt w m (ksOf m).length) (ksOf m).length ep) Q E s := by
  have he : (wT w a m ep tk)[(ksOf m).length]? = none := Array.getElem?_eq_none (by rw [Y5]; exact Nat.le_refl _)
  unfold setNext
  refine wpAny_bind (zW hm hS ?_)
  dsimp only
  unfold setsByText
  refine wpAny_bind (wpAny_bind (wpAny_askSetting (wpAny_pure ?_)))
  dsimp only
  unfold wT at he
  unfold slotAt
  by_cases bt : w.params.followText "set-order" = true
  · have bt' : (model prog w).w.params.followText "set-order" = true := bt
    rw [if_pos bt] at he ⊢
    rw [if_pos bt', if_neg (by simp)]
    unfold setWalk
    refine wpAny_bind (wpAny_bind (zW hm hS ?_))
    dsimp only
    unfold setsByText
    refine wpAny_bind (wpAny_bind (wpAny_askSetting (wpAny_pure ?_)))
    dsimp only
    rw [if_pos bt']
    refine wpAny_bind (wpAny_askSetting (wpAny_pure ?_))
    refine wpAny_pure ?_
    show Q (((pickOrder (w.params.setOrder a ep) (wx (ksOf m) tk))[(ksOf m).length]?).map fun e => (e.2, 0)) s
    rw [he]
    exact h
  · have bt' : ¬ (model prog w).w.params.followText "set-order" = true := bt
    rw [if_neg bt] at he ⊢
    rw [if_neg bt']
    have hb := Zl ⟨m, hm⟩ ⟨(ksOf m).length, Nat.lt_of_le_of_lt (len_small ⟨m, hm⟩) (by decide)⟩ (Nat.le_refl _)
    simp only at hb
    have hl : ledOf w = true := by unfold ledOf; rw [Bool.eq_false_iff.mpr bt]; rfl
    rw [hl]
    split
    · rename_i hd
      exact absurd hd (Z7 _)
    · refine wpAny_bind (wpAny_of_eq (a := ()) rfl ?_)
      refine wpAny_pure ?_
      show Q (match (wx (ksOf m) tk)[SetTable.below (ksOf m).toArray (if (ksOf m).length = 0 then 0 else (ksOf m).getD ((ksOf m).length - 1) 0 + 1)]?, (ksOf m).toArray[SetTable.below (ksOf m).toArray (if (ksOf m).length = 0 then 0 else (ksOf m).getD ((ksOf m).length - 1) 0 + 1)]? with | some (_, x), some j => some (x, j + 1) | _, _ => none) s
      rw [hb, he]
      exact h
theorem Vh {I a : Addr} {slot i n ep : Nat} {Q : Value → Shared → Prop} (he : Yz s.heap I a slot i n ep) (h : Q (.ref I) s) : wpAny (model prog w) A (pyIter (.ref I)) Q E s := by
  have hT : s.TypeIs (.ref I) "set_iterator" := ⟨_, he, rfl⟩
  refine wpAny_pyIter_slot hT zce (wpAny_call_entry zce hT Xs ?_ (Wo _))
  show wpAny _ _ (ret (.ref I)) _ _ s
  exact wpAny_pure ⟨_, rfl, "set_iterator", _, hT, YA.lookup, h⟩
theorem W0 {I a : Addr} {m ep i : Nat} {tk : Nat → Tok} {e : Int × Value} {Q : Option Value → Shared → Prop} (hm : m < 256) (hI : Yz s.heap I a (slotAt w m i) i (ksOf m).length ep) (hS : yH s.heap a (ledOf w) m ep tk) (hi : i < (ksOf m).length) (he : (wT w a m ep tk)[i]? = some e)
    (hQ : ∀ h', Yz h' I a (slotAt w m (i + 1)) (i + 1) (ksOf m).length ep → Heap.SameBut I s.heap h' → Q (some e.2) { s with heap := h' }) : wpAny (model prog w) A (pyNext (.ref I)) Q E s := by
  have hT : s.TypeIs (.ref I) "set_iterator" := ⟨_, hI, rfl⟩
  unfold pyNext
  refine wpAny_bind (wpAny_attempt (wpAny_callSpecial?_slot (name := Str.ofString "__next__") hT YA (wpAny_call_entry YA hT Yd ?_ (YI _))))
  unfold Builtin.«set_iterator.__next__»
  refine wpAny_bind (wpAny_of_eq (a := (Value.ref I, [])) rfl ?_)
  try dsimp only
  refine wpAny_bind (wpAny_fieldsOf hI rfl ?_)
  show wpAny _ _ (setEntries a >>= _) _ _ s
  unfold setEntries
  refine wpAny_bind (wpAny_bind (zW hm hS (wpAny_pure ?_)))
  dsimp only
  rw [esOf_size, if_neg (by simp)]
  show wpAny _ _ (setNext a ((slotAt w m i : Int)).toNat ((i : Int)).toNat ((ep : Int)).toNat >>= _) _ _ s
  rw [Int.toNat_natCast, Int.toNat_natCast, Int.toNat_natCast]
  refine wpAny_bind (W9 hm hS hi he ?_)
  dsimp only
  refine wpAny_bind (wpAny_setField_rec hI (by simp) fun h1 he1 hs1 => ?_)
  refine wpAny_bind (wpAny_setField_rec he1 (by simp) fun h2 he2 hs2 => ?_)
  exact wpAny_pure ⟨_, rfl, wpAny_pure (hQ h2 he2 (hs1.trans hs2))⟩
end
end OwnSet
namespace OwnSet
open PySem
section
variable {prog : Program} {w : World} {A : Around} {E : Value → Shared → Prop} {s : Shared}
theorem zak {I a : Addr} {m ep : Nat} {tk : Nat → Tok} {Q : Option Value → Shared → Prop} (hh : A.handled = none) (hm : m < 256) (hI : Yz s.heap I a (slotAt w m (ksOf m).length) (ksOf m).length (ksOf m).length ep) (hS : yH s.heap a (ledOf w) m ep tk)
    (hQ : ∀ h', Heap.ExtBut I s.heap h' → Q none { s with heap := h' }) : wpAny (model prog w) A (pyNext (.ref I)) Q E s := by
  have hT : s.TypeIs (.ref I) "set_iterator" := ⟨_, hI, rfl⟩
  unfold pyNext
  refine wpAny_bind (wpAny_attempt (wpAny_callSpecial?_slot (name := Str.ofString "__next__") hT YA (wpAny_call_entry YA hT Yd ?_ (YI _))))
  unfold Builtin.«set_iterator.__next__»
  refine wpAny_bind (wpAny_of_eq (a := (Value.ref I, [])) rfl ?_)
  try dsimp only
  refine wpAny_bind (wpAny_fieldsOf hI rfl ?_)
  show wpAny _ _ (setEntries a >>= _) _ _ s
  unfold setEntries
  refine wpAny_bind (wpAny_bind (zW hm hS (wpAny_pure ?_)))
  dsimp only
  rw [esOf_size, if_neg (by simp)]
  show wpAny _ _ (setNext a ((slotAt w m (ksOf m).length : Int)).toNat (((ksOf m).length : Int)).toNat ((ep : Int)).toNat >>= _) _ _ s
  rw [Int.toNat_natCast, Int.toNat_natCast, Int.toNat_natCast]
  refine wpAny_bind (Zq hm hS ?_)
  dsimp only
  refine wpAny_bind (wpAny_setField_rec hI (by simp) fun h1 he1 hs1 => ?_)
  refine wpAny_bind ?_
  simp only [newExc, newTuple]
  refine wpAny_bind (wpAny_newObj_type ?_ (by size_fits))
  refine wpAny_bind (m := firstArgMember _ _) (wpAny_of_eq (a := Value.none) (by first | rfl | (simp only [firstArgMember]; rfl)) ?_)
  refine wpAny_newObj_type ?_ (by size_fits)
  simp only [raiseNew]
  refine wpAny_bind (wpAny_handled ?_)
  first | rw [show A.in1.handled = none from hh] | rw [hh]
  refine wpAny_bind (wpAny_pure (wpAny_throw ?_))
  refine wpAny_bind (wpAny_isInstance (T := "StopIteration") (b := true) ⟨_, Heap.get?_push_size _ rfl, rfl⟩ isSubtype_stop ?_)
  exact wpAny_pure (hQ _ ((hs1.extBut.push _).push _))
theorem yH.at {h h' : Heap} {a : Addr} {led : Bool} {m ep : Nat} {tk : Nat → Tok} (x : yH h a led m ep tk) (k : ∀ o, h.get? a = some o → h'.get? a = some o) : yH h' a led m ep tk := k _ x
theorem Wp (hh : A.handled = none) (I a : Addr) (hne : a ≠ I) {m ep : Nat} {tk : Nat → Tok} (hm : m < 256) :
    Walks prog w A I [I, a] [I] (ksOf m).length (fun i v => ∃ e, (wT w a m ep tk)[i]? = some e ∧ v = e.2) (fun i h => i ≤ (ksOf m).length ∧ Yz h I a (slotAt w m i) i (ksOf m).length ep ∧ yH h a (ledOf w) m ep tk) where
  sub := fun b hb => by simp at hb; simp [hb]
  frame := fun _ _ _ x hk => by
    obtain ⟨h1, h2, h3⟩ := x
    exact ⟨h1, hk I (by simp) _ h2, h3.at fun o e => hk a (by simp) o e⟩
  item := fun i s Q E hi x hQ => by
    obtain ⟨h1, h2, h3⟩ := x
    have hx : (wT w a m ep tk)[i]? = some ((wT w a m ep tk)[i]'(by rw [Y5]; exact hi)) := Array.getElem?_eq_getElem _
    refine W0 hm h2 h3 hi hx fun h' he' hs' => ?_
    exact hQ _ h' s.toks ⟨_, hx, rfl⟩ ⟨hi, he', h3.at fun o e => (hs'.2 a hne).trans e⟩ fun b o hb eo => hs'.extBut b o (fun h => hb (by simp [h])) eo
  done := fun s Q E x hQ => by
    obtain ⟨h1, h2, h3⟩ := x
    exact zak hh hm h2 h3 fun h' he' => hQ h' s.toks fun b o hb eo => he' b o (fun h => hb (by simp [h])) eo
  self := fun _ _ _ _ x hQ => Vh x.2.1 hQ
theorem Ww {a : Addr} {m ep : Nat} {led : Bool} {tk : Nat → Tok} {Q : Bool → Shared → Prop} (hS : yH s.heap a led m ep tk) (hQ : Q false s) : wpAny (model prog w) A (Builtin.List.listLengthHint (.ref a)) Q E s := by
  have hT : s.TypeIs (.ref a) "set" := ⟨_, hS, rfl⟩
  unfold Builtin.List.listLengthHint
  refine wpAny_bind (wpAny_specialOf hT F.slot_set_len.lookup ?_)
  try dsimp only
  have hsp : splitId "set.__len__" = some ("set", "__len__") := by decide +kernel
  rw [hsp]
  try dsimp only
  refine wpAny_bind (wpAny_isInstance (T := "set") (b := true) hT sub_set_self ?_)
  rw [if_neg (by decide)]
  show wpAny _ _ (if true = true then _ else _) _ _ _
  rw [if_pos rfl]
  refine wpAny_bind (wpAny_typeOf hT ?_)
  dsimp only
  exact wpAny_pure hQ
end
end OwnSet
namespace OwnSet
open PySem
section
variable {prog : Program} {w : World} {A : Around} {E : Value → Shared → Prop} {s : Shared}
theorem Zp {a : Addr} {m ep : Nat} {tk : Nat → Tok} {Q : List Value → Shared → Prop} (hh : A.handled = none) (hm : m < 256) (hS : yH s.heap a (ledOf w) m ep tk)
    (hQ : ∀ s', (∀ b o, s.heap.get? b = some o → s'.heap.get? b = some o) → s'.gens = s.gens → s'.drawn = s.drawn → s'.os = s.os → Q ((wT w a m ep tk).toList.map (·.2)) s') : wpAny (model prog w) A (collect (.ref a)) Q E s := by
  have hlt : a < s.heap.objs.size := Heap.lt_size hS
  have hSa : s.heap.objs.size ≠ a := Nat.ne_of_gt hlt
  have h8 : (ksOf m).length ≤ sizeLine := Nat.le_trans (len_small ⟨m, hm⟩) (by rw [sizeLine_eq]; decide)
  unfold collect
  refine wpAny_bind (wpAny_runValue (codeAny_builtin F.entry_proto_collect ?_))
  rw [Around.under_plainId F.plain_proto_collect _]
  show wpAny _ A.in1 (newList [] >>= fun l => again (.builtin "list.__iadd__" ⟨[l, .ref a], []⟩)) _ _ s
  refine wpAny_bind (wpAny_newObj_type ?_)
  refine wpAny_pure ⟨plainId_quiet F.plain_list_iadd _, codeAny_builtin F.entry_list_iadd ?_⟩
  rw [Around.under_plainId F.plain_list_iadd _]
  have hS1 : yH (s.heap.push { cls := .type "list", data := .seq ([] : List Value).toArray }) a (ledOf w) m ep tk := Heap.get?_push_of_some _ hS
  have hL1 : (s.heap.push { cls := .type "list", data := .seq ([] : List Value).toArray }).get? s.heap.objs.size = some { cls := .type "list", data := .seq ([] : List Value).toArray } := Heap.get?_push_size _ rfl
  generalize hh1 : s.heap.push { cls := .type "list", data := .seq ([] : List Value).toArray } = h1 at hS1 hL1 ⊢
  have k1 : ∀ b o, s.heap.get? b = some o → h1.get? b = some o := fun b o e => by rw [← hh1]; exact Heap.get?_push_of_some _ e
  have hz1 : h1.objs.size = s.heap.objs.size + 1 := by rw [← hh1]; exact Heap.size_push ..
  show wpAny _ A.in1 (Builtin.List.listExtendWith (.ref s.heap.objs.size) (.ref a) (.ref s.heap.objs.size)) _ _ _
  unfold Builtin.List.listExtendWith
  refine wpAny_bind (wpAny_typeOf (T := "set") ⟨_, hS1, rfl⟩ ?_)
  have g1 : Builtin.List.listSameRef (.ref s.heap.objs.size) (.ref a) = false := by simp [Builtin.List.listSameRef, hSa]
  have g2 : (Value.type "set" == Value.type "list") = false := by decide
  have g3 : (Value.type "set" == Value.type "tuple") = false := by decide
  simp only [g1, g2, g3, Bool.or_false, Bool.false_eq_true, if_false]
  refine wpAny_bind (X2 hm hS1 ?_)
  have hI2 : Yz (h1.push { cls := .type "set_iterator", data := .fields #[rawInt ((0 : Nat) : Int), rawInt ((0 : Nat) : Int), .ref a, rawInt ((ksOf m).length : Int), rawInt (ep : Int)] }) h1.objs.size a 0 0 (ksOf m).length ep := Heap.get?_push_size _ rfl
  have hS2 : yH (h1.push { cls := .type "set_iterator", data := .fields #[rawInt ((0 : Nat) : Int), rawInt ((0 : Nat) : Int), .ref a, rawInt ((ksOf m).length : Int), rawInt (ep : Int)] }) a (ledOf w) m ep tk := Heap.get?_push_of_some _ hS1
  have hL2 := Heap.get?_push_of_some { cls := .type "set_iterator", data := .fields #[rawInt ((0 : Nat) : Int), rawInt ((0 : Nat) : Int), .ref a, rawInt ((ksOf m).length : Int), rawInt (ep : Int)] } hL1
  generalize hh2 : h1.push { cls := .type "set_iterator", data := .fields #[rawInt ((0 : Nat) : Int), rawInt ((0 : Nat) : Int), .ref a, rawInt ((ksOf m).length : Int), rawInt (ep : Int)] } = h2 at hI2 hS2 hL2 ⊢
  have k2 : ∀ b o, h1.get? b = some o → h2.get? b = some o := fun b o e => by rw [← hh2]; exact Heap.get?_push_of_some _ e
  refine wpAny_bind (wpAny_holding (Ww hS2 ?_))
  show wpAny _ A.in1 (if true = true then _ else _) _ _ _
  rw [if_pos rfl]
  refine wpAny_bind (wpAny_rule (wpAny_bind ?_))
  show wpAny _ A.in1 (updateSeq s.heap.objs.size (·.push .none) >>= fun _ => updateSeq s.heap.objs.size (·.pop)) _ _ _
  refine wpAny_bind (wpAny_updateSeq hL2 rfl ?_)
  have hL3 := Heap.get?_update_self (Obj.mapSeq (·.push Value.none)) hL2 rfl
  refine wpAny_updateSeq (hz := by seq_fits) hL3 rfl ?_
  have hL4 := Heap.get?_update_self (Obj.mapSeq (·.pop)) hL3 rfl
  have oth : ∀ b o, b ≠ s.heap.objs.size → h2.get? b = some o → ((h2.update s.heap.objs.size (Obj.mapSeq (·.push Value.none))).update s.heap.objs.size (Obj.mapSeq (·.pop))).get? b = some o :=
    fun b o hb e => (Heap.get?_update_other _ _ (Ne.symm hb)).trans ((Heap.get?_update_other _ _ (Ne.symm hb)).trans e)
  have hIne : h1.objs.size ≠ s.heap.objs.size := by rw [hz1]; exact Nat.succ_ne_self _
  have hIa : a ≠ h1.objs.size := by rw [hz1]; exact Nat.ne_of_lt (Nat.lt_succ_of_lt hlt)
  have W := Wp (prog := prog) (w := w) (A := A.in1) (ep := ep) (tk := tk) hh h1.objs.size a hIa hm
  have hsl : slotAt w m 0 = 0 := by unfold slotAt; split <;> rfl
  refine wpAny_pure ⟨plainId_quiet F.plain_extend_loop _, codeAny_extend_loopS W.toS h8 _ (fun hmem => ?_) _ (ksOf m).length 0 _ #[] _ rfl (Nat.zero_le _) ⟨Nat.zero_le _, by rw [hsl]; exact oth _ _ hIne hI2, hS2.at fun o e => oth _ _ (Ne.symm hSa) e⟩ hL4 (ItemsOf.nil _) fun s' acc' c' hmv hS' hacc => ?_⟩
  · rcases List.mem_cons.mp hmem with e | e
    · exact hIne e.symm
    · exact hSa (List.mem_singleton.mp e)
  · show wpAny _ A (load s.heap.objs.size >>= _) _ _ s'
    refine wpAny_bind (wpAny_load hS' ?_)
    refine wpAny_pure ?_
    have e1 : acc'.toList = (wT w a m ep tk).toList.map (·.2) := by
      apply List.ext_getElem?
      intro i
      by_cases hi : i < (ksOf m).length
      · have q1 : acc'[i]? = some (acc'[i]'(by rw [hacc.1]; exact hi)) := Array.getElem?_eq_getElem _
        obtain ⟨e, q2, q3⟩ := hacc.2 i _ q1
        rw [List.getElem?_map, Array.getElem?_toList, Array.getElem?_toList, q1, q2, q3]
        rfl
      · rw [List.getElem?_eq_none (by rw [Array.length_toList, hacc.1]; exact Nat.le_of_not_lt hi), List.getElem?_eq_none (by rw [List.length_map, Array.length_toList, Y5]; exact Nat.le_of_not_lt hi)]
    rw [e1]
    refine hQ s' (fun b o e => hmv.heap b o (fun hmem => ?_) (oth b o (Nat.ne_of_lt (Heap.lt_size e)) (k2 b o (k1 b o e)))) hmv.gens hmv.drawn hmv.os
    rcases List.mem_cons.mp hmem with z | z
    · exact Nat.ne_of_lt (Heap.lt_size e) z
    · have := Heap.lt_size e
      rw [List.mem_singleton.mp z, hz1] at this
      exact absurd (Nat.lt_of_succ_lt this) (Nat.lt_irrefl _)
end
end OwnSet
namespace OwnSet
open PySem PyProof.Rows
theorem Yi : ∀ (l : List (Int × Value)), (∀ e ∈ l, ∃ t, e.2 = .int e.1 t) → PyProof.Rows.IntsAre (l.map (·.2)) (l.map (·.1))
  | [], _ => .nil
  | e :: l, h => by
    obtain ⟨t, et⟩ := h e List.mem_cons_self
    rw [List.map_cons, List.map_cons, et]
    exact .cons _ t (Yi l fun x hx => h x (List.mem_cons_of_mem _ hx))
theorem zbe (m : Nat) : ((ksOf m).map fun i : Nat => (i : Int)).Pairwise (· ≤ ·) := by
  rw [List.pairwise_map]
  exact ((List.pairwise_lt_range (n := 8)).filter _).imp fun h => Int.ofNat_le.mpr (Nat.le_of_lt h)
theorem zdv (w : World) (a : Addr) (m ep : Nat) (tk : Nat → Tok) : PyProof.Rows.IntsAre ((wT w a m ep tk).toList.map (·.2)) ((wT w a m ep tk).toList.map (·.1)) ∧ ((wT w a m ep tk).toList.map (·.1)).Perm ((ksOf m).map fun i : Nat => (i : Int)) := by
  constructor
  · refine Yi _ fun e he => ?_
    have := (Xv w a m ep tk).mem_iff.mp he
    unfold wx esL at this
    obtain ⟨k, _, rfl⟩ := List.mem_map.mp this
    exact ⟨_, rfl⟩
  · have := (Xv w a m ep tk).map (·.1)
    unfold wx esL at this
    rw [List.map_map] at this
    exact this
section
variable {prog : Program} {w : World} {A : Around} {E : Value → Shared → Prop} {s : Shared}
theorem own_sorted_set {a : Addr} {m ep : Nat} {tk : Nat → Tok} {Q : Value → Shared → Prop} (hh : A.handled = none) (hm : m < 256) (hS : yH s.heap a (ledOf w) m ep tk)
    (h : ∀ (h1 h' : Heap) (tk' : Nat) (out : Array Value) (c : Nat), IntsAre out.toList ((ksOf m).map fun i : Nat => (i : Int)) → (∀ b o, s.heap.get? b = some o → h1.get? b = some o) → (∀ b o, h1.get? b = some o → h'.get? b = some o) →
      h'.get? h1.objs.size = some { cls := .type "list", dict := none, data := .seq out c, slots := #[] } → Q (.ref h1.objs.size) { s with heap := h', toks := tk' }) :
    wpAny (model prog w) A (call (.builtin "sorted") [.ref a]) Q E s := by
  refine Calls.call_function_entry PyProof.Rows.kind_sorted PyProof.Rows.plain_sorted PyProof.Rows.entry_sorted (PyProof.Rows.args_sorted1 _) ?_
  unfold Builtin.«sorted»
  refine wpAny_bind (m := checkCount "sorted" 1 1 _) (wpAny_pure ?_)
  refine wpAny_bind (Zp hh hm hS fun s' k g1 g2 g3 => ?_)
  obtain ⟨h1, g', d', tk1, os'⟩ := s'
  have e1 : g' = s.gens := g1
  have e2 : d' = s.drawn := g2
  have e3 : os' = s.os := g3
  subst e1 e2 e3
  obtain ⟨hI, hp⟩ := zdv w a m ep tk
  have h64 : ((wT w a m ep tk).toList.map (·.2)).length < 64 := by
    rw [List.length_map, Array.length_toList, Y5]
    exact Nat.lt_of_le_of_lt (len_small ⟨m, hm⟩) (by decide)
  generalize (wT w a m ep tk).toList.map (·.2) = vs at *
  generalize (wT w a m ep tk).toList.map (·.1) = ns at *
  refine wpAny_bind (wpAny_newList ?_)
  have hoL : (h1.push (PyProof.Rows.seqObj "list" vs.toArray 0)).get? h1.objs.size = some (PyProof.Rows.seqObj "list" vs.toArray 0) := Heap.get?_push_size _ rfl
  refine wpAny_bind (wpAny_holding (wpAny_call_entry PyProof.Rows.slot_list_sort ⟨_, hoL, rfl⟩ PyProof.Rows.entry_list_sort (PyProof.Rows.list_sort_tree hoL hI h64 fun out ns' a1 a2 a3 => ⟨_, rfl, ?_⟩) (PyProof.Rows.args_list_sort _)))
  have es : ns' = (ksOf m).map fun i : Nat => (i : Int) := PySem.W.ksm_same (a2.trans hp) a3 (zbe m)
  subst es
  have hlt : h1.objs.size < (h1.push (PyProof.Rows.seqObj "list" vs.toArray 0)).objs.size := Heap.lt_size hoL
  have hn : ∀ b o, b ≠ h1.objs.size → (h1.push (PyProof.Rows.seqObj "list" vs.toArray 0)).get? b = some o → (PyProof.Rows.sortedHeap (h1.push (PyProof.Rows.seqObj "list" vs.toArray 0)) h1.objs.size vs out).get? b = some o := fun b o hb e => by
    unfold PyProof.Rows.sortedHeap
    exact (Heap.get?_update_other _ _ (Ne.symm hb)).trans (Heap.get?_push_of_some _ (Heap.get?_push_of_some _ ((Heap.get?_update_other _ _ (Ne.symm hb)).trans e)))
  have hL : ∃ c, (PyProof.Rows.sortedHeap (h1.push (PyProof.Rows.seqObj "list" vs.toArray 0)) h1.objs.size vs out).get? h1.objs.size = some { cls := .type "list", dict := none, data := .seq out c, slots := #[] } := by
    unfold PyProof.Rows.sortedHeap
    have u1 := Heap.get?_update_self (Obj.mapSeq fun _ => (#[] : Array Value)) hoL rfl
    have u2 := Heap.get?_push_of_some (PyProof.Rows.seqObj "list" #[] 0) (Heap.get?_push_of_some (PyProof.Rows.seqObj "tuple" vs.toArray 0) u1)
    exact ⟨_, Heap.get?_update_self (Obj.mapSeq fun _ => out) u2 rfl⟩
  obtain ⟨c, hL⟩ := hL
  exact wpAny_pure ⟨_, rfl, h h1 _ _ out c a1 k (fun b o e => hn b o (Nat.ne_of_lt (Heap.lt_size e)) (Heap.get?_push_of_some _ e)) hL⟩
end
end OwnSet
namespace L2
open PySem PySem.Spec PyProof.Rows
noncomputable def zaB (ks : List Nat) : List Nat := OwnSet.ksOf (OwnSet.bitsTo (fun i => ks.getD i 0) ks.length)
theorem zbN (val : Nat → Nat) (k : Nat) : ∀ n : Nat, (OwnSet.bitsTo val n).testBit k = true ↔ ∃ i, i < n ∧ val i = k
  | 0 => by
    show (0 : Nat).testBit k = true ↔ _
    rw [Nat.zero_testBit]
    exact ⟨(fun h => by cases h), fun h => by obtain ⟨i, hi, _⟩ := h; exact absurd hi (Nat.not_lt_zero i)⟩
  | n + 1 => by
    show (OwnSet.bitsTo val n ||| 1 <<< val n).testBit k = true ↔ _
    rw [Nat.testBit_or, Bool.or_eq_true, zbN val k n, Nat.one_shiftLeft, Nat.testBit_two_pow, decide_eq_true_eq]
    constructor
    · rintro (⟨i, hi, e⟩ | e)
      · exact ⟨i, Nat.lt_succ_of_lt hi, e⟩
      · exact ⟨n, Nat.lt_succ_self n, e⟩
    · rintro ⟨i, hi, e⟩
      rcases Nat.lt_succ_iff_lt_or_eq.mp hi with h | h
      · exact .inl ⟨i, h, e⟩
      · subst h; exact .inr e
theorem Xj {ks : List Nat} (h8 : ∀ k ∈ ks, k < 8) {k : Nat} : k ∈ zaB ks ↔ k ∈ ks := by
  unfold zaB OwnSet.ksOf
  rw [List.mem_filter, List.mem_range, zbN]
  constructor
  · rintro ⟨_, i, hi, e⟩
    rw [show ks.getD i 0 = ks[i] by simp [hi]] at e
    rw [← e]
    exact List.getElem_mem hi
  · intro hk
    obtain ⟨i, hi, e⟩ := List.mem_iff_getElem.mp hk
    exact ⟨h8 k hk, i, hi, by rw [show ks.getD i 0 = ks[i] by simp [hi]]; exact e⟩
theorem WS (ks : List Nat) : (zaB ks).Pairwise (· < ·) := (List.pairwise_lt_range (n := 8)).filter _
noncomputable def tSS (K : PySem.W.Frag) (ta : TE) : TE := fun σ H Q => ta σ H fun x H1 => ∃ a ks, x = .ref a ∧ SqL K H1 a ((ks.map fun k : Nat => (k : Int)).map V.int) ∧ (∀ k ∈ ks, k < 8) ∧ ∀ l, H1 l = none → Q (.ref l) (upd H1 l (.lst (((zaB ks).map fun k : Nat => (k : Int)).map V.int)))
theorem zaG {X : Cx} {a : Expr} {ta : TE} {p1 p2 pos1 pos2 : Pos} (hc : X.calm = true) (hg1 : Gl X "sorted") (hm1 : X.mg "sorted" = none) (hb1 : bootBuiltins "sorted" = some (.builtin "sorted")) (hg2 : Gl X "set") (hm2 : X.mg "set" = none) (hb2 : bootBuiltins "set" = some (.type "set")) (ha : PE X a ta)
    (hs : starEach [a] X.env = [(false, eval a X.env)] := by rfl) (hs2 : starEach [.Call (.Name "set" p2) [a] [] pos2] X.env = [(false, eval (.Call (.Name "set" p2) [a] [] pos2) X.env)] := by rfl) : PE X (.Call (.Name "sorted" p1) [.Call (.Name "set" p2) [a] [] pos2] [] pos1) (tSS X.K ta) := by
  intro pins s σ H Q I h
  refine Call_ (w8 I hg1 hm1 hb1 (PyProof.Rows.callWith_builtin1 (Q := EP X pins σ Q) ?_ hs2 rfl))
  rw [hs2]
  show wpAny _ _ (spliced ((false, eval (.Call (.Name "set" p2) [a] [] pos2) X.env) :: [])) _ _ _
  refine Calls.spliced_cons ?_
  refine Call_ (w8 I hg2 hm2 hb2 (PyProof.Rows.callWith_type1 ?_ hs rfl))
  rw [hs]
  show wpAny _ _ (spliced ((false, eval a X.env) :: [])) _ _ _
  refine Calls.spliced_cons (thn (ha pins s σ H _ I h) fun v s1 hh9 => ?_)
  obtain ⟨x, H1, I1, r1, q1⟩ := hh9
  obtain ⟨t, ks, rfl, hx, hk, q⟩ := q1
  cases r1
  obtain ⟨its, rv, pt, hz⟩ := I1.list hx
  have hlen : its.toArray.size = ks.length := by rw [List.size_toArray, ← rv.length, List.length_map, List.length_map]
  have h8 : ∀ i, ks.getD i 0 < 8 := fun i => by
    by_cases hi : i < ks.length
    · rw [show ks.getD i 0 = ks[i] by simp [hi]]; exact hk _ (List.getElem_mem hi)
    · rw [show ks.getD i 0 = 0 by simp [Nat.le_of_not_lt hi]]; decide
  have hval : ∀ (i : Nat) (v : Value), its.toArray[i]? = some v → ∃ t, v = .int ((ks.getD i 0 : Nat) : Int) t := fun i v hv => by
    have hv' : its[i]? = some v := by simpa using hv
    have hi : i < ks.length := by have := (List.getElem?_eq_some_iff.mp hv').1; rw [List.size_toArray] at hlen; omega
    obtain ⟨u, hu, ru⟩ := rv.get (i := i) (x := V.int ((ks.getD i 0 : Nat) : Int)) (by simp [hi])
    rw [hv'] at hu
    cases hu
    obtain ⟨t, e⟩ := ru
    exact ⟨t, e⟩
  refine Calls.spliced_nil ?_
  refine OwnSet.own_call_set (I.ok.hd hc) pt.isList h8 hval fun h2 tk2 hS2 k2 => ?_
  refine Calls.spliced_nil ?_
  obtain ⟨ep, tk, hS2⟩ := hS2
  refine OwnSet.own_sorted_set (I.ok.hd hc) (OwnSet.bitsTo_lt h8 _) hS2 fun h3 h4 tk4 out c a1 k3 k4 hL => ?_
  have I2 : Inv X pins σ H1 { s1 with heap := h3, toks := tk4 } := I1.kept fun b u e => k3 b u (k2 b u e)
  rw [hlen] at a1
  have rl := Zk a1
  refine ⟨.ref h3.objs.size, _, I2.laid (t' := tk4) (fun b o e => k4 b o e) (Nat.le_refl _) (show xO X.prog X.w _ h4 _ (.lst (((zaB ks).map fun k : Nat => (k : Int)).map V.int)) from ⟨?_, out.toList, c, rl, by simpa using hL⟩), rfl, q _ (I2.hok.fresh (Nat.le_refl _))⟩
  rw [List.length_map, List.length_map]
  exact Nat.le_trans (OwnSet.len_small ⟨_, OwnSet.bitsTo_lt h8 ks.length⟩) (by rw [sizeLine_eq]; decide)
end L2
namespace Dl
open PySem L2 PySem.Spec PyProof.Rows
variable [KK] {X : Cx} {e : Expr}
noncomputable def wI : List D → Option (List Nat)
  | [] => some []
  | .int i :: ds => if 0 ≤ i ∧ i < 8 then (wI ds).map (i.toNat :: ·) else none
  | _ => none
omit [KK] in
theorem ZX : ∀ {ds : List D} {ks : List Nat}, wI ds = some ks → ds = (ks.map fun k : Nat => (k : Int)).map D.int ∧ ∀ k ∈ ks, k < 8 := by
  intro ds
  induction ds with
  | nil => intro ks h; cases h; exact ⟨rfl, fun k hk => by cases hk⟩
  | cons d ds ih =>
    intro ks h
    cases d with
    | int i =>
      unfold wI at h
      by_cases c : 0 ≤ i ∧ i < 8
      · rw [if_pos c] at h
        obtain ⟨ls, e1, rfl⟩ := Option.map_eq_some_iff.mp h
        obtain ⟨e2, e3⟩ := ih e1
        refine ⟨?_, fun k hk => ?_⟩
        · rw [List.map_cons, List.map_cons, ← e2, Int.toNat_of_nonneg c.1]
        · rcases List.mem_cons.mp hk with rfl | hk
          · omega
          · exact e3 k hk
      · rw [if_neg c] at h; cases h
    | _ => cases h
omit [KK] in
theorem ZF {ks : List Nat} (h : ∀ k ∈ ks, k < 8) : wI ((ks.map fun k : Nat => (k : Int)).map D.int) = some ks := by
  induction ks with
  | nil => rfl
  | cons k ks ih =>
    show (if 0 ≤ (k : Int) ∧ (k : Int) < 8 then (wI ((ks.map fun k : Nat => (k : Int)).map D.int)).map ((k : Int).toNat :: ·) else none) = _
    rw [if_pos ⟨Int.natCast_nonneg k, by have := h k List.mem_cons_self; omega⟩, ih fun x hx => h x (List.mem_cons_of_mem _ hx), Int.toNat_natCast]
    rfl
noncomputable def ssD : D → Option (List D)
  | .lst ds => (wI ds).map fun ks => ((zaB ks).map fun k : Nat => (k : Int)).map D.int
  | _ => none
noncomputable def fSS (f : Ev → Option D) : Ev → Option (List D) := fun ρ => (f ρ).bind ssD
theorem zaF {p1 p2 pos1 pos2 : Pos} {f : Ev → Option D} (hc : X.calm = true) (hg1 : Gl X "sorted") (hm1 : X.mg "sorted" = none) (hg2 : Gl X "set") (hm2 : X.mg "set" = none) (ha : ED X e f)
    (hs : starEach [e] X.env = [(false, eval e X.env)] := by rfl) (hs2 : starEach [.Call (.Name "set" p2) [e] [] pos2] X.env = [(false, eval (.Call (.Name "set" p2) [e] [] pos2) X.env)] := by rfl) :
    FL X (.Call (.Name "sorted" p1) [.Call (.Name "set" p2) [e] [] pos2] [] pos1) (fSS f) := by
  obtain ⟨t, pa, ra⟩ := ha
  refine ⟨_, zaG hc hg1 hm1 WG hg2 hm2 zd7 pa hs hs2, fun σ ρ F H z Q s va e q => ?_⟩
  obtain ⟨d, e1, e2⟩ := Option.bind_eq_some_iff.mp e
  refine ra σ ρ F H d _ s va e1 fun F1 H1 v g1 a1 => ?_
  unfold ssD at e2
  split at e2 <;> try cases e2
  rename_i ds
  obtain ⟨ks, e3, rfl⟩ := Option.map_eq_some_iff.mp e2
  obtain ⟨e4, e5⟩ := ZX e3
  subst e4
  obtain ⟨p, xs, rfl, hx, bl⟩ := a1.lst_inv
  have ex := bl.of_ints
  subst ex
  exact ⟨p, ks, rfl, SqL.of (g1.fh _ _ hx), e5, fun l hl => q _ _ _ _ (g1.trans (Gr.hide g1.fh hl _)) (zcs g1 hl) (g1.fh.free hl) zp (.ints _)⟩
end Dl
namespace Dl
open PySem L2 PySem.Spec PyProof.Rows
variable [KK] {X : Cx} {a b : Expr} {pos apos : Pos}
end Dl
namespace L2
open PySem PySem.Spec PyProof.Rows
section
variable {X : Cx} {a : Addr} {D : List (Str × KTD.Dat)} {nm : Str} {b : Expr} {p pos : Pos} {tb : TE}
end
end L2
namespace Dl
open PySem L2 PySem.Spec PyProof.Rows
variable [KK] {X : Cx} {a : Addr} {T : List (Str × KTD.Dat)} {nm : Str} {b : Expr} {p p2 p3 pos : Pos} {f : Ev → Option D}
end Dl
namespace L2
open PySem PySem.Spec PyProof.Rows
end L2
namespace Dl
open PySem L2 PySem.Spec PyProof.Rows
variable [KK] {X : Cx} {e : Expr}
end Dl
namespace L2
open PySem PySem.Spec PyProof.Rows
end L2
namespace Dl
open PySem L2 PySem.Spec PyProof.Rows
variable [KK] {X : Cx} {a e ko : Expr} {pos tpos : Pos}
end Dl
namespace PySem
open Sem (wp)
section
variable {prog : Program} {w : World} {A : Around} {E : Value → Shared → Prop} {s : Shared} {z TI TO i1 i2 i3 : Addr} {fp1 fp2 fp3 : List Addr} {n1 n2 n3 k1 k2 k3 : Nat} {P1 P2 P3 : Nat → Value → Prop} {St1 St2 St3 : Nat → Heap → Prop} {a b c : Value}
end
section
variable {prog : Program} {w : World} {A : Around} {E : Value → Shared → Prop} {s : Shared}
variable {z TI TO i1 i2 i3 : Addr} {fp1 fp2 fp3 : List Addr} {n1 n2 n3 k1 k2 k3 : Nat} {P1 P2 P3 : Nat → Value → Prop} {St1 St2 St3 : Nat → Heap → Prop} {a b c : Value}
end
end PySem
namespace L2
open PySem PySem.Spec PyProof.Rows
end L2
namespace Dl
open PySem L2 PySem.Spec PyProof.Rows
variable [KK] {X : Cx} {a b c : Expr} {pos : Pos}
end Dl
namespace Dl
open PySem L2
variable [KK]
section
variable {X : Cx} {st : Stmt} {sts : List Stmt} {a b c e tg : Expr} {pos pos' : Pos}
end
end Dl
namespace L2
open PySem PySem.Spec PyProof.Rows
section
variable {P : Program} {w : World} {H H' : Hp} {h h' : Heap} {a : Addr} {o : HO}
end
section
variable {X : Cx} {pins : List (Addr × Obj)} {σ : St} {H H' : Hp} {s s' : Shared} {E : XK} {e : Value} {M : Model} {E2 : Value → Shared → Prop}
end
end L2
namespace L2
open PySem PySem.Spec PyProof.Rows
end L2
namespace Dl
open PySem L2
variable [KK]
section
variable (E : XK) (cl : Nat → Addr)
end
section
variable {E : XK} {cl : Nat → Addr} {X : Cx} {a b c e : Expr} {es : List Expr} {st : Stmt} {sts : List Stmt} {pos pos' : Pos}
end
end Dl
namespace L2
open PySem PySem.Spec PyProof.Rows
section
variable {X : Cx} {pins : List (Addr × Obj)} {σ : St} {H H' : Hp} {s s' : Shared} {E : XK} {e : Value} {E2 : Value → Shared → Prop} {B h3 : Heap}
end
end L2
namespace L2
open PySem PySem.Spec PyProof.Rows
section
variable {X : Cx} {pins : List (Addr × Obj)} {σ : St} {H H' : Hp} {s s' : Shared} {E : Value → Shared → Prop} {e : Value} {M : Model} {A : Around}
end
end L2
namespace L2
open PySem PySem.Spec PyProof.Rows
section
variable {X : Cx} {pins ps : List (Addr × Obj)} {σ : St} {H H' : Hp} {s s' : Shared}
end
end L2
namespace L2
open PySem PySem.Spec PyProof.Rows PySem.W PySem.Calls PySem.Builtin PySem.Builtin.Getset_descriptor
section
variable {prog : Program} {w : World} {A : Around} {E : Value → Shared → Prop} {K : PySem.W.Frag} {h : Heap} {g : Array GenState} {d : Drawn} {t : Nat} {os : OsState} {a C : Addr} {o : Obj}
end
end L2
namespace L2
open PySem PySem.Spec PyProof.Rows
section
variable {P : Program} {w : World} {K : PySem.W.Frag} {mg : Str → Option Value} {base : Heap}
end
end L2
namespace L2
open PySem PySem.Spec PyProof.Rows PySem.SeqAt
end L2
namespace L2
open PySem PySem.Spec PyProof.Rows
end L2
namespace Dl
open PySem L2
variable [KK]
section
variable {E : XK} {cl : Nat → Addr} {X : Cx} {e : Expr} {es : List Expr}
end
end Dl
namespace L2
open PySem PySem.Spec PyProof.Rows
section
variable {K : PySem.W.Frag} {σ : St} {H H0 : Hp} {a C : Addr}
end
end L2
namespace Dl
open PySem L2
variable [KK]
end Dl
namespace OwnSort
open PySem PyProof.Rows
section
variable {prog : Program} {w : World} {A : Around} {E : Value → Shared → Prop} {s : Shared}
end
end OwnSort
namespace Dl
open PySem L2
variable [KK]
section
variable {X : Cx} {e : Expr} {pos : Pos}
end
end Dl
namespace Dl
open PySem L2
variable [KK]
section
variable {E : XK} {cl : Nat → Addr} {X : Cx} {a b : Expr} {pos : Pos}
end
end Dl
namespace L2
open PySem PySem.Spec PyProof.Rows
section
variable {prog : Program} {w : World} {A : Around} {E : Value → Shared → Prop} {s : Shared}
theorem Wg {sl : Addr} {tk : Tok} {Q : Int × Int × Nat → Shared → Prop} (hs : s.heap.IsSliceOf sl .none .none (.int (-1) tk)) (h : Q (1, -1, 2) s) : wpAny (model prog w) A (Builtin.Slice.sliceApplied (.ref sl) (pure (2 : Int))) Q E s := by
  obtain ⟨os, hos, hcs, hds⟩ := hs
  unfold Builtin.Slice.sliceApplied Builtin.Slice.sliceFields
  refine wpAny_bind (wpAny_bind (wpAny_field hos hds (x := .none) rfl (wpAny_bind (wpAny_field hos hds (x := .none) rfl (wpAny_bind (wpAny_field hos hds (x := .int (-1) tk) rfl (wpAny_pure ?_)))))))
  refine wpAny_bind (slicePart_int ?_)
  show wpAny _ _ (if ((-1 : Int) == 0) = true then _ else _) _ _ s
  rw [if_neg (by decide)]
  refine wpAny_bind (slicePart_none (wpAny_bind (slicePart_none (wpAny_bind (wpAny_pure ?_)))))
  show wpAny _ _ (pure ((1 : Int), (-1 : Int), (2 : Nat))) _ _ s
  exact wpAny_pure h
theorem Wv {t sl : Addr} {x y : Value} {tk : Tok} {Q : Value → Shared → Prop} (ht : IsTup s.heap t #[x, y]) (hs : s.heap.IsSliceOf sl .none .none (.int (-1) tk))
    (h : Q (.ref s.heap.objs.size) { s with heap := s.heap.push { cls := .type "tuple", data := .seq #[y, x] } }) : wpAny (model prog w) A (getItem (.ref t) (.ref sl)) Q E s := by
  have htake : sizeOk (.seq #[y, x]) := by
    show (#[y, x] : Array Value).size ≤ sizeLine
    rw [sizeLine_eq]
    exact Nat.le_of_ble_eq_true rfl
  obtain ⟨os, hos, hcs, hds⟩ := id hs
  have hTs : s.TypeIs (.ref sl) "slice" := ⟨os, hos, hcs⟩
  unfold getItem
  try with_reducible refine wpAny_holding ?_
  first | refine wpAny_bind (wpAny_pure ?_) | skip
  refine wpAny_bind (wpAny_sequenceKey ht.typeIs (by decide) ?_)
  refine wpAny_bind (wpAny_callSpecial?_slot (name := Str.ofString "__getitem__") ht.typeIs PyProof.Rows.slot_tuple_getitem
    (wpAny_call_entry PyProof.Rows.slot_tuple_getitem ht.typeIs entry_tuple_getitem ?_ (args_tuple_getitem _ _)))
  show wpAny _ _ (Builtin.Tuple.tupleItemsOf (.ref t) >>= _) _ _ s
  refine wpAny_bind (tupleItemsOf_ ht (wpAny_bind (wpAny_typeOf hTs ?_)))
  rw [if_pos (by decide)]
  refine wpAny_bind (Wg hs ?_)
  show wpAny _ _ (if ((1 : Int) == 0 && (-1 : Int) == 1 && (2 : Nat) == 2) = true then _ else _) _ _ s
  rw [if_neg (by decide)]
  first
    | exact wpAny_bind (m := Builtin.Tuple.tupleExact _) (wpAny_newObj_type (wpAny_pure ⟨_, rfl, wpAny_pure h⟩) htake)
    | exact wpAny_bind (m := Builtin.Tuple.tupleExact _) (wpAny_newObj_type (wpAny_bind (wpAny_pure (wpAny_pure ⟨_, rfl, wpAny_pure h⟩))) htake)
    | exact wpAny_bind (wpAny_bind (m := Builtin.Tuple.tupleExact _) (wpAny_newObj_type (wpAny_pure (wpAny_pure ⟨_, rfl, wpAny_pure h⟩)) htake))
    | exact wpAny_bind (wpAny_bind (m := Builtin.Tuple.tupleExact _) (wpAny_newObj_type (wpAny_pure ⟨_, rfl, wpAny_pure h⟩) htake))
end
section
variable {X : Cx} {e st : Expr} {te : TE} {t3 : TO} {pos p2 : Pos}
noncomputable def zhk (te : TE) (t3 : TO) : TE := fun σ H Q => te σ H fun x H1 => t3 σ H1 fun k H2 => ∃ a u v, k = some (-1) ∧ x = .ref a ∧ H2 a = some (.tup [u, v]) ∧ ∀ p, H2 p = none → Q (.ref p) (upd H2 p (.tup [v, u]))
theorem zeo (he : PE X e te) (hst : PO X (some st) t3) : PE X (.Subscript e (.Slice none none (some st) p2) pos) (zhk te t3) := by
  intro pins s σ H Q I h
  refine Subscript_ (thn (he pins s σ H _ I h) fun v s1 hh9 => ?_)
  obtain ⟨x, H1, I1, r1, q1⟩ := hh9
  refine wpAny_Slice ?_
  rw [evalPart_none]
  refine wpAny_pure (wpAny_pure ?_)
  refine thn (hst pins s1 σ H1 _ I1 q1) fun vk s3 hh9 => ?_
  obtain ⟨k, H3, I3, pk, q3⟩ := hh9
  obtain ⟨a, u1, u2, rfl, rfl, hx, q⟩ := q3
  cases r1
  obtain ⟨tk, rfl⟩ : ∃ tk, vk = .int (-1) tk := by cases pk; exact ⟨_, rfl⟩
  have I4 : Inv X pins σ H3 { s3 with heap := s3.heap.push { cls := .type "slice", data := .fields #[.none, .none, .int (-1) tk] } } := I3.kept (t' := s3.toks) fun b ob q => Heap.get?_push_of_some _ q
  obtain ⟨its, r, ht, hz⟩ := I4.tuple (SqT.of hx)
  obtain ⟨y1, y2, rfl, ry1, ry2⟩ := Vp r
  show wpAny (model X.prog X.w) X.A (subscriptTail e (.Slice none none (some st) p2) (.ref a) (.ref s3.heap.objs.size)) (EP X pins σ Q) X.xe { s3 with heap := s3.heap.push { cls := .type "slice", data := .fields #[.none, .none, .int (-1) tk] } }
  refine tail_any (ops := [.ref a, .ref s3.heap.objs.size]) ht.typeIs PyProof.Rows.slot_tuple_getitem.lookup (Wv ht (Heap.IsSliceOf.new ..) ?_) (by with_unfolding_all rfl)
  refine ⟨.ref (s3.heap.push { cls := .type "slice", data := .fields #[.none, .none, .int (-1) tk] }).objs.size, _, I4.laid (t' := s3.toks) (o := .tup [u2, u1]) (fun b ob q => Heap.get?_push_of_some _ q) (Nat.le_refl _) ?_, rfl, q _ (I4.hok.fresh (Nat.le_refl _))⟩
  exact ⟨by rw [sizeLine_eq]; exact Nat.le_of_ble_eq_true rfl, [y2, y1], .cons ry2 (.cons ry1 .nil), IsTup.new _ _⟩
end
end L2
namespace Dl
open PySem L2
variable [KK]
noncomputable def zdN : D → Option D
  | .tup [a, b] => some (.tup [b, a])
  | _ => none
theorem zeO {X : Cx} {a st : Expr} {f : Ev → Option D} {pos p2 : Pos} (ha : ED X a f) (hst : PE X st (tUn (rU fun i => .int (-i)) (tC (.int 1)))) : ED X (.Subscript a (.Slice none none (some st) p2) pos) (eUn zdN f) := by
  obtain ⟨t, p, r⟩ := ha
  refine ⟨_, zeo p (zcw hst), fun σ ρ F H z Q s va e q => ?_⟩
  obtain ⟨d, e1, e2⟩ := Option.bind_eq_some_iff.mp e
  refine r σ ρ F H d _ s va e1 fun F1 H1 v g1 a1 => ?_
  unfold zdN at e2
  split at e2 <;> cases e2
  obtain ⟨p, xs, rfl, hx, al⟩ := a1.tup_inv
  obtain ⟨x, r1, rfl, ax, al⟩ := al.cons_inv
  obtain ⟨y, r1, rfl, ay, al⟩ := al.cons_inv
  cases al.nil_inv
  refine ⟨1, rfl, -1, rfl, p, x, y, rfl, rfl, g1.fh _ _ hx, fun n hn => ?_⟩
  have g2 := Gr.alloc g1.fh hn (.tup [y, x])
  exact q _ _ _ (g1.trans g2) (.tup zp (.cons (ay.mono g2.ff) (.cons (ax.mono g2.ff) .nil)))
end Dl
namespace L2
open PySem PySem.Spec PyProof.Rows
end L2
namespace Dl
open PySem L2
end Dl
namespace PySem
section
variable {prog : Program} {w : World} {A : Around} {R : Result → Shared → Prop} {it S : Addr} {fp wr : List Addr} {n : Nat} {P : Nat → Value → Prop} {St : Nat → Heap → Prop} {kw : List (Str × Value)}
end
end PySem
namespace PySem
open Sem (wp)
end PySem
namespace L2
open PySem PySem.Spec PyProof.Rows
section
variable {X : Cx} {e de : Expr} {p pos kp : Pos} {t : TA} {td : TE}
end
end L2
namespace Dl
open PySem L2
variable [KK]
section
variable {X : Cx} {e de : Expr} {p pos kp : Pos}
end
end Dl
namespace Dl
open PySem L2
variable [KK]
section
variable {X : Cx}
end
end Dl
namespace OwnSet
open PySem
section
variable {prog : Program} {w : World} {A : Around} {E : Value → Shared → Prop} {s : Shared}
theorem XG {l a : Addr} {items : Array Value} {val : Nat → Nat} {led : Bool} {R : Result → Shared → Prop} (hh : A.handled = none) (hS : s.heap.get? a = some { cls := .type "set", dict := none, data := .set #[] 0 (.fresh 0 0 led) })
    (hl : s.heap.IsTuple l items) (hla : l ≠ a) (h8 : ∀ i, val i < 8) (hval : ∀ (i : Nat) (v : Value), items[i]? = some v → ∃ t, v = .int (val i : Int) t)
    (h : ∀ (h' : Heap) (tk : Nat), zG h' a led (bitsTo val items.size) → (∀ b o, b ≠ a → b < s.heap.objs.size → s.heap.get? b = some o → h'.get? b = some o) → R (.ok (.ret .none)) { s with heap := h', toks := tk }) :
    wpAny (model prog w) A.in1 (Builtin.«set.__init__» ⟨[.ref a, .ref l], []⟩) (fun fin s' => match fin with | .done f => R (.ok f) s' | .again c' => c'.quiet = true ∧ codeAny (model prog w) A c' R s') (fun e s' => R (.error e) s') s := by
  have hT : s.TypeIs (.ref a) "set" := ⟨_, hS, rfl⟩
  obtain ⟨ol, hol, hcl, nl, hdl⟩ := id hl
  obtain ⟨ocls, odict, odata, oslots⟩ := ol
  simp only at hcl hdl
  subst hcl hdl
  have hsls := F.sub_tuple_set
  have hslf := F.sub_tuple_frozenset
  have hne : (Value.type "tuple" == Value.type "dict") = false := by decide
  have hlS : l < s.heap.objs.size := Heap.lt_size hol
  have haS : a < s.heap.objs.size := Heap.lt_size hS
  unfold Builtin.«set.__init__» noKeywords Builtin.Frozenset.updateFrom
  generalize hPI : pyIter = PI
  wp_walk
  subst hPI
  refine wpAny_pyIter_tuple hl ?_
  refine wpAny_bind (wpAny_runValue ?_)
  have hh3 : A.in1.in1.handled = none := by simp [hh]
  refine za9 ((Walks.tuple hh3 _ l (Nat.ne_of_lt hlS) items).toS) a led (fun hm => ?_) val h8 hval items.size 0 _ rfl (Nat.zero_le _) ⟨⟨_, Heap.get?_push_size _ rfl, rfl, rfl⟩, hl.push _⟩ (Zm _ led (Heap.get?_push_of_some _ hS)) fun s' hm hS' => ?_
  · rcases List.mem_cons.mp hm with e | e
    · exact Nat.ne_of_lt haS e
    · exact hla (List.mem_singleton.mp e).symm
  · obtain ⟨h', g', d', tk', os'⟩ := s'
    have eg : g' = s.gens := hm.gens
    have ed : d' = s.drawn := hm.drawn
    have eo : os' = s.os := hm.os
    subst eg ed eo
    show wpAny _ _ _ _ _ _
    refine wpAny_pure ?_
    show wpAny _ _ (ret Value.none) _ _ _
    refine wpAny_pure (h h' tk' hS' fun b o hb hlt e => hm.heap b o (fun hmem => ?_) (Heap.get?_push_of_some _ e))
    rcases List.mem_cons.mp hmem with z | z
    · exact hb z
    · exact Nat.ne_of_lt hlt (List.mem_singleton.mp z)
set_option maxHeartbeats 4000000 in
theorem own_call_setT {l : Addr} {items : Array Value} {val : Nat → Nat} {Q : Value → Shared → Prop} (hh : A.handled = none) (hl : s.heap.IsTuple l items) (h8 : ∀ i, val i < 8) (hval : ∀ (i : Nat) (v : Value), items[i]? = some v → ∃ t, v = .int (val i : Int) t)
    (h : ∀ (h' : Heap) (tk : Nat), zG h' s.heap.objs.size (ledOf w) (bitsTo val items.size) → (∀ b o, s.heap.get? b = some o → h'.get? b = some o) → Q (.ref s.heap.objs.size) { s with heap := h', toks := tk }) :
    wpAny (model prog w) A (call (.type "set") [.ref l]) Q E s := by
  obtain ⟨c, tl, hmro⟩ := F.called_set.mro
  have hmade := F.called_set.made
  have hsub := F.called_set.sub
  refine wpAny_call (codeAny_of_tree ?_)
  show wpAny _ _ (callAny (.type "set") _) _ _ _
  refine wpAny_pure ⟨Code.quiet_builtin _ (by decide +kernel), codeAny_builtin F.entry_type_call ?_⟩
  rw [Around.under_plain (weight_type_call_type "set" [.ref l] []) rfl]
  have h1 := F.called_set.notType
  have h2 := F.called_set.canCreate
  have hct := F.typeCall_set_1 (.ref l)
  repeat (any_goals (first | assumption | wp_step))
  refine codeAny_mono (ZD (.ref l) (E := E) (Q1 := fun obj s1 => obj = .ref s.heap.objs.size ∧ s1 = { s with heap := s.heap.push { cls := .type "set", dict := none, data := .set #[] 0 (.fresh 0 0 (ledOf w)) } }) ⟨rfl, rfl⟩) fun r s1 hr => ?_
  cases r with
  | error e => exact hr
  | ok fl =>
    cases fl with
    | ret obj =>
      obtain ⟨rfl, rfl⟩ := hr
      have hS : (s.heap.push { cls := .type "set", dict := none, data := .set #[] 0 (.fresh 0 0 (ledOf w)) }).get? s.heap.objs.size = some { cls := .type "set", dict := none, data := .set #[] 0 (.fresh 0 0 (ledOf w)) } := Heap.get?_push_size _ rfl
      have hT : Shared.TypeIs { s with heap := s.heap.push { cls := .type "set", dict := none, data := .set #[] 0 (.fresh 0 0 (ledOf w)) } } (.ref s.heap.objs.size) "set" := ⟨_, hS, rfl⟩
      have hli := F.called_set.init.lookup
      have hbi := F.called_set.init.bind (.ref s.heap.objs.size)
      repeat (any_goals (first | assumption | wp_step))
      refine codeAny_mono (codeAny_call_builtin (R := wants (fun r s2 => r = .none ∧ ∃ h' tk, s2 = { s with heap := h', toks := tk } ∧ zG h' s.heap.objs.size (ledOf w) (bitsTo val items.size) ∧ ∀ b o, s.heap.get? b = some o → h'.get? b = some o) E) F.called_set.init.plain F.entry_set_init (check_set_init_1 hT ?_)) fun r2 s2 hr2 => ?_
      · have hll : l < s.heap.objs.size := by obtain ⟨o, ho, _⟩ := hl; exact Heap.lt_size ho
        refine XG (by simp [hh]) hS (hl.push _) (Nat.ne_of_lt hll) h8 hval fun h' tk S k => ⟨rfl, h', tk, rfl, S, fun b o e => k b o (Nat.ne_of_lt (Heap.lt_size e)) ?_ (Heap.get?_push_of_some _ e)⟩
        rw [Heap.size_push]
        exact Nat.lt_succ_of_lt (Heap.lt_size e)
      · cases r2 with
        | error e => exact hr2
        | ok fl2 =>
          cases fl2 with
          | ret r =>
            obtain ⟨rfl, h', tk, rfl, S, k⟩ := hr2
            repeat (any_goals (first | assumption | wp_step))
            exact h _ _ S k
          | _ => exact hr2.elim
    | _ => exact hr.elim
end
end OwnSet
namespace L2
open PySem PySem.Spec PyProof.Rows
noncomputable def tLS (K : PySem.W.Frag) (ta : TE) : TE := fun σ H Q => ta σ H fun x H1 => ∃ a ks, x = .ref a ∧ SqT K H1 a ((ks.map fun k : Nat => (k : Int)).map V.int) ∧ (∀ k ∈ ks, k < 8) ∧ Q (.int ((zaB ks).length : Int)) H1
theorem zcE {X : Cx} {a : Expr} {ta : TE} {p1 p2 pos1 pos2 : Pos} (hc : X.calm = true) (hg1 : Gl X "len") (hm1 : X.mg "len" = none) (hb1 : bootBuiltins "len" = some (.builtin "len")) (hg2 : Gl X "set") (hm2 : X.mg "set" = none) (hb2 : bootBuiltins "set" = some (.type "set")) (ha : PE X a ta)
    (hs : starEach [a] X.env = [(false, eval a X.env)] := by rfl) (hs2 : starEach [.Call (.Name "set" p2) [a] [] pos2] X.env = [(false, eval (.Call (.Name "set" p2) [a] [] pos2) X.env)] := by rfl) : PE X (.Call (.Name "len" p1) [.Call (.Name "set" p2) [a] [] pos2] [] pos1) (tLS X.K ta) := by
  intro pins s σ H Q I h
  refine Call_ (w8 I hg1 hm1 hb1 (PyProof.Rows.callWith_builtin1 (Q := EP X pins σ Q) ?_ hs2 rfl))
  rw [hs2]
  show wpAny _ _ (spliced ((false, eval (.Call (.Name "set" p2) [a] [] pos2) X.env) :: [])) _ _ _
  refine Calls.spliced_cons ?_
  refine Call_ (w8 I hg2 hm2 hb2 (PyProof.Rows.callWith_type1 ?_ hs rfl))
  rw [hs]
  show wpAny _ _ (spliced ((false, eval a X.env) :: [])) _ _ _
  refine Calls.spliced_cons (thn (ha pins s σ H _ I h) fun v s1 hh9 => ?_)
  obtain ⟨x, H1, I1, r1, q1⟩ := hh9
  obtain ⟨t, ks, rfl, hx, hk, q⟩ := q1
  cases r1
  obtain ⟨its, rv, pt, hz⟩ := I1.tuple hx
  have hlen : its.toArray.size = ks.length := by rw [List.size_toArray, ← rv.length, List.length_map, List.length_map]
  have h8 : ∀ i, ks.getD i 0 < 8 := fun i => by
    by_cases hi : i < ks.length
    · rw [show ks.getD i 0 = ks[i] by simp [hi]]; exact hk _ (List.getElem_mem hi)
    · rw [show ks.getD i 0 = 0 by simp [Nat.le_of_not_lt hi]]; decide
  have hval : ∀ (i : Nat) (v : Value), its.toArray[i]? = some v → ∃ t, v = .int ((ks.getD i 0 : Nat) : Int) t := fun i v hv => by
    have hv' : its[i]? = some v := by simpa using hv
    have hi : i < ks.length := by have := (List.getElem?_eq_some_iff.mp hv').1; rw [List.size_toArray] at hlen; omega
    obtain ⟨u, hu, ru⟩ := rv.get (i := i) (x := V.int ((ks.getD i 0 : Nat) : Int)) (by simp [hi])
    rw [hv'] at hu
    cases hu
    obtain ⟨t, e⟩ := ru
    exact ⟨t, e⟩
  refine Calls.spliced_nil ?_
  refine OwnSet.own_call_setT (I.ok.hd hc) (show s1.heap.IsTuple t its.toArray from pt) h8 hval fun h2 tk2 hS2 k2 => ?_
  refine Calls.spliced_nil ?_
  obtain ⟨ep, tk, hS2⟩ := hS2
  have hb := OwnSet.bitsTo_lt h8 its.toArray.size
  have fz := OwnSet.fits_small ⟨_, hb⟩ (OwnSet.ledOf X.w)
  have I2 : Inv X pins σ H1 { s1 with heap := h2, toks := tk2 } := I1.kept fun b u e => k2 b u e
  refine call_len_set hS2 ⟨rfl, rfl, rfl⟩ rfl (by rw [OwnSet.esOf_size]; exact fz) (by rw [OwnSet.esOf_size]; have := OwnSet.len_small ⟨_, hb⟩; dsimp only at this; omega) ⟨.int _, H1, I2.tok _, ⟨_, rfl⟩, ?_⟩
  rw [OwnSet.esOf_size, hlen]
  exact q
end L2
namespace Dl
open PySem L2 PySem.Spec PyProof.Rows
variable [KK] {X : Cx} {e : Expr}
noncomputable def lsD : D → Option D
  | .tup ds => (wI ds).map fun ks => .int ((zaB ks).length : Int)
  | _ => none
theorem zb8 {p1 p2 pos1 pos2 : Pos} {f : Ev → Option D} (hc : X.calm = true) (hg1 : Gl X "len") (hm1 : X.mg "len" = none) (hg2 : Gl X "set") (hm2 : X.mg "set" = none) (ha : ED X e f)
    (hs : starEach [e] X.env = [(false, eval e X.env)] := by rfl) (hs2 : starEach [.Call (.Name "set" p2) [e] [] pos2] X.env = [(false, eval (.Call (.Name "set" p2) [e] [] pos2) X.env)] := by rfl) :
    ED X (.Call (.Name "len" p1) [.Call (.Name "set" p2) [e] [] pos2] [] pos1) (eUn lsD f) := by
  obtain ⟨t, pa, ra⟩ := ha
  refine ⟨_, zcE hc hg1 hm1 YR hg2 hm2 zd7 pa hs hs2, fun σ ρ F H z Q s va e q => ?_⟩
  obtain ⟨x, e1, e2⟩ := Option.bind_eq_some_iff.mp e
  refine ra σ ρ F H x _ s va e1 fun F1 H1 v g1 a1 => ?_
  cases x with
  | tup ds =>
    obtain ⟨ks, e3, rfl⟩ := Option.map_eq_some_iff.mp e2
    obtain ⟨rfl, e5⟩ := ZX e3
    obtain ⟨p, xs, rfl, hx, al⟩ := a1.tup_inv
    rw [al.of_ints] at hx
    exact ⟨p, ks, rfl, SqT.of (g1.fh _ _ hx), e5, q _ _ _ g1 .int⟩
  | _ => cases e2
end Dl
namespace Mz
open PySem Dl
noncomputable abbrev Tie := Int × Int
noncomputable def ltP (s t : Tie) : Prop := s.1 < t.1 ∨ (s.1 = t.1 ∧ s.2 < t.2)
noncomputable instance (s t : Tie) : Decidable (ltP s t) := by unfold ltP; infer_instance
theorem zbW {a b c : Tie} (h : ltP a b) (k : ltP b c) : ltP a c := by
  unfold ltP at *
  omega
noncomputable def zc (t : Tie) : D := .tup [.int t.1, .int t.2]
theorem zbG {s t : Tie} (h : zc s = zc t) : s = t := by
  unfold zc at h
  injection h with h
  injection h with h1 h2
  injection h2 with h2 _
  injection h1 with h1
  injection h2 with h2
  exact Prod.ext h1 h2
noncomputable def yK (many : Int) (ties : List Tie) : D := .tup [.int many, .tup (ties.map zc)]
set_option genInjectivity false in
set_option genSizeOf false in
set_option genCtorIdx false in
structure ww (many : Int) (ties : List Tie) : Prop where
  lo : 1 ≤ many
  hi : many ≤ 8
  rng : ∀ t ∈ ties, 0 ≤ t.1 ∧ t.1 < t.2 ∧ t.2 < many
  srt : ties.Pairwise ltP
noncomputable def leP (s t : Tie) : Bool := if s.1 = t.1 then (if s.2 = t.2 then true else decide (s.2 ≤ t.2)) else decide (s.1 ≤ t.1)
theorem Yc {s t : Tie} : leP s t = false ↔ ltP t s := by
  unfold leP ltP
  by_cases h : s.1 = t.1
  · rw [if_pos h]
    by_cases k : s.2 = t.2
    · rw [if_pos k]; simp; omega
    · rw [if_neg k, decide_eq_false_iff_not]; omega
  · rw [if_neg h, decide_eq_false_iff_not]; omega
noncomputable def vK : D → Option Tie
  | .tup [.int a, .int b] => some (a, b)
  | _ => none
theorem vi (t : Tie) : vK (zc t) = some t := rfl
theorem ZG {d : D} {t : Tie} (h : vK d = some t) : d = zc t := by
  unfold vK at h
  split at h
  · cases h; rfl
  · cases h
noncomputable def inR (m a : Int) : Bool := decide (0 ≤ a) && decide (a ≤ m - 1)
noncomputable def xx (m : Int) (d : D) : Bool := match vK d with
  | some t => inR m t.1 && inR m t.2 && !decide (t.1 = t.2)
  | none => false
noncomputable def Wc (p : Option Tie) (t : Tie) : Bool := match p with
  | some q => !leP t q
  | none => true
noncomputable def zU (m : Int) : Option Tie → List D → Bool
  | _, [] => true
  | p, d :: r => match vK d with
    | some t => xx m d && !decide (t.2 < t.1) && Wc p t && zU m (some t) r
    | none => false
noncomputable def vC (m : Int) : D → Bool
  | .tup ts => zU m none ts
  | _ => false
noncomputable def vL : D → Bool
  | .tup [.int m, t] => decide (1 ≤ m) && decide (m ≤ 8) && vC m t
  | _ => false
theorem YL (m : Int) : ∀ (ts : List D) (p : Option Tie), zU m p ts = true ↔ ∃ l : List Tie, ts = l.map zc ∧ (∀ t ∈ l, 0 ≤ t.1 ∧ t.1 < t.2 ∧ t.2 < m) ∧ (∀ q, p = some q → ∀ t ∈ l, ltP q t) ∧ l.Pairwise ltP := by
  intro ts
  induction ts with
  | nil =>
    intro p
    refine ⟨fun _ => ⟨[], rfl, by simp, by simp, .nil⟩, fun _ => rfl⟩
  | cons d r ih =>
    intro p
    unfold zU
    cases e : vK d with
    | none =>
      refine Iff.intro (fun h => nomatch h) (fun hh => ?_)
      obtain ⟨l, h, _⟩ := hh
      cases l with
      | nil => cases h
      | cons t l' =>
        rw [List.map_cons] at h
        injection h with h1 _
        rw [h1, vi] at e
        cases e
    | some t =>
      have ed := ZG e
      subst ed
      simp only [xx, vi, Bool.and_eq_true, Bool.not_eq_true', decide_eq_false_iff_not, inR, decide_eq_true_eq]
      rw [ih (some t)]
      constructor
      · rintro ⟨⟨⟨⟨⟨h1, h2⟩, h3⟩, h4⟩, h5⟩, l, rfl, hr, hq, hs⟩
        refine ⟨t :: l, rfl, ?_, ?_, List.pairwise_cons.mpr ⟨hq t rfl, hs⟩⟩
        · intro u hu
          rcases List.mem_cons.mp hu with rfl | hu
          · omega
          · exact hr u hu
        · rintro q rfl u hu
          have hqt : ltP q t := Yc.mp (by simpa [Wc] using h5)
          rcases List.mem_cons.mp hu with rfl | hu
          · exact hqt
          · exact zbW hqt (hq t rfl u hu)
      · rintro ⟨l, h, hr, hq, hs⟩
        cases l with
        | nil => cases h
        | cons u l' =>
          rw [List.map_cons] at h
          injection h with h1 h2
          have hu := zbG h1
          subst hu
          have hb := hr t (by simp)
          refine ⟨⟨⟨⟨⟨by omega, by omega⟩, by omega⟩, by omega⟩, ?_⟩, l', h2, fun v hv => hr v (by simp [hv]), fun q hqe v hv => ?_, (List.pairwise_cons.mp hs).2⟩
          · cases p with
            | none => rfl
            | some q =>
              have := Yc.mpr (hq q rfl t (by simp))
              simp [Wc, this]
          · cases hqe
            exact (List.pairwise_cons.mp hs).1 v hv
theorem Yp (d : D) : vL d = true ↔ ∃ m ties, d = yK m ties ∧ ww m ties := by
  constructor
  · intro h
    unfold vL at h
    split at h
    · rename_i m t
      simp only [Bool.and_eq_true, decide_eq_true_eq] at h
      obtain ⟨⟨h1, h2⟩, h3⟩ := h
      unfold vC at h3
      split at h3
      · rename_i ts
        obtain ⟨l, rfl, hr, _, hs⟩ := (YL m ts none).mp h3
        exact ⟨m, l, rfl, h1, h2, hr, hs⟩
      · cases h3
    · cases h
  · rintro ⟨m, ties, rfl, w⟩
    unfold yK vL vC
    simp only [Bool.and_eq_true, decide_eq_true_eq]
    exact ⟨⟨w.lo, w.hi⟩, (YL m _ none).mpr ⟨ties, rfl, w.rng, by simp, w.srt⟩⟩
theorem zef {d : D} (h : ∀ m ties, d = yK m ties → ¬ ww m ties) : vL d = false := by
  cases e : vL d with
  | false => rfl
  | true =>
    obtain ⟨m, ties, rfl, w⟩ := (Yp d).mp e
    exact absurd w (h m ties rfl)
noncomputable def yP (n : Nat) : List Tie := (List.range n).flatMap fun a => (List.range (n - (a + 1))).map fun (j : Nat) => ((a : Int), (a : Int) + 1 + (j : Int))
theorem Zo : ∀ n : Nat, n ≤ 8 → (yP n).Pairwise ltP ∧ (∀ t ∈ yP n, 0 ≤ t.1 ∧ t.1 < t.2 ∧ t.2 < (n : Int)) ∧ (yP n).length ≤ 28 := by
  have h : ∀ n : _root_.Fin 9, (yP n.val).Pairwise ltP ∧ (∀ t ∈ yP n.val, 0 ≤ t.1 ∧ t.1 < t.2 ∧ t.2 < (n.val : Int)) ∧ (yP n.val).length ≤ 28 := by decide +kernel
  exact fun n hn => h ⟨n, by omega⟩
end Mz
namespace Mz
open Dl
noncomputable def W4 (i j : Nat) : List Tie := (List.range j).map fun (k : Nat) => ((i : Int), (i : Int) + 1 + (k : Int))
noncomputable def xb (n i : Nat) : List Tie := (List.range i).flatMap fun a => W4 a (n - (a + 1))
theorem zby (n : Nat) : yP n = xb n n := rfl
theorem YK (n i : Nat) : xb n (i + 1) = xb n i ++ W4 i (n - (i + 1)) := by
  unfold xb
  rw [List.range_succ, List.flatMap_append]
  simp
theorem YS (i j : Nat) : (W4 i j).length = j := by unfold W4; simp
theorem zai (n : Nat) (hn : n ≤ 8) : ∀ i : Nat, (xb n i).length ≤ 8 * i := by
  intro i
  induction i with
  | zero => simp [xb]
  | succ i ih =>
    rw [YK, List.length_append, YS]
    omega
noncomputable def V2 (c k : Int) : Int :=
  let a := (c % 2147483647 + 977 * k + 1) * 48271 % 2147483647
  let b := a * a % 2147483629
  (b + 40692 * (k + 3)) * 69621 % 2147483647 / 8
end Mz
namespace Mz
open Dl
theorem Vq {P : Nat → Prop} : ∀ k, P k → ∃ j, P j ∧ ∀ i, P i → j ≤ i := by
  intro k
  induction k using Nat.strongRecOn with
  | _ k ih =>
    intro h
    by_cases c : ∃ i, i < k ∧ P i
    · obtain ⟨i, hi, h2⟩ := c
      exact ih i hi h2
    · exact ⟨k, h, fun i hi => Nat.le_of_not_lt fun z => c ⟨i, z, hi⟩⟩
theorem zfE {n : Nat} {i : Int} (h0 : 0 ≤ i) (h1 : i < n) : L2.ixN n i = some i.toNat := by
  unfold L2.ixN
  rw [if_pos h0, if_pos h1]
theorem zbm {α : Type} {xs : List α} {i : Int} {x : α} (h0 : 0 ≤ i) (h : xs[i.toNat]? = some x) : L2.atI xs i = some x := by
  have := (List.getElem?_eq_some_iff.mp h).1
  unfold L2.atI
  rw [zfE h0 (by omega)]
  exact h
theorem vA (ts : List Tie) : (Zf ts).Perm ts := List.mergeSort_perm _ _
theorem YQ {ts : List Tie} (h : ts.Nodup) : (Zf ts).Pairwise ltP := by
  have h1 : (Zf ts).Pairwise fun a b => zfc a b = true := List.pairwise_mergeSort (fun a b c h1 h2 => by rw [wb] at *; omega) (fun a b => by rw [Bool.or_eq_true, wb, wb]; omega) _
  have h2 : (Zf ts).Nodup := (vA ts).nodup_iff.mpr h
  refine (h1.and h2).imp fun {a b} hh => ?_
  obtain ⟨x, y⟩ := hh
  rw [wb] at x
  unfold ltP
  rcases x with x | x
  · exact .inl x
  · refine .inr ⟨x.1, ?_⟩
    have : a.2 ≠ b.2 := fun e => y (Prod.ext x.1 e)
    omega
theorem zdm {α : Type} (xs : List α) (lo hi : Option Int) : (ZS xs lo hi).length ≤ xs.length := by
  unfold ZS
  rw [List.length_take, List.length_drop]
  omega
theorem VL {a b : List D} (h : a.length + b.length ≤ 1000) : xX (.lst a) (.lst b) = some (.lst (a ++ b)) := by
  show (if lim (a.length + b.length) = true then _ else none) = _
  rw [if_pos (vY h)]
theorem vg {m : Bool} {i : Nat} {f : Ev → Option D} {ρ ρ' : SE} {d : D} (h : vEv m f ρ = some d) (h2 : ρ.set i (.v d) = ρ' := by rfl) : vb m i f ρ = .nx ρ' := by
  unfold vb
  rw [h, ← h2]
theorem zct {f : Ev → Option D} {ρ : SE} {d : D} (h : f (visG ρ) = some d) : zaU f ρ = .nx ρ := by
  unfold zaU
  rw [h]
theorem xB {f : Ev → Option D} {ρ : SE} {d : D} (h : f (visG ρ) = some d) : xJ f ρ = .rt d := by
  unfold xJ
  rw [h]
theorem Vi {i : Nat} {f : Ev → Option (List D)} {ρ ρ' : SE} {ds : List D} (h : f (visF ρ) = some ds) (h2 : ρ.set i (.o ds) = ρ' := by rfl) : WN i f ρ = .nx ρ' := by
  unfold WN
  rw [h, ← h2]
theorem Yt {a b : Int} : neD (.int a) (.int b) = some (.bl (!decide (a = b))) := rfl
theorem Y3 {a m x : Int} (h : 0 < m) (hx : a % m = x) : 0 ≤ x ∧ x < m := by
  subst hx
  exact ⟨Int.emod_nonneg _ (by omega), Int.emod_lt_of_pos _ h⟩
theorem zfL {m : Int} {n : Nat} (h : m = ((n + 1 : Nat) : Int)) (h7 : n ≤ 7) : Xa [.int 1, .int m] = some (YW 1 n) := by
  show (if zcM 1 = true ∧ zcM m = true then some (YW 1 (m - 1).toNat) else none) = _
  rw [if_pos ⟨zT.mpr ⟨by omega, by omega⟩, zT.mpr ⟨by omega, by omega⟩⟩, show (m - 1).toNat = n by omega]
theorem vz {a b : Int} : Yx (.int a) (.int b) = some (.bl (decide (a = b))) := rfl
theorem YB {a b : Bool} : Yx (.bl a) (.bl b) = some (.bl (decide (a = b))) := rfl
theorem vF {a b : PySem.Str} : Yx (.str a) (.str b) = some (.bl (decide (a = b))) := rfl
theorem wO {a b : Int} : xX (.int a) (.int b) = some (.int (a + b)) := rfl
end Mz
namespace Mz
open Dl
theorem XY {α : Type} (xs : List α) (k : Nat) : ZS xs none (some (k : Int)) = xs.take k := by
  unfold ZS
  rw [HT.sIx_none, List.drop_zero, Nat.sub_zero, HT.sIx_nat]
  by_cases h : k ≤ xs.length
  · rw [Nat.min_eq_left h]
  · rw [Nat.min_eq_right (by omega), List.take_of_length_le (Nat.le_refl _), List.take_of_length_le (by omega)]
theorem Wa {α : Type} (xs : List α) (k : Nat) : ZS xs (some (k : Int)) none = xs.drop k := by
  unfold ZS
  rw [HT.sIx_none, HT.sIx_nat]
  by_cases h : k ≤ xs.length
  · rw [Nat.min_eq_left h, List.take_of_length_le (by rw [List.length_drop]; omega)]
  · rw [Nat.min_eq_right (by omega), Nat.sub_self, List.take_zero, List.drop_of_length_le (by omega)]
section
variable {ρ : Ev} {f g h : Ev → Option D} {a : Ev → Option (List D)} {t u : Ev → Option Bool} {d e x y z : D} {ds es : List D} {b c : Bool}
theorem vd : zx ρ = some [] := rfl
theorem yx (h1 : f ρ = some d) (h2 : a ρ = some ds) : zd f a ρ = some (d :: ds) := by unfold zd; rw [h1, h2]; rfl
theorem x4 {n : Nat} {p : List D → Option D} (h1 : a ρ = some ds) (h2 : p ds = some d) (hl : ds.length = n := by rfl) : zz n p a ρ = some d := by
  unfold zz
  rw [h1, Option.bind_some, if_pos hl, h2]
theorem vh {i n : Nat} {p : List D → Option D} {σ σ' : SE} (h1 : a (visF σ) = some ds) (h2 : p ds = some d) (hl : ds.length = n := by rfl) (h3 : σ.set i (.v d) = σ' := by rfl) : vb false i (zz n p a) σ = .nx σ' := vg (show zz n p a (visF σ) = some d from x4 h1 h2 hl) h3
theorem zaK {i : Nat} {f : Ev → Option D} {σ σ' : SE} (h : f (visF σ) = some d) (h3 : σ.set i (.v d) = σ' := by rfl) : vb false i f σ = .nx σ' := vg (show f (visF σ) = some d from h) h3
theorem zZ {k : D → D → Option D} (h1 : f ρ = some x) (h2 : g ρ = some y) (h3 : k x y = some z) : zm k f g ρ = some z := by unfold zm; rw [h1, h2]; exact h3
theorem zho {k : D → Option D} (h1 : f ρ = some x) (h3 : k x = some z) : eUn k f ρ = some z := by unfold eUn; rw [h1]; exact h3
theorem vm (h1 : a ρ = some ds) : x8 a ρ = some (.lst ds) := by unfold x8; rw [h1]; rfl
theorem Vf {k : List D → Option D} (h1 : a ρ = some ds) (h2 : k ds = some d) : eFn k a ρ = some d := by unfold eFn; rw [h1]; exact h2
theorem zaY (h1 : a ρ = some ds) (hl : ds.length ≤ 1000) : wL a ρ = some ds := by unfold wL; rw [h1, Option.bind_some, if_pos (vY hl)]
theorem zg2 (h1 : f ρ = some d) (h2 : ssD d = some ds) : fSS f ρ = some ds := by unfold fSS; rw [h1]; exact h2
theorem WI (h1 : f ρ = some d) (h2 : vo d = some ds) : iOf f ρ = some ds := by unfold iOf; rw [h1]; exact h2
theorem zgI (h1 : f ρ = some (.bl b)) (h2 : g ρ = some (.bl c)) : XV f g ρ = some (.bl (b && c)) := by unfold XV; rw [h1, h2]; cases b <;> rfl
theorem vI (h1 : f ρ = some (.bl b)) : tOf f ρ = some b := by unfold tOf; rw [h1]; rfl
theorem zcF (h1 : t ρ = some b) : xY t ρ = some (!b) := by unfold xY; rw [h1]; rfl
theorem zfp (h1 : t ρ = some b) (h2 : u ρ = some c) : wR t u ρ = some (b && c) := by unfold wR; rw [h1, h2]; cases b <;> rfl
theorem zet (h1 : t ρ = some b) (h2 : u ρ = some c) : XW t u ρ = some (b || c) := by unfold XW; rw [h1, h2]; cases b <;> rfl
end
end Mz
namespace Mz
open PySem L2 Dl
noncomputable def top (i : Nat) : Stmt := PySem.Challenge.pw_twoforone_k16_whole_rings_of_tallies.main.body.getD i (.Pass ⟨0, 0, 0, 0⟩)
noncomputable abbrev y8 : Stmt := top 6
noncomputable abbrev zA : Stmt := top 7
noncomputable abbrev zD : Stmt := top 8
noncomputable abbrev xg : Stmt := top 9
noncomputable abbrev xQ : Stmt := top 11
noncomputable abbrev y9 : Stmt := top 12
noncomputable abbrev wt : Stmt := top 13
noncomputable abbrev yg : Stmt := top 14
noncomputable abbrev ye : Stmt := top 15
noncomputable abbrev xT : Stmt := top 17
noncomputable abbrev zO : Stmt := top 20
noncomputable abbrev zC : Stmt := top 21
noncomputable abbrev zK : Stmt := top 22
noncomputable abbrev wC : Stmt := top 23
noncomputable abbrev xR : Stmt := top 24
noncomputable abbrev xS : Stmt := top 25
noncomputable abbrev yr : Stmt := top 27
noncomputable abbrev yt : Stmt := top 28
noncomputable abbrev yN : Stmt := top 29
noncomputable abbrev yf : Stmt := top 30
noncomputable abbrev zE : Stmt := top 31
noncomputable abbrev zJ : Stmt := top 32
noncomputable abbrev zI : Stmt := top 33
noncomputable abbrev zL : Stmt := top 34
noncomputable abbrev zP : Stmt := top 35
noncomputable abbrev Xf : Stmt := top 36
theorem Vn : zw ["thing"] ["thing"] (zh y8) := ⟨rfl, rfl, rfl, by decide +kernel, rfl, by decide +kernel, by decide +kernel⟩
theorem v7 : zw ["thing", "least", "most"] ["thing", "least", "most"] (zh zA) := ⟨rfl, rfl, rfl, by decide +kernel, rfl, by decide +kernel, by decide +kernel⟩
theorem Yr : zw ["thing"] ["thing"] (zh zD) := ⟨rfl, rfl, rfl, by decide +kernel, rfl, by decide +kernel, by decide +kernel⟩
theorem Vv : zw ["many", "thing"] ["many", "thing"] (zh xg) := ⟨rfl, rfl, rfl, by decide +kernel, rfl, by decide +kernel, by decide +kernel⟩
theorem V7 : zw ["many", "thing"] ["many", "thing"] (zh xQ) := ⟨rfl, rfl, rfl, by decide +kernel, rfl, by decide +kernel, by decide +kernel⟩
theorem vQ : zw ["many", "thing", "at", "tie"] ["many", "thing"] (zh y9) := ⟨rfl, rfl, rfl, by decide +kernel, rfl, by decide +kernel, by decide +kernel⟩
theorem zcu : zw ["thing"] ["thing"] (zh wt) := ⟨rfl, rfl, rfl, by decide +kernel, rfl, by decide +kernel, by decide +kernel⟩
theorem ZW : zw ["thing"] ["thing"] (zh yg) := ⟨rfl, rfl, rfl, by decide +kernel, rfl, by decide +kernel, by decide +kernel⟩
theorem ZN : zw ["one", "other"] ["one", "other"] (zh ye) := ⟨rfl, rfl, rfl, by decide +kernel, rfl, by decide +kernel, by decide +kernel⟩
theorem zaJ : zw ["web", "thing"] ["web", "thing"] (zh xT) := ⟨rfl, rfl, rfl, by decide +kernel, rfl, by decide +kernel, by decide +kernel⟩
theorem ZI : zw ["web", "thing"] ["web", "thing"] (zh zO) := ⟨rfl, rfl, rfl, by decide +kernel, rfl, by decide +kernel, by decide +kernel⟩
theorem xa : zw ["web", "thing", "at", "row"] ["web", "thing"] (zh zC) := ⟨rfl, rfl, rfl, by decide +kernel, rfl, by decide +kernel, by decide +kernel⟩
theorem YY : zw ["web", "thing"] ["web", "thing"] (zh zK) := ⟨rfl, rfl, rfl, by decide +kernel, rfl, by decide +kernel, by decide +kernel⟩
theorem zb3 : zw ["places", "steps"] ["places", "steps"] (zh wC) := ⟨rfl, rfl, rfl, by decide +kernel, rfl, by decide +kernel, by decide +kernel⟩
theorem xh : zw ["steps", "places", "kept", "way", "onward"] ["steps"] (zh xR) := ⟨rfl, rfl, rfl, by decide +kernel, rfl, by decide +kernel, by decide +kernel⟩
theorem zaN : zw ["web", "tally"] ["web", "tally"] (zh xS) := ⟨rfl, rfl, rfl, by decide +kernel, rfl, by decide +kernel, by decide +kernel⟩
theorem Xp : zw ["found"] ["found"] (zh yr) := ⟨rfl, rfl, rfl, by decide +kernel, rfl, by decide +kernel, by decide +kernel⟩
theorem xL : zw ["many", "found", "a"] ["many"] (zh yt) := ⟨rfl, rfl, rfl, by decide +kernel, rfl, by decide +kernel, by decide +kernel⟩
theorem wd : zw ["cell", "k", "number"] ["cell", "k"] (zh yN) := ⟨rfl, rfl, rfl, by decide +kernel, rfl, by decide +kernel, by decide +kernel⟩
theorem xn : zw ["many", "cell", "ties", "k", "tie"] ["many", "cell"] (zh yf) := ⟨rfl, rfl, rfl, by decide +kernel, rfl, by decide +kernel, by decide +kernel⟩
theorem yu : zw ["many", "cell", "ties", "k", "tie"] ["many", "cell"] (zh zE) := ⟨rfl, rfl, rfl, by decide +kernel, rfl, by decide +kernel, by decide +kernel⟩
theorem yb : zw ["web", "cell", "most", "every", "found", "k", "step"] ["web", "cell", "most"] (zh zJ) := ⟨rfl, rfl, rfl, by decide +kernel, rfl, by decide +kernel, by decide +kernel⟩
theorem xy : zw ["web", "cell", "most", "order", "place"] ["web", "cell", "most"] (zh zI) := ⟨rfl, rfl, rfl, by decide +kernel, rfl, by decide +kernel, by decide +kernel⟩
theorem ya : zw ["tally", "left", "turn", "tails"] ["tally"] (zh zL) := ⟨rfl, rfl, rfl, by decide +kernel, rfl, by decide +kernel, by decide +kernel⟩
theorem yY : zw ["tally", "found", "heads", "one", "other"] ["tally", "found"] (zh zP) := ⟨rfl, rfl, rfl, by decide +kernel, rfl, by decide +kernel, by decide +kernel⟩
theorem Xe : zw ["script", "cell", "web", "tally", "found", "ring"] ["script"] (zh Xf) := ⟨rfl, rfl, rfl, by decide +kernel, rfl, by decide +kernel, by decide +kernel⟩
set_option genInjectivity false in
set_option genSizeOf false in
set_option genCtorIdx false in
structure Adr where
  f_is_whole : Addr
  e_is_whole : FuncData
  f_is_whole_within : Addr
  e_is_whole_within : FuncData
  f_is_place_count : Addr
  e_is_place_count : FuncData
  f_is_place : Addr
  e_is_place : FuncData
  f_is_pair : Addr
  e_is_pair : FuncData
  f_are_ties : Addr
  e_are_ties : FuncData
  f_is_web : Addr
  e_is_web : FuncData
  f_must_be_web : Addr
  e_must_be_web : FuncData
  f_tie_between : Addr
  e_tie_between : FuncData
  f_is_step : Addr
  e_is_step : FuncData
  f_is_tally_row : Addr
  e_is_tally_row : FuncData
  f_are_tally_rows : Addr
  e_are_tally_rows : FuncData
  f_must_be_tally : Addr
  e_must_be_tally : FuncData
  f_led_on : Addr
  e_led_on : FuncData
  f_ring_of : Addr
  e_ring_of : FuncData
  f_ring_in : Addr
  e_ring_in : FuncData
  f__law_whole : Addr
  e__law_whole : FuncData
  f__law_pairs : Addr
  e__law_pairs : FuncData
  f__law_stir : Addr
  e__law_stir : FuncData
  f__law_web_by : Addr
  e__law_web_by : FuncData
  f__law_joined_by : Addr
  e__law_joined_by : FuncData
  f__law_tally_by : Addr
  e__law_tally_by : FuncData
  f__law_ringless : Addr
  e__law_ringless : FuncData
  f__law_has_ring : Addr
  e__law_has_ring : FuncData
  f__law_is_ring : Addr
  e__law_is_ring : FuncData
  f_law : Addr
  e_law : FuncData
  t_MOST_PLACES : Tok
  t_MOST_TIMES : Tok
set_option genInjectivity false in
set_option genSizeOf false in
set_option genCtorIdx false in
structure Txt (K : PySem.W.Frag) (mg : Str → Option Value) (ad : Adr) : Prop where
  d_is_whole : Def K mg "is_whole" y8 ["thing"] ad.f_is_whole ad.e_is_whole
  d_is_whole_within : Def K mg "is_whole_within" zA ["thing", "least", "most"] ad.f_is_whole_within ad.e_is_whole_within
  d_is_place_count : Def K mg "is_place_count" zD ["thing"] ad.f_is_place_count ad.e_is_place_count
  d_is_place : Def K mg "is_place" xg ["many", "thing"] ad.f_is_place ad.e_is_place
  d_is_pair : Def K mg "is_pair" xQ ["many", "thing"] ad.f_is_pair ad.e_is_pair
  d_are_ties : Def K mg "are_ties" y9 ["many", "thing"] ad.f_are_ties ad.e_are_ties
  d_is_web : Def K mg "is_web" wt ["thing"] ad.f_is_web ad.e_is_web
  d_must_be_web : Def K mg "must_be_web" yg ["thing"] ad.f_must_be_web ad.e_must_be_web
  d_tie_between : Def K mg "tie_between" ye ["one", "other"] ad.f_tie_between ad.e_tie_between
  d_is_step : Def K mg "is_step" xT ["web", "thing"] ad.f_is_step ad.e_is_step
  d_is_tally_row : Def K mg "is_tally_row" zO ["web", "thing"] ad.f_is_tally_row ad.e_is_tally_row
  d_are_tally_rows : Def K mg "are_tally_rows" zC ["web", "thing"] ad.f_are_tally_rows ad.e_are_tally_rows
  d_must_be_tally : Def K mg "must_be_tally" zK ["web", "thing"] ad.f_must_be_tally ad.e_must_be_tally
  d_led_on : Def K mg "led_on" wC ["places", "steps"] ad.f_led_on ad.e_led_on
  d_ring_of : Def K mg "ring_of" xR ["steps"] ad.f_ring_of ad.e_ring_of
  d_ring_in : Def K mg "ring_in" xS ["web", "tally"] ad.f_ring_in ad.e_ring_in
  d__law_whole : Def K mg "_law_whole" yr ["found"] ad.f__law_whole ad.e__law_whole
  d__law_pairs : Def K mg "_law_pairs" yt ["many"] ad.f__law_pairs ad.e__law_pairs
  d__law_stir : Def K mg "_law_stir" yN ["cell", "k"] ad.f__law_stir ad.e__law_stir
  d__law_web_by : Def K mg "_law_web_by" yf ["many", "cell"] ad.f__law_web_by ad.e__law_web_by
  d__law_joined_by : Def K mg "_law_joined_by" zE ["many", "cell"] ad.f__law_joined_by ad.e__law_joined_by
  d__law_tally_by : Def K mg "_law_tally_by" zJ ["web", "cell", "most"] ad.f__law_tally_by ad.e__law_tally_by
  d__law_ringless : Def K mg "_law_ringless" zI ["web", "cell", "most"] ad.f__law_ringless ad.e__law_ringless
  d__law_has_ring : Def K mg "_law_has_ring" zL ["tally"] ad.f__law_has_ring ad.e__law_has_ring
  d__law_is_ring : Def K mg "_law_is_ring" zP ["tally", "found"] ad.f__law_is_ring ad.e__law_is_ring
  d_law : Def K mg "law" Xf ["script"] ad.f_law ad.e_law
  g_MOST_PLACES : mg "MOST_PLACES" = some (Value.int 8 ad.t_MOST_PLACES)
  g_MOST_TIMES : mg "MOST_TIMES" = some (Value.int 300 ad.t_MOST_TIMES)
  z_any : mg "any" = none
  z_bool : mg "bool" = none
  z_enumerate : mg "enumerate" = none
  z_int : mg "int" = none
  z_isinstance : mg "isinstance" = none
  z_len : mg "len" = none
  z_list : mg "list" = none
  z_max : mg "max" = none
  z_min : mg "min" = none
  z_range : mg "range" = none
  z_set : mg "set" = none
  z_sorted : mg "sorted" = none
  z_tuple : mg "tuple" = none
  z_zip : mg "zip" = none
theorem zg4 : (["b", "many", "found", "a"] : List Str).Nodup := by decide +kernel
theorem zhz : (["other", "many", "cell", "ties", "k", "tie"] : List Str).Nodup := by decide +kernel
theorem zgk : (["a", "b", "web", "cell", "most", "every", "found", "k", "step"] : List Str).Nodup := by decide +kernel
theorem zhx : (["place", "places", "steps"] : List Str).Nodup := by decide +kernel
theorem zhq : (["step", "place", "places", "steps"] : List Str).Nodup := by decide +kernel
theorem zf5 : (["step", "steps", "places", "kept", "way", "onward"] : List Str).Nodup := by decide +kernel
theorem zg5 : (["row", "web", "cell", "most", "order", "place"] : List Str).Nodup := by decide +kernel
theorem zhf : (["row", "web", "tally"] : List Str).Nodup := by decide +kernel
theorem zdA : (["a", "b", "tally", "left", "turn", "tails"] : List Str).Nodup := by decide +kernel
theorem zhC : (["row", "tally", "left", "turn", "tails"] : List Str).Nodup := by decide +kernel
theorem zgp : (["row", "tally", "found", "heads", "one", "other"] : List Str).Nodup := by decide +kernel
theorem zd1 : (["tie", "script", "cell", "web", "tally", "found", "ring"] : List Str).Nodup := by decide +kernel
noncomputable def XB : D → Bool
  | .int _ => true
  | _ => false
noncomputable def yj (d : D) (lo hi : Int) : Bool := match d with
  | .int i => decide (lo ≤ i) && decide (i ≤ hi)
  | _ => false
section
variable {P : Program} {w : World} {K : PySem.W.Frag} {mg : Str → Option Value} {base : Heap} {ad : Adr}
noncomputable def wB : List D → Option D
  | [d] => if noS d = true then some (.bl (XB d)) else none
  | _ => none
noncomputable def Yy : SE → Ctl :=
  (xJ (XV (eUn (wZ .int) (zf 0)) (zcW (eUn (wZ .bool) (zf 0)))))
noncomputable def zas : List D → Option D := fnD 1 Yy
theorem zgr {α : Type} {ds : List α} (h : ds.length = 1) : ∃ a, ds = [a] := by match ds, h with | [a], _ => exact ⟨a, rfl⟩
theorem ze1 {α : Type} {ds : List α} (h : ds.length = 2) : ∃ a b, ds = [a, b] := by match ds, h with | [a, b], _ => exact ⟨a, b, rfl⟩
theorem len3 {α : Type} {ds : List α} (h : ds.length = 3) : ∃ a b c, ds = [a, b, c] := by match ds, h with | [a, b, c], _ => exact ⟨a, b, c, rfl⟩
theorem ifS {c : Bool} {x y : D} (h : (if c = true then some x else none) = some y) : c = true ∧ x = y := by
  split at h
  · cases h
    exact ⟨by assumption, rfl⟩
  · cases h
theorem WR : ∀ ds d, ds.length = 1 → wB ds = some d → zas ds = some d := by
  intro ds d hl h
  obtain ⟨a, rfl⟩ := zgr hl
  obtain ⟨hn, rfl⟩ := ifS h
  cases a <;> first | rfl | cases hn
theorem Vx (T : Txt K mg ad) : x6 P w K mg base CX0 1 ad.f_is_whole ad.e_is_whole ["thing"] (@spD ⟨K⟩ 1 wB) := by
  letI : KK := ⟨K⟩
  refine vq (xt (N := ["thing"]) (ps := ["thing"]) T.d_is_whole.fn Vn (g := Yy) fun cdv A outer s H E hr => ?_) WR
  unfold Yy
  exact (zj (zy (Ye (yy .int rfl T.z_isinstance (za 0 (pv 0)) (wl (v := .ty "int") rfl T.z_int zdV rfl)) (YG (zdU (yy .bool rfl T.z_isinstance (za 0 (pv 0)) (wl (v := .ty "bool") rfl T.z_bool zaV rfl)))))))
noncomputable def zN : SE → Ctl :=
  (xJ (XV (zz 1 wB (zd (zf 0) zx)) (Ya leD leD (zf 1) (zf 0) (zf 2))))
noncomputable def wu : List D → Option D := fnD 3 zN
noncomputable def zo : List D → Option D
  | [d, .int lo, .int hi] => if noS d = true then some (.bl (yj d lo hi)) else none
  | _ => none
theorem Xk {a : D} {lo hi : Int} (hn : noS a = true) (hw : XB a = false) : wu [a, .int lo, .int hi] = some (.bl false) := by
  have e : wB [a] = some (.bl false) := by
    show (if noS a = true then some (D.bl (XB a)) else none) = _
    rw [if_pos hn, hw]
  refine Vm (ρ := [.v a, .v (.int lo), .v (.int hi)]) rfl ?_
  unfold zN
  refine Y8 (xB ?_) rfl
  show (((wB [a]).bind asB).bind fun c => if c = true then _ else some (D.bl false)) = _
  rw [e]
  rfl
theorem Yb : ∀ ds d, ds.length = 3 → zo ds = some d → wu ds = some d := by
  intro ds d hl h
  obtain ⟨a, b, c, rfl⟩ := len3 hl
  cases b <;> try cases h
  cases c <;> try cases h
  rename_i lo hi
  obtain ⟨hn, rfl⟩ := ifS h
  cases a with
  | scr _ => cases hn
  | int i =>
    refine Vm (ρ := [.v (.int i), .v (.int lo), .v (.int hi)]) rfl ?_
    unfold zN
    refine Y8 (xB ?_) rfl
    show (if decide (lo ≤ i) = true then some (D.bl (decide (i ≤ hi))) else some (.bl false)) = some (.bl (decide (lo ≤ i) && decide (i ≤ hi)))
    cases decide (lo ≤ i) <;> rfl
  | tup es => exact Xk hn rfl
  | lst es => exact Xk hn rfl
  | dct z t ks vs => exact Xk hn rfl
  | non => rfl
  | bl _ => rfl
  | str _ => rfl
theorem yZ (T : Txt K mg ad) : x6 P w K mg base CX0 2 ad.f_is_whole_within ad.e_is_whole_within ["thing", "least", "most"] (@spD ⟨K⟩ 3 zo) := by
  letI : KK := ⟨K⟩
  have G_is_whole := Vx (P := P) (w := w) (base := base) T
  refine vq (xt (N := ["thing", "least", "most"]) (ps := ["thing", "least", "most"]) T.d_is_whole_within.fn v7 (g := zN) fun cdv A outer s H E hr => ?_) Yb
  unfold zN
  exact (zj (zy (Ye (zq (G_is_whole.mono (by decide)) hr rfl T.d_is_whole.at_ T.d_is_whole.kp T.d_is_whole.bd (zb (za 0 (pv 0)) zi)) (YG (zdI zdP zdP we we (za 1 (pv 1)) (za 0 (pv 0)) (za 2 (pv 2)) (fun a b c => zdq zdP zdP a b c))))))
noncomputable def yE : SE → Ctl :=
  (xJ (zz 3 zo (zd (zf 0) (zd (eC (.int 1)) (zd (eC (.int 8)) zx)))))
noncomputable def xA : List D → Option D := fnD 1 yE
noncomputable def zY : List D → Option D
  | [d] => if noS d = true then some (.bl (yj d 1 8)) else none
  | _ => none
theorem Yq : ∀ ds d, ds.length = 1 → zY ds = some d → xA ds = some d := by
  intro ds d hl h
  obtain ⟨a, rfl⟩ := zgr hl
  have e : xA [a] = zo [a, .int 1, .int 8] := by
    cases h2 : zo [a, .int 1, .int 8] <;> simp [xA, yE, fnD, yL, xJ, V6, sIf, vb, zaU, sNo, yO, zfe, WN, WY, zfa, ze9, vEv, visF, visG, Sl.f, Sl.g, zf, eC, zm, XV, eOr, zcW, eIf, eUn, zdO, YO, x8, wL, zd, zx, zz, eFn, fFn, tOf, wR, XW, xY, asB, asI, wO, zcN, ZK, wn, x5, zaP, Zr, ltD, leD, gtD, geD, zbt, vz, YB, vF, Yt, zfb, wU, ixD, Z2, wZ, isT, eSl, yV, yG, Ya, vo, iOf, WA, vG, zcK, WP, Xa, vv, ZM, fLC, yT, xI, Zy, xZ, zaL, vf, zaO, b1, b2, h2]
  rw [e]
  exact h
theorem YD (T : Txt K mg ad) : x6 P w K mg base CX0 3 ad.f_is_place_count ad.e_is_place_count ["thing"] (@spD ⟨K⟩ 1 zY) := by
  letI : KK := ⟨K⟩
  have G_is_whole_within := yZ (P := P) (w := w) (base := base) T
  refine vq (xt (N := ["thing"]) (ps := ["thing"]) T.d_is_place_count.fn Yr (g := yE) fun cdv A outer s H E hr => ?_) Yq
  unfold yE
  exact (zj (zy (zq (G_is_whole_within.mono (by decide)) hr rfl T.d_is_whole_within.at_ T.d_is_whole_within.kp T.d_is_whole_within.bd (zb (za 0 (pv 0)) (zb (ze zg) (zb (ze (zb7 (v := .int 8) rfl T.g_MOST_PLACES ⟨_, rfl⟩)) zi))))))
noncomputable def vE : SE → Ctl :=
  (xJ (zz 3 zo (zd (zf 1) (zd (eC (.int 0)) (zd (zm zcN (zf 0) (eC (.int 1))) zx)))))
noncomputable def YC : List D → Option D := fnD 2 vE
noncomputable def yJ : List D → Option D
  | [.int m, d] => if noS d = true then some (.bl (yj d 0 (m - 1))) else none
  | _ => none
theorem Vr : ∀ ds d, ds.length = 2 → yJ ds = some d → YC ds = some d := by
  intro ds d hl h
  obtain ⟨a, b, rfl⟩ := ze1 hl
  cases a <;> try cases h
  rename_i m
  have e : YC [.int m, b] = zo [b, .int 0, .int (m - 1)] := by
    cases h2 : zo [b, .int 0, .int (m - 1)] <;> simp [YC, vE, fnD, yL, xJ, V6, sIf, vb, zaU, sNo, yO, zfe, WN, WY, zfa, ze9, vEv, visF, visG, Sl.f, Sl.g, zf, eC, zm, XV, eOr, zcW, eIf, eUn, zdO, YO, x8, wL, zd, zx, zz, eFn, fFn, tOf, wR, XW, xY, asB, asI, wO, zcN, ZK, wn, x5, zaP, Zr, ltD, leD, gtD, geD, zbt, vz, YB, vF, Yt, zfb, wU, ixD, Z2, wZ, isT, eSl, yV, yG, Ya, vo, iOf, WA, vG, zcK, WP, Xa, vv, ZM, fLC, yT, xI, Zy, xZ, zaL, vf, zaO, b1, b2, h2]
  rw [e]
  exact h
theorem W6 (T : Txt K mg ad) : x6 P w K mg base CX0 3 ad.f_is_place ad.e_is_place ["many", "thing"] (@spD ⟨K⟩ 2 yJ) := by
  letI : KK := ⟨K⟩
  have G_is_whole_within := yZ (P := P) (w := w) (base := base) T
  refine vq (xt (N := ["many", "thing"]) (ps := ["many", "thing"]) T.d_is_place.fn Vv (g := vE) fun cdv A outer s H E hr => ?_) Vr
  unfold vE
  exact (zj (zy (zq (G_is_whole_within.mono (by decide)) hr rfl T.d_is_whole_within.at_ T.d_is_whole_within.kp T.d_is_whole_within.bd (zb (za 1 (pv 1)) (zb (ze zg) (zb (zci (za 0 (pv 0)) (ze zg)) zi))))))
theorem zeG {d : D} {lo hi : Int} (h : ∀ i, d ≠ .int i) : yj d lo hi = false := by
  cases d <;> first | rfl | exact absurd rfl (h _)
theorem XZ {d : D} {lo hi : Int} (h : yj d lo hi = true) : ∃ i, d = .int i := by
  cases d with
  | int i => exact ⟨i, rfl⟩
  | _ => cases h
noncomputable def vX : SE → Ctl :=
  (yL (sIf (XW (xY (tOf (eUn (wZ .tuple) (zf 1)))) (tOf (zm neD (eFn Z2 (zd (zf 1) zx)) (eC (.int 2))))) (xJ (eC (.bl false))) yO)
    (xJ (XV (zz 2 yJ (zd (zf 0) (zd (zm ixD (zf 1) (eC (.int 0))) zx))) (XV (zz 2 yJ (zd (zf 0) (zd (zm ixD (zf 1) (eC (.int 1))) zx))) (zm neD (zm ixD (zf 1) (eC (.int 0))) (zm ixD (zf 1) (eC (.int 1))))))))
noncomputable def zbX : List D → Option D := fnD 2 vX
noncomputable def yo : List D → Option D
  | [.int m, d] => if noS d = true then some (.bl (xx m d)) else none
  | _ => none
theorem zds {m : Int} {x y : D} (h : yj x 0 (m - 1) = false) : xx m (.tup [x, y]) = false := by
  cases x with
  | int i =>
    cases y with
    | int j =>
      show (inR m i && inR m j && !decide (i = j)) = false
      rw [show inR m i = false from h]
      rfl
    | _ => rfl
  | _ => rfl
theorem zdp {m : Int} {x y : D} (h : yj y 0 (m - 1) = false) : xx m (.tup [x, y]) = false := by
  cases x with
  | int i =>
    cases y with
    | int j =>
      show (inR m i && inR m j && !decide (i = j)) = false
      rw [show inR m j = false from h, Bool.and_false]
      rfl
    | _ => rfl
  | _ => rfl
theorem zag : ∀ ds d, ds.length = 2 → yo ds = some d → zbX ds = some d := by
  intro ds d hl h
  obtain ⟨a, b, rfl⟩ := ze1 hl
  cases a <;> try cases h
  rename_i m
  obtain ⟨hn, rfl⟩ := ifS h
  clear h
  cases b with
  | tup es =>
    refine Vm (ρ := [.v (.int m), .v (.tup es)]) rfl ?_
    unfold vX
    by_cases hl : es.length = 2
    · obtain ⟨x, y, rfl⟩ := ze1 hl
      have hx : noS x = true := vx (ds := [x, y]) (i := 0) hn rfl
      have hy : noS y = true := vx (ds := [x, y]) (i := 1) hn rfl
      have e0 : yJ [.int m, x] = some (.bl (yj x 0 (m - 1))) := by
        show (if noS x = true then some (D.bl (yj x 0 (m - 1))) else none) = _
        rw [if_pos hx]
      have e1 : yJ [.int m, y] = some (.bl (yj y 0 (m - 1))) := by
        show (if noS y = true then some (D.bl (yj y 0 (m - 1))) else none) = _
        rw [if_pos hy]
      refine zR (ρ' := [.v (.int m), .v (.tup [x, y])]) rfl (Y8 (xB ?_) rfl)
      show (((yJ [.int m, x]).bind asB).bind fun c => if c = true then (((yJ [.int m, y]).bind asB).bind fun c => if c = true then neD x y else some (D.bl false)) else some (D.bl false)) = _
      rw [e0, e1]
      cases h1 : yj x 0 (m - 1) with
      | false => rw [zds h1]; rfl
      | true =>
        cases h2 : yj y 0 (m - 1) with
        | false => rw [zdp h2]; rfl
        | true =>
          obtain ⟨i, rfl⟩ := XZ h1
          obtain ⟨j, rfl⟩ := XZ h2
          show some (D.bl (!decide (i = j))) = some (.bl (inR m i && inR m j && !decide (i = j)))
          rw [show inR m i = true from h1, show inR m j = true from h2]
          rfl
    · have e : xx m (.tup es) = false := by
        unfold xx vK
        split
        · rename_i t ht
          split at ht
          · rename_i e'
            injection e' with e'
            rw [e'] at hl
            exact absurd rfl hl
          · cases ht
        · rfl
      rw [e]
      refine xM (YZ (c := true) ?_ (fun _ => Y8 rfl rfl) fun z => by cases z)
      show some (!decide ((es.length : Int) = 2)) = _
      rw [decide_eq_false (show ¬ (es.length : Int) = 2 from fun h => hl (Int.ofNat.inj h))]
      rfl
  | scr _ => cases hn
  | _ => rfl
theorem Z8 (T : Txt K mg ad) : x6 P w K mg base CX0 4 ad.f_is_pair ad.e_is_pair ["many", "thing"] (@spD ⟨K⟩ 2 yo) := by
  letI : KK := ⟨K⟩
  have G_is_place := W6 (P := P) (w := w) (base := base) T
  refine vq (xt (N := ["many", "thing"]) (ps := ["many", "thing"]) T.d_is_pair.fn V7 (g := vX) fun cdv A outer s H E hr => ?_) zag
  unfold vX
  exact (zk (xW (zcB (Vy (wq (xF (yy .tuple rfl T.z_isinstance (za 1 (pv 1)) (wl (v := .ty "tuple") rfl T.z_tuple yD rfl)))) (Xd (zQ zbR WB (zX _) (xq ym vS rfl T.z_len YR (zb (za 1 (pv 1)) zi)) (ze zg))))) (zj (zy (wJ wN))) zH)
      (zj (zy (Ye (zq (G_is_place.mono (by decide)) hr rfl T.d_is_place.at_ T.d_is_place.kp T.d_is_place.bd (zb (za 0 (pv 0)) (zb (yi (za 1 (pv 1)) (ze zg) (fun _ _ => rfl)) zi))) (Ye (zq (G_is_place.mono (by decide)) hr rfl T.d_is_place.at_ T.d_is_place.kp T.d_is_place.bd (zb (za 0 (pv 0)) (zb (yi (za 1 (pv 1)) (ze zg) (fun _ _ => rfl)) zi))) (YG (Wl zbR WB (zX _) (yi (za 1 (pv 1)) (ze zg) (fun _ _ => rfl)) (yi (za 1 (pv 1)) (ze zg) (fun _ _ => rfl)))))))))
end
section
variable {P : Program} {w : World} {K : PySem.W.Frag} {mg : Str → Option Value} {base : Heap} {ad : Adr}
noncomputable def WJ (ds : List D) : Nat → Option Tie
  | 0 => none
  | k + 1 => (ds[k]?).bind vK
noncomputable def ve : SE → Ctl :=
  (yL (sIf (XW (xY (tOf (zz 2 yo (zd (zf 0) (zd (zf 3) zx))))) (tOf (zm gtD (zm ixD (zf 3) (eC (.int 0))) (zm ixD (zf 3) (eC (.int 1)))))) (xJ (eC (.bl false))) yO)
    (sIf (wR (tOf (zm gtD (zf 2) (eC (.int 0)))) (tOf (zm leT (zf 3) (zm ixD (zf 1) (zm zcN (zf 2) (eC (.int 1))))))) (xJ (eC (.bl false))) yO))
noncomputable def wy : SE → Ctl :=
  (yL (sIf (xY (tOf (eUn (wZ .tuple) (zf 1)))) (xJ (eC (.bl false))) yO)
    (yL (WA (vv (zd (zf 1) zx)) (zaL 2 (vf (xZ 2) (vf (xZ 3) zaO))) ve)
    (xJ (eC (.bl true)))))
noncomputable def zap : List D → Option D := fnD 4 wy
noncomputable def wA : List D → Option D
  | [.int m, d] => if noS d = true then some (.bl (vC m d)) else none
  | _ => none
theorem ZL {m : Int} {d : D} (h : xx m d = true) : ∃ t, d = zc t := by
  unfold xx at h
  split at h
  · rename_i t ht
    exact ⟨t, ZG ht⟩
  · cases h
theorem WT : ∀ ds d, ds.length = 2 → wA ds = some d → zap ds = some d := by
  intro ds d hl h
  obtain ⟨a, b, rfl⟩ := ze1 hl
  cases a <;> try cases h
  rename_i m
  obtain ⟨hn, rfl⟩ := ifS h
  clear h hl
  cases b with
  | scr _ => cases hn
  | tup es =>
    refine Vm (g := wy) rfl ?_
    unfold wy
    refine zR rfl ?_
    refine xM (W7 (ds := YX 0 es) (fun i ρ => ∃ o1 o2, ρ = [.v (.int m), .v (.tup es), o1, o2] ∧ zU m none es = zU m (WJ es i) (es.drop i) ∧ ∀ k, i = k + 1 → ∃ p, es[k]? = some (zc p)) rfl
      ⟨.no, .no, rfl, rfl, fun k e => by cases e⟩ ?_ ?_)
    · rintro i d ρ hd ⟨o1, o2, rfl, hp, hk⟩
      rw [wE] at hd
      obtain ⟨dx, hdx, rfl⟩ := Option.map_eq_some_iff.mp hd
      rw [Nat.zero_add]
      refine ⟨_, rfl, ?_⟩
      have hdrop : es.drop i = dx :: es.drop (i + 1) := by
        obtain ⟨h1, h2⟩ := List.getElem?_eq_some_iff.mp hdx
        rw [List.drop_eq_getElem_cons h1, h2]
      have hnx : noS dx = true := vx hn hdx
      unfold ve
      cases hpr : xx m dx with
      | false =>
        have e1 : yo [.int m, dx] = some (.bl false) := by
          show (if noS dx = true then some (D.bl (xx m dx)) else none) = _
          rw [if_pos hnx, hpr]
        refine xM (YZ (c := true) (show (((yo [.int m, dx]).bind asB).map (!·)).bind (fun c => if c = true then some true else _) = _ by rw [e1]; rfl) (fun _ => Y8 rfl ?_) (fun z => by cases z))
        have e : zU m none es = false := by
          rw [hp, hdrop]
          unfold zU
          split
          · rw [hpr]; rfl
          · rfl
        show D.bl false = .bl (zU m none es)
        rw [e]
      | true =>
        obtain ⟨t, rfl⟩ := ZL hpr
        have e1 : yo [.int m, zc t] = some (.bl true) := by
          show (if noS (zc t) = true then some (D.bl (xx m (zc t))) else none) = _
          rw [if_pos hnx, hpr]
        have step : zU m none es = (!decide (t.2 < t.1) && Wc (WJ es i) t && zU m (some t) (es.drop (i + 1))) := by
          rw [hp, hdrop]
          conv => lhs; unfold zU
          rw [vi, hpr]
          rfl
        have prevS : WJ es (i + 1) = some t := by
          show (es[i]?).bind vK = some t
          rw [hdx]
          rfl
        refine xM (YZ (c := decide (t.2 < t.1)) (show (((yo [.int m, zc t]).bind asB).map (!·)).bind (fun c => if c = true then some true else some (decide (t.2 < t.1))) = _ by rw [e1]; rfl) (fun c => Y8 rfl ?_) (fun c => vZ rfl ?_))
        · show D.bl false = .bl (zU m none es)
          rw [step, c]
          rfl
        · cases i with
          | zero =>
            refine YZ (c := false) rfl (fun z => by cases z) (fun _ => vZ rfl ?_)
            refine ⟨_, _, rfl, ?_, fun k e => ?_⟩
            · rw [prevS, step, c]
              rfl
            · cases e
              exact ⟨t, hdx⟩
          | succ j =>
            obtain ⟨p, hpk⟩ := hk j rfl
            have prevK : WJ es (j + 1) = some p := by
              show (es[j]?).bind vK = some p
              rw [hpk]
              rfl
            rw [prevK] at step
            have ea : atI es ((((j + 1 : Nat) : Int)) - 1) = some (zc p) := by
              rw [show (((j + 1 : Nat) : Int)) - 1 = (j : Nat) from Int.add_sub_cancel (j : Int) 1]
              exact ze3 hpk
            have okP : Wc (some p) t = !leP t p := rfl
            refine YZ (c := leP t p) ?_ (fun c2 => Y8 rfl ?_) (fun c2 => vZ rfl ?_)
            · have z : decide ((0 : Int) < ((j + 1 : Nat) : Int)) = true := decide_eq_true (Int.natCast_pos.mpr (Nat.succ_pos j))
              show ((some (decide ((0 : Int) < ((j + 1 : Nat) : Int)))).bind fun c => if c = true then (((atI es (((j + 1 : Nat) : Int) - 1)).bind fun y => leT (zc t) y).bind asB) else some false) = _
              rw [z, ea]
              rfl
            · show D.bl false = .bl (zU m none es)
              rw [step, okP, c2, c]
              rfl
            · refine ⟨_, _, rfl, ?_, fun k' e => ?_⟩
              · rw [prevS, step, okP, c2, c]
                rfl
              · cases e
                exact ⟨t, hdx⟩
    · rintro ρ ⟨o1, o2, rfl, hp, hk⟩
      refine Y8 rfl ?_
      show D.bl true = .bl (zU m none es)
      rw [hp, wc, List.drop_length]
      cases WJ es es.length <;> rfl
  | _ => rfl
theorem Vb (T : Txt K mg ad) : x6 P w K mg base CX0 5 ad.f_are_ties ad.e_are_ties ["many", "thing"] (@spD ⟨K⟩ 2 wA) := by
  letI : KK := ⟨K⟩
  have G_is_pair := Z8 (P := P) (w := w) (base := base) T
  refine vq (xt (N := ["many", "thing", "at", "tie"]) (ps := ["many", "thing"]) T.d_are_ties.fn vQ (g := wy) fun cdv A outer s H E hr => ?_) WT
  unfold wy ve
  exact (zk (xW (wq (xF (yy .tuple rfl T.z_isinstance (za 1 (pv 1)) (wl (v := .ty "tuple") rfl T.z_tuple yD rfl)))) (zj (zy (wJ wN))) zH)
      (zk (ZH PassesOwn.never rfl (Xn rfl T.z_enumerate wg (zb (za 1 (pv 1)) zi)) (WE rfl (xr (yw (zt (i := 2) vQ.nd rfl (Or.inl rfl))) (xr (yw (zt (i := 3) vQ.nd rfl (Or.inl rfl))) Zh))) (zk (xW (zcB (Vy (wq (xF (zq (G_is_pair.mono (by decide)) hr rfl T.d_is_pair.at_ T.d_is_pair.kp T.d_is_pair.bd (zb (za 0 (pv 0)) (zb (za 3 (pv 3)) zi))))) (Xd (zQ zeW we (zX _) (yi (za 3 (pv 3)) (ze zg) (fun _ _ => rfl)) (yi (za 3 (pv 3)) (ze zg) (fun _ _ => rfl)))))) (zj (zy (wJ wN))) zH)
      (zj (xW (zcB (Wn (zQ zeW we (zX _) (za 2 (pv 2)) (ze zg)) (Zg (zQ (zd4 hr.units0) zbE (zX _) (za 3 (pv 3)) (yi (za 1 (pv 1)) (zci (za 2 (pv 2)) (ze zg)) (fun _ _ => rfl)))))) (zj (zy (wJ wN))) zH))))
      (zj (zy (wJ wN)))))
noncomputable def vB : SE → Ctl :=
  (yL (sIf (XW (xY (tOf (eUn (wZ .tuple) (zf 0)))) (tOf (zm neD (eFn Z2 (zd (zf 0) zx)) (eC (.int 2))))) (xJ (eC (.bl false))) yO)
    (xJ (XV (zz 1 zY (zd (zm ixD (zf 0) (eC (.int 0))) zx)) (zz 2 wA (zd (zm ixD (zf 0) (eC (.int 0))) (zd (zm ixD (zf 0) (eC (.int 1))) zx))))))
noncomputable def Y1 : List D → Option D := fnD 1 vB
noncomputable def vV : List D → Option D
  | [d] => if noS d = true then some (.bl (vL d)) else none
  | _ => none
theorem zbD {x y : D} : vL (.tup [x, y]) = (yj x 1 8 && match x with | .int m => vC m y | _ => false) := by
  cases x <;> rfl
theorem zcp : ∀ ds d, ds.length = 1 → vV ds = some d → Y1 ds = some d := by
  intro ds d hl h
  obtain ⟨a, rfl⟩ := zgr hl
  obtain ⟨hn, rfl⟩ := ifS h
  clear h hl
  cases a with
  | scr _ => cases hn
  | tup es =>
    by_cases hl : es.length = 2
    · obtain ⟨x, y, rfl⟩ := ze1 hl
      have hx : noS x = true := vx (ds := [x, y]) (i := 0) hn rfl
      have hy : noS y = true := vx (ds := [x, y]) (i := 1) hn rfl
      have ec : zY [x] = some (.bl (yj x 1 8)) := by simp [zY, hx]
      rw [zbD]
      by_cases ix : ∃ i, x = .int i
      · obtain ⟨i, rfl⟩ := ix
        have et : wA [.int i, y] = some (.bl (vC i y)) := by simp [wA, hy]
        cases hc : yj (.int i) 1 8 <;> rw [hc] at ec <;> simp [Y1, vB, fnD, yL, xJ, V6, sIf, vb, zaU, sNo, yO, zfe, WN, WY, zfa, ze9, vEv, visF, visG, Sl.f, Sl.g, zf, eC, zm, XV, eOr, zcW, eIf, eUn, zdO, YO, x8, wL, zd, zx, zz, eFn, fFn, tOf, wR, XW, xY, asB, asI, wO, zcN, ZK, wn, x5, zaP, Zr, ltD, leD, gtD, geD, zbt, vz, YB, vF, Yt, zfb, wU, ixD, Z2, wZ, isT, eSl, yV, yG, Ya, vo, iOf, WA, vG, zcK, WP, Xa, vv, ZM, fLC, yT, xI, Zy, xZ, zaL, vf, zaO, b1, b2, ec, et, atI, ixN]
      · have n2 : yj x 1 8 = false := zeG fun j hj => ix ⟨j, hj⟩
        rw [n2] at ec ⊢
        simp [Y1, vB, fnD, yL, xJ, V6, sIf, vb, zaU, sNo, yO, zfe, WN, WY, zfa, ze9, vEv, visF, visG, Sl.f, Sl.g, zf, eC, zm, XV, eOr, zcW, eIf, eUn, zdO, YO, x8, wL, zd, zx, zz, eFn, fFn, tOf, wR, XW, xY, asB, asI, wO, zcN, ZK, wn, x5, zaP, Zr, ltD, leD, gtD, geD, zbt, vz, YB, vF, Yt, zfb, wU, ixD, Z2, wZ, isT, eSl, yV, yG, Ya, vo, iOf, WA, vG, zcK, WP, Xa, vv, ZM, fLC, yT, xI, Zy, xZ, zaL, vf, zaO, b1, b2, ec, atI, ixN]
    · have e : vL (.tup es) = false := zef fun m ties h _ => by
        unfold yK at h
        injection h with h
        rw [h] at hl
        exact hl rfl
      rw [e]
      have : ¬ (es.length : Int) = 2 := by omega
      simp [Y1, vB, fnD, yL, xJ, V6, sIf, vb, zaU, sNo, yO, zfe, WN, WY, zfa, ze9, vEv, visF, visG, Sl.f, Sl.g, zf, eC, zm, XV, eOr, zcW, eIf, eUn, zdO, YO, x8, wL, zd, zx, zz, eFn, fFn, tOf, wR, XW, xY, asB, asI, wO, zcN, ZK, wn, x5, zaP, Zr, ltD, leD, gtD, geD, zbt, vz, YB, vF, Yt, zfb, wU, ixD, Z2, wZ, isT, eSl, yV, yG, Ya, vo, iOf, WA, vG, zcK, WP, Xa, vv, ZM, fLC, yT, xI, Zy, xZ, zaL, vf, zaO, b1, b2, this]
  | _ => rfl
theorem zbx (T : Txt K mg ad) : x6 P w K mg base CX0 6 ad.f_is_web ad.e_is_web ["thing"] (@spD ⟨K⟩ 1 vV) := by
  letI : KK := ⟨K⟩
  have G_is_place_count := YD (P := P) (w := w) (base := base) T
  have G_are_ties := Vb (P := P) (w := w) (base := base) T
  refine vq (xt (N := ["thing"]) (ps := ["thing"]) T.d_is_web.fn zcu (g := vB) fun cdv A outer s H E hr => ?_) zcp
  unfold vB
  exact (zk (xW (zcB (Vy (wq (xF (yy .tuple rfl T.z_isinstance (za 0 (pv 0)) (wl (v := .ty "tuple") rfl T.z_tuple yD rfl)))) (Xd (zQ zbR WB (zX _) (xq ym vS rfl T.z_len YR (zb (za 0 (pv 0)) zi)) (ze zg))))) (zj (zy (wJ wN))) zH)
      (zj (zy (Ye (zq (G_is_place_count.mono (by decide)) hr rfl T.d_is_place_count.at_ T.d_is_place_count.kp T.d_is_place_count.bd (zb (yi (za 0 (pv 0)) (ze zg) (fun _ _ => rfl)) zi)) (YG (zq (G_are_ties.mono (by decide)) hr rfl T.d_are_ties.at_ T.d_are_ties.kp T.d_are_ties.bd (zb (yi (za 0 (pv 0)) (ze zg) (fun _ _ => rfl)) (zb (yi (za 0 (pv 0)) (ze zg) (fun _ _ => rfl)) zi))))))))
theorem zes (m : Int) (ts : List Tie) : noS (yK m ts) = true := by
  have : ∀ ts : List Tie, zd3 (ts.map zc) = true := by
    intro ts
    induction ts with
    | nil => rfl
    | cons t ts ih => show (noS (zc t) && zd3 (ts.map zc)) = true; rw [ih]; rfl
  show (noS (.int m) && (noS (.tup (ts.map zc)) && true)) = true
  rw [show noS (.tup (ts.map zc)) = zd3 (ts.map zc) from rfl, this ts]
  rfl
noncomputable def xP : SE → Ctl :=
  (sIf (xY (tOf (zz 1 vV (zd (zf 0) zx)))) sNo yO)
noncomputable def Yh : List D → Option D := fnD 1 xP
noncomputable def yX : List D → Option D
  | [d] => if vL d = true then some .non else none
  | _ => none
theorem ZU : ∀ ds d, ds.length = 1 → yX ds = some d → Yh ds = some d := by
  intro ds d hl h
  obtain ⟨a, rfl⟩ := zgr hl
  obtain ⟨hw, rfl⟩ := ifS h
  obtain ⟨m, ts, rfl, _⟩ := (Yp a).mp hw
  have e : vV [yK m ts] = some (.bl true) := by simp [vV, zes m ts, hw]
  simp [Yh, xP, fnD, yL, xJ, V6, sIf, vb, zaU, sNo, yO, zfe, WN, WY, zfa, ze9, vEv, visF, visG, Sl.f, Sl.g, zf, eC, zm, XV, eOr, zcW, eIf, eUn, zdO, YO, x8, wL, zd, zx, zz, eFn, fFn, tOf, wR, XW, xY, asB, asI, wO, zcN, ZK, wn, x5, zaP, Zr, ltD, leD, gtD, geD, zbt, vz, YB, vF, Yt, zfb, wU, ixD, Z2, wZ, isT, eSl, yV, yG, Ya, vo, iOf, WA, vG, zcK, WP, Xa, vv, ZM, fLC, yT, xI, Zy, xZ, zaL, vf, zaO, b1, b2, e]
theorem ZQ (T : Txt K mg ad) : x6 P w K mg base CX0 7 ad.f_must_be_web ad.e_must_be_web ["thing"] (@spD ⟨K⟩ 1 yX) := by
  letI : KK := ⟨K⟩
  have G_is_web := zbx (P := P) (w := w) (base := base) T
  refine vq (xt (N := ["thing"]) (ps := ["thing"]) T.d_must_be_web.fn ZW (g := xP) fun cdv A outer s H E hr => ?_) ZU
  unfold xP
  exact (zj (xW (wq (xF (zq (G_is_web.mono (by decide)) hr rfl T.d_is_web.at_ T.d_is_web.kp T.d_is_web.bd (zb (za 0 (pv 0)) zi)))) (zj V1) zH))
end
section
variable {P : Program} {w : World} {K : PySem.W.Frag} {mg : Str → Option Value} {base : Heap} {ad : Adr}
end
section
variable {P : Program} {w : World} {K : PySem.W.Frag} {mg : Str → Option Value} {base : Heap} {ad : Adr}
noncomputable def Vu (a b : Int) : Tie := (if b < a then b else a, if b > a then b else a)
noncomputable def wH : SE → Ctl :=
  (xJ (YO (zd (eFn zgm (zd (zf 0) (zd (zf 1) zx))) (zd (eFn zfJ (zd (zf 0) (zd (zf 1) zx))) zx))))
noncomputable def XN : List D → Option D := fnD 2 wH
noncomputable def yq : List D → Option D
  | [.int a, .int b] => some (zc (Vu a b))
  | _ => none
theorem ZV : ∀ ds d, ds.length = 2 → yq ds = some d → XN ds = some d := by
  intro ds d hl h
  obtain ⟨a, b, rfl⟩ := ze1 hl
  cases a <;> try cases h
  cases b <;> try cases h
  rfl
theorem ZT (T : Txt K mg ad) : x6 P w K mg base CX0 1 ad.f_tie_between ad.e_tie_between ["one", "other"] (@spD ⟨K⟩ 2 yq) := by
  letI : KK := ⟨K⟩
  refine vq (xt (N := ["one", "other"]) (ps := ["one", "other"]) T.d_tie_between.fn ZN (g := wH) fun cdv A outer s H E hr => ?_) ZV
  unfold wH
  exact (zj (zy (wW (zb (xq (zbO rfl) zdz rfl T.z_min zgl (zb (za 0 (pv 0)) (zb (za 1 (pv 1)) zi))) (zb (xq (za2 rfl) zdk rfl T.z_max zfP (zb (za 0 (pv 0)) (zb (za 1 (pv 1)) zi))) zi)))))
theorem zb9 (ts : List Tie) : (ts.map zc).all (okE 20) = true := by
  rw [List.all_map, List.all_eq_true]
  exact fun t _ => rfl
theorem VW (s t : Tie) : eqN 20 (zc s) (zc t) = decide (s = t) := by
  have : eqN 20 (zc s) (zc t) = ((s.1 == t.1) && ((s.2 == t.2) && true) && true) := rfl
  rw [this, Bool.and_true, Bool.and_true]
  by_cases h : s = t
  · subst h
    simp
  · rw [decide_eq_false h, Bool.and_eq_false_iff]
    by_cases h1 : s.1 = t.1
    · exact .inr (beq_eq_false_iff_ne.mpr fun h2 => h (Prod.ext h1 h2))
    · exact .inl (beq_eq_false_iff_ne.mpr h1)
theorem VR (t : Tie) (ts : List Tie) : inD (zc t) (.tup (ts.map zc)) = some (.bl (decide (t ∈ ts))) := by
  show (zaT (zc t) (ts.map zc)).map D.bl = _
  unfold zaT
  rw [if_pos ⟨rfl, zb9 ts⟩]
  show some (D.bl ((ts.map zc).any fun e => eqN 20 e (zc t))) = _
  rw [List.any_map]
  congr 2
  rw [Bool.eq_iff_iff, List.any_eq_true, decide_eq_true_eq]
  constructor
  · rintro ⟨s, hs, h⟩
    have h : eqN 20 (zc s) (zc t) = true := h
    rw [VW, decide_eq_true_eq] at h
    subst h
    exact hs
  · exact fun h => ⟨t, h, by show eqN 20 (zc t) (zc t) = true; rw [VW]; exact decide_eq_true rfl⟩
end
section
variable {P : Program} {w : World} {K : PySem.W.Frag} {mg : Str → Option Value} {base : Heap} {ad : Adr}
end
theorem zbu {m : Nat} {g : SE → Ctl} {ds : List D} {R : D → Prop} {ρ : SE} (e : ds.map .v ++ List.replicate (m - ds.length) .no = ρ) (q : (g ρ).w (fun _ => R .non) noP noP R) : ∃ d, fnD m g ds = some d ∧ R d := by
  unfold fnD
  rw [e]
  cases hg : g ρ with
  | nx ρ' => rw [hg] at q; exact ⟨_, rfl, q.nxi⟩
  | rt d' => rw [hg] at q; exact ⟨_, rfl, q.rti⟩
  | bk _ => rw [hg] at q; exact q.bki.elim
  | ct _ => rw [hg] at q; exact q.cti.elim
  | no => rw [hg] at q; exact q.noi.elim
section
variable {P : Program} {w : World} {K : PySem.W.Frag} {mg : Str → Option Value} {base : Heap} {ad : Adr}
noncomputable def wP : SE → Ctl :=
  (yL (vb false 2 (zm x5 (zm ZK (zm xX (zm xX (zm x5 (zf 0) (eC (.int 2147483647))) (zm ZK (eC (.int 977)) (zf 1))) (eC (.int 1))) (eC (.int 48271))) (eC (.int 2147483647))))
    (yL (vb false 2 (zm x5 (zm ZK (zf 2) (zf 2)) (eC (.int 2147483629))))
    (yL (vb false 2 (zm x5 (zm ZK (zm xX (zf 2) (zm ZK (eC (.int 40692)) (zm xX (zf 1) (eC (.int 3))))) (eC (.int 69621))) (eC (.int 2147483647))))
    (xJ (zm wn (zf 2) (eC (.int 8)))))))
noncomputable def Vg : List D → Option D := fnD 3 wP
noncomputable def zB : List D → Option D
  | [.int c, .int k] => some (.int (V2 c k))
  | _ => none
theorem WU {i j : Int} (h1 : -(2 ^ 64) < i) (h2 : i < 2 ^ 64) : Zw i j = true := decide_eq_true (.inl ⟨h1, h2⟩)
theorem zbf {i j : Int} (h1 : -(2 ^ 64) < j) (h2 : j < 2 ^ 64) : Zw i j = true := decide_eq_true (.inr ⟨h1, h2⟩)
theorem Zx {i j : Int} (h : Zw i j = true) : ZK (.int i) (.int j) = some (.int (i * j)) := by
  show (if Zw i j = true then _ else none) = _
  rw [if_pos h]
theorem y6 {i j : Int} (h : 0 < j) : x5 (.int i) (.int j) = some (.int (i % j)) := by
  show (if decide (0 < j) = true then _ else none) = _
  rw [if_pos (decide_eq_true h)]
theorem Za {i j : Int} (h : 0 < j) (h2 : j < 1606938044258990275541962092341162602522202993782792835301376) : wn (.int i) (.int j) = some (.int (i / j)) := by
  show (if decide (0 < j ∧ j < 1606938044258990275541962092341162602522202993782792835301376) = true then _ else none) = _
  rw [if_pos (decide_eq_true ⟨h, h2⟩)]
theorem Wx : ∀ ds d, ds.length = 2 → zB ds = some d → Vg ds = some d := by
  intro ds d hl h
  obtain ⟨a, b, rfl⟩ := ze1 hl
  cases a <;> try cases h
  cases b <;> try cases h
  rename_i c k
  have h1 := Int.emod_nonneg ((c % 2147483647 + 977 * k + 1) * 48271) (show (2147483647 : Int) ≠ 0 by decide)
  have h2 := Int.emod_lt_of_pos ((c % 2147483647 + 977 * k + 1) * 48271) (show (0 : Int) < 2147483647 by decide)
  have m1 : Zw 977 k = true := WU (by decide) (by decide)
  have m2 : Zw (c % 2147483647 + 977 * k + 1) 48271 = true := zbf (by decide) (by decide)
  obtain ⟨x, hx⟩ : ∃ x, (c % 2147483647 + 977 * k + 1) * 48271 % 2147483647 = x := ⟨_, rfl⟩
  rw [hx] at h1 h2
  have m3 : Zw x x = true := WU (Int.lt_of_lt_of_le (by decide) h1) (Int.lt_trans h2 (by decide))
  have m4 : Zw 40692 (k + 3) = true := WU (by decide) (by decide)
  have m5 : ∀ x, Zw x 69621 = true := fun x => zbf (by decide) (by decide)
  obtain ⟨y, hy⟩ : ∃ y, x * x % 2147483629 = y := ⟨_, rfl⟩
  obtain ⟨z, hz⟩ : ∃ z, (y + 40692 * (k + 3)) * 69621 % 2147483647 = z := ⟨_, rfl⟩
  have hst : V2 c k = z / 8 := by
    show ((((c % 2147483647 + 977 * k + 1) * 48271 % 2147483647) * ((c % 2147483647 + 977 * k + 1) * 48271 % 2147483647) % 2147483629 + 40692 * (k + 3)) * 69621 % 2147483647 / 8) = _
    rw [hx, hy, hz]
  rw [hst]
  refine Vm (ρ := [.v (.int c), .v (.int k), .no]) rfl ?_
  unfold wP
  refine zR (ρ' := [.v (.int c), .v (.int k), .v (.int x)]) (vg ?_) ?_
  · show (((((x5 (.int c) (.int 2147483647)).bind fun a => (ZK (.int 977) (.int k)).bind fun b => xX a b).bind fun a => xX a (.int 1)).bind fun a => ZK a (.int 48271)).bind fun a => x5 a (.int 2147483647)) = _
    rw [y6 (by decide), Zx m1]
    show ((ZK (.int (c % 2147483647 + 977 * k + 1)) (.int 48271)).bind fun a => x5 a (.int 2147483647)) = _
    rw [Zx m2, ← hx]
    exact y6 (by decide)
  refine zR (ρ' := [.v (.int c), .v (.int k), .v (.int y)]) (vg ?_) ?_
  · show ((ZK (.int x) (.int x)).bind fun a => x5 a (.int 2147483629)) = _
    rw [Zx m3, ← hy]
    exact y6 (by decide)
  refine zR (ρ' := [.v (.int c), .v (.int k), .v (.int z)]) (vg ?_) ?_
  · show ((((ZK (.int 40692) (.int (k + 3))).bind fun b => xX (.int y) b).bind fun a => ZK a (.int 69621)).bind fun a => x5 a (.int 2147483647)) = _
    rw [Zx m4]
    show ((ZK (.int (y + 40692 * (k + 3))) (.int 69621)).bind fun a => x5 a (.int 2147483647)) = _
    rw [Zx (m5 _), ← hz]
    exact y6 (by decide)
  exact Y8 (xB (show wn (.int z) (.int 8) = _ from Za (by decide) (by decide))) rfl
theorem x9 (T : Txt K mg ad) : x6 P w K mg base CX0 1 ad.f__law_stir ad.e__law_stir ["cell", "k"] (@spD ⟨K⟩ 2 zB) := by
  letI : KK := ⟨K⟩
  refine vq (xt (N := ["cell", "k", "number"]) (ps := ["cell", "k"]) T.d__law_stir.fn wd (g := wP) fun cdv A outer s H E hr => ?_) Wx
  unfold wP
  exact (zk (xU (m := false) (i := 2) wd.nd rfl (Or.inl rfl) (wk (X4 (yA (yA (wk (za 0 (pv 0)) (ze zg)) (X4 (ze zg) (za 1 (pv 1)))) (ze zg)) (ze zg)) (ze zg)))
      (zk (xU (m := false) (i := 2) wd.nd rfl (Or.inl rfl) (wk (X4 (za 2 (pv 2)) (za 2 (pv 2))) (ze zg)))
      (zk (xU (m := false) (i := 2) wd.nd rfl (Or.inl rfl) (wk (X4 (yA (za 2 (pv 2)) (X4 (ze zg) (yA (za 1 (pv 1)) (ze zg)))) (ze zg)) (ze zg)))
      (zj (zy (Zj (za 2 (pv 2)) (ze zg)))))))
theorem zaH {i j : Int} (h1 : 0 ≤ i) (h2 : i ≤ 1000) (h3 : 0 ≤ j) (h4 : j ≤ 1000) : Xa [.int i, .int j] = some (YW i (j - i).toNat) := by
  show (if zcM i = true ∧ zcM j = true then some (YW i (j - i).toNat) else none) = _
  rw [if_pos ⟨zT.mpr ⟨by (clear h4 h3 h2; omega), by (clear h4 h3; omega)⟩, zT.mpr ⟨by omega, by omega⟩⟩]
theorem Yn {j : Int} (h3 : 0 ≤ j) (h4 : j ≤ 1000000) : WP [.int j] = some (YW 0 j.toNat) := by
  show (if zcM j = true then some (YW 0 j.toNat) else none) = _
  rw [if_pos (zT.mpr ⟨by omega, by omega⟩)]
end
section
variable {P : Program} {w : World} {K : PySem.W.Frag} {mg : Str → Option Value} {base : Heap} {ad : Adr}
end
section
variable {P : Program} {w : World} {K : PySem.W.Frag} {mg : Str → Option Value} {base : Heap} {ad : Adr}
noncomputable def wm : SE → Ctl :=
  (vb false 1 (zm xX (zf 1) (x8 (fLC (zcK Xa (zd (zm xX (zf 2) (eC (.int 1))) (zd (zf 0) zx))) b1 yT (YO (zd (zf 3) (zd (zf 0) zx)))))))
noncomputable def wj : SE → Ctl :=
  (yL (vb false 1 (x8 (wL zx)))
    (yL (vG WP (zd (zf 0) zx) (xZ 2) wm)
    (xJ (zf 1))))
noncomputable def Wh : List D → Option D := fnD 3 wj
noncomputable def xu : List D → Option D
  | [.int n] => if decide (0 ≤ n ∧ n ≤ 8) = true then some (.lst ((yP n.toNat).map zc)) else none
  | _ => none
theorem XS : ∀ ds d, ds.length = 1 → xu ds = some d → Wh ds = some d := by
  intro ds d hl h
  obtain ⟨a, rfl⟩ := zgr hl
  cases a <;> try cases h
  rename_i n
  obtain ⟨hn, rfl⟩ := ifS h
  have hn : 0 ≤ n ∧ n ≤ 8 := of_decide_eq_true hn
  clear h hl
  obtain ⟨k, hk⟩ : ∃ k : Nat, n.toNat = k := ⟨_, rfl⟩
  have hk8 : k ≤ 8 := by omega
  have hkn : n = (k : Int) := by omega
  rw [hk]
  have hr : WP [.int n] = some (YW 0 k) := by rw [Yn hn.1 (by omega), hk]
  clear hk
  refine Vm (ρ := [.v (.int n), .no, .no]) rfl ?_
  unfold wj
  have e0 : vb false 1 (x8 (wL zx)) [.v (.int n), .no, .no] = .nx [.v (.int n), .v (.lst []), .no] := rfl
  refine zR e0 (xM (VG (lo := 0) (c := k) (fun i ρ => ∃ o2, ρ = [.v (.int n), .v (.lst ((xb k i).map zc)), o2]) hr ⟨.no, rfl⟩ ?_ ?_))
  · rintro i ρ hi ⟨o2, rfl⟩
    refine ⟨_, rfl, ?_⟩
    obtain ⟨x, hx⟩ : ∃ x : Int, (0 : Int) + (i : Int) = x := ⟨_, rfl⟩
    rw [hx]
    unfold wm
    refine vZ (ρ' := [.v (.int n), .v (.lst ((xb k (i + 1)).map zc)), .v (.int x)]) (vg (d := .lst ((xb k (i + 1)).map zc)) ?_) ⟨_, rfl⟩
    have e : fLC (zcK Xa (zd (zm xX (zf 2) (eC (.int 1))) (zd (zf 0) zx))) b1 yT (YO (zd (zf 3) (zd (zf 0) zx))) [some (.int n), some (.lst ((xb k i).map zc)), some (.int x)] = some ((W4 i (k - (i + 1))).map zc) := by
      have e1 : Xa [.int (x + 1), .int n] = some (YW (x + 1) (k - (i + 1))) := by
        rw [zaH (by omega) (by omega) (by omega) (by omega)]
        have et : (n - (x + 1)).toNat = k - (i + 1) := by omega
        rw [et]
      unfold fLC
      show (Xa [.int (x + 1), .int n]).bind _ = _
      rw [e1]
      show (if lim (YW (x + 1) (k - (i + 1))).length = true then _ else none) = _
      rw [if_pos (vY (by rw [Ve]; omega))]
      unfold W4
      rw [List.map_map]
      refine Xl (fun j : Nat => D.int (x + 1 + (j : Int))) _ (List.range (k - (i + 1))) fun j _ => ⟨[some (.int (x + 1 + (j : Int)))], rfl, rfl, ?_⟩
      show some (D.tup [.int x, .int (x + 1 + (j : Int))]) = some (D.tup [.int (i : Int), .int ((i : Int) + 1 + (j : Int))])
      rw [← hx, Int.zero_add]
    show (((fLC (zcK Xa (zd (zm xX (zf 2) (eC (.int 1))) (zd (zf 0) zx))) b1 yT (YO (zd (zf 3) (zd (zf 0) zx))) [some (.int n), some (.lst ((xb k i).map zc)), some (.int x)]).map D.lst).bind fun y => xX (.lst ((xb k i).map zc)) y) = _
    rw [e]
    show xX (.lst ((xb k i).map zc)) (.lst ((W4 i (k - (i + 1))).map zc)) = _
    rw [VL (by rw [List.length_map, List.length_map, YS]; have := zai k hk8 i; omega), YK, List.map_append]
  · rintro ρ ⟨o2, rfl⟩
    refine Y8 rfl ?_
    rw [zby]
theorem XT (T : Txt K mg ad) : x6 P w K mg base CX0 1 ad.f__law_pairs ad.e__law_pairs ["many"] (@spD ⟨K⟩ 1 xu) := by
  letI : KK := ⟨K⟩
  refine vq (xt (N := ["many", "found", "a"]) (ps := ["many"]) T.d__law_pairs.fn xL (g := wj) fun cdv A outer s H E hr => ?_) XS
  unfold wj wm
  exact (zk (xU (m := false) (i := 1) xL.nd rfl (Or.inl rfl) (wF (YJ zi)))
      (zk (Xy PassesOwn.never rfl rfl T.z_range (zb (za 0 (pv 0)) zi) (yw (zt (i := 2) xL.nd rfl (Or.inr rfl))) (zj (xU (m := false) (i := 1) xL.nd rfl (Or.inl rfl) (yA (za 1 (pv 1)) (wF (YE (L := ["b"]) (M := ["many", "found", "a"]) rfl (wf (by rfl) (by rfl) (by rfl) (by with_unfolding_all rfl) (by rfl) (by rfl) (by kernel_rfl) (all_cons rfl yI)) (zcv rfl T.z_range (zb (yA (za 2 (pv 2)) (ze zg)) (zb (za 0 (pv 0)) zi))) gs1 rb1 (fun _ _ _ _ => (zt (i := 0) zg4 rfl (Or.inl rfl) (.inr rfl))) (fun _ _ _ _ => (wW (zb (za 3 (pv 3)) (zb (za 0 (pv 0)) zi))))))))))
      (zj (zy (za 1 (pv 1))))))
noncomputable def y3 : SE → Ctl :=
  (yL (sIf (wR (tOf (zm Yx (zm x5 (zf 1) (eC (.int 2))) (eC (.int 0)))) (tOf (zm Yx (zm x5 (zm zfd (zm wn (zf 1) (eC (.int 2))) (zf 3)) (eC (.int 2))) (eC (.int 1))))) (WY false 2 (zf 4)) yO)
    (sIf (wR (tOf (zm Yx (zm x5 (zf 1) (eC (.int 2))) (eC (.int 1)))) (tOf (zm ltD (zm x5 (zz 2 zB (zd (zf 1) (zd (zf 3) zx))) (eC (.int 5))) (zm xX (eC (.int 2)) (zm x5 (zm wn (zf 1) (eC (.int 2))) (eC (.int 2))))))) (WY false 2 (zf 4)) yO))
noncomputable def yU : SE → Ctl :=
  (yL (WN 2 (wL zx))
    (yL (WA (vv (zd (zz 1 xu (zd (zf 0) zx)) zx)) (zaL 2 (vf (xZ 3) (vf (xZ 4) zaO))) y3)
    (sFz 2 (xJ (YO (zd (zf 0) (zd (eFn xI (zd (zf 2) zx)) zx)))))))
noncomputable def xN : List D → Option D := fnD 5 yU
theorem zeQ {a k : Int} (h : 0 ≤ k) : zfd (.int a) (.int k) = some (.int (a / 2 ^ k.toNat)) := by
  show (if decide (0 ≤ k) = true then some (D.int (a / 2 ^ k.toNat)) else none) = _
  rw [if_pos (decide_eq_true h)]
theorem zgd {ρ : Ev} {c x : Int} (h1 : ρ[1]? = some (some (.int c))) (h3 : ρ[3]? = some (some (.int x))) (hx : 0 ≤ x) :
    (∃ b, wR (tOf (zm Yx (zm x5 (zf 1) (eC (.int 2))) (eC (.int 0)))) (tOf (zm Yx (zm x5 (zm zfd (zm wn (zf 1) (eC (.int 2))) (zf 3)) (eC (.int 2))) (eC (.int 1)))) ρ = some (decide (c % 2 = 0) && b)) ∧
    ∃ b, wR (tOf (zm Yx (zm x5 (zf 1) (eC (.int 2))) (eC (.int 1)))) (tOf (zm ltD (zm x5 (zz 2 zB (zd (zf 1) (zd (zf 3) zx))) (eC (.int 5))) (zm xX (eC (.int 2)) (zm x5 (zm wn (zf 1) (eC (.int 2))) (eC (.int 2)))))) ρ = some (decide (c % 2 = 1) && b) := by
  have v1 : zf 1 ρ = some (.int c) := by unfold zf; rw [h1]; rfl
  have v3 : zf 3 ρ = some (.int x) := by unfold zf; rw [h3]; rfl
  have f2 : wn (.int c) (.int 2) = some (.int (c / 2)) := Za (by decide) (by decide)
  have m0 : ∀ k : Int, tOf (zm Yx (zm x5 (zf 1) (eC (.int 2))) (eC (.int k))) ρ = some (decide (c % 2 = k)) := fun k => by
    show (((zf 1 ρ).bind fun a => x5 a (.int 2)).bind fun y => Yx y (.int k)).bind asB = _
    rw [v1, Option.bind_some, y6 (by decide)]
    rfl
  constructor
  · refine ⟨decide (c / 2 / 2 ^ x.toNat % 2 = 1), ?_⟩
    have m2 : tOf (zm Yx (zm x5 (zm zfd (zm wn (zf 1) (eC (.int 2))) (zf 3)) (eC (.int 2))) (eC (.int 1))) ρ = some (decide (c / 2 / 2 ^ x.toNat % 2 = 1)) := by
      show (((((zf 1 ρ).bind fun a => wn a (.int 2)).bind fun a => (zf 3 ρ).bind fun b => zfd a b).bind fun a => x5 a (.int 2)).bind fun y => Yx y (.int 1)).bind asB = _
      rw [v1, v3, Option.bind_some, f2, Option.bind_some, Option.bind_some, zeQ hx, Option.bind_some, y6 (by decide)]
      rfl
    unfold wR
    rw [m0, Option.bind_some, m2]
    cases decide (c % 2 = 0) <;> rfl
  · refine ⟨decide (V2 c x % 5 < 2 + c / 2 % 2), ?_⟩
    have es : zz 2 zB (zd (zf 1) (zd (zf 3) zx)) ρ = some (.int (V2 c x)) := by
      unfold zz zd
      rw [v1, v3]
      rfl
    have m2 : tOf (zm ltD (zm x5 (zz 2 zB (zd (zf 1) (zd (zf 3) zx))) (eC (.int 5))) (zm xX (eC (.int 2)) (zm x5 (zm wn (zf 1) (eC (.int 2))) (eC (.int 2))))) ρ = some (decide (V2 c x % 5 < 2 + c / 2 % 2)) := by
      show ((((zz 2 zB (zd (zf 1) (zd (zf 3) zx)) ρ).bind fun a => x5 a (.int 5)).bind fun a => ((((zf 1 ρ).bind fun a => wn a (.int 2)).bind fun a => x5 a (.int 2)).bind fun y => xX (.int 2) y).bind fun b => ltD a b)).bind asB = _
      rw [es, v1, Option.bind_some, Option.bind_some, y6 (by decide), f2, Option.bind_some, Option.bind_some, y6 (by decide)]
      rfl
    unfold wR
    rw [m0, Option.bind_some, m2]
    cases decide (c % 2 = 1) <;> rfl
theorem zhh {n c x : Int} {ts : List Tie} {t : Tie} {N B C : SE → Prop} {R : D → Prop} (hx : 0 ≤ x) (hl : (ts.map zc).length ≤ 1000)
    (q1 : N [.v (.int n), .v (.int c), .o (ts.map zc), .v (.int x), .v (zc t)]) (q2 : N [.v (.int n), .v (.int c), .o ((ts ++ [t]).map zc), .v (.int x), .v (zc t)]) :
    (y3 [.v (.int n), .v (.int c), .o (ts.map zc), .v (.int x), .v (zc t)]).w N B C R := by
  rw [List.map_append] at q2
  unfold y3
  obtain ⟨⟨b1, e1⟩, b2, e2⟩ := zgd (ρ := visG [.v (.int n), .v (.int c), .o (ts.map zc), .v (.int x), .v (zc t)]) (c := c) (x := x) rfl rfl hx
  obtain ⟨_, b3, e3⟩ := zgd (ρ := visG [.v (.int n), .v (.int c), .o (ts.map zc ++ [zc t]), .v (.int x), .v (zc t)]) (c := c) (x := x) rfl rfl hx
  have ap := VI (m := false) (i := 2) (f := zf 4) (ρ := [.v (.int n), .v (.int c), .o (ts.map zc), .v (.int x), .v (zc t)]) (ds := ts.map zc) (d := zc t) rfl rfl hl
  refine xM (YZ e1 (fun k => vZ ap ?_) (fun _ => vZ rfl (YZ e2 (fun _ => vZ ap q2) (fun _ => vZ rfl q1))))
  refine YZ e3 (fun k3 => ?_) (fun _ => vZ rfl q2)
  have h0 : c % 2 = 0 := of_decide_eq_true (Bool.and_eq_true_iff.mp k).1
  have h1 : c % 2 = 1 := of_decide_eq_true (Bool.and_eq_true_iff.mp k3).1
  exact absurd (h0.symm.trans h1) (by decide)
theorem za5 {n c : Int} (h1 : 1 ≤ n) (h8 : n ≤ 8) : ∃ ts, xN [.int n, .int c] = some (yK n ts) ∧ ts.Sublist (yP n.toNat) := by
  have key := zbu (m := 5) (g := yU) (ds := [.int n, .int c]) (R := fun d => ∃ ts : List Tie, d = yK n ts ∧ ts.Sublist (yP n.toNat)) rfl ?_
  · obtain ⟨d, e, ts, rfl, hs⟩ := key
    exact ⟨ts, e, hs⟩
  unfold yU
  refine zR rfl ?_
  have ep : xu [.int n] = some (.lst ((yP n.toNat).map zc)) := by
    show (if decide (0 ≤ n ∧ n ≤ 8) = true then some (D.lst ((yP n.toNat).map zc)) else none) = _
    rw [if_pos (decide_eq_true ⟨by omega, by omega⟩)]
  have h28 := (Zo n.toNat (by omega)).2.2
  refine xM (W7 (ds := YX 0 ((yP n.toNat).map zc)) (fun i ρ => ∃ ts o3 o4, ρ = [.v (.int n), .v (.int c), .o (ts.map zc), o3, o4] ∧ ts.Sublist ((yP n.toNat).take i)) ?_ ⟨[], .no, .no, rfl, List.nil_sublist _⟩ ?_ ?_)
  · show ((xu [.int n]).bind fun d => (some [] : Option (List D)).map (d :: ·)).bind _ = _
    rw [ep]
    rfl
  · rintro i d ρ hd ⟨ts, o3, o4, rfl, hs⟩
    rw [wE] at hd
    obtain ⟨dx, hdx, rfl⟩ := Option.map_eq_some_iff.mp hd
    rw [List.getElem?_map] at hdx
    obtain ⟨t, ht, rfl⟩ := Option.map_eq_some_iff.mp hdx
    rw [Nat.zero_add]
    have htake : (yP n.toNat).take (i + 1) = (yP n.toNat).take i ++ [t] := by rw [List.take_succ, ht]; rfl
    have hlen : ts.length ≤ 28 := Nat.le_trans hs.length_le (Nat.le_trans (List.length_take_le _ _) (by have := (List.getElem?_eq_some_iff.mp ht).1; omega))
    refine ⟨_, rfl, zhh (Int.natCast_nonneg i) (by rw [List.length_map]; omega) ⟨ts, _, _, rfl, ?_⟩ ⟨ts ++ [t], _, _, rfl, ?_⟩⟩
    · rw [htake]; exact hs.trans (List.sublist_append_left _ _)
    · rw [htake]; exact hs.append (List.Sublist.refl _)
  · rintro ρ ⟨ts, o3, o4, rfl, hs⟩
    exact zgW rfl (Y8 rfl ⟨ts, rfl, hs.trans (List.take_sublist _ _)⟩)
theorem ZP (T : Txt K mg ad) : x6 P w K mg base CX0 2 ad.f__law_web_by ad.e__law_web_by ["many", "cell"] (@spD ⟨K⟩ 2 xN) := by
  letI : KK := ⟨K⟩
  have G__law_pairs := XT (P := P) (w := w) (base := base) T
  have G__law_stir := x9 (P := P) (w := w) (base := base) T
  refine xt (N := ["many", "cell", "ties", "k", "tie"]) (ps := ["many", "cell"]) T.d__law_web_by.fn xn (g := yU) fun cdv A outer s H E hr => ?_
  unfold yU y3
  exact (zk (Wk (i := 2) xn.nd rfl (Or.inl rfl) (YJ zi))
      (zk (ZH PassesOwn.never rfl (Xn rfl T.z_enumerate wg (zb (zq (G__law_pairs.mono (by decide)) hr rfl T.d__law_pairs.at_ T.d__law_pairs.kp T.d__law_pairs.bd (zb (za 0 (pv 0)) zi)) zi)) (WE rfl (xr (yw (zt (i := 3) xn.nd rfl (Or.inl rfl))) (xr (yw (zt (i := 4) xn.nd rfl (Or.inl rfl))) Zh))) (zk (xW (zcB (Wn (zQ (v6 hr) wQ (zX _) (wk (za 1 (pv 1)) (ze zg)) (ze zg)) (Zg (zQ (v6 hr) wQ (zX _) (wk (zf6 (Zj (za 1 (pv 1)) (ze zg)) (za 3 (pv 3))) (ze zg)) (ze zg))))) (zj (WM (m := false) (pv 2) (za 4 (pv 4)) (fun a b => Xi PySem.F.plainAttrs_list PySem.F.slot_list_append PySem.F.type_list_append w6 a b))) zH)
      (zj (xW (zcB (Wn (zQ (v6 hr) wQ (zX _) (wk (za 1 (pv 1)) (ze zg)) (ze zg)) (Zg (zQ zeZ we (zX _) (wk (zq (G__law_stir.mono (by decide)) hr rfl T.d__law_stir.at_ T.d__law_stir.kp T.d__law_stir.bd (zb (za 1 (pv 1)) (zb (za 3 (pv 3)) zi))) (ze zg)) (yA (ze zg) (wk (Zj (za 1 (pv 1)) (ze zg)) (ze zg))))))) (zj (WM (m := false) (pv 2) (za 4 (pv 4)) (fun a b => Xi PySem.F.plainAttrs_list PySem.F.slot_list_append PySem.F.type_list_append w6 a b))) zH))))
      (VO 2 (zj (zy (wW (zb (za 0 (pv 0)) (zb (wv yp wz rfl T.z_tuple yD (zb (za 2 (pv 2)) zi)) zi))))))))
end
section
variable {P : Program} {w : World} {K : PySem.W.Frag} {mg : Str → Option Value} {base : Heap} {ad : Adr}
theorem Z5 {ts : List Tie} (h : ts.length < 64) : ZA [.lst (ts.map zc)] = some ((Zf ts).map zc) := by
  show (if (ts.map zc).length < 64 then _ else none) = _
  rw [if_pos (by rw [List.length_map]; exact h), show WW (ts.map zc) = some ts from zbM ts]
  rfl
set_option genInjectivity false in
set_option genSizeOf false in
set_option genCtorIdx false in
structure zec (n : Int) (i : Nat) (ts : List Tie) : Prop where
  rng : ∀ t ∈ ts, 0 ≤ t.1 ∧ t.1 < t.2 ∧ t.2 < n
  nd : ts.Nodup
  has : ∀ k : Int, 1 ≤ k → k ≤ (i : Int) → ∃ t ∈ ts, t.2 = k
  len : ts.length ≤ 28 + i
theorem zec.yes {n x : Int} {i : Nat} {ts : List Tie} (h : zec n i ts) (hx : x = 1 + (i : Int)) {t : Tie} (ht : t ∈ ts) (e : t.2 = x) : zec n (i + 1) ts :=
  ⟨h.rng, h.nd, fun k k1 k2 => by
    by_cases c : k = x
    · exact ⟨t, ht, by rw [e, c]⟩
    · exact h.has k k1 (by omega), Nat.le_succ_of_le h.len⟩
theorem zec.add {n x j : Int} {i : Nat} {ts : List Tie} (h : zec n i ts) (hx : x = 1 + (i : Int)) (hn : x < n) (j0 : 0 ≤ j) (j1 : j < x) (hno : ∀ t ∈ ts, t.2 ≠ x) : zec n (i + 1) (ts ++ [(j, x)]) := by
  refine ⟨fun t ht => ?_, ?_, fun k k1 k2 => ?_, ?_⟩
  · rcases List.mem_append.mp ht with ht | ht
    · exact h.rng t ht
    · cases List.mem_singleton.mp ht; exact ⟨j0, j1, hn⟩
  · refine List.nodup_append.mpr ⟨h.nd, List.nodup_cons.mpr ⟨List.not_mem_nil, List.nodup_nil⟩, fun a ha b hb e => ?_⟩
    cases List.mem_singleton.mp hb
    exact hno a ha (by rw [e])
  · by_cases c : k = x
    · exact ⟨(j, x), List.mem_append.mpr (.inr (List.mem_singleton.mpr rfl)), c.symm⟩
    · obtain ⟨t, ht, e⟩ := h.has k k1 (by omega)
      exact ⟨t, List.mem_append.mpr (.inl ht), e⟩
  · rw [List.length_append]
    exact Nat.succ_le_succ h.len
theorem zgw {ρ : Ev} {ts : List Tie} {x : Int} (h2 : ρ[2]? = some (some (.lst (ts.map zc)))) (h3 : ρ[3]? = some (some (.int x))) (hl : ts.length ≤ 1000) : fLC (iOf (zf 2)) b1 (tOf (zm Yx (zm ixD (zf 0) (eC (.int 1))) (zf 4))) (zf 0) ρ = some ((ts.filter fun t => decide (t.2 = x)).map zc) := by
  have e2 : zf 2 ρ = some (.lst (ts.map zc)) := by unfold zf; rw [h2]; rfl
  unfold fLC
  show (((zf 2 ρ).bind vo).bind fun ds => if lim ds.length = true then _ else none) = _
  rw [e2]
  show (if lim (ts.map zc).length = true then _ else none) = _
  rw [if_pos (vY (by rw [List.length_map]; exact hl))]
  refine Ym zc (fun t => decide (t.2 = x)) zc ts fun t _ => ⟨[some (zc t)], rfl, ?_, fun _ => rfl⟩
  have e3 : zf 4 ([some (zc t)] ++ ρ) = some (.int x) := by
    unfold zf
    rw [show ([some (zc t)] ++ ρ)[4]? = ρ[3]? from rfl, h3]
    rfl
  show ((some (D.int t.2)).bind fun a => (zf 4 ([some (zc t)] ++ ρ)).bind fun b => Yx a b).bind asB = _
  rw [e3]
  rfl
noncomputable def yS : SE → Ctl :=
  (yL (vb false 4 (YO (zd (zm x5 (zz 2 zB (zd (zf 1) (zd (zm xX (eC (.int 50)) (zf 3)) zx))) (zf 3)) (zd (zf 3) zx))))
    (sIf (tOf (zm Yx (eFn Z2 (zd (x8 (fLC (iOf (zf 2)) b1 (tOf (zm Yx (zm ixD (zf 0) (eC (.int 1))) (zf 4))) (zf 0))) zx)) (eC (.int 0)))) (WY false 2 (zf 4)) yO))
noncomputable def yd : SE → Ctl :=
  (yL (WN 2 (fFn Zy (zd (zm ixD (zz 2 xN (zd (zf 0) (zd (zf 1) zx))) (eC (.int 1))) zx)))
    (yL (vG Xa (zd (eC (.int 1)) (zd (zf 0) zx)) (xZ 3) yS)
    (sFz 2 (xJ (YO (zd (zf 0) (zd (eFn xI (zd (x8 (fFn ZA (zd (zf 2) zx))) zx)) zx)))))))
noncomputable def xz : List D → Option D := fnD 5 yd
theorem XX {n c : Int} (h1 : 1 ≤ n) (h8 : n ≤ 8) : ∃ ts, xz [.int n, .int c] = some (yK n ts) ∧ ww n ts ∧ (∀ x : Int, 1 ≤ x → x < n → ∃ t ∈ ts, t.2 = x) := by
  obtain ⟨ts0, ew, hsub⟩ := za5 (n := n) (c := c) h1 h8
  obtain ⟨k, hk⟩ : ∃ k : Nat, n = ((k + 1 : Nat) : Int) := ⟨(n - 1).toNat, by omega⟩
  have hk7 : k ≤ 7 := by omega
  obtain ⟨q1, q2, q3⟩ := Zo n.toNat (by omega)
  have key := zbu (m := 5) (g := yd) (ds := [.int n, .int c]) (R := fun d => ∃ ts : List Tie, d = yK n (Zf ts) ∧ zec n k ts) (ρ := [.v (.int n), .v (.int c), .no, .no, .no]) rfl ?_
  · obtain ⟨d, e, ts, rfl, hj⟩ := key
    have hp := vA ts
    have hr : ∀ t ∈ Zf ts, 0 ≤ t.1 ∧ t.1 < t.2 ∧ t.2 < n := fun t ht => hj.rng t (hp.mem_iff.mp ht)
    refine ⟨_, e, ⟨h1, h8, hr, YQ hj.nd⟩, fun x x1 x2 => ?_⟩
    obtain ⟨t, ht, e2⟩ := hj.has x x1 (by omega)
    exact ⟨t, hp.mem_iff.mpr ht, e2⟩
  unfold yd
  refine zR (ρ' := [.v (.int n), .v (.int c), .o (ts0.map zc), .no, .no]) (Vi (ds := ts0.map zc) ?_) ?_
  · show (((xN [.int n, .int c]).bind fun x => ixD x (.int 1)).bind fun d => (some []).map (d :: ·)).bind Zy = _
    rw [ew]
    rfl
  have hrng : Xa [.int 1, .int n] = some (YW 1 k) := zfL hk hk7
  refine xM (VG (lo := 1) (c := k) (fun i ρ => ∃ (ts : List Tie) (o3 o4 : Sl), ρ = [.v (.int n), .v (.int c), .o (ts.map zc), o3, o4] ∧ zec n i ts) hrng ⟨ts0, _, _, rfl, ⟨fun t ht => ?_, (q1.sublist hsub).imp fun {a b} h e => by subst e; exact absurd (Yc.mpr h) (by unfold leP; simp), fun k k1 k2 => absurd (Int.le_trans k1 k2) (by decide), Nat.le_trans hsub.length_le q3⟩⟩ ?_ ?_)
  · have := q2 t (hsub.subset ht)
    omega
  · rintro i ρ hi ⟨ts, o3, o4, rfl, hj⟩
    obtain ⟨x, hx⟩ : ∃ x : Int, x = (1 : Int) + (i : Int) := ⟨_, rfl⟩
    rw [← hx]
    refine ⟨[.v (.int n), .v (.int c), .o (ts.map zc), .v (.int x), o4], rfl, ?_⟩
    unfold yS
    obtain ⟨j, hjj⟩ : ∃ j : Int, V2 c (50 + x) % x = j := ⟨_, rfl⟩
    have xp : 0 < x := by omega
    obtain ⟨j0, j1⟩ := Y3 xp hjj
    have hl := hj.len
    refine zR (ρ' := [.v (.int n), .v (.int c), .o (ts.map zc), .v (.int x), .v (zc (j, x))]) (vg (d := zc (j, x)) ?_) ?_
    · have m1 : x5 (.int (V2 c (50 + x))) (.int x) = some (.int j) := by rw [y6 xp, hjj]
      show ((x5 (.int (V2 c (50 + x))) (.int x)).bind fun d => (some [D.int x]).map (d :: ·)).bind _ = _
      rw [m1]
      rfl
    refine YZ (c := decide ((((ts.filter fun t => decide (t.2 = x)).map zc).length : Int) = 0)) ?_ (fun c0 => ?_) (fun c0 => ?_)
    · have el' := zgw (ρ := visG [.v (.int n), .v (.int c), .o (ts.map zc), .v (.int x), .v (zc (j, x))]) (ts := ts) (x := x) rfl rfl (by omega)
      show (((((fLC (iOf (zf 2)) b1 (tOf (zm Yx (zm ixD (zf 0) (eC (.int 1))) (zf 4))) (zf 0) _).map D.lst).bind fun d => (some []).map (d :: ·)).bind Z2).bind fun a => Yx a (.int 0)).bind asB = _
      rw [el']
      rfl
    · refine vZ (VI (ds := ts.map zc) (d := zc (j, x)) rfl rfl (by rw [List.length_map]; omega)) ⟨ts ++ [(j, x)], .v (.int x), .v (zc (j, x)), ?_, hj.add hx (by omega) j0 j1 fun t ht e => ?_⟩
      · rw [List.map_append]; rfl
      · have h0 := of_decide_eq_true c0
        have : t ∈ ts.filter fun t => decide (t.2 = x) := List.mem_filter.mpr ⟨ht, decide_eq_true e⟩
        rw [List.length_map] at h0
        rw [List.length_eq_zero_iff.mp (Int.ofNat.inj h0)] at this
        cases this
    · obtain ⟨t, ht⟩ : ∃ t, t ∈ ts.filter fun t => decide (t.2 = x) := by
        rcases hf : ts.filter fun t => decide (t.2 = x) with _ | ⟨t, r⟩
        · rw [hf] at c0; cases c0
        · exact ⟨t, by rw [hf]; exact List.mem_cons_self⟩
      obtain ⟨t1, t2⟩ := List.mem_filter.mp ht
      exact vZ rfl ⟨ts, _, _, rfl, hj.yes hx t1 (of_decide_eq_true t2)⟩
  · rintro ρ ⟨ts, o3, o4, rfl, hj⟩
    have hl := hj.len
    have e5 := Z5 (ts := ts) (by omega)
    refine zgW (ρ' := [.v (.int n), .v (.int c), .v (.lst (ts.map zc)), o3, o4]) rfl ?_
    refine Y8 (xB (d := yK n (Zf ts)) ?_) ⟨ts, rfl, hj⟩
    show ((((((ZA [.lst (ts.map zc)]).map D.lst).bind fun d => (some []).map (d :: ·)).bind xI).bind fun d => (some []).map (d :: ·)).map (D.int n :: ·)).bind _ = _
    rw [e5]
    rfl
theorem Yv (T : Txt K mg ad) : x6 P w K mg base CX0 3 ad.f__law_joined_by ad.e__law_joined_by ["many", "cell"] (@spD ⟨K⟩ 2 xz) := by
  letI : KK := ⟨K⟩
  have G__law_stir := x9 (P := P) (w := w) (base := base) T
  have G__law_web_by := ZP (P := P) (w := w) (base := base) T
  refine xt (N := ["many", "cell", "ties", "k", "tie"]) (ps := ["many", "cell"]) T.d__law_joined_by.fn yu (g := yd) fun cdv A outer s H E hr => ?_
  unfold yd yS
  exact (zk (Wk (i := 2) yu.nd rfl (Or.inl rfl) (zbc rfl T.z_list (zb (yi (zq (G__law_web_by.mono (by decide)) hr rfl T.d__law_web_by.at_ T.d__law_web_by.kp T.d__law_web_by.bd (zb (za 0 (pv 0)) (zb (za 1 (pv 1)) zi))) (ze zg) (fun _ _ => rfl)) zi)))
      (zk (zdH PassesOwn.never rfl rfl T.z_range (zb (ze zg) (zb (za 0 (pv 0)) zi)) (yw (zt (i := 3) yu.nd rfl (Or.inr rfl))) (zk (xU (m := false) (i := 4) yu.nd rfl (Or.inl rfl) (wW (zb (wk (zq (G__law_stir.mono (by decide)) hr rfl T.d__law_stir.at_ T.d__law_stir.kp T.d__law_stir.bd (zb (za 1 (pv 1)) (zb (yA (ze zg) (za 3 (pv 3))) zi))) (za 3 (pv 3))) (zb (za 3 (pv 3)) zi))))
      (zj (xW (zQ (v6 hr) wQ (zX _) (xq ym vS rfl T.z_len YR (zb (wF (zd5 (L := ["other"]) (M := ["many", "cell", "ties", "k", "tie"]) rfl (wf (by rfl) (by rfl) (by rfl) (by with_unfolding_all rfl) (by rfl) (by rfl) (by kernel_rfl) (all_cons rfl yI)) (xG (za 2 (pv 2))) gs1 rb1 (fun _ _ _ _ => (zt (i := 0) zhz rfl (Or.inl rfl) (.inr rfl))) (fun _ _ _ _ => (zQ (v6 hr) wQ (zX _) (yi (za 0 (pv 0)) (ze zg) (fun _ _ => rfl)) (za 4 (pv 4)))) (fun _ _ _ _ => (za 0 (pv 0))))) zi)) (ze zg)) (zj (WM (m := false) (pv 2) (za 4 (pv 4)) (fun a b => Xi PySem.F.plainAttrs_list PySem.F.slot_list_append PySem.F.type_list_append w6 a b))) zH))))
      (VO 2 (zj (zy (wW (zb (za 0 (pv 0)) (zb (wv yp wz rfl T.z_tuple yD (zb (wF (Wu rfl rfl T.z_sorted (zb (za 2 (pv 2)) zi))) zi)) zi))))))))
theorem VB {m : Int} {ts : List Tie} {a b : Int} (ok : ww m ts) (h : Vu a b ∈ ts) : (0 ≤ a ∧ a < m) ∧ (0 ≤ b ∧ b < m) ∧ a ≠ b := by
  have := ok.rng _ h
  unfold Vu at this
  dsimp only at this
  split at this <;> split at this <;> omega
noncomputable def vT : SE → Ctl :=
  (xJ (XV (zz 2 yo (zd (zm ixD (zf 0) (eC (.int 0))) (zd (zf 1) zx))) (zm inD (zz 2 yq (zd (zm ixD (zf 1) (eC (.int 0))) (zd (zm ixD (zf 1) (eC (.int 1))) zx))) (zm ixD (zf 0) (eC (.int 1))))))
noncomputable def v4 : List D → Option D := fnD 2 vT
theorem zah {m : Int} {ts : List Tie} (ok : ww m ts) (a b : Int) : v4 [yK m ts, .tup [.int a, .int b]] = some (.bl (decide (Vu a b ∈ ts))) := by
  have ep : yo [.int m, .tup [.int a, .int b]] = some (.bl (inR m a && inR m b && !decide (a = b))) := rfl
  have et : yq [.int a, .int b] = some (zc (Vu a b)) := rfl
  have ei := VR (Vu a b) ts
  have em : ixD (yK m ts) (.int 0) = some (.int m) := rfl
  have e1 : ixD (yK m ts) (.int 1) = some (.tup (ts.map zc)) := rfl
  have ea : ixD (.tup [.int a, .int b]) (.int 0) = some (.int a) := rfl
  have eb : ixD (.tup [.int a, .int b]) (.int 1) = some (.int b) := rfl
  refine Vm (ρ := [.v (yK m ts), .v (.tup [.int a, .int b])]) rfl ?_
  unfold vT
  refine Y8 (xB ?_) rfl
  cases hp : inR m a && inR m b && !decide (a = b) with
  | true =>
    rw [hp] at ep
    show (((yo [.int m, .tup [.int a, .int b]]).bind asB).bind fun c => if c = true then ((yq [.int a, .int b]).bind fun t => inD t (.tup (ts.map zc))) else some (D.bl false)) = _
    rw [ep, et]
    exact ei
  | false =>
    have : ¬ Vu a b ∈ ts := fun h => by
      obtain ⟨h1, h2, h3⟩ := VB ok h
      have : (inR m a && inR m b && !decide (a = b)) = true := by
        unfold inR
        simp only [Bool.and_eq_true, decide_eq_true_eq, Bool.not_eq_true', decide_eq_false_iff_not]
        omega
      rw [this] at hp
      cases hp
    rw [decide_eq_false this]
    rw [hp] at ep
    show (((yo [.int m, .tup [.int a, .int b]]).bind asB).bind fun c => if c = true then ((yq [.int a, .int b]).bind fun t => inD t (.tup (ts.map zc))) else some (D.bl false)) = _
    rw [ep]
    rfl
theorem zae (T : Txt K mg ad) : x6 P w K mg base CX0 5 ad.f_is_step ad.e_is_step ["web", "thing"] (@spD ⟨K⟩ 2 v4) := by
  letI : KK := ⟨K⟩
  have G_is_pair := Z8 (P := P) (w := w) (base := base) T
  have G_tie_between := ZT (P := P) (w := w) (base := base) T
  refine xt (N := ["web", "thing"]) (ps := ["web", "thing"]) T.d_is_step.fn zaJ (g := vT) fun cdv A outer s H E hr => ?_
  unfold vT
  exact (zj (zy (Ye (zq (G_is_pair.mono (by decide)) hr rfl T.d_is_pair.at_ T.d_is_pair.kp T.d_is_pair.bd (zb (yi (za 0 (pv 0)) (ze zg) (fun _ _ => rfl)) (zb (za 1 (pv 1)) zi))) (YG (Wl (Wq hr) Wj (by with_unfolding_all rfl) (zq (G_tie_between.mono (by decide)) hr rfl T.d_tie_between.at_ T.d_tie_between.kp T.d_tie_between.bd (zb (yi (za 1 (pv 1)) (ze zg) (fun _ _ => rfl)) (zb (yi (za 1 (pv 1)) (ze zg) (fun _ _ => rfl)) zi))) (yi (za 0 (pv 0)) (ze zg) (fun _ _ => rfl)))))))
theorem W2 {m : Int} {ts : List Tie} {t : Tie} (ok : ww m ts) (ht : t ∈ ts) : Vu t.1 t.2 = t ∧ Vu t.2 t.1 = t := by
  have h := (ok.rng t ht).2.1
  unfold Vu
  exact ⟨by rw [if_neg (by omega), if_pos h], by rw [if_pos h, if_neg (by omega)]⟩
noncomputable abbrev TR := Int × Int × Int
noncomputable def trD (r : TR) : D := .tup [.int r.1, .int r.2.1, .int r.2.2]
noncomputable def trP (r : TR) : Tie := (r.1, r.2.1)
set_option genInjectivity false in
set_option genSizeOf false in
set_option genCtorIdx false in
structure v5 (ts : List Tie) (rs : List TR) : Prop where
  row : ∀ r ∈ rs, Vu r.1 r.2.1 ∈ ts ∧ 1 ≤ r.2.2 ∧ r.2.2 ≤ 300
  srt : rs.Pairwise fun a b => ltP (trP a) (trP b)
  len : rs.length ≤ 1000
noncomputable def xk : SE → Ctl :=
  (yL (sIf (XW (xY (tOf (eUn (wZ .tuple) (zf 1)))) (tOf (zm neD (eFn Z2 (zd (zf 1) zx)) (eC (.int 3))))) (xJ (eC (.bl false))) yO)
    (xJ (XV (zz 2 v4 (zd (zf 0) (zd (eSl slD (zf 1) yV (yG (eC (.int 2)))) zx))) (zz 3 zo (zd (zm ixD (zf 1) (eC (.int 2))) (zd (eC (.int 1)) (zd (eC (.int 300)) zx)))))))
noncomputable def xl : List D → Option D := fnD 2 xk
theorem Zs {m : Int} {ts : List Tie} (ok : ww m ts) (r : TR) : xl [yK m ts, trD r] = some (.bl (decide (Vu r.1 r.2.1 ∈ ts) && (decide (1 ≤ r.2.2) && decide (r.2.2 ≤ 300)))) := by
  have es := zah ok r.1 r.2.1
  have ew : zo [.int r.2.2, .int 1, .int 300] = some (.bl (decide (1 ≤ r.2.2) && decide (r.2.2 ≤ 300))) := rfl
  refine Vm (ρ := [.v (yK m ts), .v (trD r)]) rfl ?_
  unfold xk
  refine xM (YZ (c := false) rfl (fun z => by cases z) (fun _ => vZ rfl ?_))
  refine Y8 (xB ?_) rfl
  show (((v4 [yK m ts, .tup [.int r.1, .int r.2.1]]).bind asB).bind fun c => if c = true then zo [.int r.2.2, .int 1, .int 300] else some (.bl false)) = _
  rw [es, ew]
  cases decide (Vu r.1 r.2.1 ∈ ts) <;> rfl
theorem Zc (T : Txt K mg ad) : x6 P w K mg base CX0 6 ad.f_is_tally_row ad.e_is_tally_row ["web", "thing"] (@spD ⟨K⟩ 2 xl) := by
  letI : KK := ⟨K⟩
  have G_is_whole_within := yZ (P := P) (w := w) (base := base) T
  have G_is_step := zae (P := P) (w := w) (base := base) T
  refine xt (N := ["web", "thing"]) (ps := ["web", "thing"]) T.d_is_tally_row.fn ZI (g := xk) fun cdv A outer s H E hr => ?_
  unfold xk
  exact (zk (xW (zcB (Vy (wq (xF (yy .tuple rfl T.z_isinstance (za 1 (pv 1)) (wl (v := .ty "tuple") rfl T.z_tuple yD rfl)))) (Xd (zQ zbR WB (zX _) (xq ym vS rfl T.z_len YR (zb (za 1 (pv 1)) zi)) (ze zg))))) (zj (zy (wJ wN))) zH)
      (zj (zy (Ye (zq (G_is_step.mono (by decide)) hr rfl T.d_is_step.at_ T.d_is_step.kp T.d_is_step.bd (zb (za 0 (pv 0)) (zb (yF (za 1 (pv 1)) xE (xC (ze zg))) zi))) (YG (zq (G_is_whole_within.mono (by decide)) hr rfl T.d_is_whole_within.at_ T.d_is_whole_within.kp T.d_is_whole_within.bd (zb (yi (za 1 (pv 1)) (ze zg) (fun _ _ => rfl)) (zb (ze zg) (zb (ze (zb7 (v := .int 300) rfl T.g_MOST_TIMES ⟨_, rfl⟩)) zi)))))))))
noncomputable def yR : SE → Ctl :=
  (yL (sIf (xY (tOf (zz 2 xl (zd (zf 0) (zd (zf 3) zx))))) (xJ (eC (.bl false))) yO)
    (sIf (wR (tOf (zm gtD (zf 2) (eC (.int 0)))) (tOf (zm leT (eSl slD (zf 3) yV (yG (eC (.int 2)))) (eSl slD (zm ixD (zf 1) (zm zcN (zf 2) (eC (.int 1)))) yV (yG (eC (.int 2))))))) (xJ (eC (.bl false))) yO))
noncomputable def yC : SE → Ctl :=
  (yL (sIf (xY (tOf (eUn (wZ .tuple) (zf 1)))) (xJ (eC (.bl false))) yO)
    (yL (WA (vv (zd (zf 1) zx)) (zaL 2 (vf (xZ 2) (vf (xZ 3) zaO))) yR)
    (xJ (eC (.bl true)))))
noncomputable def yc : List D → Option D := fnD 4 yC
theorem X6 {m : Int} {ts : List Tie} {rs : List TR} (ok : ww m ts) (h : v5 ts rs) : yc [yK m ts, .tup (rs.map trD)] = some (.bl true) := by
  refine Vm (ρ := [.v (yK m ts), .v (.tup (rs.map trD)), .no, .no]) rfl ?_
  unfold yC
  refine xM (YZ (c := false) rfl (fun z => by cases z) (fun _ => vZ rfl ?_))
  refine xM (W7 (ds := YX 0 (rs.map trD)) (fun _ ρ => ∃ o2 o3 : Sl, ρ = [.v (yK m ts), .v (.tup (rs.map trD)), o2, o3]) rfl ⟨_, _, rfl⟩ ?_ ?_)
  · rintro i d ρ hd ⟨o2, o3, rfl⟩
    rw [wE, List.getElem?_map, Nat.zero_add] at hd
    obtain ⟨x, hx, rfl⟩ := Option.map_eq_some_iff.mp hd
    obtain ⟨r, hr, rfl⟩ := Option.map_eq_some_iff.mp hx
    obtain ⟨h1, h2, h3⟩ := h.row r (List.mem_of_getElem? hr)
    have e1 := Zs ok r
    rw [decide_eq_true h1, decide_eq_true h2, decide_eq_true h3] at e1
    refine ⟨[.v (yK m ts), .v (.tup (rs.map trD)), .v (.int (i : Int)), .v (trD r)], rfl, ?_⟩
    unfold yR
    refine xM (YZ (c := false) ?_ (fun z => by cases z) (fun _ => vZ rfl ?_))
    · show (((xl [yK m ts, trD r]).bind asB).map (!·)) = _
      rw [e1]
      rfl
    refine YZ (c := false) ?_ (fun z => by cases z) (fun _ => vZ rfl ⟨_, _, rfl⟩)
    cases i with
    | zero => rfl
    | succ j =>
      obtain ⟨q, hq⟩ : ∃ q, rs[j]? = some q := ⟨_, List.getElem?_eq_getElem (Nat.lt_of_succ_lt (List.getElem?_eq_some_iff.mp hr).1)⟩
      have hlt : ltP (trP q) (trP r) := by
        obtain ⟨a1, a2⟩ := List.getElem?_eq_some_iff.mp hr
        obtain ⟨b1, b2⟩ := List.getElem?_eq_some_iff.mp hq
        have := List.pairwise_iff_getElem.mp h.srt j (j + 1) b1 a1 (Nat.lt_succ_self j)
        rwa [a2, b2] at this
      have e2 : L2.atI (rs.map trD) (((j + 1 : Nat) : Int) - 1) = some (trD q) := zbm (by omega) (by rw [show (((j + 1 : Nat) : Int) - 1).toNat = j by omega, List.getElem?_map, hq]; rfl)
      have e3 : leT (zc (trP r)) (zc (trP q)) = some (.bl false) := by
        show some (D.bl (leP (trP r) (trP q))) = _
        rw [Yc.mpr hlt]
      have e4 : gtD (.int ((j + 1 : Nat) : Int)) (.int 0) = some (.bl true) := by
        show some (D.bl (decide (0 < ((j + 1 : Nat) : Int)))) = _
        rw [decide_eq_true (by omega)]
      show ((gtD (.int ((j + 1 : Nat) : Int)) (.int 0)).bind asB).bind (fun c => if c = true then (((L2.atI (rs.map trD) (((j + 1 : Nat) : Int) - 1)).bind fun x => (slD x none (some 2))).bind fun y => leT (zc (trP r)) y).bind asB else some false) = _
      rw [e4, e2]
      show ((leT (zc (trP r)) (zc (trP q))).bind asB) = _
      rw [e3]
      rfl
  · rintro ρ ⟨o2, o3, rfl⟩
    exact Y8 rfl rfl
theorem Yu (T : Txt K mg ad) : x6 P w K mg base CX0 7 ad.f_are_tally_rows ad.e_are_tally_rows ["web", "thing"] (@spD ⟨K⟩ 2 yc) := by
  letI : KK := ⟨K⟩
  have G_is_tally_row := Zc (P := P) (w := w) (base := base) T
  refine xt (N := ["web", "thing", "at", "row"]) (ps := ["web", "thing"]) T.d_are_tally_rows.fn xa (g := yC) fun cdv A outer s H E hr => ?_
  unfold yC yR
  exact (zk (xW (wq (xF (yy .tuple rfl T.z_isinstance (za 1 (pv 1)) (wl (v := .ty "tuple") rfl T.z_tuple yD rfl)))) (zj (zy (wJ wN))) zH)
      (zk (ZH PassesOwn.never rfl (Xn rfl T.z_enumerate wg (zb (za 1 (pv 1)) zi)) (WE rfl (xr (yw (zt (i := 2) xa.nd rfl (Or.inl rfl))) (xr (yw (zt (i := 3) xa.nd rfl (Or.inl rfl))) Zh))) (zk (xW (wq (xF (zq (G_is_tally_row.mono (by decide)) hr rfl T.d_is_tally_row.at_ T.d_is_tally_row.kp T.d_is_tally_row.bd (zb (za 0 (pv 0)) (zb (za 3 (pv 3)) zi))))) (zj (zy (wJ wN))) zH)
      (zj (xW (zcB (Wn (zQ zeW we (zX _) (za 2 (pv 2)) (ze zg)) (Zg (zQ (zd4 hr.units0) zbE (zX _) (yF (za 3 (pv 3)) xE (xC (ze zg))) (yF (yi (za 1 (pv 1)) (zci (za 2 (pv 2)) (ze zg)) (fun _ _ => rfl)) xE (xC (ze zg))))))) (zj (zy (wJ wN))) zH))))
      (zj (zy (wJ wN)))))
noncomputable def yW : SE → Ctl :=
  (sIf (xY (tOf (zz 2 yc (zd (zf 0) (zd (zf 1) zx))))) sNo yO)
noncomputable def x3 : List D → Option D := fnD 2 yW
theorem ZO {m : Int} {ts : List Tie} {d : D} (h : yc [yK m ts, d] = some (.bl true)) : x3 [yK m ts, d] = some .non := by
  refine Vm (ρ := [.v (yK m ts), .v d]) rfl ?_
  unfold yW
  refine YZ (c := false) ?_ (fun z => by cases z) (fun _ => vZ rfl rfl)
  show (((yc [yK m ts, d]).bind asB).map (!·)) = _
  rw [h]
  rfl
theorem YT (T : Txt K mg ad) : x6 P w K mg base CX0 8 ad.f_must_be_tally ad.e_must_be_tally ["web", "thing"] (@spD ⟨K⟩ 2 x3) := by
  letI : KK := ⟨K⟩
  have G_are_tally_rows := Yu (P := P) (w := w) (base := base) T
  refine xt (N := ["web", "thing"]) (ps := ["web", "thing"]) T.d_must_be_tally.fn YY (g := yW) fun cdv A outer s H E hr => ?_
  unfold yW
  exact (zj (xW (wq (xF (zq (G_are_tally_rows.mono (by decide)) hr rfl T.d_are_tally_rows.at_ T.d_are_tally_rows.kp T.d_are_tally_rows.bd (zb (za 0 (pv 0)) (zb (za 1 (pv 1)) zi))))) (zj V1) zH))
noncomputable def TrIn (m : Int) (r : TR) : Prop := (0 ≤ r.1 ∧ r.1 < m) ∧ (0 ≤ r.2.1 ∧ r.2.1 < m) ∧ r.1 ≠ r.2.1 ∧ 1 ≤ r.2.2 ∧ r.2.2 ≤ 300
theorem v5.trIn {m : Int} {ts : List Tie} {rs : List TR} (ok : ww m ts) (h : v5 ts rs) : ∀ r ∈ rs, TrIn m r := fun r hr =>
  let x := h.row r hr
  let y := VB ok x.1
  ⟨y.1, y.2.1, y.2.2, x.2.1, x.2.2⟩
theorem zdZ {a b : Tie} (h : ltP a b) : a ≠ b := fun e => by
  subst e
  unfold ltP at h
  omega
theorem V9 {n : Nat} {t : Tie} (h : 0 ≤ t.1 ∧ t.1 < t.2 ∧ t.2 < (n : Int)) : t ∈ yP n := by
  unfold yP
  rw [List.mem_flatMap]
  refine ⟨t.1.toNat, List.mem_range.mpr (by omega), List.mem_map.mpr ⟨(t.2 - t.1 - 1).toNat, List.mem_range.mpr (by omega), Prod.ext ?_ ?_⟩⟩
  · show ((t.1.toNat : Nat) : Int) = t.1
    omega
  · show ((t.1.toNat : Nat) : Int) + 1 + (((t.2 - t.1 - 1).toNat : Nat) : Int) = t.2
    omega
theorem zf3 {m : Int} {ts : List Tie} (ok : ww m ts) : ts.length ≤ 28 := by
  have hm1 := ok.lo
  have hm8 := ok.hi
  have nd : ts.Nodup := ok.srt.imp zdZ
  refine Nat.le_trans (nd.length_le_of_subset (l₂ := yP m.toNat) fun t ht => V9 ?_) (Zo m.toNat (by omega)).2.2
  have := ok.rng t ht
  omega
noncomputable def swP (t : Tie) : Tie := (t.2, t.1)
noncomputable def wa (ts : List Tie) : List Tie := Zf (ts ++ ts.map swP)
theorem WQ {m : Int} {ts : List Tie} (ok : ww m ts) : (ts ++ ts.map swP).Nodup := by
  have nd : ts.Nodup := ok.srt.imp zdZ
  refine List.nodup_append.mpr ⟨nd, ?_, fun a ha b hb e => ?_⟩
  · show List.Pairwise (· ≠ ·) (ts.map swP)
    rw [List.pairwise_map]
    exact nd.imp fun {a b} h e => h (Prod.ext (congrArg Prod.snd e) (congrArg Prod.fst e))
  · obtain ⟨t, ht, rfl⟩ := List.mem_map.mp hb
    have h1 := (ok.rng a ha).2.1
    have h2 := (ok.rng t ht).2.1
    rw [e] at h1
    exact absurd h1 (by show ¬ t.2 < t.1; omega)
theorem zcG {m : Int} {ts : List Tie} (ok : ww m ts) : (wa ts).Pairwise ltP := YQ (WQ ok)
theorem zb2 {m : Int} {ts : List Tie} (ok : ww m ts) {t : Tie} (h : t ∈ wa ts) : Vu t.1 t.2 ∈ ts := by
  rcases List.mem_append.mp ((vA _).mem_iff.mp h) with h | h
  · rw [(W2 ok h).1]; exact h
  · obtain ⟨s, hs, rfl⟩ := List.mem_map.mp h
    show Vu s.2 s.1 ∈ ts
    rw [(W2 ok hs).2]; exact hs
theorem zcm {m : Int} {ts : List Tie} (ok : ww m ts) : (wa ts).length ≤ 56 := by
  have := zf3 ok
  unfold wa
  rw [(vA _).length_eq, List.length_append, List.length_map]
  omega
noncomputable def xc : SE → Ctl :=
  (sIf (tOf (zm Yx (zm x5 (zz 2 zB (zd (zf 1) (zd (zm xX (eC (.int 300)) (zf 5)) zx))) (eC (.int 2))) (eC (.int 1)))) (WY false 4 (zm xX (zf 6) (YO (zd (zm xX (eC (.int 1)) (zm x5 (zz 2 zB (zd (zf 1) (zd (zm xX (eC (.int 360)) (zf 5)) zx))) (zf 2))) zx)))) yO)
noncomputable def yn : SE → Ctl :=
  (yL (vb false 3 (x8 (fFn ZA (zd (zm xX (x8 (fFn Zy (zd (zm ixD (zf 0) (eC (.int 1))) zx))) (x8 (fLC (iOf (zm ixD (zf 0) (eC (.int 1)))) b2 yT (YO (zd (zf 1) (zd (zf 0) zx)))))) zx))))
    (yL (WN 4 (wL zx))
    (yL (WA (vv (zd (zf 3) zx)) (zaL 2 (vf (xZ 5) (vf (xZ 6) zaO))) xc)
    (sFz 4 (xJ (eFn xI (zd (zf 4) zx)))))))
noncomputable def yk : List D → Option D := fnD 7 yn
theorem Wf {m : Int} {ts : List Tie} {c mo : Int} (ok : ww m ts) (h1 : 1 ≤ mo) (h3 : mo ≤ 300) : ∃ rs : List TR, yk [yK m ts, .int c, .int mo] = some (.tup (rs.map trD)) ∧ v5 ts rs ∧ rs.length ≤ 56 ∧ ∀ r ∈ rs, r.2.2 ≤ mo := by
  have h28 := zf3 ok
  have h56 := zcm ok
  have key := zbu (m := 7) (g := yn) (ds := [yK m ts, .int c, .int mo]) (R := fun d => ∃ rs : List TR, d = .tup (rs.map trD) ∧ (rs.map trP).Sublist (wa ts) ∧ ∀ r ∈ rs, 1 ≤ r.2.2 ∧ r.2.2 ≤ mo) (ρ := [.v (yK m ts), .v (.int c), .v (.int mo), .no, .no, .no, .no]) rfl ?_
  · obtain ⟨d, e, rs, rfl, hs, hr⟩ := key
    refine ⟨rs, e, ⟨fun r hr' => ⟨zb2 ok (hs.subset (List.mem_map.mpr ⟨r, hr', rfl⟩)), (hr r hr').1, Int.le_trans (hr r hr').2 h3⟩, List.pairwise_map.mp ((zcG ok).sublist hs), ?_⟩, ?_, fun r hr' => (hr r hr').2⟩
    all_goals
      have := hs.length_le
      rw [List.length_map] at this
      omega
  unfold yn
  refine zR (ρ' := [.v (yK m ts), .v (.int c), .v (.int mo), .v (.lst ((wa ts).map zc)), .no, .no, .no]) (vg (d := .lst ((wa ts).map zc)) ?_) ?_
  · have e1 : fLC (iOf (zm ixD (zf 0) (eC (.int 1)))) b2 yT (YO (zd (zf 1) (zd (zf 0) zx))) (visG [.v (yK m ts), .v (.int c), .v (.int mo), .no, .no, .no, .no]) = some ((ts.map swP).map zc) := by
      unfold fLC
      show (if lim (ts.map zc).length = true then _ else none) = _
      rw [if_pos (vY (by rw [List.length_map]; omega)), List.map_map]
      exact Xl zc (zc ∘ swP) ts fun t _ => ⟨[some (.int t.1), some (.int t.2)], rfl, rfl, rfl⟩
    show (((((fLC (iOf (zm ixD (zf 0) (eC (.int 1)))) b2 yT (YO (zd (zf 1) (zd (zf 0) zx))) (visG [.v (yK m ts), .v (.int c), .v (.int mo), .no, .no, .no, .no])).map D.lst).bind fun y => xX (.lst (ts.map zc)) y).bind fun d => (some []).map (d :: ·)).bind ZA).map D.lst = _
    rw [e1]
    show (((if lim ((ts.map zc).length + ((ts.map swP).map zc).length) = true then some (D.lst (ts.map zc ++ (ts.map swP).map zc)) else none).bind fun d => (some []).map (d :: ·)).bind ZA).map D.lst = _
    rw [if_pos (vY (by simp only [List.length_map]; omega)), ← List.map_append]
    show (ZA [.lst ((ts ++ ts.map swP).map zc)]).map D.lst = _
    rw [Z5 (by rw [List.length_append, List.length_map]; omega)]
    rfl
  refine zR (ρ' := [.v (yK m ts), .v (.int c), .v (.int mo), .v (.lst ((wa ts).map zc)), .o [], .no, .no]) (Vi (ds := []) rfl) ?_
  refine xM (W7 (ds := YX 0 ((wa ts).map zc)) (fun i ρ => ∃ (rs : List TR) (o5 o6 : Sl), ρ = [.v (yK m ts), .v (.int c), .v (.int mo), .v (.lst ((wa ts).map zc)), .o (rs.map trD), o5, o6] ∧ (rs.map trP).Sublist ((wa ts).take i) ∧ ∀ r ∈ rs, 1 ≤ r.2.2 ∧ r.2.2 ≤ mo) rfl ⟨[], _, _, rfl, List.Sublist.refl _, fun r hr => by cases hr⟩ ?_ ?_)
  · rintro i d ρ hd ⟨rs, o5, o6, rfl, hs, hr⟩
    rw [wE, List.getElem?_map, Nat.zero_add] at hd
    obtain ⟨x, hx, rfl⟩ := Option.map_eq_some_iff.mp hd
    obtain ⟨t, ht, rfl⟩ := Option.map_eq_some_iff.mp hx
    have hl : rs.length ≤ 56 := by
      have a1 := hs.length_le
      rw [List.length_map] at a1
      exact Nat.le_trans a1 (Nat.le_trans (List.take_sublist _ _).length_le h56)
    have htk : (wa ts).take (i + 1) = (wa ts).take i ++ [t] := by rw [List.take_add_one, ht]; rfl
    refine ⟨[.v (yK m ts), .v (.int c), .v (.int mo), .v (.lst ((wa ts).map zc)), .o (rs.map trD), .v (.int (i : Int)), .v (zc t)], rfl, ?_⟩
    unfold xc
    refine YZ (c := decide (V2 c (300 + (i : Int)) % 2 = 1)) ?_ (fun _ => ?_) (fun _ => vZ rfl ⟨rs, _, _, rfl, by rw [htk]; exact hs.trans (List.sublist_append_left _ _), hr⟩)
    · show (((x5 (.int (V2 c (300 + (i : Int)))) (.int 2)).bind fun a => Yx a (.int 1)).bind asB) = _
      rw [y6 (by decide)]
      rfl
    obtain ⟨v, hv⟩ : ∃ v : Int, V2 c (360 + (i : Int)) % mo = v := ⟨_, rfl⟩
    obtain ⟨v0, v1⟩ := Y3 (by omega) hv
    refine vZ (VI (ds := rs.map trD) (d := trD (t.1, t.2, 1 + v)) ?_ rfl (by rw [List.length_map]; omega)) ⟨rs ++ [(t.1, t.2, 1 + v)], _, _, by rw [List.map_append]; rfl, ?_, fun r hr' => ?_⟩
    · show ((some (zc t)).bind fun a => ((((x5 (.int (V2 c (360 + (i : Int)))) (.int mo)).bind fun b => xX (.int 1) b).bind fun d => (some []).map (d :: ·)).bind fun ds => if lim ds.length = true then some (D.tup ds) else none).bind fun b => xX a b) = _
      rw [y6 (by omega), hv]
      rfl
    · rw [htk, List.map_append]
      exact hs.append (List.Sublist.refl _)
    · rcases List.mem_append.mp hr' with h | h
      · exact hr r h
      · rw [List.mem_singleton.mp h]
        exact ⟨by show 1 ≤ 1 + v; omega, by show 1 + v ≤ mo; omega⟩
  · rintro ρ ⟨rs, o5, o6, rfl, hs, hr⟩
    rw [wc, List.length_map, List.take_length] at hs
    exact zgW rfl (Y8 rfl ⟨rs, rfl, hs, hr⟩)
theorem wY (T : Txt K mg ad) : x6 P w K mg base CX0 2 ad.f__law_tally_by ad.e__law_tally_by ["web", "cell", "most"] (@spD ⟨K⟩ 3 yk) := by
  letI : KK := ⟨K⟩
  have G__law_stir := x9 (P := P) (w := w) (base := base) T
  refine xt (N := ["web", "cell", "most", "every", "found", "k", "step"]) (ps := ["web", "cell", "most"]) T.d__law_tally_by.fn yb (g := yn) fun cdv A outer s H E hr => ?_
  unfold yn xc
  exact (zk (xU (m := false) (i := 3) yb.nd rfl (Or.inl rfl) (wF (Wu rfl rfl T.z_sorted (zb (yA (wF (zbc rfl T.z_list (zb (yi (za 0 (pv 0)) (ze zg) (fun _ _ => rfl)) zi))) (wF (YE (L := ["a", "b"]) (M := ["web", "cell", "most", "every", "found", "k", "step"]) rfl (wf (by rfl) (by rfl) (by rfl) (by with_unfolding_all rfl) (by rfl) (by rfl) (by kernel_rfl) yI) (xG (yi (za 0 (pv 0)) (ze zg) (fun _ _ => rfl))) gs2 rb2 (fun _ _ _ _ => (VM rfl (wG (zt (i := 0) zgk rfl (Or.inl rfl) (.inr rfl)) (wG (zt (i := 1) zgk rfl (Or.inl rfl) (.inr rfl)) Xw)))) (fun _ _ _ _ => (wW (zb (za 1 (pv 1)) (zb (za 0 (pv 0)) zi))))))) zi))))
      (zk (Wk (i := 4) yb.nd rfl (Or.inl rfl) (YJ zi))
      (zk (ZH PassesOwn.never rfl (Xn rfl T.z_enumerate wg (zb (za 3 (pv 3)) zi)) (WE rfl (xr (yw (zt (i := 5) yb.nd rfl (Or.inl rfl))) (xr (yw (zt (i := 6) yb.nd rfl (Or.inl rfl))) Zh))) (zj (xW (zQ (v6 hr) wQ (zX _) (wk (zq (G__law_stir.mono (by decide)) hr rfl T.d__law_stir.at_ T.d__law_stir.kp T.d__law_stir.bd (zb (za 1 (pv 1)) (zb (yA (ze zg) (za 5 (pv 5))) zi))) (ze zg)) (ze zg)) (zj (WM (m := false) (pv 4) (yA (za 6 (pv 6)) (wW (zb (yA (ze zg) (wk (zq (G__law_stir.mono (by decide)) hr rfl T.d__law_stir.at_ T.d__law_stir.kp T.d__law_stir.bd (zb (za 1 (pv 1)) (zb (yA (ze zg) (za 5 (pv 5))) zi))) (za 2 (pv 2)))) zi))) (fun a b => Xi PySem.F.plainAttrs_list PySem.F.slot_list_append PySem.F.type_list_append w6 a b))) zH)))
      (VO 4 (zj (zy (wv yp wz rfl T.z_tuple yD (zb (za 4 (pv 4)) zi))))))))
theorem VE {it : Ev → Option (List D)} {b : D → Option (List (Option D))} {t : Ev → Option Bool} {f : Ev → Option D} {ρ : Ev} {α : Type} {c : α → D} {p : α → Bool} {y : α → D} {xs : List α} (h1 : it ρ = some (xs.map c)) (hl : xs.length ≤ 1000) (h : ∀ x ∈ xs, ∃ own, b (c x) = some own ∧ t (own ++ ρ) = some (p x) ∧ (p x = true → f (own ++ ρ) = some (y x))) : fLC it b t f ρ = some ((xs.filter p).map y) := by
  unfold fLC
  rw [h1, Option.bind_some, if_pos (vY (by rw [List.length_map]; exact hl))]
  exact Ym c p y xs h
theorem Z3 {it : Ev → Option (List D)} {b : D → Option (List (Option D))} {t : Ev → Option Bool} {f : Ev → Option D} {ρ : Ev} {α : Type} {c y : α → D} {xs : List α} (h1 : it ρ = some (xs.map c)) (hl : xs.length ≤ 1000) (h : ∀ x ∈ xs, ∃ own, b (c x) = some own ∧ t (own ++ ρ) = some true ∧ f (own ++ ρ) = some (y x)) : fLC it b t f ρ = some (xs.map y) := by
  unfold fLC
  rw [h1, Option.bind_some, if_pos (vY (by rw [List.length_map]; exact hl))]
  exact Xl c y xs h
theorem Wd (ns : List Int) : (ns.map D.int).all (okE 20) = true := by
  rw [List.all_map, List.all_eq_true]
  exact fun x _ => rfl
theorem zdG (x : Int) (ns : List Int) : zaT (.int x) (ns.map .int) = some (decide (x ∈ ns)) := by
  unfold zaT
  rw [if_pos ⟨rfl, Wd ns⟩, List.any_map]
  congr 1
  rw [Bool.eq_iff_iff, List.any_eq_true, decide_eq_true_eq]
  constructor
  · rintro ⟨s, hs, h⟩
    have h : (s == x) = true := h
    rw [beq_iff_eq] at h
    subst h
    exact hs
  · exact fun h => ⟨x, h, (show (x == x) = true from beq_self_eq_true x)⟩
theorem zgU (x : Int) (ns : List Int) : inD (.int x) (.lst (ns.map .int)) = some (.bl (decide (x ∈ ns))) := by
  show (zaT (.int x) (ns.map .int)).map D.bl = _
  rw [zdG]
  rfl
theorem zcQ {α : Type} (f : α → Bool) (l : List α) : zgZ [.lst (l.map fun x => .bl (f x))] = some (.bl (l.any f)) := by
  have : ze6 (l.map fun x => D.bl (f x)) = some (l.map f) := by
    have := zdy (l.map f)
    rwa [List.map_map] at this
  show ((ze6 (l.map fun x => D.bl (f x))).bind fun bs => some (D.bl (bs.any id))) = _
  rw [this]
  show some (D.bl ((l.map f).any id)) = _
  rw [List.any_map]
  rfl
theorem zeX : ∀ (q p : List Int), ((List.zipWith (eqN 19) (q.map D.int) (p.map D.int)).all id && (q.map D.int).length == (p.map D.int).length) = decide (q = p) := by
  intro q
  induction q with
  | nil =>
    intro p
    cases p <;> rfl
  | cons a q ih =>
    intro p
    cases p with
    | nil => rfl
    | cons b p =>
      have := ih p
      show ((a == b && (List.zipWith (eqN 19) (q.map D.int) (p.map D.int)).all id) && ((q.map D.int).length + 1 == (p.map D.int).length + 1)) = _
      rw [Bool.and_assoc, show ((q.map D.int).length + 1 == (p.map D.int).length + 1) = ((q.map D.int).length == (p.map D.int).length) by rw [Bool.eq_iff_iff, beq_iff_eq, beq_iff_eq]; omega, this]
      rw [Bool.eq_iff_iff, Bool.and_eq_true, beq_iff_eq, decide_eq_true_eq, decide_eq_true_eq, List.cons.injEq]
theorem VN (ns : List Int) : okE 20 (.lst (ns.map .int)) = true := by
  show (ns.map D.int).all (okE 19) = true
  rw [List.all_map, List.all_eq_true]
  exact fun x _ => rfl
theorem ze0 (q p : List Int) : zer (.lst (q.map .int)) (.lst (p.map .int)) = some (.bl (!decide (q = p))) := by
  show (if (okE 20 (.lst (q.map .int)) && okE 20 (.lst (p.map .int))) = true then some (D.bl (!((List.zipWith (eqN 19) (q.map D.int) (p.map D.int)).all id && (q.map D.int).length == (p.map D.int).length))) else none) = _
  rw [VN, VN, if_pos (show (true && true) = true from rfl), zeX]
noncomputable def Y2 (P : List Int) (E : List Tie) : List Int := P.filter fun p => E.any fun s => decide (s.1 = p) && decide (s.2 ∈ P)
theorem Zi {P : List Int} {E : List Tie} {p : Int} : p ∈ Y2 P E ↔ p ∈ P ∧ ∃ s ∈ E, s.1 = p ∧ s.2 ∈ P := by
  unfold Y2
  rw [List.mem_filter, List.any_eq_true]
  simp only [Bool.and_eq_true, decide_eq_true_eq]
noncomputable def Y0 : SE → Ctl :=
  (xJ (x8 (fLC (iOf (zf 0)) b1 (tOf (eFn zgZ (zd (x8 (fLC (iOf (zf 2)) b1 yT (XV (zm Yx (zm ixD (zf 0) (eC (.int 0))) (zf 1)) (zm inD (zm ixD (zf 0) (eC (.int 1))) (zf 2))))) zx))) (zf 0))))
noncomputable def v8 : List D → Option D := fnD 2 Y0
theorem We {P : List Int} {E : List Tie} (hP : P.length ≤ 1000) (hE : E.length ≤ 1000) : v8 [.lst (P.map .int), .lst (E.map zc)] = some (.lst ((Y2 P E).map .int)) := by
  refine Vm (ρ := [.v (.lst (P.map .int)), .v (.lst (E.map zc))]) rfl ?_
  unfold Y0
  refine Y8 (xB (vm (VE (c := D.int) (xs := P) (p := fun p => E.any fun s => decide (s.1 = p) && decide (s.2 ∈ P)) (y := D.int) rfl hP fun p _ => ⟨[some (.int p)], rfl, ?_, fun _ => rfl⟩))) rfl
  refine vI (Vf (ds := [.lst (E.map fun s => .bl (decide (s.1 = p) && decide (s.2 ∈ P)))]) (yx (vm (Z3 (c := zc) (xs := E) rfl hE fun s _ => ⟨[some (zc s)], rfl, rfl, ?_⟩)) vd) (zcQ _ _))
  exact zgI (zZ (x := .int s.1) (y := .int p) rfl rfl rfl) (zZ (x := .int s.2) (y := .lst (P.map .int)) rfl rfl (zgU _ _))
theorem zco (T : Txt K mg ad) : x6 P w K mg base CX0 1 ad.f_led_on ad.e_led_on ["places", "steps"] (@spD ⟨K⟩ 2 v8) := by
  letI : KK := ⟨K⟩
  refine xt (N := ["places", "steps"]) (ps := ["places", "steps"]) T.d_led_on.fn zb3 (g := Y0) fun cdv A outer s H E hr => ?_
  unfold Y0
  exact (zj (zy (wF (zeR (x0 := "place") (M := ["places", "steps"]) rfl (zgi (by rfl) (by rfl) (by rfl) (by with_unfolding_all rfl) (fun _ => rfl) (fun _ => rfl) (by rfl) (by rfl) (by kernel_rfl) (all_cons rfl (all_cons rfl yI))) (xG (za 0 (pv 0))) gs1 rb1 (fun _ _ _ _ => (zt (i := 0) zhx rfl (Or.inr rfl) (.inl rfl))) (fun _ _ _ _ => (xF (xq (zbV rfl) zeH rfl T.z_any zfn (zb (wF (YE (L := ["step"]) (M := ["place", "places", "steps"]) rfl (wf (by rfl) (by rfl) (by rfl) (by with_unfolding_all rfl) (by rfl) (by rfl) (by kernel_rfl) (all_cons rfl (all_cons rfl yI))) (xG (za 2 (pv 2))) gs1 rb1 (fun _ _ _ _ => (zt (i := 0) zhq rfl (Or.inl rfl) (.inr rfl))) (fun _ _ _ _ => (Ye (Wl (v6 hr) wQ (zX _) (yi (za 0 (pv 0)) (ze zg) (fun _ _ => rfl)) (za 1 (pv 1))) (YG (Wl (Wq hr) Wj (by with_unfolding_all rfl) (yi (za 0 (pv 0)) (ze zg) (fun _ _ => rfl)) (za 2 (pv 2)))))))) zi)))) (fun _ _ _ _ => (za 0 (pv 0)))))))
noncomputable def zgx (ρ : SE) : Nat := match ρ[1]? with
  | some (Sl.v (D.lst ds)) => ds.length
  | _ => 0
noncomputable def zdL (E : List Tie) (P : List Int) : Nat → List Int
  | 0 => P
  | n + 1 => Y2 (zdL E P n) E
noncomputable def zaR (E : List Tie) : List Int := (zaB (E.map fun s => s.1.toNat)).map fun k : Nat => (k : Int)
noncomputable def SmE (E : List Tie) : Prop := ∀ s ∈ E, 0 ≤ s.1 ∧ s.1 < 8
theorem zex {E : List Tie} (h : SmE E) {p : Int} : p ∈ zaR E ↔ ∃ s ∈ E, s.1 = p := by
  unfold zaR
  have h8 : ∀ k ∈ E.map fun s => s.1.toNat, k < 8 := fun k hk => by
    obtain ⟨s, hs, rfl⟩ := List.mem_map.mp hk
    have := h s hs
    omega
  rw [List.mem_map]
  constructor
  · rintro ⟨k, hk, rfl⟩
    obtain ⟨s, hs, rfl⟩ := List.mem_map.mp ((Xj h8).mp hk)
    exact ⟨s, hs, by have := h s hs; omega⟩
  · rintro ⟨s, hs, rfl⟩
    exact ⟨s.1.toNat, (Xj h8).mpr (List.mem_map.mpr ⟨s, hs, rfl⟩), by have := h s hs; omega⟩
theorem ze7 (E : List Tie) : (zaR E).length ≤ 8 := by
  unfold zaR zaB OwnSet.ksOf
  rw [List.length_map]
  exact Nat.le_trans (List.length_filter_le _ _) (by rw [List.length_range]; exact Nat.le_refl _)
theorem zf1 {P : List Int} {E : List Tie} (h : Y2 P E ≠ P) : (Y2 P E).length < P.length := by
  have hs : (Y2 P E).Sublist P := List.filter_sublist
  exact Nat.lt_of_le_of_ne hs.length_le fun e => h (hs.eq_of_length e)
noncomputable def wM : SE → Ctl :=
  (yL (zaa 4 (fLC (iOf (zf 0)) b1 (wR (tOf (zm Yx (zm ixD (zf 0) (eC (.int 0))) (zm ixD (zf 4) (eUn zdO (eC (.int 1)))))) (tOf (zm inD (zm ixD (zf 0) (eC (.int 1))) (zf 2)))) (zm ixD (zf 0) (eC (.int 1)))))
    (yL (sIf (tOf (zm inD (zm ixD (zf 4) (eC (.int 0))) (zf 3))) (xJ (eFn xI (zd (eSl slD (zf 3) (yG (zaI zcL (zf 3) (zd (zm ixD (zf 4) (eC (.int 0))) zx))) yV) zx))) yO)
    (WY false 3 (zm ixD (zf 4) (eC (.int 0))))))
noncomputable def wK : SE → Ctl :=
  (yL (vb false 1 (zf 2))
    (vb false 2 (zz 2 v8 (zd (zf 1) (zd (zf 0) zx)))))
noncomputable def vc : SE → Ctl :=
  (yL (vb false 1 (x8 (fSS (x8 (fLC (iOf (zf 0)) b1 yT (zm ixD (zf 0) (eC (.int 0))))))))
    (yL (vb false 2 (zz 2 v8 (zd (zf 1) (zd (zf 0) zx))))
    (yL (wX (tOf (zm zer (zf 2) (zf 1))) wK 20)
    (yL (sIf (tOf (zm Yx (eFn Z2 (zd (zf 1) zx)) (eC (.int 0)))) (xJ (eC .non)) yO)
    (yL (WN 3 (wL (zd (zm ixD (zf 1) (eC (.int 0))) zx)))
    (wX (tOf (eC (.bl true))) wM 20))))))
noncomputable def vj : List D → Option D := fnD 5 vc
theorem zbd {E : List Tie} {N B C : SE → Prop} {R : D → Prop} {g : SE → Ctl} (hE : E.length ≤ 1000) (h8 : SmE E) (hg : ∀ P j, P = zdL E (zaR E) j → j + P.length ≤ 8 → Y2 P E = P → (g [.v (.lst (E.map zc)), .v (.lst (P.map .int)), .v (.lst (P.map .int)), .no, .no]).w N B C R) :
    (yL (vb false 1 (x8 (fSS (x8 (fLC (iOf (zf 0)) b1 yT (zm ixD (zf 0) (eC (.int 0))))))))
    (yL (vb false 2 (zz 2 v8 (zd (zf 1) (zd (zf 0) zx))))
    (yL (wX (tOf (zm zer (zf 2) (zf 1))) wK 20) g)) [.v (.lst (E.map zc)), .no, .no, .no, .no]).w N B C R := by
  have e1 : x8 (fSS (x8 (fLC (iOf (zf 0)) b1 yT (zm ixD (zf 0) (eC (.int 0)))))) (visF [.v (.lst (E.map zc)), .no, .no, .no, .no]) = some (.lst ((zaR E).map .int)) := by
    refine vm (zg2 (d := .lst (((E.map fun s => s.1.toNat).map fun k : Nat => (k : Int)).map .int)) (vm ?_) ?_)
    · rw [List.map_map, List.map_map]
      refine Z3 (c := zc) (xs := E) rfl hE fun s hs => ⟨[some (zc s)], rfl, rfl, ?_⟩
      show some (D.int s.1) = some (D.int ((s.1.toNat : Nat) : Int))
      rw [Int.toNat_of_nonneg (h8 s hs).1]
    · show (wI _).map _ = _
      rw [ZF fun k hk => ?_]
      · rfl
      · obtain ⟨s, hs, rfl⟩ := List.mem_map.mp hk
        have := h8 s hs
        omega
  refine zR (zaK e1) ?_
  have hl := ze7 E
  refine zR (ρ' := [.v (.lst (E.map zc)), .v (.lst ((zaR E).map .int)), .v (.lst ((Y2 (zaR E) E).map .int)), .no, .no]) (vh (ds := [_, _]) rfl (We (by omega) hE)) ?_
  refine xM (XR (fun ρ => ∃ P j, ρ = [.v (.lst (E.map zc)), .v (.lst (P.map .int)), .v (.lst ((Y2 P E).map .int)), .no, .no] ∧ P = zdL E (zaR E) j ∧ j + P.length ≤ 8) zgx ?_ 20 _ ⟨zaR E, 0, rfl, rfl, by omega⟩ ?_)
  · rintro ρ ⟨P, j, rfl, hP, hj⟩
    refine ⟨!decide (Y2 P E = P), vI (zZ (x := .lst ((Y2 P E).map .int)) (y := .lst (P.map .int)) rfl rfl (ze0 _ _)), fun c => ?_, fun c => ?_⟩
    · have hne : Y2 P E ≠ P := fun e => by rw [decide_eq_true e] at c; cases c
      have hlt := zf1 hne
      unfold wK
      refine zR (ρ' := [.v (.lst (E.map zc)), .v (.lst ((Y2 P E).map .int)), .v (.lst ((Y2 P E).map .int)), .no, .no]) rfl ?_
      refine vZ (ρ' := [.v (.lst (E.map zc)), .v (.lst ((Y2 P E).map .int)), .v (.lst ((Y2 (Y2 P E) E).map .int)), .no, .no]) (vh (ds := [_, _]) rfl (We (by omega) hE)) ⟨⟨Y2 P E, j + 1, rfl, by rw [hP]; rfl, by omega⟩, ?_⟩
      show ((Y2 P E).map D.int).length < (P.map D.int).length
      rw [List.length_map, List.length_map]
      exact hlt
    · have he : Y2 P E = P := by
        by_cases z : Y2 P E = P
        · exact z
        · rw [decide_eq_false z] at c; cases c
      rw [he]
      exact hg P j hP hj he
  · show ((zaR E).map D.int).length < 20
    rw [List.length_map]
    omega
noncomputable def xj : SE → Ctl :=
  (zfl false 3 (zm x5 (zz 2 zB (zd (zf 1) (zd (zm xX (eC (.int 420)) (zf 4)) zx))) (zm xX (zf 4) (eC (.int 1)))) (zf 4))
noncomputable def yl : SE → Ctl :=
  (yL (WN 3 (wL zx))
    (yL (vG WP (zd (zm ixD (zf 0) (eC (.int 0))) zx) (xZ 4) xj)
    (sFz 3 (xJ (eFn xI (zd (x8 (fLC (iOf (zz 3 yk (zd (zf 0) (zd (zf 1) (zd (zf 2) zx))))) b1 (tOf (zm ltD (zaI zcL (zf 4) (zd (zm ixD (zf 0) (eC (.int 0))) zx)) (zaI zcL (zf 4) (zd (zm ixD (zf 0) (eC (.int 1))) zx)))) (zf 0))) zx))))))
noncomputable def xV : List D → Option D := fnD 5 yl
theorem zbK (O : List Int) (x : Int) : (O.map D.int).findIdx? (fun e => eqN 20 e (.int x)) = O.findIdx? (fun y => y == x) := by
  rw [List.findIdx?_map]
  rfl
theorem zaX {O : List Int} {x : Int} (h : x ∈ O) : zcL (.lst (O.map .int)) (.int x) = some (.int (((O.findIdx? fun y => y == x).getD 0 : Nat) : Int)) := by
  show (if okE 20 (.int x) = true ∧ (O.map D.int).all (okE 20) = true then ((O.map D.int).findIdx? fun e => eqN 20 e (.int x)).map fun (j : Nat) => D.int (j : Int) else none) = _
  rw [if_pos ⟨rfl, Wd O⟩, zbK]
  cases e : O.findIdx? fun y => y == x with
  | none =>
    have := List.findIdx?_eq_none_iff.mp e x h
    rw [beq_self_eq_true] at this
    cases this
  | some j => rfl
theorem v5.filter {ts : List Tie} {rs : List TR} (h : v5 ts rs) (p : TR → Bool) : v5 ts (rs.filter p) :=
  ⟨fun r hr => h.row r (List.mem_filter.mp hr).1, h.srt.filter p, Nat.le_trans (List.length_filter_le _ _) h.len⟩
theorem W8 {m : Int} {ts : List Tie} {c mo : Int} (ok : ww m ts) (h1 : 1 ≤ mo) (h3 : mo ≤ 300) : ∃ (rs0 : List TR) (p : TR → Bool) (rank : Int → Int), yk [yK m ts, .int c, .int mo] = some (.tup (rs0.map trD)) ∧ (v5 ts rs0 ∧ rs0.length ≤ 56 ∧ ∀ r ∈ rs0, r.2.2 ≤ mo) ∧ xV [yK m ts, .int c, .int mo] = some (.tup ((rs0.filter p).map trD)) ∧ ∀ r ∈ rs0.filter p, rank r.1 < rank r.2.1 := by
  obtain ⟨rs0, et, hT, hT2⟩ := Wf (c := c) ok h1 h3
  have hm1 := ok.lo
  have hm8 := ok.hi
  have key := zbu (m := 5) (g := yl) (ds := [yK m ts, .int c, .int mo]) (R := fun d => ∃ (p : TR → Bool) (rank : Int → Int), d = .tup ((rs0.filter p).map trD) ∧ ∀ r ∈ rs0.filter p, rank r.1 < rank r.2.1) (ρ := [.v (yK m ts), .v (.int c), .v (.int mo), .no, .no]) rfl ?_
  · obtain ⟨d, e, p, rank, rfl, hr⟩ := key
    exact ⟨rs0, p, rank, et, ⟨hT, hT2⟩, e, hr⟩
  unfold yl
  refine zR (ρ' := [.v (yK m ts), .v (.int c), .v (.int mo), .o [], .no]) rfl ?_
  refine xM (VG (lo := 0) (c := m.toNat) (fun i ρ => ∃ (O : List Int) (o4 : Sl), ρ = [.v (yK m ts), .v (.int c), .v (.int mo), .o (O.map .int), o4] ∧ O.length = i ∧ ∀ x : Int, x ∈ O ↔ 0 ≤ x ∧ x < (i : Int)) (show WP [.int m] = some (YW 0 m.toNat) from Yn (by omega) (by omega)) ⟨[], _, rfl, rfl, fun x => ⟨(fun h => by cases h), (fun h => by omega)⟩⟩ ?_ ?_)
  · rintro i ρ hi ⟨O, o4, rfl, hl, hO⟩
    refine ⟨[.v (yK m ts), .v (.int c), .v (.int mo), .o (O.map .int), .v (.int ((0 : Int) + (i : Int)))], rfl, ?_⟩
    unfold xj
    obtain ⟨k, hk⟩ : ∃ k : Int, V2 c (420 + (0 + (i : Int))) % (0 + (i : Int) + 1) = k := ⟨_, rfl⟩
    obtain ⟨k0, k1⟩ := Y3 (by omega) hk
    have ek : zm x5 (zz 2 zB (zd (zf 1) (zd (zm xX (eC (.int 420)) (zf 4)) zx))) (zm xX (zf 4) (eC (.int 1))) (visF [.v (yK m ts), .v (.int c), .v (.int mo), .o (O.map .int), .v (.int ((0 : Int) + (i : Int)))]) = some (.int k) := zZ (x := .int (V2 c (420 + (0 + (i : Int))))) (y := .int (0 + (i : Int) + 1)) rfl rfl (by rw [y6 (by omega), hk])
    refine vZ (zgb (ds := O.map .int) (d := .int ((0 : Int) + (i : Int))) (k := k) ek rfl rfl (by rw [List.length_map]; omega) k0 (by omega)) ⟨O.take k.toNat ++ ((0 : Int) + (i : Int)) :: O.drop k.toNat, .v (.int ((0 : Int) + (i : Int))), ?_, ?_, fun x => ?_⟩
    · show [Sl.v (yK m ts), .v (.int c), .v (.int mo), .o ((O.map D.int).take k.toNat ++ D.int ((0 : Int) + (i : Int)) :: (O.map D.int).drop k.toNat), .v (.int ((0 : Int) + (i : Int)))] = _
      rw [List.map_append, List.map_cons, List.map_take, List.map_drop]
    · rw [List.length_append, List.length_cons, List.length_take, List.length_drop]
      omega
    · have hx := hO x
      have hmem : x ∈ O.take k.toNat ++ ((0 : Int) + (i : Int)) :: O.drop k.toNat ↔ x = (0 : Int) + (i : Int) ∨ x ∈ O := by
        rw [List.mem_append, List.mem_cons]
        have : x ∈ O ↔ x ∈ O.take k.toNat ∨ x ∈ O.drop k.toNat := by rw [← List.mem_append, List.take_append_drop]
        rw [this]
        constructor
        · rintro (h | h | h)
          · exact .inr (.inl h)
          · exact .inl h
          · exact .inr (.inr h)
        · rintro (h | h | h)
          · exact .inr (.inl h)
          · exact .inl h
          · exact .inr (.inr h)
      rw [hmem, hx]
      omega
  · rintro ρ ⟨O, o4, rfl, hl, hO⟩
    refine zgW (ρ' := [.v (yK m ts), .v (.int c), .v (.int mo), .v (.lst (O.map .int)), o4]) rfl ?_
    have hin := hT.trIn ok
    refine Y8 (xB (Vf (ds := [.lst ((rs0.filter fun r => decide ((((O.findIdx? fun y => y == r.1).getD 0 : Nat) : Int) < (((O.findIdx? fun y => y == r.2.1).getD 0 : Nat) : Int))).map trD)]) (yx (vm (VE (c := trD) (xs := rs0) (WI (x4 (ds := [_, _, _]) rfl et) rfl) hT.len fun r hr => ⟨[some (trD r)], rfl, ?_, fun _ => rfl⟩)) vd) rfl)) ⟨_, fun x => (((O.findIdx? fun y => y == x).getD 0 : Nat) : Int), rfl, fun r hr => of_decide_eq_true (List.mem_filter.mp hr).2⟩
    obtain ⟨q1, q2, -, -, -⟩ := hin r hr
    have g1 : r.1 ∈ O := (hO _).mpr (by omega)
    have g2 : r.2.1 ∈ O := (hO _).mpr (by omega)
    refine vI (zZ (x := .int (((O.findIdx? fun y => y == r.1).getD 0 : Nat) : Int)) (y := .int (((O.findIdx? fun y => y == r.2.1).getD 0 : Nat) : Int)) ?_ ?_ rfl)
    · show zcL (.lst (O.map .int)) (.int r.1) = _
      exact zaX g1
    · show zcL (.lst (O.map .int)) (.int r.2.1) = _
      exact zaX g2
theorem YV (T : Txt K mg ad) : x6 P w K mg base CX0 3 ad.f__law_ringless ad.e__law_ringless ["web", "cell", "most"] (@spD ⟨K⟩ 3 xV) := by
  letI : KK := ⟨K⟩
  have G__law_stir := x9 (P := P) (w := w) (base := base) T
  have G__law_tally_by := wY (P := P) (w := w) (base := base) T
  refine xt (N := ["web", "cell", "most", "order", "place"]) (ps := ["web", "cell", "most"]) T.d__law_ringless.fn xy (g := yl) fun cdv A outer s H E hr => ?_
  unfold yl xj
  exact (zk (Wk (i := 3) xy.nd rfl (Or.inr rfl) (YJ zi))
      (zk (Xy PassesOwn.never rfl rfl T.z_range (zb (yi (za 0 (pv 0)) (ze zg) (fun _ _ => rfl)) zi) (yw (zt (i := 4) xy.nd rfl (Or.inl rfl))) (zj (zfZ (m := false) (pv 3) (wk (zq (G__law_stir.mono (by decide)) hr rfl T.d__law_stir.at_ T.d__law_stir.kp T.d__law_stir.bd (zb (za 1 (pv 1)) (zb (yA (ze zg) (za 4 (pv 4))) zi))) (yA (za 4 (pv 4)) (ze zg))) (za 4 (pv 4)) (fun a b => Xi PySem.F.plainAttrs_list PySem.F.slot_list_insert PySem.F.type_list_insert zbC a b))))
      (VO 3 (zj (zy (wv yp wz rfl T.z_tuple yD (zb (wF (zd5 (L := ["row"]) (M := ["web", "cell", "most", "order", "place"]) rfl (wf (by rfl) (by rfl) (by rfl) (by with_unfolding_all rfl) (by rfl) (by rfl) (by kernel_rfl) (all_cons rfl yI)) (xG (zq (G__law_tally_by.mono (by decide)) hr rfl T.d__law_tally_by.at_ T.d__law_tally_by.kp T.d__law_tally_by.bd (zb (za 0 (pv 0)) (zb (za 1 (pv 1)) (zb (za 2 (pv 2)) zi))))) gs1 rb1 (fun _ _ _ _ => (zt (i := 0) zg5 rfl (Or.inl rfl) (.inr rfl))) (fun _ _ _ _ => (zQ zeZ we (zX _) (Xm (za 4 (pv 4)) (zb (yi (za 0 (pv 0)) (ze zg) (fun _ _ => rfl)) zi) (fun a b => Xi PySem.F.plainAttrs_list PySem.F.slot_list_index PySem.F.type_list_index (Zd hr) a b)) (Xm (za 4 (pv 4)) (zb (yi (za 0 (pv 0)) (ze zg) (fun _ _ => rfl)) zi) (fun a b => Xi PySem.F.plainAttrs_list PySem.F.slot_list_index PySem.F.type_list_index (Zd hr) a b)))) (fun _ _ _ _ => (za 0 (pv 0))))) zi)))))))
noncomputable def zhG (E : List Tie) : List Tie := E.filter fun s => decide (s.2 ∈ E.map fun q => q.1)
noncomputable def Yl (E : List Tie) : Nat → List Tie
  | 0 => E
  | n + 1 => zhG (Yl E n)
theorem vw {E : List Tie} {s : Tie} : s ∈ zhG E ↔ s ∈ E ∧ ∃ q ∈ E, q.1 = s.2 := by
  unfold zhG
  rw [List.mem_filter, decide_eq_true_eq, List.mem_map]
theorem zdo (E : List Tie) : ∀ n s, s ∈ Yl E n → s ∈ E := by
  intro n
  induction n with
  | zero => exact fun s h => h
  | succ n ih => exact fun s h => ih s (vw.mp h).1
theorem zbk (E : List Tie) (j : Nat) : ∀ n s, s ∈ Yl E (j + n) → s ∈ Yl E j := by
  intro n
  induction n with
  | zero => exact fun s h => h
  | succ n ih => exact fun s h => ih s (vw.mp h).1
theorem zdM {E : List Tie} {P : List Int} (hf : Y2 P E = P) : ∀ n s, s ∈ E → s.1 ∈ P → s.2 ∈ P → s ∈ Yl E n := by
  intro n
  induction n with
  | zero => exact fun s h _ _ => h
  | succ n ih =>
    intro s h h1 h2
    refine vw.mpr ⟨ih s h h1 h2, ?_⟩
    have h3 := h2
    rw [← hf] at h3
    obtain ⟨-, q, hq, e, hq2⟩ := Zi.mp h3
    exact ⟨q, ih q hq (by rw [e]; exact h2) hq2, e⟩
theorem zbb {E : List Tie} (h8 : SmE E) : ∀ n s, s ∈ Yl E n → s.1 ∈ zdL E (zaR E) n := by
  intro n
  induction n with
  | zero => exact fun s h => (zex h8).mpr ⟨s, h, rfl⟩
  | succ n ih =>
    intro s h
    obtain ⟨h1, q, hq, e⟩ := vw.mp h
    exact Zi.mpr ⟨ih s h1, s, zdo E n s h1, rfl, by rw [← e]; exact ih q hq⟩
structure Wb (E : List Tie) (R : List Int) : Prop where
  two : 2 ≤ R.length
  eight : R.length ≤ 8
  nd : R.Nodup
  sm : ∀ p ∈ R, 0 ≤ p ∧ p < 8
  go : ∀ (i : Nat) (a b : Int), R[i]? = some a → (R.drop 1 ++ R.take 1)[i]? = some b → (a, b) ∈ E
set_option genInjectivity false in
set_option genSizeOf false in
set_option genCtorIdx false in
structure zcn (E : List Tie) (P W : List Int) : Prop where
  ne : W ≠ []
  nd : W.Nodup
  sub : ∀ p ∈ W, p ∈ P
  go : ∀ (i : Nat) (a b : Int), W[i]? = some a → W[i + 1]? = some b → (a, b) ∈ E
theorem XQ {W P : List Int} (nd : W.Nodup) (h : ∀ p ∈ W, p ∈ P) : W.length ≤ P.length := nd.length_le_of_subset h
theorem Vo {E : List Tie} {P W : List Int} {la o : Int} {j : Nat} (hw : zcn E P W) (hP : P.length ≤ 8) (hsm : ∀ p ∈ P, 0 ≤ p ∧ p < 8) (hla : W.getLast? = some la) (hE : (la, o) ∈ E) (hne : la ≠ o) (hj : W[j]? = some o) : Wb E (W.drop j) := by
  have hlen := XQ hw.nd hw.sub
  obtain ⟨hj1, hj2⟩ := List.getElem?_eq_some_iff.mp hj
  have hlast : W[W.length - 1]? = some la := by rw [← List.getLast?_eq_getElem?]; exact hla
  have hlt : j + 1 < W.length := by
    by_cases c : j = W.length - 1
    · rw [c, hlast] at hj
      cases hj
      exact absurd rfl hne
    · omega
  refine ⟨by rw [List.length_drop]; omega, by rw [List.length_drop]; omega, hw.nd.sublist (List.drop_sublist _ _), fun p hp => hsm p (hw.sub p (List.mem_of_mem_drop hp)), fun i a b ha hb => ?_⟩
  have hil := (List.getElem?_eq_some_iff.mp ha).1
  rw [List.length_drop] at hil
  rw [List.getElem?_drop] at ha
  have hd1 : ((W.drop j).drop 1).length = W.length - j - 1 := by rw [List.length_drop, List.length_drop]
  by_cases c : i < W.length - j - 1
  · rw [List.getElem?_append_left (by rw [hd1]; exact c), List.getElem?_drop, List.getElem?_drop] at hb
    exact hw.go (j + i) a b ha (by rw [← hb]; congr 1; omega)
  · rw [List.getElem?_append_right (by rw [hd1]; omega), hd1] at hb
    have e0 : i - (W.length - j - 1) = 0 := by omega
    rw [e0, List.getElem?_take_of_lt (by decide), List.getElem?_drop, Nat.add_zero, hj] at hb
    rw [show j + i = W.length - 1 by omega, hlast] at ha
    cases ha
    cases hb
    exact hE
theorem zcn.more {E : List Tie} {P W : List Int} {la o : Int} (hw : zcn E P W) (hla : W.getLast? = some la) (hE : (la, o) ∈ E) (ho : o ∈ P) (hn : o ∉ W) : zcn E P (W ++ [o]) := by
  have hlast : W[W.length - 1]? = some la := by rw [← List.getLast?_eq_getElem?]; exact hla
  have hpos := List.length_pos_iff.mpr hw.ne
  refine ⟨by simp, List.nodup_append.mpr ⟨hw.nd, by simp, fun a ha b hb e => hn (by rw [← List.mem_singleton.mp hb, ← e]; exact ha)⟩, fun p hp => ?_, fun i a b ha hb => ?_⟩
  · rcases List.mem_append.mp hp with h | h
    · exact hw.sub p h
    · rw [List.mem_singleton.mp h]; exact ho
  · have hil := (List.getElem?_eq_some_iff.mp hb).1
    rw [List.length_append, List.length_singleton] at hil
    rw [List.getElem?_append_left (by omega)] at ha
    by_cases c : i + 1 < W.length
    · rw [List.getElem?_append_left c] at hb
      exact hw.go i a b ha hb
    · rw [List.getElem?_append_right (by omega), show i + 1 - W.length = 0 by omega] at hb
      rw [show i = W.length - 1 by omega, hlast] at ha
      cases ha
      cases hb
      exact hE
theorem zbq {i : Nat} {f : Ev → Option (List D)} {ρ ρ' : SE} {ds : List D} (h : f (visG ρ) = some ds) (hn : zde ds = true) (h2 : ρ.set i (.v (.lst ds)) = ρ' := by rfl) : zaa i f ρ = .nx ρ' := by
  unfold zaa
  rw [h]
  show (if zde ds = true then Ctl.nx (ρ.set i (.v (.lst ds))) else .no) = _
  rw [if_pos hn, h2]
theorem zaE (ns : List Int) : zde (ns.map .int) = true := by
  induction ns with
  | nil => rfl
  | cons n ns ih => show (noL (.int n) && zde (ns.map .int)) = true; rw [ih]; rfl
theorem zdD {α : Type} (xs : List α) (x : α) : L2.atI (xs ++ [x]) (-1) = some x := by
  have e : L2.ixN (xs ++ [x]).length (-1) = some xs.length := by
    unfold L2.ixN
    rw [List.length_append]
    simp
    omega
  unfold L2.atI
  rw [e]
  simp
noncomputable def zfj (ρ : SE) : Nat := match ρ[3]? with
  | some (Sl.o ds) => 9 - ds.length
  | _ => 0
theorem zej {W : List Int} {o : Int} (h : o ∈ W) : W[(W.findIdx? fun y => y == o).getD 0]? = some o := by
  cases e : W.findIdx? fun y => y == o with
  | none =>
    have := List.findIdx?_eq_none_iff.mp e o h
    rw [beq_self_eq_true] at this
    cases this
  | some j =>
    obtain ⟨h1, h2, -⟩ := List.findIdx?_eq_some_iff_getElem.mp e
    show W[j]? = some o
    rw [List.getElem?_eq_getElem h1, beq_iff_eq.mp h2]
theorem zgo {E : List Tie} {P : List Int} {N B C : SE → Prop} {R : D → Prop} (hE : E.length ≤ 1000) (hP : P.length ≤ 8) (hsm : ∀ p ∈ P, 0 ≤ p ∧ p < 8) (hf : Y2 P E = P) (hne : P ≠ []) (hd : ∀ s ∈ E, s.1 ≠ s.2) (hR : ∀ L, Wb E L → R (.tup (L.map .int))) : ((yL (sIf (tOf (zm Yx (eFn Z2 (zd (zf 1) zx)) (eC (.int 0)))) (xJ (eC .non)) yO)
    (yL (WN 3 (wL (zd (zm ixD (zf 1) (eC (.int 0))) zx)))
    (wX (tOf (eC (.bl true))) wM 20))) [.v (.lst (E.map zc)), .v (.lst (P.map .int)), .v (.lst (P.map .int)), .no, .no]).w N B C R := by
  obtain ⟨p0, P', rfl⟩ : ∃ p0 P', P = p0 :: P' := by
    cases P with
    | nil => exact absurd rfl hne
    | cons p P => exact ⟨p, P, rfl⟩
  refine xM (YZ (c := false) ?_ (fun z => by cases z) (fun _ => vZ rfl ?_))
  · refine (vI (zZ (x := .int (((p0 :: P').map D.int).length : Int)) (y := .int 0) (Vf (ds := [.lst ((p0 :: P').map .int)]) rfl rfl) rfl rfl)).trans ?_
    rw [List.length_map, List.length_cons, decide_eq_false (by omega)]
  obtain ⟨P, hPe⟩ : ∃ P, p0 :: P' = P := ⟨_, rfl⟩
  have hp0 : p0 ∈ P := by rw [← hPe]; exact List.mem_cons_self
  refine zR (ρ' := [.v (.lst (E.map zc)), .v (.lst (P.map .int)), .v (.lst (P.map .int)), .o ([p0].map .int), .no]) ?_ ?_
  · rw [← hPe]
    exact Vi (ds := [.int p0]) (zaY (yx (zZ (x := .lst ((p0 :: P').map .int)) (y := .int 0) rfl rfl (zbm (by decide) rfl)) vd) (by show 1 ≤ 1000; decide))
  rw [hPe] at hP hsm hf
  refine XR (fun ρ => ∃ (W : List Int) (o4 : Sl), ρ = [.v (.lst (E.map zc)), .v (.lst (P.map .int)), .v (.lst (P.map .int)), .o (W.map .int), o4] ∧ zcn E P W) zfj ?_ 20 _ ⟨[p0], _, rfl, ⟨by simp, by simp, fun p hp => by rw [List.mem_singleton.mp hp]; exact hp0, fun i a b _ hb => by simp at hb⟩⟩ (by show 9 - 1 < 20; decide)
  rintro ρ ⟨W, o4, rfl, hw⟩
  refine ⟨true, rfl, fun _ => ?_, fun z => by cases z⟩
  have hlen := XQ hw.nd hw.sub
  obtain ⟨W', la, hW⟩ : ∃ W' la, W = W' ++ [la] := ⟨W.dropLast, W.getLast hw.ne, (List.dropLast_concat_getLast hw.ne).symm⟩
  have hla : W.getLast? = some la := by rw [hW, List.getLast?_append]; rfl
  have hlaP : la ∈ P := hw.sub la (by rw [hW]; exact List.mem_append_right _ List.mem_cons_self)
  unfold wM
  obtain ⟨Q, hQ⟩ : ∃ Q, (E.filter fun s => decide (s.1 = la) && decide (s.2 ∈ P)) = Q := ⟨_, rfl⟩
  have eo : fLC (iOf (zf 0)) b1 (wR (tOf (zm Yx (zm ixD (zf 0) (eC (.int 0))) (zm ixD (zf 4) (eUn zdO (eC (.int 1)))))) (tOf (zm inD (zm ixD (zf 0) (eC (.int 1))) (zf 2)))) (zm ixD (zf 0) (eC (.int 1))) (visG [.v (.lst (E.map zc)), .v (.lst (P.map .int)), .v (.lst (P.map .int)), .o (W.map .int), o4]) = some ((Q.map fun s => s.2).map .int) := by
    rw [← hQ, List.map_map]
    refine VE (c := zc) (xs := E) rfl hE fun s _ => ⟨[some (zc s)], rfl, ?_, fun _ => rfl⟩
    refine zfp (vI (zZ (x := .int s.1) (y := .int la) rfl (zZ (x := .lst (W.map .int)) (y := .int (-1)) rfl rfl ?_) rfl)) (vI (zZ (x := .int s.2) (y := .lst (P.map .int)) rfl rfl (zgU _ _)))
    show L2.atI (W.map D.int) (-1) = _
    rw [hW, List.map_append]
    exact zdD _ _
  obtain ⟨s, Q', hs⟩ : ∃ s Q', Q = s :: Q' := by
    have h1 := hlaP
    rw [← hf] at h1
    obtain ⟨-, s, hsE, e1, e2⟩ := Zi.mp h1
    have : s ∈ Q := by
      rw [← hQ, List.mem_filter, Bool.and_eq_true, decide_eq_true_eq, decide_eq_true_eq]
      exact ⟨hsE, e1, e2⟩
    cases Q with
    | nil => cases this
    | cons q Q => exact ⟨q, Q, rfl⟩
  have hsQ : s ∈ Q := by rw [hs]; exact List.mem_cons_self
  rw [← hQ, List.mem_filter, Bool.and_eq_true, decide_eq_true_eq, decide_eq_true_eq] at hsQ
  obtain ⟨hsE, e1, e2⟩ := hsQ
  have hso : (la, s.2) ∈ E := by rw [← e1]; exact hsE
  refine zR (ρ' := [.v (.lst (E.map zc)), .v (.lst (P.map .int)), .v (.lst (P.map .int)), .o (W.map .int), .v (.lst (.int s.2 :: (Q'.map fun s => s.2).map .int))]) (zbq eo (zaE _) (by rw [hs]; rfl)) ?_
  have e4 : ∀ ρ : Ev, zf 4 ρ = some (.lst (.int s.2 :: (Q'.map fun s => s.2).map .int)) → zm ixD (zf 4) (eC (.int 0)) ρ = some (.int s.2) := fun ρ h => zZ (x := .lst (.int s.2 :: (Q'.map fun s => s.2).map .int)) (y := .int 0) h rfl (zbm (by decide) rfl)
  refine xM (YZ (c := decide (s.2 ∈ W)) (vI (zZ (x := .int s.2) (y := .lst (W.map .int)) (e4 _ rfl) rfl (zgU _ _))) (fun c => ?_) (fun c => vZ rfl ?_))
  · have c := of_decide_eq_true c
    refine Y8 (xB (d := .tup ((W.drop ((W.findIdx? fun y => y == s.2).getD 0)).map .int)) ?_) (hR _ (Vo hw hP hsm hla hso (by rw [← e1]; exact hd s hsE) (zej c)))
    refine Vf (ds := [.lst ((W.drop ((W.findIdx? fun y => y == s.2).getD 0)).map .int)]) (yx ?_ vd) rfl
    have ei : yG (zaI zcL (zf 3) (zd (zm ixD (zf 4) (eC (.int 0))) zx)) (visG [.v (.lst (E.map zc)), .v (.lst (P.map .int)), .v (.lst (P.map .int)), .o (W.map .int), .v (.lst (.int s.2 :: (Q'.map fun s => s.2).map .int))]) = some (some (((W.findIdx? fun y => y == s.2).getD 0 : Nat) : Int)) := by
      unfold yG zaI
      rw [yx (e4 _ rfl) vd]
      show ((zcL (.lst (W.map .int)) (.int s.2)).bind asI).map some = _
      rw [zaX c]
      rfl
    unfold eSl
    rw [ei]
    show some (D.lst (ZS (W.map D.int) (some (((W.findIdx? fun y => y == s.2).getD 0 : Nat) : Int)) none)) = _
    rw [Wa, List.map_drop]
  · have c := of_decide_eq_false c
    have hw2 := hw.more hla hso e2 c
    have hlen2 := XQ hw2.nd hw2.sub
    rw [List.length_append, List.length_singleton] at hlen2
    refine vZ (VI (ds := W.map .int) (d := .int s.2) (show zm ixD (zf 4) (eC (.int 0)) (visF [.v (.lst (E.map zc)), .v (.lst (P.map .int)), .v (.lst (P.map .int)), .o (W.map .int), .v (.lst (.int s.2 :: (Q'.map fun s => s.2).map .int))]) = _ from e4 _ rfl) rfl (by rw [List.length_map]; omega)) ⟨⟨W ++ [s.2], .v (.lst (.int s.2 :: (Q'.map fun s => s.2).map .int)), by rw [List.map_append]; rfl, hw2⟩, ?_⟩
    show 9 - (W.map D.int ++ [D.int s.2]).length < 9 - (W.map D.int).length
    rw [List.length_append, List.length_map, List.length_singleton]
    omega
theorem zaC {E : List Tie} (hE : E.length ≤ 1000) (h8 : SmE E) (hd : ∀ s ∈ E, s.1 ≠ s.2) : (vj [.lst (E.map zc)] = some .non ∧ Yl E 9 = []) ∨ ∃ L, vj [.lst (E.map zc)] = some (.tup (L.map .int)) ∧ Wb E L ∧ Yl E 9 ≠ [] := by
  have key := zbu (m := 5) (g := vc) (ds := [.lst (E.map zc)]) (R := fun d => (d = .non ∧ Yl E 9 = []) ∨ ∃ L : List Int, d = .tup (L.map .int) ∧ Wb E L ∧ Yl E 9 ≠ []) (ρ := [.v (.lst (E.map zc)), .no, .no, .no, .no]) rfl ?_
  · obtain ⟨d, e, ⟨rfl, h⟩ | ⟨L, rfl, h⟩⟩ := key
    · exact .inl ⟨e, h⟩
    · exact .inr ⟨L, e, h⟩
  unfold vc
  refine zbd hE h8 fun P j hP hj hf => ?_
  have hsm : ∀ p ∈ P, 0 ≤ p ∧ p < 8 := fun p hp => by
    rw [← hf] at hp
    obtain ⟨-, s, hs, rfl, -⟩ := Zi.mp hp
    exact h8 s hs
  by_cases c : P = []
  · subst c
    refine xM (YZ (c := true) rfl (fun _ => Y8 rfl (.inl ⟨rfl, ?_⟩)) (fun z => by cases z))
    refine List.eq_nil_iff_forall_not_mem.mpr fun s hs => ?_
    have h1 := zbk E j (9 - j) s (by rw [show j + (9 - j) = 9 by omega]; exact hs)
    have h2 := zbb h8 j s h1
    rw [← hP] at h2
    cases h2
  · refine zgo hE (by omega) hsm hf c hd fun L hL => .inr ⟨L, rfl, hL, ?_⟩
    obtain ⟨p, hp⟩ := List.exists_mem_of_ne_nil _ c
    have h1 := hp
    rw [← hf] at h1
    obtain ⟨-, s, hs, rfl, h2⟩ := Zi.mp h1
    intro e
    have := zdM hf 9 s hs hp h2
    rw [e] at this
    cases this
theorem zal (T : Txt K mg ad) : x6 P w K mg base CX0 2 ad.f_ring_of ad.e_ring_of ["steps"] (@spD ⟨K⟩ 1 vj) := by
  letI : KK := ⟨K⟩
  have G_led_on := zco (P := P) (w := w) (base := base) T
  refine xt (N := ["steps", "places", "kept", "way", "onward"]) (ps := ["steps"]) T.d_ring_of.fn xh (g := vc) fun cdv A outer s H E hr => ?_
  unfold vc wK wM
  exact (zk (xU (m := false) (i := 1) xh.nd rfl (Or.inr rfl) (wF (zaF rfl rfl T.z_sorted rfl T.z_set (wF (YE (L := ["step"]) (M := ["steps", "places", "kept", "way", "onward"]) rfl (wf (by rfl) (by rfl) (by rfl) (by with_unfolding_all rfl) (by rfl) (by rfl) (by kernel_rfl) yI) (xG (za 0 (pv 0))) gs1 rb1 (fun _ _ _ _ => (zt (i := 0) zf5 rfl (Or.inl rfl) (.inr rfl))) (fun _ _ _ _ => (yi (za 0 (pv 0)) (ze zg) (fun _ _ => rfl))))))))
      (zk (xU (m := false) (i := 2) xh.nd rfl (Or.inl rfl) (zq (G_led_on.mono (by decide)) hr rfl T.d_led_on.at_ T.d_led_on.kp T.d_led_on.bd (zb (za 1 (pv 1)) (zb (za 0 (pv 0)) zi))))
      (zk (VH 20 PassesOwn.never (zQ (zd0 hr) zcb (zX _) (za 2 (pv 2)) (za 1 (pv 1))) (zk (xU (m := false) (i := 1) xh.nd rfl (Or.inr rfl) (za 2 (pv 2)))
      (zj (xU (m := false) (i := 2) xh.nd rfl (Or.inl rfl) (zq (G_led_on.mono (by decide)) hr rfl T.d_led_on.at_ T.d_led_on.kp T.d_led_on.bd (zb (za 1 (pv 1)) (zb (za 0 (pv 0)) zi)))))))
      (zk (xW (zQ (v6 hr) wQ (zX _) (xq ym vS rfl T.z_len YR (zb (za 1 (pv 1)) zi)) (ze zg)) (zj (zy (zdT zdW))) zH)
      (zk (Wk (i := 3) xh.nd rfl (Or.inr rfl) (YJ (zb (yi (za 1 (pv 1)) (ze zg) (fun _ _ => rfl)) zi)))
      (zj (VH 20 PassesOwn.never (xF (wJ wN)) (zk (zdK (i := 4) (za8 (L := ["step"]) (M := ["steps", "places", "kept", "way", "onward"]) xh.nd rfl (Or.inl rfl) rfl (wf (by rfl) (by rfl) (by rfl) (by with_unfolding_all rfl) (by rfl) (by rfl) (by kernel_rfl) (all_cons rfl (all_cons rfl yI))) (xG (za 0 (pv 0))) gs1 rb1 (fun _ _ _ _ => (zt (i := 0) zf5 rfl (Or.inl rfl) (.inr rfl))) (fun _ _ _ _ => (zcB (Wn (zQ (v6 hr) wQ (zX _) (yi (za 0 (pv 0)) (ze zg) (fun _ _ => rfl)) (yi (za 4 (pv 4)) (zfo (ze zg)) (fun _ _ => rfl))) (Zg (zQ (Wq hr) Wj (by with_unfolding_all rfl) (yi (za 0 (pv 0)) (ze zg) (fun _ _ => rfl)) (za 2 (pv 2))))))) (fun _ _ _ _ => (yi (za 0 (pv 0)) (ze zg) (fun _ _ => rfl)))))
      (zk (xW (zQ (Wq hr) Wj (by with_unfolding_all rfl) (yi (za 4 (pv 4)) (ze zg) (fun _ _ => rfl)) (za 3 (pv 3))) (zj (zy (wv yp wz rfl T.z_tuple yD (zb (yF (za 3 (pv 3)) (xC (Xm (za 3 (pv 3)) (zb (yi (za 4 (pv 4)) (ze zg) (fun _ _ => rfl)) zi) (fun a b => Xi PySem.F.plainAttrs_list PySem.F.slot_list_index PySem.F.type_list_index (Zd hr) a b))) xE) zi)))) zH)
      (zj (WM (m := false) (pv 3) (yi (za 4 (pv 4)) (ze zg) (fun _ _ => rfl)) (fun a b => Xi PySem.F.plainAttrs_list PySem.F.slot_list_append PySem.F.type_list_append w6 a b))))))))))))
noncomputable def v9 : SE → Ctl :=
  (yL (zaU (zz 1 yX (zd (zf 0) zx)))
    (yL (zaU (zz 2 x3 (zd (zf 0) (zd (zf 1) zx))))
    (xJ (zz 1 vj (zd (x8 (fLC (iOf (zf 1)) b1 yT (eSl slD (zf 0) yV (yG (eC (.int 2)))))) zx)))))
noncomputable def wD : List D → Option D := fnD 2 v9
theorem Vj {ρ : Ev} {i : Nat} {rs : List TR} (h : zf i ρ = some (.tup (rs.map trD))) (hl : rs.length ≤ 1000) : x8 (fLC (iOf (zf i)) b1 yT (eSl slD (zf 0) yV (yG (eC (.int 2))))) ρ = some (.lst ((rs.map trP).map zc)) := by
  rw [List.map_map]
  exact vm (Z3 (c := trD) (xs := rs) (WI h rfl) hl fun r _ => ⟨[some (trD r)], rfl, rfl, rfl⟩)
theorem zhw {m : Int} {ts : List Tie} (ok : ww m ts) : yX [yK m ts] = some .non := by
  have hw : vL (yK m ts) = true := (Yp _).mpr ⟨_, _, rfl, ok⟩
  simp only [yX]
  rw [if_pos hw]
theorem Z4 {m : Int} {ts : List Tie} {rs : List TR} {d : D} (ok : ww m ts) (hT : v5 ts rs) (h : vj [.lst ((rs.map trP).map zc)] = some d) : wD [yK m ts, .tup (rs.map trD)] = some d := by
  refine Vm (ρ := [.v (yK m ts), .v (.tup (rs.map trD))]) rfl ?_
  unfold v9
  refine zR (zct (d := .non) (zhw ok)) ?_
  refine zR (zct (d := .non) (ZO (X6 ok hT))) ?_
  exact Y8 (xB (x4 (ds := [.lst ((rs.map trP).map zc)]) (yx (Vj rfl hT.len) vd) h)) rfl
theorem zaf (T : Txt K mg ad) : x6 P w K mg base CX0 9 ad.f_ring_in ad.e_ring_in ["web", "tally"] (@spD ⟨K⟩ 2 wD) := by
  letI : KK := ⟨K⟩
  have G_must_be_web := ZQ (P := P) (w := w) (base := base) T
  have G_must_be_tally := YT (P := P) (w := w) (base := base) T
  have G_ring_of := zal (P := P) (w := w) (base := base) T
  refine xt (N := ["web", "tally"]) (ps := ["web", "tally"]) T.d_ring_in.fn zaN (g := v9) fun cdv A outer s H E hr => ?_
  unfold v9
  exact (zk (zaZ (zq (G_must_be_web.mono (by decide)) hr rfl T.d_must_be_web.at_ T.d_must_be_web.kp T.d_must_be_web.bd (zb (za 0 (pv 0)) zi)))
      (zk (zaZ (zq (G_must_be_tally.mono (by decide)) hr rfl T.d_must_be_tally.at_ T.d_must_be_tally.kp T.d_must_be_tally.bd (zb (za 0 (pv 0)) (zb (za 1 (pv 1)) zi))))
      (zj (zy (zq (G_ring_of.mono (by decide)) hr rfl T.d_ring_of.at_ T.d_ring_of.kp T.d_ring_of.bd (zb (wF (YE (L := ["row"]) (M := ["web", "tally"]) rfl (wf (by rfl) (by rfl) (by rfl) (by with_unfolding_all rfl) (by rfl) (by rfl) (by kernel_rfl) yI) (xG (za 1 (pv 1))) gs1 rb1 (fun _ _ _ _ => (zt (i := 0) zhf rfl (Or.inl rfl) (.inr rfl))) (fun _ _ _ _ => (yF (za 0 (pv 0)) xE (xC (ze zg)))))) zi))))))
noncomputable def xi : SE → Ctl :=
  (yL (vb false 3 (x8 (fLC (iOf (zf 1)) b2 yT (zf 0))))
    (vb false 1 (x8 (fLC (iOf (zf 1)) b2 (tOf (zm inD (zf 1) (zf 5))) (YO (zd (zf 0) (zd (zf 1) zx)))))))
noncomputable def yQ : SE → Ctl :=
  (yL (vb false 1 (x8 (fLC (iOf (zf 0)) b1 yT (eSl slD (zf 0) yV (yG (eC (.int 2)))))))
    (yL (vG WP (zd (eC (.int 9)) zx) (xZ 2) xi)
    (xJ (zm zer (zf 1) (x8 (wL zx))))))
noncomputable def zM : List D → Option D := fnD 4 yQ
theorem zff (l : List Tie) : zer (.lst (l.map zc)) (.lst []) = some (.bl (!decide (l = []))) := by
  have hk : okE 20 (.lst (l.map zc)) = true := by
    show (l.map zc).all (okE 19) = true
    rw [List.all_map, List.all_eq_true]
    exact fun t _ => rfl
  show (if (okE 20 (.lst (l.map zc)) && true) = true then _ else none) = _
  rw [hk, if_pos (show (true && true) = true from rfl)]
  cases l <;> rfl
theorem zdc (E : List Tie) (n : Nat) : (Yl E n).length ≤ E.length := by
  induction n with
  | zero => exact Nat.le_refl _
  | succ n ih => exact Nat.le_trans (List.length_filter_le _ _) ih
theorem Zv {rs : List TR} (hl : rs.length ≤ 1000) : zM [.tup (rs.map trD)] = some (.bl (!decide (Yl (rs.map trP) 9 = []))) := by
  refine Vm (ρ := [.v (.tup (rs.map trD)), .no, .no, .no]) rfl ?_
  unfold yQ
  refine zR (ρ' := [.v (.tup (rs.map trD)), .v (.lst ((rs.map trP).map zc)), .no, .no]) (zaK (Vj rfl hl)) ?_
  obtain ⟨E, hE⟩ : ∃ E, rs.map trP = E := ⟨_, rfl⟩
  have hEl : E.length ≤ 1000 := by rw [← hE, List.length_map]; exact hl
  rw [hE]
  refine xM (VG (lo := 0) (c := 9) (fun i ρ => ∃ o2 o3 : Sl, ρ = [.v (.tup (rs.map trD)), .v (.lst ((Yl E i).map zc)), o2, o3]) (show WP [.int 9] = some (YW 0 9) from Yn (by decide) (by decide)) ⟨_, _, rfl⟩ ?_ ?_)
  · rintro i ρ hi ⟨o2, o3, rfl⟩
    refine ⟨[.v (.tup (rs.map trD)), .v (.lst ((Yl E i).map zc)), .v (.int ((0 : Int) + (i : Int))), o3], rfl, ?_⟩
    unfold xi
    have hcl : (Yl E i).length ≤ 1000 := Nat.le_trans (zdc E i) hEl
    have e3 : x8 (fLC (iOf (zf 1)) b2 yT (zf 0)) (visF [.v (.tup (rs.map trD)), .v (.lst ((Yl E i).map zc)), .v (.int ((0 : Int) + (i : Int))), o3]) = some (.lst (((Yl E i).map fun q => q.1).map .int)) := by
      rw [List.map_map]
      exact vm (Z3 (c := zc) (xs := Yl E i) rfl hcl fun s _ => ⟨[some (.int s.1), some (.int s.2)], rfl, rfl, rfl⟩)
    refine zR (ρ' := [.v (.tup (rs.map trD)), .v (.lst ((Yl E i).map zc)), .v (.int ((0 : Int) + (i : Int))), .v (.lst (((Yl E i).map fun q => q.1).map .int))]) (zaK e3) ?_
    have e1 : x8 (fLC (iOf (zf 1)) b2 (tOf (zm inD (zf 1) (zf 5))) (YO (zd (zf 0) (zd (zf 1) zx)))) (visF [.v (.tup (rs.map trD)), .v (.lst ((Yl E i).map zc)), .v (.int ((0 : Int) + (i : Int))), .v (.lst (((Yl E i).map fun q => q.1).map .int))]) = some (.lst ((Yl E (i + 1)).map zc)) := by
      refine vm (VE (c := zc) (xs := Yl E i) rfl hcl fun s _ => ⟨[some (.int s.1), some (.int s.2)], rfl, ?_, fun _ => rfl⟩)
      exact vI (zZ (x := .int s.2) (y := .lst (((Yl E i).map fun q => q.1).map .int)) rfl rfl (zgU _ _))
    exact vZ (zaK e1) ⟨_, _, rfl⟩
  · rintro ρ ⟨o2, o3, rfl⟩
    exact Y8 (xB (zZ (x := .lst ((Yl E 9).map zc)) (y := .lst []) rfl rfl (zff _))) rfl
theorem YU (T : Txt K mg ad) : x6 P w K mg base CX0 1 ad.f__law_has_ring ad.e__law_has_ring ["tally"] (@spD ⟨K⟩ 1 zM) := by
  letI : KK := ⟨K⟩
  refine xt (N := ["tally", "left", "turn", "tails"]) (ps := ["tally"]) T.d__law_has_ring.fn ya (g := yQ) fun cdv A outer s H E hr => ?_
  unfold yQ xi
  exact (zk (Vw (m := false) (i := 1) (za7 (L := ["row"]) (M := ["tally", "left", "turn", "tails"]) ya.nd rfl (Or.inl rfl) rfl (wf (by rfl) (by rfl) (by rfl) (by with_unfolding_all rfl) (by rfl) (by rfl) (by kernel_rfl) yI) (xG (za 0 (pv 0))) gs1 rb1 (fun _ _ _ _ => (zt (i := 0) zhC rfl (Or.inl rfl) (.inr rfl))) (fun _ _ _ _ => (yF (za 0 (pv 0)) xE (xC (ze zg))))))
      (zk (Xy PassesOwn.never rfl rfl T.z_range (zb (ze zg) zi) (yw (zt (i := 2) ya.nd rfl (Or.inl rfl))) (zk (xU (m := false) (i := 3) ya.nd rfl (Or.inr rfl) (wF (YE (L := ["a", "b"]) (M := ["tally", "left", "turn", "tails"]) rfl (wf (by rfl) (by rfl) (by rfl) (by with_unfolding_all rfl) (by rfl) (by rfl) (by kernel_rfl) yI) (xG (za 1 (pv 1))) gs2 rb2 (fun _ _ _ _ => (VM rfl (wG (zt (i := 0) zdA rfl (Or.inl rfl) (.inr rfl)) (wG (zt (i := 1) zdA rfl (Or.inl rfl) (.inr rfl)) Xw)))) (fun _ _ _ _ => (za 0 (pv 0))))))
      (zj (Vw (m := false) (i := 1) (za8 (L := ["a", "b"]) (M := ["tally", "left", "turn", "tails"]) ya.nd rfl (Or.inl rfl) rfl (wf (by rfl) (by rfl) (by rfl) (by with_unfolding_all rfl) (by rfl) (by rfl) (by kernel_rfl) (all_cons rfl yI)) (xG (za 1 (pv 1))) gs2 rb2 (fun _ _ _ _ => (VM rfl (wG (zt (i := 0) zdA rfl (Or.inl rfl) (.inr rfl)) (wG (zt (i := 1) zdA rfl (Or.inl rfl) (.inr rfl)) Xw)))) (fun _ _ _ _ => (zQ (Wq hr) Wj (by with_unfolding_all rfl) (za 1 (pv 1)) (za 5 (pv 5)))) (fun _ _ _ _ => (wW (zb (za 0 (pv 0)) (zb (za 1 (pv 1)) zi)))))))))
      (zj (zy (Wl (zd0 hr) zcb (zX _) (za 1 (pv 1)) (wF (YJ zi)))))))
noncomputable def vn : SE → Ctl :=
  (xJ (XV (eUn (wZ .int) (zf 0)) (zcW (eUn (wZ .bool) (zf 0)))))
noncomputable def YH : List D → Option D := fnD 1 vn
theorem XM (T : Txt K mg ad) : x6 P w K mg base CX0 1 ad.f__law_whole ad.e__law_whole ["found"] (@spD ⟨K⟩ 1 YH) := by
  letI : KK := ⟨K⟩
  refine xt (N := ["found"]) (ps := ["found"]) T.d__law_whole.fn Xp (g := vn) fun cdv A outer s H E hr => ?_
  unfold vn
  exact (zj (zy (Ye (yy .int rfl T.z_isinstance (za 0 (pv 0)) (wl (v := .ty "int") rfl T.z_int zdV rfl)) (YG (zdU (yy .bool rfl T.z_isinstance (za 0 (pv 0)) (wl (v := .ty "bool") rfl T.z_bool zaV rfl)))))))
noncomputable def xD : SE → Ctl :=
  (sIf (XW (xY (tOf (zz 1 YH (zd (zf 3) zx)))) (tOf (zm za0 (YO (zd (zf 3) (zd (zf 4) zx))) (zf 2)))) (xJ (eC (.bl false))) yO)
noncomputable def xo : SE → Ctl :=
  (yL (sIf (XW (xY (tOf (eUn (wZ .tuple) (zf 1)))) (XW (tOf (zm ltD (eFn Z2 (zd (zf 1) zx)) (eC (.int 2)))) (tOf (zm neD (eUn lsD (zf 1)) (eFn Z2 (zd (zf 1) zx)))))) (xJ (eC (.bl false))) yO)
    (yL (vb false 2 (x8 (fLC (iOf (zf 0)) b1 yT (eSl slD (zf 0) yV (yG (eC (.int 2)))))))
    (yL (WA (ZM (zd (zf 1) (zd (zm xX (eSl slD (zf 1) (yG (eC (.int 1))) yV) (eSl slD (zf 1) yV (yG (eC (.int 1))))) zx))) (zaL 2 (vf (xZ 3) (vf (xZ 4) zaO))) xD)
    (xJ (eC (.bl true))))))
noncomputable def yz : List D → Option D := fnD 5 xo
theorem zf4 {R : List Int} (nd : R.Nodup) (hs : ∀ p ∈ R, 0 ≤ p ∧ p < 8) : lsD (.tup (R.map .int)) = some (.int (R.length : Int)) := by
  have e : R.map D.int = ((R.map fun p => p.toNat).map fun k : Nat => (k : Int)).map D.int := by
    rw [List.map_map, List.map_map]
    refine List.map_congr_left fun p hp => ?_
    show D.int p = D.int ((p.toNat : Nat) : Int)
    rw [Int.toNat_of_nonneg (hs p hp).1]
  have h8 : ∀ k ∈ R.map fun p => p.toNat, k < 8 := fun k hk => by
    obtain ⟨p, hp, rfl⟩ := List.mem_map.mp hk
    have := hs p hp
    omega
  show (wI (R.map .int)).map (fun ks => D.int ((zaB ks).length : Int)) = _
  rw [e, ZF h8]
  have nd2 : (R.map fun p => p.toNat).Nodup := by
    show List.Pairwise (· ≠ ·) _
    rw [List.pairwise_map]
    refine List.Pairwise.imp_of_mem (fun {a b} ha hb h e => h ?_) nd
    have := hs a ha
    have := hs b hb
    omega
  have hpm : (zaB (R.map fun p => p.toNat)).Perm (R.map fun p => p.toNat) := (List.perm_ext_iff_of_nodup ((WS _).imp fun h => Nat.ne_of_lt h) nd2).mpr fun k => Xj h8
  show some (D.int ((zaB (R.map fun p => p.toNat)).length : Int)) = _
  rw [hpm.length_eq, List.length_map]
theorem zch (t : Tie) (l : List Tie) (h : t ∈ l) : za0 (zc t) (.lst (l.map zc)) = some (.bl false) := by
  have e := VR t l
  rw [decide_eq_true h] at e
  show (zaT (zc t) (l.map zc)).map (fun b => D.bl (!b)) = _
  have e2 : (zaT (zc t) (l.map zc)).map D.bl = some (.bl true) := e
  obtain ⟨b, h1, h2⟩ := Option.map_eq_some_iff.mp e2
  cases h2
  rw [h1]
  rfl
theorem zdB : ∀ (l s : List Int), zar (l.map .int) (s.map .int) = (l.zip s).map zc := by
  intro l
  induction l with
  | nil => intro s; rfl
  | cons a l ih =>
    intro s
    cases s with
    | nil => rfl
    | cons b s =>
      show D.tup [.int a, .int b] :: zar (l.map .int) (s.map .int) = _
      rw [ih]
      rfl
theorem zad {rs : List TR} {L : List Int} (hl : rs.length ≤ 1000) (h : Wb (rs.map trP) L) : yz [.tup (rs.map trD), .tup (L.map .int)] = some (.bl true) := by
  have h2 := h.two
  have h8 := h.eight
  refine Vm (ρ := [.v (.tup (rs.map trD)), .v (.tup (L.map .int)), .no, .no, .no]) rfl ?_
  unfold xo
  have el : Z2 [.tup (L.map D.int)] = some (.int (L.length : Int)) := by
    show some (D.int (((L.map D.int).length : Nat) : Int)) = _
    rw [List.length_map]
  have t0 : XW (xY (tOf (eUn (wZ .tuple) (zf 1)))) (XW (tOf (zm ltD (eFn Z2 (zd (zf 1) zx)) (eC (.int 2)))) (tOf (zm neD (eUn lsD (zf 1)) (eFn Z2 (zd (zf 1) zx))))) (visG [.v (.tup (rs.map trD)), .v (.tup (L.map .int)), .no, .no, .no]) = some false := by
    refine zet (b := false) (c := false) rfl (zet (b := false) (c := false) ((vI (zZ (x := .int (L.length : Int)) (y := .int 2) (Vf (ds := [.tup (L.map .int)]) rfl el) rfl rfl)).trans (by show some (decide ((L.length : Int) < 2)) = _; rw [decide_eq_false (by omega)])) (vI (zZ (x := .int (L.length : Int)) (y := .int (L.length : Int)) (zho (x := .tup (L.map .int)) rfl (zf4 h.nd h.sm)) (Vf (ds := [.tup (L.map .int)]) rfl el) ?_)))
    show some (D.bl (!decide ((L.length : Int) = (L.length : Int)))) = _
    rw [decide_eq_true rfl]
    rfl
  refine xM (YZ (c := false) t0 (fun z => by cases z) (fun _ => vZ rfl ?_))
  refine zR (ρ' := [.v (.tup (rs.map trD)), .v (.tup (L.map .int)), .v (.lst ((rs.map trP).map zc)), .no, .no]) (zaK (Vj rfl hl)) ?_
  have e1 : eSl slD (zf 1) (yG (eC (.int 1))) yV (visF [.v (.tup (rs.map trD)), .v (.tup (L.map .int)), .v (.lst ((rs.map trP).map zc)), .no, .no]) = some (.tup ((L.drop 1).map .int)) := by
    show some (D.tup (ZS (L.map D.int) (some ((1 : Nat) : Int)) none)) = _
    rw [Wa, List.map_drop]
  have e2 : eSl slD (zf 1) yV (yG (eC (.int 1))) (visF [.v (.tup (rs.map trD)), .v (.tup (L.map .int)), .v (.lst ((rs.map trP).map zc)), .no, .no]) = some (.tup ((L.take 1).map .int)) := by
    show some (D.tup (ZS (L.map D.int) none (some ((1 : Nat) : Int)))) = _
    rw [XY, List.map_take]
  have e3 : zm xX (eSl slD (zf 1) (yG (eC (.int 1))) yV) (eSl slD (zf 1) yV (yG (eC (.int 1)))) (visF [.v (.tup (rs.map trD)), .v (.tup (L.map .int)), .v (.lst ((rs.map trP).map zc)), .no, .no]) = some (.tup ((L.drop 1 ++ L.take 1).map .int)) := by
    refine zZ e1 e2 ?_
    show (if lim (((L.drop 1).map D.int).length + ((L.take 1).map D.int).length) = true then _ else none) = _
    rw [if_pos (vY (by rw [List.length_map, List.length_map, List.length_drop, List.length_take]; omega)), ← List.map_append]
  have ez : ZM (zd (zf 1) (zd (zm xX (eSl slD (zf 1) (yG (eC (.int 1))) yV) (eSl slD (zf 1) yV (yG (eC (.int 1))))) zx)) (visF [.v (.tup (rs.map trD)), .v (.tup (L.map .int)), .v (.lst ((rs.map trP).map zc)), .no, .no]) = some ((L.zip (L.drop 1 ++ L.take 1)).map zc) := by
    unfold ZM
    rw [yx (d := .tup (L.map .int)) rfl (yx e3 vd)]
    show (if (L.map D.int).length ≤ ((L.drop 1 ++ L.take 1).map D.int).length then some (zar (L.map D.int) ((L.drop 1 ++ L.take 1).map D.int)) else none) = _
    rw [if_pos (by rw [List.length_map, List.length_map, List.length_append, List.length_drop, List.length_take]; omega), zdB]
  refine xM (W7 (ds := (L.zip (L.drop 1 ++ L.take 1)).map zc) (fun _ ρ => ∃ o3 o4 : Sl, ρ = [.v (.tup (rs.map trD)), .v (.tup (L.map .int)), .v (.lst ((rs.map trP).map zc)), o3, o4]) ez ⟨_, _, rfl⟩ ?_ ?_)
  · rintro i d ρ hd ⟨o3, o4, rfl⟩
    rw [List.getElem?_map] at hd
    obtain ⟨⟨a, b⟩, hab, rfl⟩ := Option.map_eq_some_iff.mp hd
    rw [List.getElem?_zip_eq_some] at hab
    have hE := h.go i a b hab.1 hab.2
    refine ⟨[.v (.tup (rs.map trD)), .v (.tup (L.map .int)), .v (.lst ((rs.map trP).map zc)), .v (.int a), .v (.int b)], rfl, ?_⟩
    unfold xD
    exact YZ (c := false) (zet (b := false) (c := false) (zcF (b := true) (vI (x4 (ds := [.int a]) rfl rfl))) (vI (zZ (x := zc (a, b)) (y := .lst ((rs.map trP).map zc)) rfl rfl (zch _ _ hE)))) (fun z => by cases z) (fun _ => vZ rfl ⟨_, _, rfl⟩)
  · rintro ρ ⟨o3, o4, rfl⟩
    exact Y8 rfl rfl
theorem Zt (T : Txt K mg ad) : x6 P w K mg base CX0 2 ad.f__law_is_ring ad.e__law_is_ring ["tally", "found"] (@spD ⟨K⟩ 2 yz) := by
  letI : KK := ⟨K⟩
  have G__law_whole := XM (P := P) (w := w) (base := base) T
  refine xt (N := ["tally", "found", "heads", "one", "other"]) (ps := ["tally", "found"]) T.d__law_is_ring.fn yY (g := xo) fun cdv A outer s H E hr => ?_
  unfold xo xD
  exact (zk (xW (zcB (Vy (wq (xF (yy .tuple rfl T.z_isinstance (za 1 (pv 1)) (wl (v := .ty "tuple") rfl T.z_tuple yD rfl)))) (Vy (zQ zeZ we (zX _) (xq ym vS rfl T.z_len YR (zb (za 1 (pv 1)) zi)) (ze zg)) (Xd (zQ zbR WB (zX _) (zb8 rfl rfl T.z_len rfl T.z_set (za 1 (pv 1))) (xq ym vS rfl T.z_len YR (zb (za 1 (pv 1)) zi))))))) (zj (zy (wJ wN))) zH)
      (zk (Vw (m := false) (i := 2) (za7 (L := ["row"]) (M := ["tally", "found", "heads", "one", "other"]) yY.nd rfl (Or.inl rfl) rfl (wf (by rfl) (by rfl) (by rfl) (by with_unfolding_all rfl) (by rfl) (by rfl) (by kernel_rfl) yI) (xG (za 0 (pv 0))) gs1 rb1 (fun _ _ _ _ => (zt (i := 0) zgp rfl (Or.inl rfl) (.inr rfl))) (fun _ _ _ _ => (yF (za 0 (pv 0)) xE (xC (ze zg))))))
      (zk (ZH PassesOwn.never rfl (zfV rfl T.z_zip (zb (za 1 (pv 1)) (zb (yA (yF (za 1 (pv 1)) (xC (ze zg)) xE) (yF (za 1 (pv 1)) xE (xC (ze zg)))) zi))) (WE rfl (xr (yw (zt (i := 3) yY.nd rfl (Or.inl rfl))) (xr (yw (zt (i := 4) yY.nd rfl (Or.inl rfl))) Zh))) (zj (xW (zcB (Vy (wq (xF (zq (G__law_whole.mono (by decide)) hr rfl T.d__law_whole.at_ T.d__law_whole.kp T.d__law_whole.bd (zb (za 3 (pv 3)) zi)))) (Xd (zQ (zaW hr) za4 (by with_unfolding_all rfl) (wW (zb (za 3 (pv 3)) (zb (za 4 (pv 4)) zi))) (za 2 (pv 2)))))) (zj (zy (wJ wN))) zH)))
      (zj (zy (wJ wN))))))
noncomputable def Xr : SE → Ctl :=
  (yL (vb false 4 (zz 2 wD (zd (zf 2) (zd (zf 3) zx))))
    (sIf (tOf (zz 1 zM (zd (zf 3) zx))) (sIf (xY (tOf (zz 2 yz (zd (zf 3) (zd (zf 4) zx))))) (xJ (eC (.bl false))) yO) (sIf (tOf (zm wU (zf 4) (eC .non))) (xJ (eC (.bl false))) yO)))
noncomputable def Xt : SE → Ctl :=
  (yL (vb false 2 (zz 2 xz (zd (zm xX (eC (.int 2)) (zm x5 (zm wn (zf 1) (eC (.int 64))) (eC (.int 7)))) (zd (zm wn (zf 1) (eC (.int 448))) zx))))
    (yL (WA (iOf (x8 (wL (zd (zz 3 yk (zd (zf 2) (zd (zf 1) (zd (eC (.int 5)) zx)))) (zd (zz 3 xV (zd (zf 2) (zd (zf 1) (zd (eC (.int 5)) zx)))) (zd (YO zx) zx)))))) (xZ 3) Xr)
    (yL (vb false 5 (eFn xI (zd (zm xX (x8 (fLC (iOf (eSl slD (zm ixD (zf 2) (eC (.int 1))) yV (yG (eC (.int 1))))) b1 yT (zm xX (zf 0) (YO (zd (eC (.int 1)) zx))))) (x8 (fLC (iOf (eSl slD (zm ixD (zf 2) (eC (.int 1))) yV (yG (eC (.int 1))))) b1 yT (zm xX (eUn zdN (zf 0)) (YO (zd (eC (.int 2)) zx)))))) zx)))
    (sIf (xY (tOf (zz 2 yz (zd (zf 5) (zd (zz 2 wD (zd (zf 2) (zd (zf 5) zx))) zx))))) (xJ (eC (.bl false))) yO))))
noncomputable def zcV : SE → Ctl :=
  (yL (WA (iOf (zm xX (eSl slD (zf 0) yV (yG (eC (.int 10)))) (x8 (wL (zd (eC (.int 0)) (zd (eC (.int 7)) (zd (eC (.int 14)) zx))))))) (xZ 1) Xt)
    (xJ (eC (.bl true))))
noncomputable def zgL : List D → Option D := fnD 6 zcV
theorem zbI {m : Int} {ts : List Tie} {rs : List TR} (ok : ww m ts) (hT : v5 ts rs) : (wD [yK m ts, .tup (rs.map trD)] = some .non ∧ zM [.tup (rs.map trD)] = some (.bl false)) ∨ ∃ d, wD [yK m ts, .tup (rs.map trD)] = some d ∧ zM [.tup (rs.map trD)] = some (.bl true) ∧ yz [.tup (rs.map trD), d] = some (.bl true) := by
  have hin := hT.trIn ok
  have hm8 := ok.hi
  have h1 : SmE (rs.map trP) := fun s hs => by
    obtain ⟨r, hr, rfl⟩ := List.mem_map.mp hs
    have := (hin r hr).1
    show 0 ≤ r.1 ∧ r.1 < 8
    omega
  have h2 : ∀ s ∈ rs.map trP, s.1 ≠ s.2 := fun s hs => by
    obtain ⟨r, hr, rfl⟩ := List.mem_map.mp hs
    exact (hin r hr).2.2.1
  have hh := Zv hT.len
  rcases zaC (by rw [List.length_map]; exact hT.len) h1 h2 with ⟨e, hc⟩ | ⟨L, e, hL, hc⟩
  · rw [decide_eq_true hc] at hh
    exact .inl ⟨Z4 ok hT e, hh⟩
  · rw [decide_eq_false hc] at hh
    exact .inr ⟨_, Z4 ok hT e, hh, zad hT.len hL⟩
theorem zfM {s : D} {z m : Int} {ts : List Tie} {rs : List TR} {o4 o5 : Sl} (ok : ww m ts) (hT : v5 ts rs) {I B C : SE → Prop} {R : D → Prop} (hI : ∀ o3 o4 o5, I [.v s, .v (.int z), .v (yK m ts), o3, o4, o5]) : (Xr [.v s, .v (.int z), .v (yK m ts), .v (.tup (rs.map trD)), o4, o5]).w I B C R := by
  unfold Xr
  rcases zbI ok hT with ⟨e1, e2⟩ | ⟨d, e1, e2, e3⟩
  · refine zR (ρ' := [.v s, .v (.int z), .v (yK m ts), .v (.tup (rs.map trD)), .v .non, o5]) (vh (ds := [_, _]) rfl e1) ?_
    exact YZ (c := false) (vI (x4 (ds := [_]) rfl e2)) (fun z => by cases z) (fun _ => YZ (c := false) rfl (fun z => by cases z) (fun _ => vZ rfl (hI _ _ _)))
  · refine zR (ρ' := [.v s, .v (.int z), .v (yK m ts), .v (.tup (rs.map trD)), .v d, o5]) (vh (ds := [_, _]) rfl e1) ?_
    exact YZ (c := true) (vI (x4 (ds := [_]) rfl e2)) (fun _ => YZ (c := false) (zcF (b := true) (vI (x4 (ds := [_, _]) rfl e3))) (fun z => by cases z) (fun _ => vZ rfl (hI _ _ _))) (fun z => by cases z)
theorem zcY {E : List Tie} {a b : Int} (h1 : (a, b) ∈ E) (h2 : (b, a) ∈ E) : ∀ n, (a, b) ∈ Yl E n ∧ (b, a) ∈ Yl E n := by
  intro n
  induction n with
  | zero => exact ⟨h1, h2⟩
  | succ n ih => exact ⟨vw.mpr ⟨ih.1, _, ih.2, rfl⟩, vw.mpr ⟨ih.2, _, ih.1, rfl⟩⟩
theorem zeT (s : D) (z : Int) (o2 o3 o4 o5 : Sl) (n b : SE → Prop) (r : D → Prop) (I : SE → Prop) (hI : ∀ o2 o3 o4 o5, I [.v s, .v (.int z), o2, o3, o4, o5]) : (Xt [.v s, .v (.int z), o2, o3, o4, o5]).w I b n r := by
  obtain ⟨q, hq⟩ : ∃ q : Int, z / 64 % 7 = q := ⟨_, rfl⟩
  obtain ⟨q0, q1⟩ := Y3 (by decide) hq
  obtain ⟨m, hm⟩ : ∃ m : Int, 2 + q = m := ⟨_, rfl⟩
  obtain ⟨ts, ew, ok, has⟩ := XX (n := m) (c := z / 448) (by omega) (by omega)
  obtain ⟨t, ts', hts⟩ : ∃ t ts', ts = t :: ts' := by
    obtain ⟨t, ht, -⟩ := has 1 (by decide) (by omega)
    cases ts with
    | nil => cases ht
    | cons t ts' => exact ⟨t, ts', rfl⟩
  have htm : t ∈ ts := by rw [hts]; exact List.mem_cons_self
  have hr := ok.rng t htm
  obtain ⟨b1', b2'⟩ := W2 ok htm
  obtain ⟨rs0, p, rank, et, ⟨hT0, -, -⟩, er, -⟩ := W8 (c := z) (mo := 5) ok (by decide) (by decide)
  have hT1 := hT0.filter p
  have hTn : v5 ts [] := ⟨(fun r h => nomatch h), List.Pairwise.nil, by show 0 ≤ 1000; decide⟩
  unfold Xt
  refine zR (ρ' := [.v s, .v (.int z), .v (yK m ts), o3, o4, o5]) (vh (ds := [.int m, .int (z / 448)]) (yx (zZ (x := .int 2) (y := .int q) rfl (zZ (x := .int (z / 64)) (y := .int 7) (zZ (x := .int z) (y := .int 64) rfl rfl (Za (by decide) (by decide))) rfl (by rw [y6 (by decide), hq])) (by rw [wO, hm])) (yx (zZ (x := .int z) (y := .int 448) rfl rfl (Za (by decide) (by decide))) vd)) ew) ?_
  refine xM (W7 (ds := [rs0, rs0.filter p, []].map fun rs => .tup (rs.map trD)) (fun _ ρ => ∃ o3 o4 o5 : Sl, ρ = [.v s, .v (.int z), .v (yK m ts), o3, o4, o5]) ?_ ⟨_, _, _, rfl⟩ ?_ ?_)
  · exact WI (d := .lst [.tup (rs0.map trD), .tup ((rs0.filter p).map trD), .tup []]) (vm (zaY (yx (x4 (ds := [_, _, _]) rfl et) (yx (x4 (ds := [_, _, _]) rfl er) (yx rfl vd))) (by show 3 ≤ 1000; decide))) rfl
  · rintro i d ρ hd ⟨o3, o4, o5, rfl⟩
    rw [List.getElem?_map] at hd
    obtain ⟨rs, hrs, rfl⟩ := Option.map_eq_some_iff.mp hd
    have hT : v5 ts rs := by
      have := List.mem_of_getElem? hrs
      simp only [List.mem_cons, List.not_mem_nil, or_false] at this
      rcases this with rfl | rfl | rfl
      · exact hT0
      · exact hT1
      · exact hTn
    exact ⟨_, rfl, zfM ok hT fun _ _ _ => ⟨_, _, _, rfl⟩⟩
  · rintro ρ ⟨o3, o4, o5, rfl⟩
    obtain ⟨rg, hrg⟩ : ∃ rg : List TR, [(t.1, t.2, 1), (t.2, t.1, 2)] = rg := ⟨_, rfl⟩
    have hT : v5 ts rg := by
      rw [← hrg]
      refine ⟨fun q hq => ?_, List.pairwise_cons.mpr ⟨fun q hq => ?_, List.pairwise_singleton _ _⟩, by show 2 ≤ 1000; decide⟩
      · rcases List.mem_cons.mp hq with rfl | hq
        · exact ⟨by rw [b1']; exact htm, by show (1 : Int) ≤ 1; decide, by show (1 : Int) ≤ 300; decide⟩
        · rw [List.mem_singleton.mp hq]
          exact ⟨by rw [b2']; exact htm, by show (1 : Int) ≤ 2; decide, by show (2 : Int) ≤ 300; decide⟩
      · rw [List.mem_singleton.mp hq]
        show ltP (t.1, t.2) (t.2, t.1)
        unfold ltP
        exact .inl hr.2.1
    have hcut : ∀ x : D, zM [.tup (rg.map trD)] ≠ some (.bl false) := fun _ e => by
      rw [Zv hT.len] at e
      have hm := (zcY (E := rg.map trP) (a := t.1) (b := t.2) (by rw [← hrg]; exact List.mem_cons_self) (by rw [← hrg]; exact List.mem_cons_of_mem _ List.mem_cons_self) 9).1
      rw [decide_eq_false (List.ne_nil_of_mem hm)] at e
      cases e
    have ec : ∀ ρ : Ev, zf 2 ρ = some (yK m ts) → iOf (eSl slD (zm ixD (zf 2) (eC (.int 1))) yV (yG (eC (.int 1)))) ρ = some ([t].map zc) := fun ρ h => by
      refine WI (d := .tup ([t].map zc)) ?_ rfl
      unfold eSl
      rw [zZ (x := yK m ts) (y := .int 1) (z := .tup (ts.map zc)) h rfl rfl]
      show some (D.tup (ZS (ts.map zc) none (some ((1 : Nat) : Int)))) = _
      rw [XY, hts]
      rfl
    have e5 : eFn xI (zd (zm xX (x8 (fLC (iOf (eSl slD (zm ixD (zf 2) (eC (.int 1))) yV (yG (eC (.int 1))))) b1 yT (zm xX (zf 0) (YO (zd (eC (.int 1)) zx))))) (x8 (fLC (iOf (eSl slD (zm ixD (zf 2) (eC (.int 1))) yV (yG (eC (.int 1))))) b1 yT (zm xX (eUn zdN (zf 0)) (YO (zd (eC (.int 2)) zx)))))) zx) (visF [.v s, .v (.int z), .v (yK m ts), o3, o4, o5]) = some (.tup (rg.map trD)) := by
      rw [← hrg]
      refine Vf (ds := [.lst [trD (t.1, t.2, 1), trD (t.2, t.1, 2)]]) (yx (zZ (x := .lst [trD (t.1, t.2, 1)]) (y := .lst [trD (t.2, t.1, 2)]) (vm (Z3 (c := zc) (xs := [t]) (y := fun t => trD (t.1, t.2, 1)) (ec _ rfl) (by show 1 ≤ 1000; decide) fun t _ => ⟨[some (zc t)], rfl, rfl, rfl⟩)) (vm (Z3 (c := zc) (xs := [t]) (y := fun t => trD (t.2, t.1, 2)) (ec _ rfl) (by show 1 ≤ 1000; decide) fun t _ => ⟨[some (zc t)], rfl, rfl, rfl⟩)) rfl) vd) rfl
    refine zR (ρ' := [.v s, .v (.int z), .v (yK m ts), o3, o4, .v (.tup (rg.map trD))]) (zaK e5) ?_
    rcases zbI ok hT with ⟨-, e2⟩ | ⟨d, e1, -, e3⟩
    · exact absurd e2 (hcut .non)
    · exact YZ (c := false) (zcF (b := true) (vI (x4 (ds := [_, _]) (yx rfl (yx (x4 (ds := [_, _]) rfl e1) vd)) e3))) (fun z => by cases z) (fun _ => vZ rfl (hI _ _ _ _))
theorem zc5 (ns : List Int) (h : ns.length ≤ 63) : zgL [.scr ns] = some (.bl true) := by
  refine Vm (ρ := [.v (.scr ns), .no, .no, .no, .no, .no]) rfl ?_
  unfold zcV
  obtain ⟨xs, hxs⟩ : ∃ xs : List Int, (ZS ns none (some 10)) ++ [0, 7, 14] = xs := ⟨_, rfl⟩
  have hl : ((ZS ns none (some 10)).map D.int).length + [D.int 0, .int 7, .int 14].length ≤ 1000 := by rw [List.length_map]; have := zdm ns none (some 10); show _ + 3 ≤ 1000; omega
  refine xM (W7 (ds := xs.map .int) (fun i ρ => ∃ o1 o2 o3 o4 o5, ρ = [.v (.scr ns), o1, o2, o3, o4, o5]) ?_ ⟨_, _, _, _, _, rfl⟩ ?_ ?_)
  · refine WI (d := .lst (xs.map .int)) (zZ (x := .lst ((ZS ns none (some 10)).map D.int)) (y := .lst [.int 0, .int 7, .int 14]) rfl rfl ?_) rfl
    rw [VL hl, ← hxs, List.map_append]
    rfl
  · rintro i d ρ hd ⟨o1, o2, o3, o4, o5, rfl⟩
    rw [List.getElem?_map] at hd
    obtain ⟨z, hz, rfl⟩ := Option.map_eq_some_iff.mp hd
    exact ⟨_, rfl, zeT _ _ _ _ _ _ _ _ _ _ fun _ _ _ _ => ⟨_, _, _, _, _, rfl⟩⟩
  · rintro ρ ⟨o1, o2, o3, o4, o5, rfl⟩
    exact Y8 rfl rfl
theorem zga (T : Txt K mg ad) : x6 P w K mg base CX0 20 ad.f_law ad.e_law ["script"] (zcc K) := by
  letI : KK := ⟨K⟩
  have G_ring_in := zaf (P := P) (w := w) (base := base) T
  have G__law_joined_by := Yv (P := P) (w := w) (base := base) T
  have G__law_tally_by := wY (P := P) (w := w) (base := base) T
  have G__law_ringless := YV (P := P) (w := w) (base := base) T
  have G__law_has_ring := YU (P := P) (w := w) (base := base) T
  have G__law_is_ring := Zt (P := P) (w := w) (base := base) T
  refine (zfx (p := zgL) (xt (N := ["script", "cell", "web", "tally", "found", "ring"]) (ps := ["script"]) T.d_law.fn Xe (g := zcV) fun cdv A outer s H E hr => ?_) zc5).mono (j := 10) (by decide)
  unfold zcV Xt Xr
  exact (zk (ZH PassesOwn.never rfl (xG (yA (yF (za 0 (pv 0)) xE (xC (ze zg))) (wF (YJ (zb (ze zg) (zb (ze zg) (zb (ze zg) zi))))))) (yw (zt (i := 1) Xe.nd rfl (Or.inl rfl))) (zk (xU (m := false) (i := 2) Xe.nd rfl (Or.inl rfl) (zq (G__law_joined_by.mono (by decide)) hr rfl T.d__law_joined_by.at_ T.d__law_joined_by.kp T.d__law_joined_by.bd (zb (yA (ze zg) (wk (Zj (za 1 (pv 1)) (ze zg)) (ze zg))) (zb (Zj (za 1 (pv 1)) (ze zg)) zi))))
      (zk (ZH PassesOwn.never rfl (xG (wF (YJ (zb (zq (G__law_tally_by.mono (by decide)) hr rfl T.d__law_tally_by.at_ T.d__law_tally_by.kp T.d__law_tally_by.bd (zb (za 2 (pv 2)) (zb (za 1 (pv 1)) (zb (ze zg) zi)))) (zb (zq (G__law_ringless.mono (by decide)) hr rfl T.d__law_ringless.at_ T.d__law_ringless.kp T.d__law_ringless.bd (zb (za 2 (pv 2)) (zb (za 1 (pv 1)) (zb (ze zg) zi)))) (zb (wW zi) zi)))))) (yw (zt (i := 3) Xe.nd rfl (Or.inl rfl))) (zk (xU (m := false) (i := 4) Xe.nd rfl (Or.inl rfl) (zq (G_ring_in.mono (by decide)) hr rfl T.d_ring_in.at_ T.d_ring_in.kp T.d_ring_in.bd (zb (za 2 (pv 2)) (zb (za 3 (pv 3)) zi))))
      (zj (xW (xF (zq (G__law_has_ring.mono (by decide)) hr rfl T.d__law_has_ring.at_ T.d__law_has_ring.kp T.d__law_has_ring.bd (zb (za 3 (pv 3)) zi))) (zj (xW (wq (xF (zq (G__law_is_ring.mono (by decide)) hr rfl T.d__law_is_ring.at_ T.d__law_is_ring.kp T.d__law_is_ring.bd (zb (za 3 (pv 3)) (zb (za 4 (pv 4)) zi))))) (zj (zy (wJ wN))) zH)) (zj (xW (zQ zbj zab (zX _) (za 4 (pv 4)) (zdT zdW)) (zj (zy (wJ wN))) zH))))))
      (zk (xU (m := false) (i := 5) Xe.nd rfl (Or.inl rfl) (wv yp wz rfl T.z_tuple yD (zb (yA (wF (YE (L := ["tie"]) (M := ["script", "cell", "web", "tally", "found", "ring"]) rfl (wf (by rfl) (by rfl) (by rfl) (by with_unfolding_all rfl) (by rfl) (by rfl) (by kernel_rfl) yI) (xG (yF (yi (za 2 (pv 2)) (ze zg) (fun _ _ => rfl)) xE (xC (ze zg)))) gs1 rb1 (fun _ _ _ _ => (zt (i := 0) zd1 rfl (Or.inl rfl) (.inr rfl))) (fun _ _ _ _ => (yA (za 0 (pv 0)) (wW (zb (ze zg) zi)))))) (wF (YE (L := ["tie"]) (M := ["script", "cell", "web", "tally", "found", "ring"]) rfl (wf (by rfl) (by rfl) (by rfl) (by with_unfolding_all rfl) (by rfl) (by rfl) (by kernel_rfl) yI) (xG (yF (yi (za 2 (pv 2)) (ze zg) (fun _ _ => rfl)) xE (xC (ze zg)))) gs1 rb1 (fun _ _ _ _ => (zt (i := 0) zd1 rfl (Or.inl rfl) (.inr rfl))) (fun _ _ _ _ => (yA (zeO (za 0 (pv 0)) (zfY zeb zg)) (wW (zb (ze zg) zi))))))) zi)))
      (zj (xW (wq (xF (zq (G__law_is_ring.mono (by decide)) hr rfl T.d__law_is_ring.at_ T.d__law_is_ring.kp T.d__law_is_ring.bd (zb (za 5 (pv 5)) (zb (zq (G_ring_in.mono (by decide)) hr rfl T.d_ring_in.at_ T.d_ring_in.kp T.d_ring_in.bd (zb (za 2 (pv 2)) (zb (za 5 (pv 5)) zi))) zi))))) (zj (zy (wJ wN))) zH))))))
      (zj (zy (wJ wN))))
end
theorem XF {us : List Value} (h : us.length = 1) : ∃ x0, us = [x0] := by
  cases us with
  | nil => cases h
  | cons x0 us =>
    cases us with
    | nil => exact ⟨x0, rfl⟩
    | cons _ _ => cases h
theorem vU {us : List Value} (h : us.length = 2) : ∃ x0 x1, us = [x0, x1] := by
  cases us with
  | nil => cases h
  | cons x0 us =>
    cases us with
    | nil => cases h
    | cons x1 us =>
      cases us with
      | nil => exact ⟨x0, x1, rfl⟩
      | cons _ _ => cases h
theorem zeK {us : List Value} (h : us.length = 3) : ∃ x0 x1 x2, us = [x0, x1, x2] := by
  cases us with
  | nil => cases h
  | cons x0 us =>
    cases us with
    | nil => cases h
    | cons x1 us =>
      cases us with
      | nil => cases h
      | cons x2 us =>
        cases us with
        | nil => exact ⟨x0, x1, x2, rfl⟩
        | cons _ _ => cases h
theorem all_mk {l : PySem.W.OpenLaw} {w : World} {K : PySem.W.Frag} {h : Heap} {mg : Str → Option Value} {fa f0 f1 f2 f3 f4 f5 f6 f7 f8 f9 f10 f11 f12 f13 f14 f15 f16 f17 f18 f19 f20 f21 f22 f23 f24 f25 : Addr} (X : K.In h) (G : h.Ns mainGlobals mg) (hfa : mg "law" = some (.ref fa))
    {od0 an0 od1 an1 od2 an2 od3 an3 od4 an4 od5 an5 od6 an6 od7 an7 od8 an8 od9 an9 od10 an10 od11 an11 od12 an12 od13 an13 od14 an14 od15 an15 od16 an16 od17 an17 od18 an18 od19 an19 od20 an20 od21 an21 od22 an22 od23 an23 od24 an24 od25 an25 : Option Addr} {sl0 sl1 sl2 sl3 sl4 sl5 sl6 sl7 sl8 sl9 sl10 sl11 sl12 sl13 sl14 sl15 sl16 sl17 sl18 sl19 sl20 sl21 sl22 sl23 sl24 sl25 : Array (Option Value)} {oc0 kV0 dc0 pm0 cd0 ct0 oc1 kV1 dc1 pm1 cd1 ct1 oc2 kV2 dc2 pm2 cd2 ct2 oc3 kV3 dc3 pm3 cd3 ct3 oc4 kV4 dc4 pm4 cd4 ct4 oc5 kV5 dc5 pm5 cd5 ct5 oc6 kV6 dc6 pm6 cd6 ct6 oc7 kV7 dc7 pm7 cd7 ct7 oc8 kV8 dc8 pm8 cd8 ct8 oc9 kV9 dc9 pm9 cd9 ct9 oc10 kV10 dc10 pm10 cd10 ct10 oc11 kV11 dc11 pm11 cd11 ct11 oc12 kV12 dc12 pm12 cd12 ct12 oc13 kV13 dc13 pm13 cd13 ct13 oc14 kV14 dc14 pm14 cd14 ct14 oc15 kV15 dc15 pm15 cd15 ct15 oc16 kV16 dc16 pm16 cd16 ct16 oc17 kV17 dc17 pm17 cd17 ct17 oc18 kV18 dc18 pm18 cd18 ct18 oc19 kV19 dc19 pm19 cd19 ct19 oc20 kV20 dc20 pm20 cd20 ct20 oc21 kV21 dc21 pm21 cd21 ct21 oc22 kV22 dc22 pm22 cd22 ct22 oc23 kV23 dc23 pm23 cd23 ct23 oc24 kV24 dc24 pm24 cd24 ct24 oc25 kV25 dc25 pm25 cd25 ct25 : Value} {tk0 : Tok} {tk1 : Tok}
    (a0 : PySem.W.nsIn K mainGlobals "is_whole" = some (some (.ref f0))) (l0 : K.lookup f0 = some ⟨oc0, od0, .func (PySem.W.fnOf "is_whole" "is_whole" (zv y8) (zu y8) (zh y8) .none kV0 dc0 pm0 an0 cd0 ct0), sl0⟩) (c0 : PySem.W.codeIn K cd0 "is_whole" = true) (k0 : PySem.W.keepIn K (.ref f0) = true)
    (a1 : PySem.W.nsIn K mainGlobals "is_whole_within" = some (some (.ref f1))) (l1 : K.lookup f1 = some ⟨oc1, od1, .func (PySem.W.fnOf "is_whole_within" "is_whole_within" (zv zA) (zu zA) (zh zA) .none kV1 dc1 pm1 an1 cd1 ct1), sl1⟩) (c1 : PySem.W.codeIn K cd1 "is_whole_within" = true) (k1 : PySem.W.keepIn K (.ref f1) = true)
    (a2 : PySem.W.nsIn K mainGlobals "is_place_count" = some (some (.ref f2))) (l2 : K.lookup f2 = some ⟨oc2, od2, .func (PySem.W.fnOf "is_place_count" "is_place_count" (zv zD) (zu zD) (zh zD) .none kV2 dc2 pm2 an2 cd2 ct2), sl2⟩) (c2 : PySem.W.codeIn K cd2 "is_place_count" = true) (k2 : PySem.W.keepIn K (.ref f2) = true)
    (a3 : PySem.W.nsIn K mainGlobals "is_place" = some (some (.ref f3))) (l3 : K.lookup f3 = some ⟨oc3, od3, .func (PySem.W.fnOf "is_place" "is_place" (zv xg) (zu xg) (zh xg) .none kV3 dc3 pm3 an3 cd3 ct3), sl3⟩) (c3 : PySem.W.codeIn K cd3 "is_place" = true) (k3 : PySem.W.keepIn K (.ref f3) = true)
    (a4 : PySem.W.nsIn K mainGlobals "is_pair" = some (some (.ref f4))) (l4 : K.lookup f4 = some ⟨oc4, od4, .func (PySem.W.fnOf "is_pair" "is_pair" (zv xQ) (zu xQ) (zh xQ) .none kV4 dc4 pm4 an4 cd4 ct4), sl4⟩) (c4 : PySem.W.codeIn K cd4 "is_pair" = true) (k4 : PySem.W.keepIn K (.ref f4) = true)
    (a5 : PySem.W.nsIn K mainGlobals "are_ties" = some (some (.ref f5))) (l5 : K.lookup f5 = some ⟨oc5, od5, .func (PySem.W.fnOf "are_ties" "are_ties" (zv y9) (zu y9) (zh y9) .none kV5 dc5 pm5 an5 cd5 ct5), sl5⟩) (c5 : PySem.W.codeIn K cd5 "are_ties" = true) (k5 : PySem.W.keepIn K (.ref f5) = true)
    (a6 : PySem.W.nsIn K mainGlobals "is_web" = some (some (.ref f6))) (l6 : K.lookup f6 = some ⟨oc6, od6, .func (PySem.W.fnOf "is_web" "is_web" (zv wt) (zu wt) (zh wt) .none kV6 dc6 pm6 an6 cd6 ct6), sl6⟩) (c6 : PySem.W.codeIn K cd6 "is_web" = true) (k6 : PySem.W.keepIn K (.ref f6) = true)
    (a7 : PySem.W.nsIn K mainGlobals "must_be_web" = some (some (.ref f7))) (l7 : K.lookup f7 = some ⟨oc7, od7, .func (PySem.W.fnOf "must_be_web" "must_be_web" (zv yg) (zu yg) (zh yg) .none kV7 dc7 pm7 an7 cd7 ct7), sl7⟩) (c7 : PySem.W.codeIn K cd7 "must_be_web" = true) (k7 : PySem.W.keepIn K (.ref f7) = true)
    (a8 : PySem.W.nsIn K mainGlobals "tie_between" = some (some (.ref f8))) (l8 : K.lookup f8 = some ⟨oc8, od8, .func (PySem.W.fnOf "tie_between" "tie_between" (zv ye) (zu ye) (zh ye) .none kV8 dc8 pm8 an8 cd8 ct8), sl8⟩) (c8 : PySem.W.codeIn K cd8 "tie_between" = true) (k8 : PySem.W.keepIn K (.ref f8) = true)
    (a9 : PySem.W.nsIn K mainGlobals "is_step" = some (some (.ref f9))) (l9 : K.lookup f9 = some ⟨oc9, od9, .func (PySem.W.fnOf "is_step" "is_step" (zv xT) (zu xT) (zh xT) .none kV9 dc9 pm9 an9 cd9 ct9), sl9⟩) (c9 : PySem.W.codeIn K cd9 "is_step" = true) (k9 : PySem.W.keepIn K (.ref f9) = true)
    (a10 : PySem.W.nsIn K mainGlobals "is_tally_row" = some (some (.ref f10))) (l10 : K.lookup f10 = some ⟨oc10, od10, .func (PySem.W.fnOf "is_tally_row" "is_tally_row" (zv zO) (zu zO) (zh zO) .none kV10 dc10 pm10 an10 cd10 ct10), sl10⟩) (c10 : PySem.W.codeIn K cd10 "is_tally_row" = true) (k10 : PySem.W.keepIn K (.ref f10) = true)
    (a11 : PySem.W.nsIn K mainGlobals "are_tally_rows" = some (some (.ref f11))) (l11 : K.lookup f11 = some ⟨oc11, od11, .func (PySem.W.fnOf "are_tally_rows" "are_tally_rows" (zv zC) (zu zC) (zh zC) .none kV11 dc11 pm11 an11 cd11 ct11), sl11⟩) (c11 : PySem.W.codeIn K cd11 "are_tally_rows" = true) (k11 : PySem.W.keepIn K (.ref f11) = true)
    (a12 : PySem.W.nsIn K mainGlobals "must_be_tally" = some (some (.ref f12))) (l12 : K.lookup f12 = some ⟨oc12, od12, .func (PySem.W.fnOf "must_be_tally" "must_be_tally" (zv zK) (zu zK) (zh zK) .none kV12 dc12 pm12 an12 cd12 ct12), sl12⟩) (c12 : PySem.W.codeIn K cd12 "must_be_tally" = true) (k12 : PySem.W.keepIn K (.ref f12) = true)
    (a13 : PySem.W.nsIn K mainGlobals "led_on" = some (some (.ref f13))) (l13 : K.lookup f13 = some ⟨oc13, od13, .func (PySem.W.fnOf "led_on" "led_on" (zv wC) (zu wC) (zh wC) .none kV13 dc13 pm13 an13 cd13 ct13), sl13⟩) (c13 : PySem.W.codeIn K cd13 "led_on" = true) (k13 : PySem.W.keepIn K (.ref f13) = true)
    (a14 : PySem.W.nsIn K mainGlobals "ring_of" = some (some (.ref f14))) (l14 : K.lookup f14 = some ⟨oc14, od14, .func (PySem.W.fnOf "ring_of" "ring_of" (zv xR) (zu xR) (zh xR) .none kV14 dc14 pm14 an14 cd14 ct14), sl14⟩) (c14 : PySem.W.codeIn K cd14 "ring_of" = true) (k14 : PySem.W.keepIn K (.ref f14) = true)
    (a15 : PySem.W.nsIn K mainGlobals "ring_in" = some (some (.ref f15))) (l15 : K.lookup f15 = some ⟨oc15, od15, .func (PySem.W.fnOf "ring_in" "ring_in" (zv xS) (zu xS) (zh xS) .none kV15 dc15 pm15 an15 cd15 ct15), sl15⟩) (c15 : PySem.W.codeIn K cd15 "ring_in" = true) (k15 : PySem.W.keepIn K (.ref f15) = true)
    (a16 : PySem.W.nsIn K mainGlobals "_law_whole" = some (some (.ref f16))) (l16 : K.lookup f16 = some ⟨oc16, od16, .func (PySem.W.fnOf "_law_whole" "_law_whole" (zv yr) (zu yr) (zh yr) .none kV16 dc16 pm16 an16 cd16 ct16), sl16⟩) (c16 : PySem.W.codeIn K cd16 "_law_whole" = true) (k16 : PySem.W.keepIn K (.ref f16) = true)
    (a17 : PySem.W.nsIn K mainGlobals "_law_pairs" = some (some (.ref f17))) (l17 : K.lookup f17 = some ⟨oc17, od17, .func (PySem.W.fnOf "_law_pairs" "_law_pairs" (zv yt) (zu yt) (zh yt) .none kV17 dc17 pm17 an17 cd17 ct17), sl17⟩) (c17 : PySem.W.codeIn K cd17 "_law_pairs" = true) (k17 : PySem.W.keepIn K (.ref f17) = true)
    (a18 : PySem.W.nsIn K mainGlobals "_law_stir" = some (some (.ref f18))) (l18 : K.lookup f18 = some ⟨oc18, od18, .func (PySem.W.fnOf "_law_stir" "_law_stir" (zv yN) (zu yN) (zh yN) .none kV18 dc18 pm18 an18 cd18 ct18), sl18⟩) (c18 : PySem.W.codeIn K cd18 "_law_stir" = true) (k18 : PySem.W.keepIn K (.ref f18) = true)
    (a19 : PySem.W.nsIn K mainGlobals "_law_web_by" = some (some (.ref f19))) (l19 : K.lookup f19 = some ⟨oc19, od19, .func (PySem.W.fnOf "_law_web_by" "_law_web_by" (zv yf) (zu yf) (zh yf) .none kV19 dc19 pm19 an19 cd19 ct19), sl19⟩) (c19 : PySem.W.codeIn K cd19 "_law_web_by" = true) (k19 : PySem.W.keepIn K (.ref f19) = true)
    (a20 : PySem.W.nsIn K mainGlobals "_law_joined_by" = some (some (.ref f20))) (l20 : K.lookup f20 = some ⟨oc20, od20, .func (PySem.W.fnOf "_law_joined_by" "_law_joined_by" (zv zE) (zu zE) (zh zE) .none kV20 dc20 pm20 an20 cd20 ct20), sl20⟩) (c20 : PySem.W.codeIn K cd20 "_law_joined_by" = true) (k20 : PySem.W.keepIn K (.ref f20) = true)
    (a21 : PySem.W.nsIn K mainGlobals "_law_tally_by" = some (some (.ref f21))) (l21 : K.lookup f21 = some ⟨oc21, od21, .func (PySem.W.fnOf "_law_tally_by" "_law_tally_by" (zv zJ) (zu zJ) (zh zJ) .none kV21 dc21 pm21 an21 cd21 ct21), sl21⟩) (c21 : PySem.W.codeIn K cd21 "_law_tally_by" = true) (k21 : PySem.W.keepIn K (.ref f21) = true)
    (a22 : PySem.W.nsIn K mainGlobals "_law_ringless" = some (some (.ref f22))) (l22 : K.lookup f22 = some ⟨oc22, od22, .func (PySem.W.fnOf "_law_ringless" "_law_ringless" (zv zI) (zu zI) (zh zI) .none kV22 dc22 pm22 an22 cd22 ct22), sl22⟩) (c22 : PySem.W.codeIn K cd22 "_law_ringless" = true) (k22 : PySem.W.keepIn K (.ref f22) = true)
    (a23 : PySem.W.nsIn K mainGlobals "_law_has_ring" = some (some (.ref f23))) (l23 : K.lookup f23 = some ⟨oc23, od23, .func (PySem.W.fnOf "_law_has_ring" "_law_has_ring" (zv zL) (zu zL) (zh zL) .none kV23 dc23 pm23 an23 cd23 ct23), sl23⟩) (c23 : PySem.W.codeIn K cd23 "_law_has_ring" = true) (k23 : PySem.W.keepIn K (.ref f23) = true)
    (a24 : PySem.W.nsIn K mainGlobals "_law_is_ring" = some (some (.ref f24))) (l24 : K.lookup f24 = some ⟨oc24, od24, .func (PySem.W.fnOf "_law_is_ring" "_law_is_ring" (zv zP) (zu zP) (zh zP) .none kV24 dc24 pm24 an24 cd24 ct24), sl24⟩) (c24 : PySem.W.codeIn K cd24 "_law_is_ring" = true) (k24 : PySem.W.keepIn K (.ref f24) = true)
    (a25 : PySem.W.nsIn K mainGlobals "law" = some (some (.ref f25))) (l25 : K.lookup f25 = some ⟨oc25, od25, .func (PySem.W.fnOf "law" "law" (zv Xf) (zu Xf) (zh Xf) .none kV25 dc25 pm25 an25 cd25 ct25), sl25⟩) (c25 : PySem.W.codeIn K cd25 "law" = true) (k25 : PySem.W.keepIn K (.ref f25) = true)
    (gg0 : PySem.W.nsIn K mainGlobals "MOST_PLACES" = some (some (.int 8 tk0)))
    (gg1 : PySem.W.nsIn K mainGlobals "MOST_TIMES" = some (some (.int 300 tk1)))
    (z0 : PySem.W.nsIn K mainGlobals "any" = some none)
    (z1 : PySem.W.nsIn K mainGlobals "bool" = some none)
    (z2 : PySem.W.nsIn K mainGlobals "enumerate" = some none)
    (z3 : PySem.W.nsIn K mainGlobals "int" = some none)
    (z4 : PySem.W.nsIn K mainGlobals "isinstance" = some none)
    (z5 : PySem.W.nsIn K mainGlobals "len" = some none)
    (z6 : PySem.W.nsIn K mainGlobals "list" = some none)
    (z7 : PySem.W.nsIn K mainGlobals "max" = some none)
    (z8 : PySem.W.nsIn K mainGlobals "min" = some none)
    (z9 : PySem.W.nsIn K mainGlobals "range" = some none)
    (z10 : PySem.W.nsIn K mainGlobals "set" = some none)
    (z11 : PySem.W.nsIn K mainGlobals "sorted" = some none)
    (z12 : PySem.W.nsIn K mainGlobals "tuple" = some none)
    (z13 : PySem.W.nsIn K mainGlobals "zip" = some none)
    : ∃ fd : FuncData, (∀ (s : Shared) (v : Value), BindsTo s fd ⟨[v], []⟩ [("script", v)]) ∧ ∀ base : Heap, K.In base → base.Ns mainGlobals mg → x6 l.prog w K mg base CX0 20 fa fd ["script"] (zcc K) := by
  have e := hfa.symm.trans (PySem.W.mg_of X G a25)
  cases e
  have F0 := zS (st := y8) l0 c0 k0
  have F1 := zS (st := zA) l1 c1 k1
  have F2 := zS (st := zD) l2 c2 k2
  have F3 := zS (st := xg) l3 c3 k3
  have F4 := zS (st := xQ) l4 c4 k4
  have F5 := zS (st := y9) l5 c5 k5
  have F6 := zS (st := wt) l6 c6 k6
  have F7 := zS (st := yg) l7 c7 k7
  have F8 := zS (st := ye) l8 c8 k8
  have F9 := zS (st := xT) l9 c9 k9
  have F10 := zS (st := zO) l10 c10 k10
  have F11 := zS (st := zC) l11 c11 k11
  have F12 := zS (st := zK) l12 c12 k12
  have F13 := zS (st := wC) l13 c13 k13
  have F14 := zS (st := xR) l14 c14 k14
  have F15 := zS (st := xS) l15 c15 k15
  have F16 := zS (st := yr) l16 c16 k16
  have F17 := zS (st := yt) l17 c17 k17
  have F18 := zS (st := yN) l18 c18 k18
  have F19 := zS (st := yf) l19 c19 k19
  have F20 := zS (st := zE) l20 c20 k20
  have F21 := zS (st := zJ) l21 c21 k21
  have F22 := zS (st := zI) l22 c22 k22
  have F23 := zS (st := zL) l23 c23 k23
  have F24 := zS (st := zP) l24 c24 k24
  have F25 := zS (st := Xf) l25 c25 k25
  have T : Txt K mg ⟨_, _, _, _, _, _, _, _, _, _, _, _, _, _, _, _, _, _, _, _, _, _, _, _, _, _, _, _, _, _, _, _, _, _, _, _, _, _, _, _, _, _, _, _, _, _, _, _, _, _, _, _, tk0, tk1⟩ := ⟨
    ⟨F0, F0.binds (ps := ["thing"]) (fun _ _ _ _ _ _ us hl => by obtain ⟨_, rfl⟩ := XF hl; rfl), PySem.W.mg_of X G a0⟩,
    ⟨F1, F1.binds (ps := ["thing", "least", "most"]) (fun _ _ _ _ _ _ us hl => by obtain ⟨_, _, _, rfl⟩ := zeK hl; rfl), PySem.W.mg_of X G a1⟩,
    ⟨F2, F2.binds (ps := ["thing"]) (fun _ _ _ _ _ _ us hl => by obtain ⟨_, rfl⟩ := XF hl; rfl), PySem.W.mg_of X G a2⟩,
    ⟨F3, F3.binds (ps := ["many", "thing"]) (fun _ _ _ _ _ _ us hl => by obtain ⟨_, _, rfl⟩ := vU hl; rfl), PySem.W.mg_of X G a3⟩,
    ⟨F4, F4.binds (ps := ["many", "thing"]) (fun _ _ _ _ _ _ us hl => by obtain ⟨_, _, rfl⟩ := vU hl; rfl), PySem.W.mg_of X G a4⟩,
    ⟨F5, F5.binds (ps := ["many", "thing"]) (fun _ _ _ _ _ _ us hl => by obtain ⟨_, _, rfl⟩ := vU hl; rfl), PySem.W.mg_of X G a5⟩,
    ⟨F6, F6.binds (ps := ["thing"]) (fun _ _ _ _ _ _ us hl => by obtain ⟨_, rfl⟩ := XF hl; rfl), PySem.W.mg_of X G a6⟩,
    ⟨F7, F7.binds (ps := ["thing"]) (fun _ _ _ _ _ _ us hl => by obtain ⟨_, rfl⟩ := XF hl; rfl), PySem.W.mg_of X G a7⟩,
    ⟨F8, F8.binds (ps := ["one", "other"]) (fun _ _ _ _ _ _ us hl => by obtain ⟨_, _, rfl⟩ := vU hl; rfl), PySem.W.mg_of X G a8⟩,
    ⟨F9, F9.binds (ps := ["web", "thing"]) (fun _ _ _ _ _ _ us hl => by obtain ⟨_, _, rfl⟩ := vU hl; rfl), PySem.W.mg_of X G a9⟩,
    ⟨F10, F10.binds (ps := ["web", "thing"]) (fun _ _ _ _ _ _ us hl => by obtain ⟨_, _, rfl⟩ := vU hl; rfl), PySem.W.mg_of X G a10⟩,
    ⟨F11, F11.binds (ps := ["web", "thing"]) (fun _ _ _ _ _ _ us hl => by obtain ⟨_, _, rfl⟩ := vU hl; rfl), PySem.W.mg_of X G a11⟩,
    ⟨F12, F12.binds (ps := ["web", "thing"]) (fun _ _ _ _ _ _ us hl => by obtain ⟨_, _, rfl⟩ := vU hl; rfl), PySem.W.mg_of X G a12⟩,
    ⟨F13, F13.binds (ps := ["places", "steps"]) (fun _ _ _ _ _ _ us hl => by obtain ⟨_, _, rfl⟩ := vU hl; rfl), PySem.W.mg_of X G a13⟩,
    ⟨F14, F14.binds (ps := ["steps"]) (fun _ _ _ _ _ _ us hl => by obtain ⟨_, rfl⟩ := XF hl; rfl), PySem.W.mg_of X G a14⟩,
    ⟨F15, F15.binds (ps := ["web", "tally"]) (fun _ _ _ _ _ _ us hl => by obtain ⟨_, _, rfl⟩ := vU hl; rfl), PySem.W.mg_of X G a15⟩,
    ⟨F16, F16.binds (ps := ["found"]) (fun _ _ _ _ _ _ us hl => by obtain ⟨_, rfl⟩ := XF hl; rfl), PySem.W.mg_of X G a16⟩,
    ⟨F17, F17.binds (ps := ["many"]) (fun _ _ _ _ _ _ us hl => by obtain ⟨_, rfl⟩ := XF hl; rfl), PySem.W.mg_of X G a17⟩,
    ⟨F18, F18.binds (ps := ["cell", "k"]) (fun _ _ _ _ _ _ us hl => by obtain ⟨_, _, rfl⟩ := vU hl; rfl), PySem.W.mg_of X G a18⟩,
    ⟨F19, F19.binds (ps := ["many", "cell"]) (fun _ _ _ _ _ _ us hl => by obtain ⟨_, _, rfl⟩ := vU hl; rfl), PySem.W.mg_of X G a19⟩,
    ⟨F20, F20.binds (ps := ["many", "cell"]) (fun _ _ _ _ _ _ us hl => by obtain ⟨_, _, rfl⟩ := vU hl; rfl), PySem.W.mg_of X G a20⟩,
    ⟨F21, F21.binds (ps := ["web", "cell", "most"]) (fun _ _ _ _ _ _ us hl => by obtain ⟨_, _, _, rfl⟩ := zeK hl; rfl), PySem.W.mg_of X G a21⟩,
    ⟨F22, F22.binds (ps := ["web", "cell", "most"]) (fun _ _ _ _ _ _ us hl => by obtain ⟨_, _, _, rfl⟩ := zeK hl; rfl), PySem.W.mg_of X G a22⟩,
    ⟨F23, F23.binds (ps := ["tally"]) (fun _ _ _ _ _ _ us hl => by obtain ⟨_, rfl⟩ := XF hl; rfl), PySem.W.mg_of X G a23⟩,
    ⟨F24, F24.binds (ps := ["tally", "found"]) (fun _ _ _ _ _ _ us hl => by obtain ⟨_, _, rfl⟩ := vU hl; rfl), PySem.W.mg_of X G a24⟩,
    ⟨F25, F25.binds (ps := ["script"]) (fun _ _ _ _ _ _ us hl => by obtain ⟨_, rfl⟩ := XF hl; rfl), PySem.W.mg_of X G a25⟩,
    PySem.W.mg_of X G gg0,
    PySem.W.mg_of X G gg1,
    PySem.W.mg_none_of X G z0,
    PySem.W.mg_none_of X G z1,
    PySem.W.mg_none_of X G z2,
    PySem.W.mg_none_of X G z3,
    PySem.W.mg_none_of X G z4,
    PySem.W.mg_none_of X G z5,
    PySem.W.mg_none_of X G z6,
    PySem.W.mg_none_of X G z7,
    PySem.W.mg_none_of X G z8,
    PySem.W.mg_none_of X G z9,
    PySem.W.mg_none_of X G z10,
    PySem.W.mg_none_of X G z11,
    PySem.W.mg_none_of X G z12,
    PySem.W.mg_none_of X G z13⟩
  exact ⟨_, fun s v => .of_eq rfl, fun base _ _ => zga T⟩
theorem walk {l : PySem.W.OpenLaw} {q : Program} {loose : List Str} {XP : (Str → Option Value) → Heap → Prop} {YP : World → Heap → Prop} {d : DefRec} {K : Params → PySem.W.Frag} (hn : l.most = some 63) (hdf : d.params.defaults = [])
    (hY : ∀ (w : World) (h : Heap), YP w h → (K w.params).In h)
    (F : ∀ (w : World) (mg : Str → Option Value) (fa : Addr) (h : Heap), (K w.params).In h → h.Ns mainGlobals mg → mg d.name = some (.ref fa) →
      ∃ fd : FuncData, (∀ (s : Shared) (u : Value), BindsTo s fd ⟨[u], []⟩ [("script", u)]) ∧ ∀ base : Heap, (K w.params).In base → base.Ns mainGlobals mg → x6 l.prog w (K w.params) mg base CX0 20 fa fd ["script"] (zcc (K w.params))) :
    PySem.W.WalkO q loose XP YP l.row.toRowW d [] (fun f vs => PySem.call f vs) :=
  L2.walk_of (n := 63) (k := 20) (x := "script") (CX := fun _ => CX0) (sp := fun w => zcc (K w.params)) hn (by decide) hdf ⟨rfl, by decide, by decide⟩ hY F (fun _ _ a ns hl _ hS => ⟨a, ns, rfl, hS, hl, fun _ => rfl⟩) fun _ _ _ _ _ z => z
end Mz
open PySem PySem.W PyProof.Rows
theorem PySem.W.Fast.tw17833835898422154755 : True := trivial
theorem PySem.W.Fast.tw10085622552222179008 : True := trivial
theorem PySem.W.Fast.tw2586539803204140378 : True := trivial
theorem PySem.W.Fast.tw12986815116667449054 : True := trivial
theorem PySem.W.Fast.tw5088291275325256600 : True := trivial
theorem PySem.W.Fast.tw463897255729897645 : True := trivial
theorem PySem.W.Fast.tw2777596619869497604 : True := trivial
theorem PySem.W.Fast.tw9231319559385615753 : True := trivial
theorem PySem.W.Fast.tw13583332474950192580 : True := trivial
theorem PySem.W.Fast.tw1880657691878216048 : True := trivial
theorem PySem.W.Fast.tw1002864204407486511 : True := trivial
theorem PySem.W.Fast.tw14363413975234296831 : True := trivial
theorem PySem.W.Fast.tw3683104450078721236 : True := trivial
set_option maxRecDepth 100000 in
set_option maxHeartbeats 0 in
theorem PySem.Challenge.cw_twoforone_k16_whole_rings_of_tallies_holds : PySem.Challenge.rw_twoforone_k16_whole_rings_of_tallies.Holds := by
  w_on; o_law; k_head; (case hw => w_witness2)
  k_fill
  refine Mz.walk (l := PySem.Challenge.rw_twoforone_k16_whole_rings_of_tallies) rfl rfl (fun w h Y => PySem.W.kIn_of Y) ?F
  case F =>
    intro w mg fa h KX G hmg
    refine' Mz.all_mk KX G hmg ?a0 ?l0 ?c0 ?k0 ?a1 ?l1 ?c1 ?k1 ?a2 ?l2 ?c2 ?k2 ?a3 ?l3 ?c3 ?k3 ?a4 ?l4 ?c4 ?k4 ?a5 ?l5 ?c5 ?k5 ?a6 ?l6 ?c6 ?k6 ?a7 ?l7 ?c7 ?k7 ?a8 ?l8 ?c8 ?k8 ?a9 ?l9 ?c9 ?k9 ?a10 ?l10 ?c10 ?k10 ?a11 ?l11 ?c11 ?k11 ?a12 ?l12 ?c12 ?k12 ?a13 ?l13 ?c13 ?k13 ?a14 ?l14 ?c14 ?k14 ?a15 ?l15 ?c15 ?k15 ?a16 ?l16 ?c16 ?k16 ?a17 ?l17 ?c17 ?k17 ?a18 ?l18 ?c18 ?k18 ?a19 ?l19 ?c19 ?k19 ?a20 ?l20 ?c20 ?k20 ?a21 ?l21 ?c21 ?k21 ?a22 ?l22 ?c22 ?k22 ?a23 ?l23 ?c23 ?k23 ?a24 ?l24 ?c24 ?k24 ?a25 ?l25 ?c25 ?k25 ?gg0 ?gg1 ?z0 ?z1 ?z2 ?z3 ?z4 ?z5 ?z6 ?z7 ?z8 ?z9 ?z10 ?z11 ?z12 ?z13
    (case a0 => k_is)
    (case l0 => k_is)
    (case c0 => k_is)
    (case k0 => k_is)
    (case a1 => k_is)
    (case l1 => k_is)
    (case c1 => k_is)
    (case k1 => k_is)
    (case a2 => k_is)
    (case l2 => k_is)
    (case c2 => k_is)
    (case k2 => k_is)
    (case a3 => k_is)
    (case l3 => k_is)
    (case c3 => k_is)
    (case k3 => k_is)
    (case a4 => k_is)
    (case l4 => k_is)
    (case c4 => k_is)
    (case k4 => k_is)
    (case a5 => k_is)
    (case l5 => k_is)
    (case c5 => k_is)
    (case k5 => k_is)
    (case a6 => k_is)
    (case l6 => k_is)
    (case c6 => k_is)
    (case k6 => k_is)
    (case a7 => k_is)
    (case l7 => k_is)
    (case c7 => k_is)
    (case k7 => k_is)
    (case a8 => k_is)
    (case l8 => k_is)
    (case c8 => k_is)
    (case k8 => k_is)
    (case a9 => k_is)
    (case l9 => k_is)
    (case c9 => k_is)
    (case k9 => k_is)
    (case a10 => k_is)
    (case l10 => k_is)
    (case c10 => k_is)
    (case k10 => k_is)
    (case a11 => k_is)
    (case l11 => k_is)
    (case c11 => k_is)
    (case k11 => k_is)
    (case a12 => k_is)
    (case l12 => k_is)
    (case c12 => k_is)
    (case k12 => k_is)
    (case a13 => k_is)
    (case l13 => k_is)
    (case c13 => k_is)
    (case k13 => k_is)
    (case a14 => k_is)
    (case l14 => k_is)
    (case c14 => k_is)
    (case k14 => k_is)
    (case a15 => k_is)
    (case l15 => k_is)
    (case c15 => k_is)
    (case k15 => k_is)
    (case a16 => k_is)
    (case l16 => k_is)
    (case c16 => k_is)
    (case k16 => k_is)
    (case a17 => k_is)
    (case l17 => k_is)
    (case c17 => k_is)
    (case k17 => k_is)
    (case a18 => k_is)
    (case l18 => k_is)
    (case c18 => k_is)
    (case k18 => k_is)
    (case a19 => k_is)
    (case l19 => k_is)
    (case c19 => k_is)
    (case k19 => k_is)
    (case a20 => k_is)
    (case l20 => k_is)
    (case c20 => k_is)
    (case k20 => k_is)
    (case a21 => k_is)
    (case l21 => k_is)
    (case c21 => k_is)
    (case k21 => k_is)
    (case a22 => k_is)
    (case l22 => k_is)
    (case c22 => k_is)
    (case k22 => k_is)
    (case a23 => k_is)
    (case l23 => k_is)
    (case c23 => k_is)
    (case k23 => k_is)
    (case a24 => k_is)
    (case l24 => k_is)
    (case c24 => k_is)
    (case k24 => k_is)
    (case a25 => k_is)
    (case l25 => k_is)
    (case c25 => k_is)
    (case k25 => k_is)
    (case gg0 => k_is)
    (case gg1 => k_is)
    (case z0 => k_is)
    (case z1 => k_is)
    (case z2 => k_is)
    (case z3 => k_is)
    (case z4 => k_is)
    (case z5 => k_is)
    (case z6 => k_is)
    (case z7 => k_is)
    (case z8 => k_is)
    (case z9 => k_is)
    (case z10 => k_is)
    (case z11 => k_is)
    (case z12 => k_is)
    (case z13 => k_is)
